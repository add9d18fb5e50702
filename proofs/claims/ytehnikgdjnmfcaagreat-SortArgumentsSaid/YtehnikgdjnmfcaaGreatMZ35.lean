/- The arguments, opened. -/
import Derived.Test.YtehnikgdjnmfcaaGreatMZ13
import Derived.Deep.Slices
import Derived.Deep.Fields
import Derived.ChangeSame
import Derived.SliceStrings
import Derived.Lib.SmallJoins
namespace Go.Proofs.YtehnikgdjnmfcaaGreat
open Go.Joins Go.ChangeShapes Go.WideShapes Go.RowKit Go.Deep

section
variable {H : Type} {enc : TypeId × Value → H} {w : World} {sp : Nat → Bool} {held : Bool}

theorem list_of {α : Type} (d : α) (p : Nat → α → Prop) : ∀ n, (∀ i, i < n → ∃ x, p i x) → ∃ l : List α, l.length = n ∧ ∀ i, i < n → p i (l.getD i d)
  | 0, _ => ⟨[], rfl, fun i hi => absurd hi (by omega)⟩
  | n + 1, h => by
    obtain ⟨l, hl, hp⟩ := list_of d p n (fun i hi => h i (by omega))
    obtain ⟨x, hx⟩ := h n (by omega)
    refine ⟨l ++ [x], by simp [hl], fun i hi => ?_⟩
    by_cases hin : i < n
    · rw [List.getD_eq_getElem?_getD, List.getElem?_append_left (by omega), ← List.getD_eq_getElem?_getD]; exact hp i hin
    · have : i = l.length := by omega
      subst this
      rw [List.getD_eq_getElem?_getD, List.getElem?_append_right (Nat.le_refl _), Nat.sub_self]
      have e : n = l.length := by omega
      rw [e] at hx; exact hx

theorem addr_none {a : Addr} {v : Value} (h : w.cell? (a.add 0) = some v) : a = ⟨a.block, a.off, none⟩ ∧ a.block < w.heap.size := by
  obtain ⟨b, off, spot⟩ := a
  have e : (Addr.add ⟨b, off, spot⟩ 0) = ⟨b, off, spot⟩ := by simp [Addr.add]
  rw [e] at h
  have : spot = none := World.cell?_spot h
  subst this
  exact ⟨rfl, lt_of_cell h⟩

theorem add_at (b off i : Nat) : (Addr.add ⟨b, off, none⟩ i) = ⟨b, off + i, none⟩ := by
  unfold Addr.add
  by_cases h : i = 0
  · subst h; simp
  · simp [h]

theorem slS_of {fuel : Nat} {v : Value} {x : DataW H × List MemPlace} (h : DataW.trod enc Tryz.prog w 0 sp held fuel 27 [v] = some x) : ∃ ss, SlS w v ss := by
  rcases open_strings Tryz.underlying27 Tryz.underlying9 (by kernel_rfl) h with ⟨hcs, hx⟩ | ⟨a, len, cap, ss, hcs, _, hl, hm, hz, hx, hcell, hsz⟩
  · injection hcs with hcs _
    subst hcs
    exact ⟨[], slS0⟩
  · injection hcs with hcs _
    subst hcs
    have hlen : len ≤ ss.length := by rw [hz]; split <;> omega
    refine ⟨(ss.take len).map (fun s => s.data.toList), ?_⟩
    have hL : ((ss.take len).map (fun s => s.data.toList)).length = len := by simp; omega
    refine ⟨by rw [hL]; omega, some a, cap, by rw [hL], fun hn => ?_⟩
    rw [hL] at hn
    have hc0 := hcell 0 (by omega)
    obtain ⟨ea, hlt⟩ := addr_none hc0
    refine ⟨a.block, a.off, by rw [← ea], hlt, fun j hj => ?_, fun s hs => ?_⟩
    · rw [hL] at hj
      have hcj := hcell j (by omega)
      rw [ea, add_at] at hcj
      rw [hcj]
      rw [List.getD_eq_getElem?_getD, List.getD_eq_getElem?_getD, List.getElem?_map, List.getElem?_take_of_lt hj, List.getElem?_eq_getElem (by omega)]
      rfl
    · obtain ⟨y, hy, rfl⟩ := List.mem_map.1 hs
      have := hsz y (List.mem_of_mem_take hy)
      exact this

theorem slSS_of {fuel : Nat} {v : Value} {x : DataW H × List MemPlace} (h : DataW.trod enc Tryz.prog w 0 sp held fuel 34 [v] = some x) : SlSS w v := by
  rcases open_slice1 Tryz.underlying34 (by kernel_rfl) h with ⟨hcs, hx⟩ | ⟨a, len, cap, m, n, V, D, Pl, hcs, _, hl, hm, hmm, _, hcell⟩
  · injection hcs with hcs _
    subst hcs
    exact ⟨none, 0, 0, rfl, by decide, fun h => absurd h (by decide)⟩
  · injection hcs with hcs _
    subst hcs
    have hlm : len ≤ m := by rw [hmm]; split <;> omega
    refine ⟨some a, len, cap, rfl, by omega, fun hn => ?_⟩
    have hc0 := (hcell 0 (by omega)).1
    obtain ⟨ea, hlt⟩ := addr_none hc0
    refine ⟨a.block, a.off, by rw [← ea], hlt, fun k hk => ?_⟩
    obtain ⟨h1, h2⟩ := hcell k (by omega)
    obtain ⟨p, l, c, e⟩ := slice_form Tryz.underlying27 h2
    injection e with e _
    rw [ea, e, add_at] at h1
    exact ⟨p, l, c, h1⟩

theorem open_slice_fields {P : Program} {base : Nat} {spare : Nat → Bool} {t e : TypeId} {fs : Array Field} {fuel : Nat} {cs : List Value} {x : DataW H × List MemPlace} (ht : P.underlying t = some (.slice e)) (he : P.underlying e = some (.struct fs))
    (hone : oneCellFields P fs = true) (hC : P.cellsOf e = fs.size) (h : DataW.trod enc P w base spare held fuel t cs = some x) :
    (cs = [.slice none 0 0]) ∨
    ∃ (a : Addr) (len cap : Nat), cs = [.slice (some a) len cap] ∧ len ≤ cap ∧ cap ≤ maxLen ∧
      ∀ i, i < len → ∃ (n : Nat), ∀ (j : Nat) (f : Field), fs[j]? = some f → ∃ (v : Value) (y : DataW H × List MemPlace), w.cell? (a.add (i * fs.size + j)) = some v ∧ DataW.trod enc P w base spare held n f.type [v] = some y := by
  rcases open_slice ht h with h0 | ⟨a, len, cap, m, n, D, Pl, hcs, hb, hl, hm, hmm, hx, hi⟩
  · exact .inl h0.1
  · refine .inr ⟨a, len, cap, hcs, hl, hm, fun i him => ?_⟩
    obtain ⟨cs', hc, ht'⟩ := hi i (by rw [hmm]; split <;> omega)
    rw [hC] at hc
    obtain ⟨ys, n', hn', hy, hlen, hyl, hf⟩ := DataW.trod_struct he ht'
    obtain ⟨_, hcl, hat⟩ := World.cells?_some hc
    refine ⟨n', fun j f hj => ?_⟩
    obtain ⟨ho, hk⟩ := hone_of hone j f hj
    have hjl : j < fs.size := (Array.getElem?_eq_some_iff.1 hj).1
    have hcell := hat j hjl
    have hv : cs'[j]? = some (cs'[j]'(by omega)) := List.getElem?_eq_getElem (by omega)
    have h1 := hf j f hj
    rw [ho, hk] at h1
    have hone' : (cs'.drop j).take 1 = [cs'[j]'(by omega)] := by
      rw [List.drop_eq_getElem_cons (by omega)]
      rfl
    rw [hone'] at h1
    have hys : ys[j]? = some (ys[j]'(by omega)) := List.getElem?_eq_getElem (by omega)
    refine ⟨_, _, ?_, h1.trans hys⟩
    rw [← Go.Deep.add_add, hcell, hv]

theorem slC_of {fuel : Nat} {v : Value} {x : DataW H × List MemPlace} (h : DataW.trod enc Tryz.prog w 0 sp held fuel 22 [v] = some x) : ∃ cs, SlC w v cs := by
  rcases open_slice_fields Tryz.underlying22 Tryz.underlying48 (by kernel_rfl) (by kernel_rfl) h with hcs | ⟨a, len, cap, hcs, hl, hm, hf⟩
  · injection hcs with hcs _
    subst hcs
    exact ⟨[], by decide, none, 0, rfl, fun h => absurd h (by decide)⟩
  · injection hcs with hcs _
    subst hcs
    by_cases hn : 0 < len
    · have hea : a = ⟨a.block, a.off, none⟩ ∧ a.block < w.heap.size := by
        obtain ⟨n, hj⟩ := hf 0 hn
        obtain ⟨v, y, hc, _⟩ := hj 0 _ rfl
        exact addr_none hc
      obtain ⟨ea, hlt⟩ := hea
      obtain ⟨cs, hlen, hcs⟩ := list_of (([], []) : Nm × List Nm) (fun i c => w.cell? ⟨a.block, a.off + i * 2, none⟩ = some (.string (bs c.1)) ∧ c.1.length ≤ maxLen ∧
          ∃ sa cap, w.cell? ⟨a.block, a.off + i * 2 + 1, none⟩ = some (.slice sa c.2.length cap) ∧ SlS w (.slice sa c.2.length cap) c.2) len (fun i hi => by
        obtain ⟨n, hj⟩ := hf i hi
        obtain ⟨v0, y0, hc0, ht0⟩ := hj 0 _ rfl
        obtain ⟨v1, y1, hc1, ht1⟩ := hj 1 _ rfl
        obtain ⟨s, e0, _, hs⟩ := DataW.trod_string Tryz.underlying9 ht0
        injection e0 with e0 _
        subst e0
        obtain ⟨ss, hss⟩ := slS_of ht1
        have hss' := hss
        obtain ⟨_, sa, cap', rfl, _⟩ := hss'
        rw [ea, add_at] at hc0 hc1
        exact ⟨(s.data.toList, ss), hc0, hs, sa, cap', hc1, hss⟩)
      refine ⟨cs, by rw [hlen]; omega, some a, cap, by rw [hlen], fun _ => ⟨a.block, a.off, by rw [← ea], hlt, fun k hk => ?_⟩⟩
      exact hcs k (by omega)
    · have h0 : len = 0 := by omega
      subst h0
      exact ⟨[], by decide, some a, cap, rfl, fun h => absurd h (by decide)⟩

theorem slA_of {fuel : Nat} {v : Value} {x : DataW H × List MemPlace} (h : DataW.trod enc Tryz.prog w 0 sp held fuel 24 [v] = some x) : SlA w v := by
  rcases open_slice_fields Tryz.underlying24 Tryz.underlying50 (by kernel_rfl) (by kernel_rfl) h with hcs | ⟨a, len, cap, hcs, hl, hm, hf⟩
  · injection hcs with hcs _
    subst hcs
    exact ⟨none, 0, 0, rfl, by decide, fun h => absurd h (by decide)⟩
  · injection hcs with hcs _
    subst hcs
    refine ⟨some a, len, cap, rfl, by omega, fun hn => ?_⟩
    have hea : a = ⟨a.block, a.off, none⟩ ∧ a.block < w.heap.size := by
      obtain ⟨n, hj⟩ := hf 0 hn
      obtain ⟨v, y, hc, _⟩ := hj 0 _ rfl
      exact addr_none hc
    obtain ⟨ea, hlt⟩ := hea
    refine ⟨a.block, a.off, by rw [← ea], hlt, fun i hi => ?_⟩
    obtain ⟨n, hj⟩ := hf i hi
    obtain ⟨v0, y0, hc0, ht0⟩ := hj 0 _ rfl
    obtain ⟨v1, y1, hc1, ht1⟩ := hj 1 _ rfl
    obtain ⟨v2, y2, hc2, ht2⟩ := hj 2 _ rfl
    obtain ⟨s0, e0, _, _⟩ := DataW.trod_string Tryz.underlying9 ht0
    obtain ⟨s1, e1, _, _⟩ := DataW.trod_string Tryz.underlying9 ht1
    injection e0 with e0 _
    injection e1 with e1 _
    subst e0
    subst e1
    rw [ea, add_at] at hc0 hc1 hc2
    exact ⟨s0, s1, v2, hc0, hc1, hc2, slSS_of ht2⟩

set_option maxRecDepth 100000 in
theorem thF_of {r : Go.Reach} {b0 : Nat} {v : Value} {d : DataW H} {p : List MemPlace} (hv : Value.okWide Tryz.prog w r b0 29 v) (h : DataW.Trod enc Tryz.prog w 0 sp held 29 v d p) : ∃ cs, ThF w v cs := by
  obtain ⟨cs, rfl, hsz⟩ := okWide_struct Tryz.underlying29 hv
  obtain ⟨l⟩ := cs
  have hC : Tryz.prog.cellsOf 29 = 7 := by kernel_rfl
  match l, hsz.trans hC with
  | [c0, c1, c2, c3, c4, c5, c6], _ =>
    obtain ⟨fuel, hf⟩ := h
    obtain ⟨xs, n, _, hx, _, hlen, hg⟩ := DataW.trod_struct Tryz.underlying29 hf
    have g1 := hg 1 _ rfl
    have g2 := hg 2 _ rfl
    have g3 := hg 3 _ rfl
    have k1 : Tryz.prog.cellsOf 22 = 1 := by kernel_rfl
    have k2 : Tryz.prog.cellsOf 23 = 1 := by kernel_rfl
    have k3 : Tryz.prog.cellsOf 24 = 1 := by kernel_rfl
    match xs, hlen with
    | [y0, y1, y2, y3, y4, y5, y6], _ =>
      have h1 : DataW.trod enc Tryz.prog w 0 sp held n 22 [c1] = some y1 := by simpa [Value.cells, k1] using g1
      have h2 : DataW.trod enc Tryz.prog w 0 sp held n 23 [c2] = some y2 := by simpa [Value.cells, k2] using g2
      have h3 : DataW.trod enc Tryz.prog w 0 sp held n 24 [c3] = some y3 := by simpa [Value.cells, k3] using g3
      obtain ⟨cs, hcs⟩ := slC_of h1
      obtain ⟨p2, n2, k2', e2⟩ := slice_form Tryz.underlying23 h2
      injection e2 with e2 _
      subst e2
      exact ⟨cs, c0, c1, p2, n2, k2', c3, c4, c5, c6, rfl, hcs, slA_of h3⟩
end
end Go.Proofs.YtehnikgdjnmfcaaGreat

