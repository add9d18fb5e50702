/- The arguments, opened, with the constructors and the arities. -/
import Derived.Test.YtehnikgdjnmfcaaGreatMZ35
import Derived.Test.YtehnikgdjnmfcaaGreatMZ17
namespace Go.Proofs.YtehnikgdjnmfcaaGreat
open Go.Joins Go.ChangeShapes Go.WideShapes Go.RowKit Go.Deep

section
variable {H : Type} {enc : TypeId × Value → H} {w : World} {sp : Nat → Bool} {held : Bool}

theorem slSs_of {fuel : Nat} {v : Value} {x : DataW H × List MemPlace} (h : DataW.trod enc Tryz.prog w 0 sp held fuel 34 [v] = some x) : ∃ ls, SlSs w v ls := by
  rcases open_slice1 Tryz.underlying34 (by kernel_rfl) h with ⟨hcs, hx⟩ | ⟨a, len, cap, m, n, V, D, Pl, hcs, _, hl, hm, hmm, _, hcell⟩
  · injection hcs with hcs _
    subst hcs
    exact ⟨[], by decide, none, 0, rfl, fun h => absurd h (by decide)⟩
  · injection hcs with hcs _
    subst hcs
    have hlm : len ≤ m := by rw [hmm]; split <;> omega
    by_cases hn : 0 < len
    · have hc0 := (hcell 0 (by omega)).1
      obtain ⟨ea, hlt⟩ := addr_none hc0
      obtain ⟨ls, hlen, hls⟩ := list_of ([] : List Nm) (fun k s => ∃ p c, w.cell? ⟨a.block, a.off + k, none⟩ = some (.slice p s.length c) ∧ SlS w (.slice p s.length c) s) len (fun k hk => by
        obtain ⟨h1, h2⟩ := hcell k (by omega)
        obtain ⟨p, l, c, e⟩ := slice_form Tryz.underlying27 h2
        injection e with e _
        obtain ⟨ss, hss⟩ := slS_of h2
        rw [ea, add_at] at h1
        have hss' := hss
        obtain ⟨_, a', cap', e2, _⟩ := hss'
        rw [e2] at h1 hss
        exact ⟨ss, a', cap', h1, hss⟩)
      exact ⟨ls, by rw [hlen]; omega, some a, cap, by rw [hlen], fun _ => ⟨a.block, a.off, by rw [← ea], hlt, fun k hk => hls k (by omega)⟩⟩
    · have h0 : len = 0 := by omega
      subst h0
      exact ⟨[], by decide, some a, cap, rfl, fun h => absurd h (by decide)⟩

theorem slT_of {fuel : Nat} {v : Value} {x : DataW H × List MemPlace} (h : DataW.trod enc Tryz.prog w 0 sp held fuel 23 [v] = some x) : ∃ ds, SlT w v ds := by
  rcases open_slice_fields Tryz.underlying23 Tryz.underlying54 (by kernel_rfl) (by kernel_rfl) h with hcs | ⟨a, len, cap, hcs, hl, hm, hf⟩
  · injection hcs with hcs _
    subst hcs
    exact ⟨[], by decide, none, 0, rfl, fun h => absurd h (by decide)⟩
  · injection hcs with hcs _
    subst hcs
    by_cases hn : 0 < len
    · have hea : a = ⟨a.block, a.off, none⟩ ∧ a.block < w.heap.size := by
        obtain ⟨n, hj⟩ := hf 0 hn
        obtain ⟨v, y, hc, _⟩ := hj 0 _ rfl
        exact addr_none hc
      obtain ⟨ea, hlt⟩ := hea
      obtain ⟨ds, hlen, hds⟩ := list_of (([], 0) : Nm × Int) (fun i d => w.cell? ⟨a.block, a.off + i * 2, none⟩ = some (.string (bs d.1)) ∧ d.1.length ≤ maxLen ∧ w.cell? ⟨a.block, a.off + i * 2 + 1, none⟩ = some (.int .i64 d.2)) len (fun i hi => by
        obtain ⟨n, hj⟩ := hf i hi
        obtain ⟨v0, y0, hc0, ht0⟩ := hj 0 _ rfl
        obtain ⟨v1, y1, hc1, ht1⟩ := hj 1 _ rfl
        obtain ⟨s, e0, _, hs⟩ := DataW.trod_string Tryz.underlying9 ht0
        obtain ⟨z, e1, _, _⟩ := DataW.trod_int Tryz.underlying3 ht1
        injection e0 with e0 _
        injection e1 with e1 _
        subst e0
        subst e1
        rw [ea, add_at] at hc0 hc1
        exact ⟨(s.data.toList, z), hc0, hs, hc1⟩)
      exact ⟨ds, by rw [hlen]; omega, some a, cap, by rw [hlen], fun _ => ⟨a.block, a.off, by rw [← ea], hlt, fun k hk => hds k (by omega)⟩⟩
    · have h0 : len = 0 := by omega
      subst h0
      exact ⟨[], by decide, some a, cap, rfl, fun h => absurd h (by decide)⟩

theorem slAr_of {fuel : Nat} {v : Value} {x : DataW H × List MemPlace} (h : DataW.trod enc Tryz.prog w 0 sp held fuel 24 [v] = some x) : ∃ rs, SlAr w v rs := by
  rcases open_slice_fields Tryz.underlying24 Tryz.underlying50 (by kernel_rfl) (by kernel_rfl) h with hcs | ⟨a, len, cap, hcs, hl, hm, hf⟩
  · injection hcs with hcs _
    subst hcs
    exact ⟨[], by decide, none, 0, rfl, fun h => absurd h (by decide)⟩
  · injection hcs with hcs _
    subst hcs
    by_cases hn : 0 < len
    · have hea : a = ⟨a.block, a.off, none⟩ ∧ a.block < w.heap.size := by
        obtain ⟨n, hj⟩ := hf 0 hn
        obtain ⟨v, y, hc, _⟩ := hj 0 _ rfl
        exact addr_none hc
      obtain ⟨ea, hlt⟩ := hea
      obtain ⟨rs, hlen, hrs⟩ := list_of ar0 (fun i r => w.cell? ⟨a.block, a.off + i * 3, none⟩ = some (.string (bs r.1)) ∧ r.1.length ≤ maxLen ∧ w.cell? ⟨a.block, a.off + i * 3 + 1, none⟩ = some (.string (bs r.2.1)) ∧ r.2.1.length ≤ maxLen ∧
          ∃ p c, w.cell? ⟨a.block, a.off + i * 3 + 2, none⟩ = some (.slice p r.2.2.length c) ∧ SlSs w (.slice p r.2.2.length c) r.2.2) len (fun i hi => by
        obtain ⟨n, hj⟩ := hf i hi
        obtain ⟨v0, y0, hc0, ht0⟩ := hj 0 _ rfl
        obtain ⟨v1, y1, hc1, ht1⟩ := hj 1 _ rfl
        obtain ⟨v2, y2, hc2, ht2⟩ := hj 2 _ rfl
        obtain ⟨s0, e0, _, hs0⟩ := DataW.trod_string Tryz.underlying9 ht0
        obtain ⟨s1, e1, _, hs1⟩ := DataW.trod_string Tryz.underlying9 ht1
        injection e0 with e0 _
        injection e1 with e1 _
        subst e0
        subst e1
        obtain ⟨ls, hls⟩ := slSs_of ht2
        have hls' := hls
        obtain ⟨_, p, c, rfl, _⟩ := hls'
        rw [ea, add_at] at hc0 hc1 hc2
        exact ⟨(s0.data.toList, s1.data.toList, ls), hc0, hs0, hc1, hs1, p, c, hc2, hls⟩)
      exact ⟨rs, by rw [hlen]; omega, some a, cap, by rw [hlen], fun _ => ⟨a.block, a.off, by rw [← ea], hlt, fun k hk => hrs k (by omega)⟩⟩
    · have h0 : len = 0 := by omega
      subst h0
      exact ⟨[], by decide, some a, cap, rfl, fun h => absurd h (by decide)⟩

theorem slSs_form {v : Value} {ls : List (List Nm)} (h : SlSs w v ls) : SlSS w v := by
  obtain ⟨h1, a, cap, rfl, h2⟩ := h
  refine ⟨a, _, cap, rfl, h1, fun hn => ?_⟩
  obtain ⟨b, off, e, hb, hc⟩ := h2 hn
  refine ⟨b, off, e, hb, fun k hk => ?_⟩
  obtain ⟨p, c, g, _⟩ := hc k hk
  exact ⟨p, _, c, g⟩

theorem slAr_form {v : Value} {rs : List Ar} (h : SlAr w v rs) : SlA w v := by
  obtain ⟨h1, a, cap, rfl, h2⟩ := h
  refine ⟨a, _, cap, rfl, h1, fun hn => ?_⟩
  obtain ⟨b, off, e, hb, hc⟩ := h2 hn
  refine ⟨b, off, e, hb, fun k hk => ?_⟩
  obtain ⟨g0, _, g1, _, p, c, g2, g3⟩ := hc k hk
  exact ⟨_, _, _, g0, g1, g2, slSs_form g3⟩

/-- a theory, with its classes, constructors and arities -/
def ThG (w : World) (t : Value) (cs : List (Nm × List Nm)) (ds : List (Nm × Int)) (rs : List Ar) : Prop :=
  ∃ n c t2 t3 t4 t5 t6, t = .agg #[n, c, t2, t3, t4, t5, t6] ∧ SlC w c cs ∧ SlT w t2 ds ∧ SlAr w t3 rs

theorem ThG.thF {t : Value} {cs : List (Nm × List Nm)} {ds : List (Nm × Int)} {rs : List Ar} (h : ThG w t cs ds rs) : ThF w t cs := by
  obtain ⟨n, c, t2, t3, t4, t5, t6, rfl, h1, h2, h3⟩ := h
  have h2' := h2
  obtain ⟨_, a, cap, rfl, _⟩ := h2'
  exact ⟨n, c, a, _, cap, t3, t4, t5, t6, rfl, h1, slAr_form h3⟩

set_option maxRecDepth 100000 in
theorem thG_of {r : Go.Reach} {b0 : Nat} {v : Value} {d : DataW H} {p : List MemPlace} (hv : Value.okWide Tryz.prog w r b0 29 v) (h : DataW.Trod enc Tryz.prog w 0 sp held 29 v d p) : ∃ cs ds rs, ThG w v cs ds rs := by
  obtain ⟨cs, rfl, hsz⟩ := okWide_struct Tryz.underlying29 hv
  obtain ⟨l⟩ := cs
  have hC : Tryz.prog.cellsOf 29 = 7 := by kernel_rfl
  match l, hsz.trans hC with
  | [c0, c1, c2, c3, c4, c5, c6], _ =>
    obtain ⟨fuel, hf⟩ := h
    obtain ⟨xs, n, _, hx, _, hlen, hg⟩ := DataW.trod_struct Tryz.underlying29 hf
    have g1 := hg 1 _ rfl
    have g2 := hg 2 _ rfl
    have g3 := hg 3 _ rfl
    have k1 : Tryz.prog.cellsOf 22 = 1 := by kernel_rfl
    have k2 : Tryz.prog.cellsOf 23 = 1 := by kernel_rfl
    have k3 : Tryz.prog.cellsOf 24 = 1 := by kernel_rfl
    match xs, hlen with
    | [y0, y1, y2, y3, y4, y5, y6], _ =>
      have h1 : DataW.trod enc Tryz.prog w 0 sp held n 22 [c1] = some y1 := by simpa [Value.cells, k1] using g1
      have h2 : DataW.trod enc Tryz.prog w 0 sp held n 23 [c2] = some y2 := by simpa [Value.cells, k2] using g2
      have h3 : DataW.trod enc Tryz.prog w 0 sp held n 24 [c3] = some y3 := by simpa [Value.cells, k3] using g3
      obtain ⟨cs, hcs⟩ := slC_of h1
      obtain ⟨ds, hds⟩ := slT_of h2
      obtain ⟨rs, hrs⟩ := slAr_of h3
      exact ⟨cs, ds, rs, c0, c1, c2, c3, c4, c5, c6, rfl, hcs, hds, hrs⟩
end
end Go.Proofs.YtehnikgdjnmfcaaGreat

