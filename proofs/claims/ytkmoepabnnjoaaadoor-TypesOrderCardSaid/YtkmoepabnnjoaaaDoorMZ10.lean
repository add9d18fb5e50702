/- The arguments, opened. -/
import Derived.Test.YtkmoepabnnjoaaaDoorMZ9
import Derived.Deep.Slices
import Derived.Deep.Fields
import Derived.ChangeSame
import Derived.SliceStrings
import Derived.Lib.SmallJoins
namespace Go.Proofs.YtkmoepabnnjoaaaDoor
open Go.Joins Go.ChangeShapes Go.WideShapes Go.RowKit Go.Deep

section
variable {H : Type} {enc : TypeId × Value → H} {w : World} {sp : Nat → Bool} {held : Bool}

theorem list_of {α : Type} (d : α) (p : Nat → α → Prop) : ∀ n, (∀ i, i < n → ∃ x, p i x) → ∃ l : List α, l.length = n ∧ ∀ i, i < n → p i (l.getD i d)
  | 0, _ => ⟨[], rfl, fun i hi => absurd hi (by omega)⟩
  | n + 1, h => by
    obtain ⟨l, hl, hp⟩ := list_of d p n (fun i hi => h i (by omega))
    obtain ⟨x, hx⟩ := h n (by omega)
    refine ⟨l ++ [x], by simp [hl], fun i hi => ?_⟩
    by_cases hin : i < n
    · rw [List.getD_eq_getElem?_getD, List.getElem?_append_left (by omega), ← List.getD_eq_getElem?_getD]; exact hp i hin
    · have : i = l.length := by omega
      subst this
      rw [List.getD_eq_getElem?_getD, List.getElem?_append_right (Nat.le_refl _), Nat.sub_self]
      have e : n = l.length := by omega
      rw [e] at hx; exact hx

theorem addr_none {a : Addr} {v : Value} (h : w.cell? (a.add 0) = some v) : a = ⟨a.block, a.off, none⟩ ∧ a.block < w.heap.size := by
  obtain ⟨b, off, spot⟩ := a
  have e : (Addr.add ⟨b, off, spot⟩ 0) = ⟨b, off, spot⟩ := by simp [Addr.add]
  rw [e] at h
  have : spot = none := World.cell?_spot h
  subst this
  exact ⟨rfl, lt_of_cell h⟩

theorem add_at (b off i : Nat) : (Addr.add ⟨b, off, none⟩ i) = ⟨b, off + i, none⟩ := by
  unfold Addr.add
  by_cases h : i = 0
  · subst h; simp
  · simp [h]

theorem slS_of {fuel : Nat} {v : Value} {x : DataW H × List MemPlace} (h : DataW.trod enc Tryd.prog w 0 sp held fuel 22 [v] = some x) : ∃ ss, SlS w v ss := by
  rcases open_strings Tryd.underlying22 Tryd.underlying9 (by kernel_rfl) h with ⟨hcs, hx⟩ | ⟨a, len, cap, ss, hcs, _, hl, hm, hz, hx, hcell, hsz⟩
  · injection hcs with hcs _
    subst hcs
    exact ⟨[], slS0⟩
  · injection hcs with hcs _
    subst hcs
    have hlen : len ≤ ss.length := by rw [hz]; split <;> omega
    refine ⟨(ss.take len).map (fun s => s.data.toList), ?_⟩
    have hL : ((ss.take len).map (fun s => s.data.toList)).length = len := by simp; omega
    refine ⟨by rw [hL]; omega, some a, cap, by rw [hL], fun hn => ?_⟩
    rw [hL] at hn
    have hc0 := hcell 0 (by omega)
    obtain ⟨ea, hlt⟩ := addr_none hc0
    refine ⟨a.block, a.off, by rw [← ea], hlt, fun j hj => ?_, fun s hs => ?_⟩
    · rw [hL] at hj
      have hcj := hcell j (by omega)
      rw [ea, add_at] at hcj
      rw [hcj]
      rw [List.getD_eq_getElem?_getD, List.getD_eq_getElem?_getD, List.getElem?_map, List.getElem?_take_of_lt hj, List.getElem?_eq_getElem (by omega)]
      rfl
    · obtain ⟨y, hy, rfl⟩ := List.mem_map.1 hs
      have := hsz y (List.mem_of_mem_take hy)
      exact this

theorem open_slice_fields {P : Program} {base : Nat} {spare : Nat → Bool} {t e : TypeId} {fs : Array Field} {fuel : Nat} {cs : List Value} {x : DataW H × List MemPlace} (ht : P.underlying t = some (.slice e)) (he : P.underlying e = some (.struct fs))
    (hone : oneCellFields P fs = true) (hC : P.cellsOf e = fs.size) (h : DataW.trod enc P w base spare held fuel t cs = some x) :
    (cs = [.slice none 0 0]) ∨
    ∃ (a : Addr) (len cap : Nat), cs = [.slice (some a) len cap] ∧ len ≤ cap ∧ cap ≤ maxLen ∧
      ∀ i, i < len → ∃ (n : Nat), ∀ (j : Nat) (f : Field), fs[j]? = some f → ∃ (v : Value) (y : DataW H × List MemPlace), w.cell? (a.add (i * fs.size + j)) = some v ∧ DataW.trod enc P w base spare held n f.type [v] = some y := by
  rcases open_slice ht h with h0 | ⟨a, len, cap, m, n, D, Pl, hcs, hb, hl, hm, hmm, hx, hi⟩
  · exact .inl h0.1
  · refine .inr ⟨a, len, cap, hcs, hl, hm, fun i him => ?_⟩
    obtain ⟨cs', hc, ht'⟩ := hi i (by rw [hmm]; split <;> omega)
    rw [hC] at hc
    obtain ⟨ys, n', hn', hy, hlen, hyl, hf⟩ := DataW.trod_struct he ht'
    obtain ⟨_, hcl, hat⟩ := World.cells?_some hc
    refine ⟨n', fun j f hj => ?_⟩
    obtain ⟨ho, hk⟩ := hone_of hone j f hj
    have hjl : j < fs.size := (Array.getElem?_eq_some_iff.1 hj).1
    have hcell := hat j hjl
    have hv : cs'[j]? = some (cs'[j]'(by omega)) := List.getElem?_eq_getElem (by omega)
    have h1 := hf j f hj
    rw [ho, hk] at h1
    have hone' : (cs'.drop j).take 1 = [cs'[j]'(by omega)] := by
      rw [List.drop_eq_getElem_cons (by omega)]
      rfl
    rw [hone'] at h1
    have hys : ys[j]? = some (ys[j]'(by omega)) := List.getElem?_eq_getElem (by omega)
    refine ⟨_, _, ?_, h1.trans hys⟩
    rw [← Go.Deep.add_add, hcell, hv]

end
end Go.Proofs.YtkmoepabnnjoaaaDoor

/- Types in memory. -/
namespace Go.Proofs.YtkmoepabnnjoaaaDoor
open Go.Joins Go.ChangeShapes Go.WideShapes Go.RowKit Go.Deep Go.Shelf

def ty0 : TY := .mk 0 [] 0 [] []

/-- types in memory, of at most a depth -/
def SlTy (w : World) : Nat → Value → List TY → Prop
  | 0, v, l => (∃ a cap, v = .slice a 0 cap) ∧ l = []
  | d + 1, v, l => l.length ≤ maxLen ∧ ∃ a cap, v = .slice a l.length cap ∧ (0 < l.length → ∃ b off, a = some ⟨b, off, none⟩ ∧ b < w.heap.size ∧ ∀ j, j < l.length → ∃ vs va,
      w.cell? ⟨b, off + j * 5, none⟩ = some (.int .i64 (l.getD j ty0).o) ∧ w.cell? ⟨b, off + j * 5 + 1, none⟩ = some (.string (bs (l.getD j ty0).x)) ∧ w.cell? ⟨b, off + j * 5 + 2, none⟩ = some (.int .i64 (l.getD j ty0).i) ∧
      w.cell? ⟨b, off + j * 5 + 3, none⟩ = some vs ∧ w.cell? ⟨b, off + j * 5 + 4, none⟩ = some va ∧ (l.getD j ty0).x.length ≤ maxLen ∧ SlS w vs (l.getD j ty0).s ∧ SlTy w d va (l.getD j ty0).l)

/-- a type's value -/
def TyM (w : World) (d : Nat) (v : Value) (t : TY) : Prop :=
  ∃ vs va, v = .agg #[.int .i64 t.o, .string (bs t.x), .int .i64 t.i, vs, va] ∧ t.x.length ≤ maxLen ∧ SlS w vs t.s ∧ SlTy w d va t.l

theorem SlTy.form {w : World} : ∀ {d : Nat} {v : Value} {l : List TY}, SlTy w d v l → ∃ a cap, v = .slice a l.length cap
  | 0, _, _, ⟨⟨a, cap, e⟩, h⟩ => ⟨a, cap, by rw [h]; exact e⟩
  | _ + 1, _, _, ⟨_, a, cap, e, _⟩ => ⟨a, cap, e⟩

theorem SlTy.below {w w' : World} (hb : Below w.heap.size w w') : ∀ {d : Nat} {v : Value} {l : List TY}, SlTy w d v l → SlTy w' d v l
  | 0, _, _, h => h
  | d + 1, v, l, h => by
    obtain ⟨h1, a, cap, e, h2⟩ := h
    refine ⟨h1, a, cap, e, fun hn => ?_⟩
    obtain ⟨b, off, e2, hl, hc⟩ := h2 hn
    refine ⟨b, off, e2, Nat.lt_of_lt_of_le hl hb.size, fun j hj => ?_⟩
    obtain ⟨vs, va, g0, g1, g2, g3, g4, g5, g6, g7⟩ := hc j hj
    have k : ∀ {i : Nat} {u : Value}, w.cell? ⟨b, i, none⟩ = some u → w'.cell? ⟨b, i, none⟩ = some u := fun h => (hb.cell (p := ⟨b, _, none⟩) hl).trans h
    exact ⟨vs, va, k g0, k g1, k g2, k g3, k g4, g5, g6.below hb (Nat.le_refl _), SlTy.below hb g7⟩

theorem SlTy.up {w : World} : ∀ {d : Nat} {v : Value} {l : List TY}, SlTy w d v l → SlTy w (d + 1) v l
  | 0, _, _, ⟨⟨a, cap, e⟩, h⟩ => by subst h; exact ⟨by decide, a, cap, e, fun h => absurd h (by decide)⟩
  | d + 1, v, l, h => by
    obtain ⟨h1, a, cap, e, h2⟩ := h
    refine ⟨h1, a, cap, e, fun hn => ?_⟩
    obtain ⟨b, off, e2, hl, hc⟩ := h2 hn
    refine ⟨b, off, e2, hl, fun j hj => ?_⟩
    obtain ⟨vs, va, g0, g1, g2, g3, g4, g5, g6, g7⟩ := hc j hj
    exact ⟨vs, va, g0, g1, g2, g3, g4, g5, g6, SlTy.up g7⟩

theorem SlTy.mono {w : World} {v : Value} {l : List TY} {d : Nat} (h : SlTy w d v l) : ∀ {d' : Nat}, d ≤ d' → SlTy w d' v l := by
  intro d' hd
  induction d' with
  | zero => have : d = 0 := by omega
            subst this; exact h
  | succ n ih =>
    by_cases e : d = n + 1
    · subst e; exact h
    · exact (ih (by omega)).up

theorem TyM.below {w w' : World} {d : Nat} {v : Value} {t : TY} (h : TyM w d v t) (hb : Below w.heap.size w w') : TyM w' d v t := by
  obtain ⟨vs, va, e, h1, h2, h3⟩ := h
  exact ⟨vs, va, e, h1, h2.below hb (Nat.le_refl _), h3.below hb⟩

theorem TyM.mono {w : World} {d d' : Nat} {v : Value} {t : TY} (h : TyM w d v t) (hd : d ≤ d') : TyM w d' v t := by
  obtain ⟨vs, va, e, h1, h2, h3⟩ := h
  exact ⟨vs, va, e, h1, h2, h3.mono hd⟩

/-- an element of a slice of types -/
theorem SlTy.at {w : World} {d : Nat} {a : Option Addr} {n c : Nat} {l : List TY} (h : SlTy w (d + 1) (.slice a n c) l) {j : Nat} (hj : j < l.length) : ∃ b off vs va, a = some ⟨b, off, none⟩ ∧ b < w.heap.size ∧
      w.cell? ⟨b, off + j * 5, none⟩ = some (.int .i64 (l.getD j ty0).o) ∧ w.cell? ⟨b, off + j * 5 + 1, none⟩ = some (.string (bs (l.getD j ty0).x)) ∧ w.cell? ⟨b, off + j * 5 + 2, none⟩ = some (.int .i64 (l.getD j ty0).i) ∧
      w.cell? ⟨b, off + j * 5 + 3, none⟩ = some vs ∧ w.cell? ⟨b, off + j * 5 + 4, none⟩ = some va ∧ TyM w d (.agg #[.int .i64 (l.getD j ty0).o, .string (bs (l.getD j ty0).x), .int .i64 (l.getD j ty0).i, vs, va]) (l.getD j ty0) := by
  obtain ⟨_, a', cap, e, h2⟩ := h
  injection e with e1 _ _
  subst e1
  obtain ⟨b, off, e, hb, hc⟩ := h2 (by omega)
  obtain ⟨vs, va, g0, g1, g2, g3, g4, g5, g6, g7⟩ := hc j hj
  exact ⟨b, off, vs, va, e, hb, g0, g1, g2, g3, g4, vs, va, rfl, g5, g6, g7⟩

section
variable {H : Type} {enc : TypeId × Value → H} {w : World} {sp : Nat → Bool} {held : Bool}

theorem open_slice_fuel {P : Program} {t e : TypeId} {fs : Array Field} {fuel : Nat} {cs : List Value} {x : DataW H × List MemPlace} (ht : P.underlying t = some (.slice e)) (he : P.underlying e = some (.struct fs))
    (hone : oneCellFields P fs = true) (hC : P.cellsOf e = fs.size) (h : DataW.trod enc P w 0 sp held fuel t cs = some x) :
    (cs = [.slice none 0 0]) ∨
    ∃ (a : Addr) (len cap : Nat), cs = [.slice (some a) len cap] ∧ len ≤ cap ∧ cap ≤ maxLen ∧
      ∀ i, i < len → ∃ (n : Nat), n + 2 = fuel ∧ ∀ (j : Nat) (f : Field), fs[j]? = some f → ∃ (v : Value) (y : DataW H × List MemPlace), w.cell? (a.add (i * fs.size + j)) = some v ∧ DataW.trod enc P w 0 sp held n f.type [v] = some y := by
  rcases DataW.trod_slice ht h with h0 | ⟨a, len, cap, elems, rest, n, hf, hcs, hxx, hb, hl, hm, hlen, hel, hsp, hns⟩
  · exact .inl h0.1
  · refine .inr ⟨a, len, cap, hcs, hl, hm, fun i him => ?_⟩
    have h1 := hel i him
    have h2 : elems[i]? = some (elems[i]'(by omega)) := List.getElem?_eq_getElem (by omega)
    rw [h2, Option.bind_eq_some_iff] at h1
    obtain ⟨cs', hc, ht'⟩ := h1
    rw [hC] at hc
    obtain ⟨ys, n', hn', hy, hlen', hyl, hff⟩ := DataW.trod_struct he ht'
    obtain ⟨_, hcl, hat⟩ := World.cells?_some hc
    refine ⟨n', by omega, fun j f hj => ?_⟩
    obtain ⟨ho, hk⟩ := hone_of hone j f hj
    have hjl : j < fs.size := (Array.getElem?_eq_some_iff.1 hj).1
    have hcell := hat j hjl
    have hv : cs'[j]? = some (cs'[j]'(by omega)) := List.getElem?_eq_getElem (by omega)
    have h1 := hff j f hj
    rw [ho, hk] at h1
    have hone' : (cs'.drop j).take 1 = [cs'[j]'(by omega)] := by
      rw [List.drop_eq_getElem_cons (by omega)]
      rfl
    rw [hone'] at h1
    have hys : ys[j]? = some (ys[j]'(by omega)) := List.getElem?_eq_getElem (by omega)
    refine ⟨_, _, ?_, h1.trans hys⟩
    rw [← Go.Deep.add_add, hcell, hv]

theorem slTy_of : ∀ (fuel : Nat) {v : Value} {x : DataW H × List MemPlace}, DataW.trod enc Tryd.prog w 0 sp held fuel 23 [v] = some x → ∃ l, SlTy w fuel v l := by
  intro fuel
  induction fuel using Nat.strongRecOn with
  | _ fuel ih =>
    intro v x h
    rcases open_slice_fuel Tryd.underlying23 Tryd.underlying25 (by kernel_rfl) (by kernel_rfl) h with hcs | ⟨a, len, cap, hcs, hl, hm, hf⟩
    · injection hcs with hcs _
      subst hcs
      exact ⟨[], SlTy.mono (d := 0) ⟨⟨none, 0, rfl⟩, rfl⟩ (Nat.zero_le _)⟩
    · injection hcs with hcs _
      subst hcs
      by_cases hn : 0 < len
      · have hea : a = ⟨a.block, a.off, none⟩ ∧ a.block < w.heap.size := by
          obtain ⟨n, _, hj⟩ := hf 0 hn
          obtain ⟨v, y, hc, _⟩ := hj 0 _ rfl
          exact addr_none hc
        obtain ⟨ea, hlt⟩ := hea
        obtain ⟨m, hm2⟩ : ∃ m, fuel = m + 1 := by obtain ⟨n, hn2, _⟩ := hf 0 hn; exact ⟨n + 1, by omega⟩
        obtain ⟨ls, hlen, hls⟩ := list_of ty0 (fun j t => ∃ vs va, w.cell? ⟨a.block, a.off + j * 5, none⟩ = some (.int .i64 t.o) ∧ w.cell? ⟨a.block, a.off + j * 5 + 1, none⟩ = some (.string (bs t.x)) ∧ w.cell? ⟨a.block, a.off + j * 5 + 2, none⟩ = some (.int .i64 t.i) ∧
            w.cell? ⟨a.block, a.off + j * 5 + 3, none⟩ = some vs ∧ w.cell? ⟨a.block, a.off + j * 5 + 4, none⟩ = some va ∧ t.x.length ≤ maxLen ∧ SlS w vs t.s ∧ SlTy w m va t.l) len (fun i hi => by
          obtain ⟨n, hn2, hj⟩ := hf i hi
          obtain ⟨v0, y0, hc0, ht0⟩ := hj 0 _ rfl
          obtain ⟨v1, y1, hc1, ht1⟩ := hj 1 _ rfl
          obtain ⟨v2, y2, hc2, ht2⟩ := hj 2 _ rfl
          obtain ⟨v3, y3, hc3, ht3⟩ := hj 3 _ rfl
          obtain ⟨v4, y4, hc4, ht4⟩ := hj 4 _ rfl
          obtain ⟨z0, e0, _, _⟩ := DataW.trod_int Tryd.underlying3 ht0
          obtain ⟨s1, e1, _, hs1⟩ := DataW.trod_string Tryd.underlying9 ht1
          obtain ⟨z2, e2, _, _⟩ := DataW.trod_int Tryd.underlying3 ht2
          injection e0 with e0 _
          injection e1 with e1 _
          injection e2 with e2 _
          subst e0
          subst e1
          subst e2
          obtain ⟨ss, hss⟩ := slS_of ht3
          obtain ⟨l, hl⟩ := ih n (by omega) ht4
          rw [ea, add_at] at hc0 hc1 hc2 hc3 hc4
          exact ⟨.mk z0 s1.data.toList z2 ss l, v3, v4, hc0, hc1, hc2, hc3, hc4, hs1, hss, hl.mono (by omega)⟩)
        subst hm2
        exact ⟨ls, by omega, some a, cap, by rw [hlen], fun _ => ⟨a.block, a.off, by rw [← ea], hlt, fun k hk => hls k (by omega)⟩⟩
      · have h0 : len = 0 := by omega
        subst h0
        exact ⟨[], SlTy.mono (d := 0) ⟨⟨some a, cap, rfl⟩, rfl⟩ (Nat.zero_le _)⟩
end
end Go.Proofs.YtkmoepabnnjoaaaDoor

/- Equal types: pure facts. -/
namespace Go.Proofs.YtkmoepabnnjoaaaDoor
open Go.RowKit Go.WideMaps Go.Shelf

def eqT (a b : TY) : Bool := decide (cmpT a b = 0)
theorem eqT_iff (a b : TY) : eqT a b = true ↔ a = b := by
  unfold eqT
  rw [decide_eq_true_iff]
  exact (cmpT_law a b a).2.2.2.2
theorem eqT_true {a b : TY} (h : a = b) : eqT a b = true := (eqT_iff a b).2 h
theorem eqT_false {a b : TY} (h : a ≠ b) : eqT a b = false := Bool.eq_false_iff.2 fun e => h ((eqT_iff a b).1 e)

theorem list_ext0 {α : Type} {z : α} {l m : List α} (hl : l.length = m.length) (h : ∀ j, j < l.length → l.getD j z = m.getD j z) : l = m := by
  refine List.ext_getElem hl fun j h1 h2 => ?_
  have := h j h1
  rwa [List.getD_eq_getElem?_getD, List.getD_eq_getElem?_getD, List.getElem?_eq_getElem h1, List.getElem?_eq_getElem h2] at this

/-- what a comparison of two lists is, behind k equal elements -/
theorem cmpL_drop {α : Type} {f : α → α → Int} (z : α) (l m : List α) (k : Nat) :
    (k < l.length → k < m.length → cmpL f (l.drop k) (m.drop k) = thenI (f (l.getD k z) (m.getD k z)) (cmpL f (l.drop (k + 1)) (m.drop (k + 1)))) ∧
    (k < l.length → ¬ k < m.length → cmpL f (l.drop k) (m.drop k) = 1) ∧ (¬ k < l.length → k < m.length → cmpL f (l.drop k) (m.drop k) = -1) ∧ (¬ k < l.length → ¬ k < m.length → cmpL f (l.drop k) (m.drop k) = 0) := by
  have d : ∀ (l : List α), k < l.length → l.drop k = l.getD k z :: l.drop (k + 1) := fun l h => by
    rw [List.drop_eq_getElem_cons h, List.getD_eq_getElem?_getD, List.getElem?_eq_getElem h]; rfl
  have n : ∀ (l : List α), ¬ k < l.length → l.drop k = [] := fun l h => List.drop_eq_nil_of_le (by omega)
  refine ⟨fun h1 h2 => ?_, fun h1 h2 => ?_, fun h1 h2 => ?_, fun h1 h2 => ?_⟩
  · rw [d l h1, d m h2]; rfl
  · rw [d l h1, n m h2]; rfl
  · rw [n l h1, d m h2]; rfl
  · rw [n l h1, n m h2]; rfl
end Go.Proofs.YtkmoepabnnjoaaaDoor
