/- The reference: above. -/
import Derived.Test.YtkmoepabnnjoaaaDoorMZ7
import Derived.Test.YtkmoepabnnjoaaaDoorMZ9
import Derived.OwnWalk
namespace Go.Proofs.YtkmoepabnnjoaaaDoor
open Go.RowKit Go.WideMaps Go.Shelf

theorem Built.sup {cs : List (Nm × List Nm)} {sp ab : List (List Nat)} (h : Built cs sp ab) : ∀ k, k < cs.length →
    sp.getD k [] = (cs.getD k ([], [])).2.map (ixOf (cs.map Prod.fst)) ∧ (∀ x ∈ (cs.getD k ([], [])).2, inNs (cs.map Prod.fst) x = true) ∧ (cs.getD k ([], [])).2.length ≤ 20 := by
  induction h with
  | nil => intro k hk; simp at hk
  | @snoc cs sp ab nm sups ys hb he hy ih =>
    intro k hk
    obtain ⟨_, _, h20, hsu⟩ := classErr_zero he
    have hl := hb.len.1
    have hin : ∀ x, inNs (cs.map Prod.fst) x = true → inNs ((cs ++ [(nm, sups)]).map Prod.fst) x = true ∧ ixOf ((cs ++ [(nm, sups)]).map Prod.fst) x = ixOf (cs.map Prod.fst) x := by
      intro x hx
      have := ix_take (cs := cs ++ [(nm, sups)]) (k := cs.length) (s := x) (by rw [List.take_left]; exact hx)
      rw [List.take_left] at this; exact this
    by_cases hkl : k < cs.length
    · have e : (cs ++ [(nm, sups)]).getD k ([], []) = cs.getD k ([], []) := by
        rw [List.getD_eq_getElem?_getD, List.getElem?_append_left hkl, ← List.getD_eq_getElem?_getD]
      rw [e, getD_left sp _ k (by omega)]
      obtain ⟨h1, h2, h3⟩ := ih k hkl
      refine ⟨?_, fun x hx => (hin x (h2 x hx)).1, h3⟩
      rw [h1]
      exact List.map_congr_left fun x hx => ((hin x (h2 x hx)).2).symm
    · have hkk : k = cs.length := by simp at hk; omega
      subst hkk
      have e : (cs ++ [(nm, sups)]).getD cs.length ([], []) = (nm, sups) := by simp
      have h2 := supErr_all _ _ hsu
      rw [e, ← hl, getD_last]
      refine ⟨?_, fun x hx => (hin x (h2 x hx)).1, h20⟩
      exact List.map_congr_left fun x hx => ((hin x (h2 x hx)).2).symm

/-- the classes reached from i0 by steps out of classes from the m-th on -/
def Rm (sup : Nat → List Nat) (i0 m j : Nat) : Prop := j = i0 ∨ ∃ p, m ≤ p ∧ p ≤ i0 ∧ Reach sup i0 p ∧ j ∈ sup p

theorem Rm.start (sup : Nat → List Nat) (i0 j : Nat) : Rm sup i0 (i0 + 1) j ↔ j = i0 :=
  ⟨fun h => h.elim id (fun ⟨p, h1, h2, _⟩ => by omega), .inl⟩

theorem Rm.own {sup : Nat → List Nat} (hs : ∀ i, ∀ s ∈ sup i, s < i) (i0 k : Nat) : Rm sup i0 (k + 1) k ↔ Reach sup i0 k := by
  constructor
  · rintro (rfl | ⟨p, _, _, h, hm⟩)
    · exact .self
    · exact .step h hm
  · intro h
    cases h with
    | self => exact .inl rfl
    | @step k' _ h hm => exact .inr ⟨k', hs _ _ hm, Reach.le hs h, h, hm⟩

theorem Rm.no {sup : Nat → List Nat} {i0 k : Nat} (h : ¬ Reach sup i0 k) (j : Nat) : Rm sup i0 k j ↔ Rm sup i0 (k + 1) j := by
  constructor
  · rintro (rfl | ⟨p, h1, h2, h3, h4⟩)
    · exact .inl rfl
    · have : p ≠ k := fun e => h (e ▸ h3)
      exact .inr ⟨p, by omega, h2, h3, h4⟩
  · rintro (rfl | ⟨p, h1, h2, h3, h4⟩)
    · exact .inl rfl
    · exact .inr ⟨p, by omega, h2, h3, h4⟩

theorem Rm.yes {sup : Nat → List Nat} (hs : ∀ i, ∀ s ∈ sup i, s < i) {i0 k : Nat} (h : Reach sup i0 k) (j : Nat) : Rm sup i0 k j ↔ Rm sup i0 (k + 1) j ∨ j ∈ sup k := by
  constructor
  · rintro (rfl | ⟨p, h1, h2, h3, h4⟩)
    · exact .inl (.inl rfl)
    · by_cases e : p = k
      · subst e; exact .inr h4
      · exact .inl (.inr ⟨p, by omega, h2, h3, h4⟩)
  · rintro ((rfl | ⟨p, h1, h2, h3, h4⟩) | h4)
    · exact .inl rfl
    · exact .inr ⟨p, by omega, h2, h3, h4⟩
    · exact .inr ⟨k, Nat.le_refl _, Reach.le hs h, h, h4⟩

theorem Rm.all {sup : Nat → List Nat} (hs : ∀ i, ∀ s ∈ sup i, s < i) (i0 j : Nat) : Rm sup i0 0 j ↔ Reach sup i0 j := by
  constructor
  · rintro (rfl | ⟨p, _, _, h, hm⟩)
    · exact .self
    · exact .step h hm
  · intro h
    cases h with
    | self => exact .inl rfl
    | @step k' _ h hm => exact .inr ⟨k', Nat.zero_le _, Reach.le hs h, h, hm⟩

/-- a row of bools that may be written -/
def BoolsAt (w : World) (b n : Nat) (f : Nat → Bool) : Prop := ∀ j, j < n → w.cell? ⟨b, j, none⟩ = some (.bool (f j)) ∧ w.frozen? ⟨b, j, none⟩ = false

theorem BoolsAt.set {w : World} {b n : Nat} {f : Nat → Bool} (h : BoolsAt w b n f) (k : Nat) (v : Bool) : BoolsAt (w.setCell ⟨b, k, none⟩ (.bool v)) b n (fun j => if j = k then v else f j) := by
  intro j hj
  obtain ⟨h1, h2⟩ := h j hj
  by_cases e : j = k
  · subst e
    exact ⟨by simp only [↓reduceIte]; exact World.cell?_setCell_same _ _ _ h1, by rw [World.frozen?_setCell]; exact h2⟩
  · refine ⟨?_, by rw [World.frozen?_setCell]; exact h2⟩
    rw [World.cell?_setCell_other _ _ _ _ (by intro hh; injection hh with _ hh; omega), h1]
    simp [e]

theorem BoolsAt.below {w w' : World} {b n B : Nat} {f : Nat → Bool} (h : BoolsAt w b n f) (hb : Below B w w') (hB : b < B) : BoolsAt w' b n f := by
  intro j hj
  obtain ⟨h1, h2⟩ := h j hj
  exact ⟨(hb.cell (p := ⟨b, j, none⟩) hB).trans h1, (hb.frozen (p := ⟨b, j, none⟩) hB).trans h2⟩

theorem Tryd.info4 : (Tryd.prog.info? 4).map (fun i => (i.zero, i.size, i.bytes)) = some (some (.bool false), 1, 1) := by kernel_rfl

theorem made_bools (n j : Nat) (hj : j < n) : (madeCells (Value.cells (.bool false)) (n * 1)).toList[j]? = some (.bool false) := by
  have hs : (madeCells (Value.cells (.bool false)) (n * 1)).size = n * 1 := size_madeCells _ _
  rw [Array.getElem?_toList, Array.getElem?_eq_getElem (by omega)]
  unfold madeCells
  simp only [Array.getElem_map, Array.getElem_range]
  have e : Value.cells (.bool false) = #[.bool false] := rfl
  rw [e]
  simp only [List.size_toArray, List.length_cons, List.length_nil, Nat.zero_add, Nat.mod_one]
  rfl

theorem bools_made {w : World} {base b n : Nat} (h : w.ownsRow base 4 1 (.slice (some ⟨b, 0, none⟩) n n) n (madeCells (Value.cells (.bool false)) (n * 1)).toList) : BoolsAt w b n (fun _ => false) :=
  fun j hj => ⟨(h.cellAt j (by rw [Nat.mul_one]; exact hj)).trans (made_bools n j hj), h.frozenAt j⟩

def UpV (m : Nat) (u : Value) : Prop := (∃ k : Nat, m = k + 1 ∧ u = .int .i64 (k : Int)) ∨ m = 0 ∧ u = .int .i64 (-1)

theorem UpV.pred (k : Nat) : UpV k (.int .i64 ((k : Int) - 1)) := by
  by_cases h : k = 0
  · subst h; exact .inr ⟨rfl, rfl⟩
  · exact .inl ⟨k - 1, by omega, by rw [show ((k : Int) - 1) = ((k - 1 : Nat) : Int) by omega]⟩

/-- a row of bools that says what R does -/
def BoolsR (w : World) (b n : Nat) (R : Nat → Prop) : Prop := ∃ f, BoolsAt w b n f ∧ ∀ j, j < n → (f j = true ↔ R j)

theorem BoolsR.below {w w' : World} {b n B : Nat} {R : Nat → Prop} (h : BoolsR w b n R) (hb : Below B w w') (hB : b < B) : BoolsR w' b n R := by
  obtain ⟨f, h1, h2⟩ := h
  exact ⟨f, h1.below hb hB, h2⟩

theorem BoolsR.congr {w : World} {b n : Nat} {R R' : Nat → Prop} (h : BoolsR w b n R) (e : ∀ j, R j ↔ R' j) : BoolsR w b n R' := by
  obtain ⟨f, h1, h2⟩ := h
  exact ⟨f, h1, fun j hj => (h2 j hj).trans (e j)⟩

theorem BoolsR.set {w : World} {b n : Nat} {R : Nat → Prop} (h : BoolsR w b n R) (k : Nat) : BoolsR (w.setCell ⟨b, k, none⟩ (.bool true)) b n (fun j => R j ∨ j = k) := by
  obtain ⟨f, h1, h2⟩ := h
  refine ⟨_, h1.set k true, fun j hj => ?_⟩
  by_cases e : j = k
  · subst e; simp
  · simp only [e, if_false, or_false]; exact h2 j hj

/-- what above returns -/
def AbovePost (w : World) (n : Nat) (R : Nat → Prop) (e : Ending) (w' : World) : Prop :=
  ∃ b f, e = .returned (.slice (some ⟨b, 0, none⟩) n n) ∧ w.heap.size ≤ b ∧ b < w'.heap.size ∧ BoolsAt w' b n f ∧ (∀ j, j < n → (f j = true ↔ R j)) ∧ Below w.heap.size w w'

end Go.Proofs.YtkmoepabnnjoaaaDoor

/- The reference: under. -/
namespace Go.Proofs.YtkmoepabnnjoaaaDoor
open Go.RowKit Go.WideMaps Go.Shelf

end Go.Proofs.YtkmoepabnnjoaaaDoor

/- The reference: put. -/
namespace Go.Proofs.YtkmoepabnnjoaaaDoor
open Go.RowKit Go.WideMaps Go.Shelf Go.Sort Go.Lib

theorem bytesLess_cb : ∀ a b : Nm, Op.bytesLess a b = decide (Lib.compareBytes a b < 0)
  | [], [] => rfl
  | _ :: _, [] => rfl
  | [], _ :: _ => rfl
  | a :: u, b :: v => by
    unfold Op.bytesLess Lib.compareBytes
    have T : ∀ x y : UInt8, (x < y) = (x.toNat < y.toNat) := fun _ _ => rfl
    by_cases h1 : a < b
    · simp [h1]
    · by_cases h2 : b < a
      · have h3 : a ≠ b := fun e => by subst e; exact h1 h2
        simp [h1, h2, h3]
      · have e : a = b := by
          apply UInt8.toNat.inj
          rw [T] at h1 h2; omega
        simp [e, bytesLess_cb u v]

def geB (x s : Nm) : Bool := !Op.bytesLess (bs x).toList (bs s).toList

theorem geB_iff (x s : Nm) : geB x s = true ↔ ¬ Lib.compareBytes x s < 0 := by
  unfold geB
  rw [ByteArray.toList_eq, ByteArray.toList_eq, bs_list, bs_list, bytesLess_cb]
  simp

def putB : Bool → List Nm → Nm → List Nm
  | d, [], s => if d = true then [] else [s]
  | d, x :: l, s => if d = false ∧ geB x s = true then (if x = s then x :: putB true l s else s :: x :: putB true l s) else x :: putB d l s

theorem putB_true (l : List Nm) (s : Nm) : putB true l s = l := by
  induction l with
  | nil => rfl
  | cons x l ih => unfold putB; rw [if_neg (fun h => by cases h.1), ih]

theorem putB_mem (l : List Nm) (s y : Nm) : y ∈ putB false l s ↔ y ∈ l ∨ y = s := by
  induction l with
  | nil => simp [putB]
  | cons x l ih =>
    unfold putB
    by_cases h : geB x s = true
    · rw [if_pos ⟨rfl, h⟩]
      by_cases e : x = s
      · rw [if_pos e, putB_true]
        subst e
        simp only [List.mem_cons]
        exact ⟨.inl, fun h => h.elim id .inl⟩
      · rw [if_neg e, putB_true]
        simp only [List.mem_cons]
        constructor
        · rintro (h | h | h)
          · exact .inr h
          · exact .inl (.inl h)
          · exact .inl (.inr h)
        · rintro ((h | h) | h)
          · exact .inr (.inl h)
          · exact .inr (.inr h)
          · exact .inl h
    · rw [if_neg (fun hh => h hh.2)]
      simp only [List.mem_cons, ih, or_assoc]

theorem putB_asc (l : List Nm) (s : Nm) (hl : ascB l) : ascB (putB false l s) := by
  induction l with
  | nil => simp [putB, ascB]
  | cons x l ih =>
    obtain ⟨h1, h2⟩ := List.pairwise_cons.1 hl
    unfold putB
    by_cases h : geB x s = true
    · rw [if_pos ⟨rfl, h⟩]
      by_cases e : x = s
      · rw [if_pos e, putB_true]; exact hl
      · rw [if_neg e, putB_true]
        have h3 := (geB_iff x s).1 h
        have h4 : Lib.compareBytes s x < 0 := by
          have := cb_swap x s
          have : Lib.compareBytes x s ≠ 0 := fun h => e (cb_eq _ _ h)
          omega
        refine List.pairwise_cons.2 ⟨fun y hy => ?_, hl⟩
        rcases List.mem_cons.1 hy with rfl | hy
        · exact h4
        · exact cb_trans _ _ _ h4 (h1 y hy)
    · rw [if_neg (fun hh => h hh.2)]
      refine List.pairwise_cons.2 ⟨fun y hy => ?_, ih h2⟩
      rcases (putB_mem l s y).1 hy with hy | rfl
      · exact h1 y hy
      · exact Classical.byContradiction fun hh => h ((geB_iff x _).2 hh)

theorem putB_len (d : Bool) (l : List Nm) (s : Nm) : (putB d l s).length ≤ l.length + 1 := by
  induction l generalizing d with
  | nil => unfold putB; split <;> simp
  | cons x l ih =>
    unfold putB
    split
    · rw [putB_true]; split <;> simp
    · have := ih d
      simp; omega

theorem app_cell {w wr w5 : World} {o : Obj} {v x : Value} {n : Nat} {xs : List Value} {e : TypeId} (hB : RowKit.Below w.heap.size w wr) (hg : (wr.alloc o).grownBy w5 v.ownBlock) (ho : wr.ownsRow w.heap.size e 1 v n xs)
    (b k : Nat) (hb : b < w.heap.size) (hc : w.cell? ⟨b, k, none⟩ = some x) : w5.cell? ⟨b, k, none⟩ = some x ∧ w.heap.size ≤ w5.heap.size := by
  have hB5 : RowKit.Below w.heap.size w w5 := (hB.alloc hB.size _).grown hg (by have := hB.size; simp; omega) (fun r er => ownBlock_ge ho er)
  exact ⟨(hB5.cell (p := ⟨b, k, none⟩) hb).trans hc, hB5.size⟩

theorem putB_eq {x s : Nm} {l : List Nm} (h : geB x s = true) (e : x = s) : putB false (x :: l) s = x :: putB true l s := by
  conv => lhs; unfold putB
  rw [if_pos ⟨rfl, h⟩, if_pos e]
theorem putB_ne {x s : Nm} {l : List Nm} (h : geB x s = true) (e : ¬ x = s) : putB false (x :: l) s = s :: x :: putB true l s := by
  conv => lhs; unfold putB
  rw [if_pos ⟨rfl, h⟩, if_neg e]
theorem putB_lt {x s : Nm} {l : List Nm} (h : ¬ geB x s = true) : putB false (x :: l) s = x :: putB false l s := by
  conv => lhs; unfold putB
  rw [if_neg (fun hh => h hh.2)]
theorem putB_tt {x s : Nm} {l : List Nm} : putB true (x :: l) s = x :: putB true l s := by
  conv => lhs; unfold putB
  rw [if_neg (fun hh => by cases hh.1)]

theorem drop_getD {α : Type} (l : List α) (d : α) (k : Nat) (hk : k < l.length) : l.drop k = l.getD k d :: l.drop (k + 1) := by
  rw [List.drop_eq_getElem_cons hk, List.getD_eq_getElem?_getD, List.getElem?_eq_getElem hk]; rfl

end Go.Proofs.YtkmoepabnnjoaaaDoor
