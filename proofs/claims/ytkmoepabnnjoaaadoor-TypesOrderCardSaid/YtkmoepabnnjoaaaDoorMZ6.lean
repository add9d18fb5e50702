/- upward; addClass. -/
import Derived.Test.YtkmoepabnnjoaaaDoorMZ5
import Derived.Maps.OwnIn
namespace Go.Proofs.YtkmoepabnnjoaaaDoor
open Go.RowKit Go.WideMaps Go.Shelf
attribute [local go_sem] Oper.semAt_some

theorem idx_snoc (ns : List Nm) (nm s : Nm) (hn : inNs ns nm = false) : inNs (ns ++ [nm]) s = (inNs ns s || decide (s = nm)) ∧ ixOf (ns ++ [nm]) s = if s = nm then ns.length else ixOf ns s := by
  have hn' : nm ∉ ns := of_decide_eq_false hn
  refine ⟨?_, ?_⟩
  · unfold inNs; rw [Bool.eq_iff_iff]; simp
  · unfold ixOf
    by_cases e : s = nm
    · subst e
      rw [if_pos (by simp), if_pos rfl, List.idxOf_append, if_neg hn']
      simp
    · rw [if_neg e]
      by_cases h : s ∈ ns
      · rw [if_pos (by simp [h]), if_pos h, List.idxOf_append, if_pos h]
      · rw [if_neg (by simp [h, e]), if_neg h]

end Go.Proofs.YtkmoepabnnjoaaaDoor

/- Steps that turn blocks of some types of cells alone. -/
namespace Go.Proofs.YtkmoepabnnjoaaaDoor
open Go.RowKit Go.WideMaps Go.Shelf

/-- from w to w' only blocks of cells of the types in T have turned -/
structure StepT (T : List TypeId) (w w' : World) : Prop where
  size : w.heap.size ≤ w'.heap.size
  obj : ∀ (k : Nat) (o : Obj), w.heap[k]? = some o → (∀ cs t fr, o = Obj.cells cs t fr → t ∉ T) → w'.heap[k]? = some o

theorem StepT.refl (T : List TypeId) (w : World) : StepT T w w := ⟨Nat.le_refl _, fun _ _ h _ => h⟩
theorem StepT.trans {T : List TypeId} {a b c : World} (h : StepT T a b) (k : StepT T b c) : StepT T a c :=
  ⟨Nat.le_trans h.size k.size, fun x o ho ht => k.obj x o (h.obj x o ho ht) ht⟩
theorem StepT.mono {T T' : List TypeId} {a b : World} (h : StepT T a b) (hs : ∀ t ∈ T, t ∈ T') : StepT T' a b :=
  ⟨h.size, fun x o ho ht => h.obj x o ho (fun cs t fr e hm => ht cs t fr e (hs t hm))⟩
theorem StepT.of_grown {T : List TypeId} {w w' : World} {row : Option Nat} (hg : w.grownBy w' row) (hr : ∀ r, row = some r → ∃ cs t fr, w.heap[r]? = some (.cells cs t fr) ∧ t ∈ T) : StepT T w w' :=
  ⟨hg.size, fun k o ho ht => (hg.block k (Array.getElem?_eq_some_iff.1 ho).1 (fun e => by
    obtain ⟨cs, t, fr, h1, h2⟩ := hr k e.symm
    rw [h1] at ho; injection ho with ho
    exact ht cs t fr ho.symm h2)).trans ho⟩
theorem StepT.alloc (T : List TypeId) (w : World) (o : Obj) : StepT T w (w.alloc o) := .of_grown (World.grownBy_alloc w o none) (fun r e => by cases e)
theorem StepT.drew {T : List TypeId} {w w' : World} (h : StepT T w w') : StepT T w w'.drew := ⟨h.size, h.obj⟩
theorem StepT.set {T : List TypeId} {w : World} {b o : Nat} {v : Value} {cs : Array Value} {t : TypeId} {fr : Nat × Nat} (h : w.heap[b]? = some (.cells cs t fr)) (ht : t ∈ T) : StepT T w (w.setCell ⟨b, o, none⟩ v) :=
  .of_grown (grownBy_setCell w ⟨b, o, none⟩ v) (fun r e => by cases e; exact ⟨cs, t, fr, h, ht⟩)
theorem StepT.row {T : List TypeId} {w w' : World} {base : Nat} {e : TypeId} {size n : Nat} {v : Value} {xs : List Value} (hg : w.grownBy w' v.ownBlock) (hv : w.ownsRow base e size v n xs) (he : e ∈ T) : StepT T w w' := by
  refine .of_grown hg (fun r er => ?_)
  rcases hv.2 with ⟨e', _⟩ | ⟨g', cap', cur', e', hg', hh, _⟩
  · rw [e'] at er; cases er
  · rw [e'] at er; injection er with er; simp at er; subst er; exact ⟨_, _, _, hh, he⟩

theorem StepT.map {T : List TypeId} {w w' : World} (s : StepT T w w') {b : Nat} {ns : List Nm} (h : MapAt w b ns) : MapAt w' b ns := by
  obtain ⟨D, h1, ⟨es, cl, e1, e2⟩, h2⟩ := h
  exact ⟨D, h1, ⟨es, cl, s.obj _ _ e1 (fun _ _ _ e => by cases e), e2⟩, h2⟩
theorem StepT.own {T : List TypeId} {w w' : World} (s : StepT T w w') {base : Nat} {e : TypeId} {size n : Nat} {v : Value} {xs : List Value} (h : w.ownsRow base e size v n xs) (he : e ∉ T) : w'.ownsRow base e size v n xs := by
  refine ⟨h.1, ?_⟩
  rcases h.2 with h2 | ⟨g, cap, cur, hv, hg, hh, r⟩
  · exact .inl h2
  · exact .inr ⟨g, cap, cur, hv, hg, s.obj _ _ hh (fun _ _ _ e' => by injection e' with _ e2 _; rw [← e2]; exact he), r⟩
theorem StepT.cells {T : List TypeId} {w w' : World} (s : StepT T w w') {k : Nat} {cs : Array Value} {t : TypeId} {fr : Nat × Nat} (h : w.heap[k]? = some (.cells cs t fr)) (ht : t ∉ T) : w'.heap[k]? = some (.cells cs t fr) :=
  s.obj _ _ h (fun _ _ _ e => by injection e with _ e2 _; rw [← e2]; exact ht)

end Go.Proofs.YtkmoepabnnjoaaaDoor

/- Facts for the loop over upward. -/
namespace Go.Proofs.YtkmoepabnnjoaaaDoor
open Go.RowKit Go.WideMaps Go.Shelf

theorem tag_ne {w : World} {a b : Nat} {cs cs' : Array Value} {t t' : TypeId} {fr fr' : Nat × Nat} (h : w.heap[a]? = some (.cells cs t fr)) (h' : w.heap[b]? = some (.cells cs' t' fr')) (hne : t ≠ t') : a ≠ b := by
  intro e
  subst e
  rw [h] at h'
  injection h' with h'
  injection h' with _ h' _
  exact hne h'

theorem own_obj {w : World} {B g n cap size : Nat} {e : TypeId} {xs : List Value} (h : w.ownsRow B e size (.slice (some ⟨g, 0, none⟩) n cap) n xs) : B ≤ g ∧ ∃ cur, w.heap[g]? = some (.cells cur e (0, 0)) ∧ n ≤ cap ∧ cur.size = cap * size ∧ cur.toList.take (n * size) = xs := by
  rcases h.2 with ⟨h', _⟩ | ⟨g', cap', cur, h', hg, hh, hn, _, hs, ht⟩
  · cases h'
  · cases h'; exact ⟨hg, cur, hh, hn, hs, ht⟩

theorem ints_get (l : List Nat) (j : Nat) (hj : j < l.length) : (ints l)[j]? = some (.int .i64 ((l.getD j 0 : Nat) : Int)) := by
  unfold ints
  rw [List.getElem?_map, List.getElem?_eq_getElem hj, List.getD_eq_getElem?_getD, List.getElem?_eq_getElem hj]; rfl

def words5 (ys : List Nat) : List Value := [.int .u64 ((wordsOf ys 0 : Nat) : Int), .int .u64 ((wordsOf ys 1 : Nat) : Int), .int .u64 ((wordsOf ys 2 : Nat) : Int), .int .u64 ((wordsOf ys 3 : Nat) : Int), .int .u64 ((wordsOf ys 4 : Nat) : Int)]

theorem wordsOf_lt (ys : List Nat) (j : Nat) : wordsOf ys j < 18446744073709551616 := by
  suffices h : ∀ n, ∀ ys : List Nat, ys.length = n → wordsOf ys j < 18446744073709551616 from h _ ys rfl
  intro n
  induction n with
  | zero => intro ys h; rw [List.length_eq_zero_iff.1 h]; simp [wordsOf]
  | succ n ih =>
    intro ys h
    rcases List.eq_nil_or_concat ys with rfl | ⟨zs, k, rfl⟩
    · simp at h
    · have hz : zs.length = n := by simp at h; omega
      rw [List.concat_eq_append, wordsOf_snoc]
      split
      · exact or_lt64 _ k (ih zs hz)
      · exact ih zs hz

theorem words5_set (ys : List Nat) (x j : Nat) (hx : x / 64 = j) (hj : j < 5) : (words5 ys).set j (.int .u64 ((wordsOf ys j ||| 2 ^ (x % 64) : Nat) : Int)) = words5 (ys ++ [x]) := by
  have e : ∀ i, wordsOf (ys ++ [x]) i = if x / 64 = i then wordsOf ys i ||| 2 ^ (x % 64) else wordsOf ys i := wordsOf_snoc ys x
  unfold words5
  simp only [e]
  have : j = 0 ∨ j = 1 ∨ j = 2 ∨ j = 3 ∨ j = 4 := by omega
  rcases this with rfl | rfl | rfl | rfl | rfl <;> simp [hx]

end Go.Proofs.YtkmoepabnnjoaaaDoor
