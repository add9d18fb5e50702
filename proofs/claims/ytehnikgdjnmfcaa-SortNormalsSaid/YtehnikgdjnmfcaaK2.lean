/- Steps that turn blocks of some types of cells alone. -/
import Derived.Test.YtehnikgdjnmfcaaK
namespace Go.Proofs.Ytehnikgdjnmfcaa
open Go.RowKit Go.WideMaps Go.Shelf

/-- from w to w' only blocks of cells of the types in T have turned -/
structure StepT (T : List TypeId) (w w' : World) : Prop where
  size : w.heap.size ≤ w'.heap.size
  obj : ∀ (k : Nat) (o : Obj), w.heap[k]? = some o → (∀ cs t fr, o = Obj.cells cs t fr → t ∉ T) → w'.heap[k]? = some o

theorem StepT.refl (T : List TypeId) (w : World) : StepT T w w := ⟨Nat.le_refl _, fun _ _ h _ => h⟩
theorem StepT.trans {T : List TypeId} {a b c : World} (h : StepT T a b) (k : StepT T b c) : StepT T a c :=
  ⟨Nat.le_trans h.size k.size, fun x o ho ht => k.obj x o (h.obj x o ho ht) ht⟩
theorem StepT.mono {T T' : List TypeId} {a b : World} (h : StepT T a b) (hs : ∀ t ∈ T, t ∈ T') : StepT T' a b :=
  ⟨h.size, fun x o ho ht => h.obj x o ho (fun cs t fr e hm => ht cs t fr e (hs t hm))⟩
theorem StepT.of_grown {T : List TypeId} {w w' : World} {row : Option Nat} (hg : w.grownBy w' row) (hr : ∀ r, row = some r → ∃ cs t fr, w.heap[r]? = some (.cells cs t fr) ∧ t ∈ T) : StepT T w w' :=
  ⟨hg.size, fun k o ho ht => (hg.block k (Array.getElem?_eq_some_iff.1 ho).1 (fun e => by
    obtain ⟨cs, t, fr, h1, h2⟩ := hr k e.symm
    rw [h1] at ho; injection ho with ho
    exact ht cs t fr ho.symm h2)).trans ho⟩
theorem StepT.alloc (T : List TypeId) (w : World) (o : Obj) : StepT T w (w.alloc o) := .of_grown (World.grownBy_alloc w o none) (fun r e => by cases e)
theorem StepT.drew {T : List TypeId} {w w' : World} (h : StepT T w w') : StepT T w w'.drew := ⟨h.size, h.obj⟩
theorem StepT.set {T : List TypeId} {w : World} {b o : Nat} {v : Value} {cs : Array Value} {t : TypeId} {fr : Nat × Nat} (h : w.heap[b]? = some (.cells cs t fr)) (ht : t ∈ T) : StepT T w (w.setCell ⟨b, o, none⟩ v) :=
  .of_grown (grownBy_setCell w ⟨b, o, none⟩ v) (fun r e => by cases e; exact ⟨cs, t, fr, h, ht⟩)
theorem StepT.row {T : List TypeId} {w w' : World} {base : Nat} {e : TypeId} {size n : Nat} {v : Value} {xs : List Value} (hg : w.grownBy w' v.ownBlock) (hv : w.ownsRow base e size v n xs) (he : e ∈ T) : StepT T w w' := by
  refine .of_grown hg (fun r er => ?_)
  rcases hv.2 with ⟨e', _⟩ | ⟨g', cap', cur', e', hg', hh, _⟩
  · rw [e'] at er; cases er
  · rw [e'] at er; injection er with er; simp at er; subst er; exact ⟨_, _, _, hh, he⟩

theorem StepT.map {T : List TypeId} {w w' : World} (s : StepT T w w') {b : Nat} {ns : List Nm} (h : MapAt w b ns) : MapAt w' b ns := by
  obtain ⟨D, h1, ⟨es, cl, e1, e2⟩, h2⟩ := h
  exact ⟨D, h1, ⟨es, cl, s.obj _ _ e1 (fun _ _ _ e => by cases e), e2⟩, h2⟩
theorem StepT.own {T : List TypeId} {w w' : World} (s : StepT T w w') {base : Nat} {e : TypeId} {size n : Nat} {v : Value} {xs : List Value} (h : w.ownsRow base e size v n xs) (he : e ∉ T) : w'.ownsRow base e size v n xs := by
  refine ⟨h.1, ?_⟩
  rcases h.2 with h2 | ⟨g, cap, cur, hv, hg, hh, r⟩
  · exact .inl h2
  · exact .inr ⟨g, cap, cur, hv, hg, s.obj _ _ hh (fun _ _ _ e' => by injection e' with _ e2 _; rw [← e2]; exact he), r⟩
theorem StepT.cells {T : List TypeId} {w w' : World} (s : StepT T w w') {k : Nat} {cs : Array Value} {t : TypeId} {fr : Nat × Nat} (h : w.heap[k]? = some (.cells cs t fr)) (ht : t ∉ T) : w'.heap[k]? = some (.cells cs t fr) :=
  s.obj _ _ h (fun _ _ _ e => by injection e with _ e2 _; rw [← e2]; exact ht)

end Go.Proofs.Ytehnikgdjnmfcaa
