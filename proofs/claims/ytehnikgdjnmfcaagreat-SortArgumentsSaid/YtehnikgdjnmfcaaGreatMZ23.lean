/- Deferred marks in any number: what the ranges over functions of a loop leave. -/
import Derived.RangeFuncNested
import Derived.RangeFuncBound
import Derived.RangeFuncCalls
import Derived.RangeFuncLeaves
import Derived.Lib.Hide
namespace Go.Proofs.YtehnikgdjnmfcaaGreat
open Go Go.RowKit

/-- deferred calls that are marks, each of a block of its own, from B on -/
def MarksAt (B : Nat) (w : World) : List Deferred → Prop
  | [] => True
  | d :: ds => (∃ r, B ≤ r ∧ d.target = .collected r ∧ w.heap[r]? = some (.deferred (some [])) ∧ ∀ d' ∈ ds, d'.target ≠ .collected r) ∧ MarksAt B w ds

theorem MarksAt.of_block {B : Nat} {w w' : World} : ∀ {ds : List Deferred}, MarksAt B w ds → (∀ d ∈ ds, ∀ r, d.target = .collected r → w'.heap[r]? = w.heap[r]?) → MarksAt B w' ds
  | [], _, _ => trivial
  | d :: _, ⟨⟨r, h1, h2, h3, h4⟩, h5⟩, hk =>
    ⟨⟨r, h1, h2, (hk d (List.mem_cons_self ..) r h2).trans h3, h4⟩, MarksAt.of_block h5 fun d' hd r' hr => hk d' (List.mem_cons_of_mem _ hd) r' hr⟩

theorem MarksAt.lt {B : Nat} {w : World} : ∀ {ds : List Deferred}, MarksAt B w ds → ∀ d ∈ ds, ∀ r, d.target = .collected r → r < w.heap.size
  | d :: ds, ⟨⟨r, h1, h2, h3, h4⟩, h5⟩, d', hd, r', hr => by
    rcases List.mem_cons.1 hd with rfl | hd
    · rw [h2] at hr; injection hr with hr; subst hr
      exact (Array.getElem?_eq_some_iff.1 h3).1
    · exact MarksAt.lt h5 d' hd r' hr

theorem MarksAt.ge {B : Nat} {w : World} : ∀ {ds : List Deferred}, MarksAt B w ds → ∀ d ∈ ds, ∀ r, d.target = .collected r → B ≤ r
  | d :: ds, ⟨⟨r, h1, h2, h3, h4⟩, h5⟩, d', hd, r', hr => by
    rcases List.mem_cons.1 hd with rfl | hd
    · rw [h2] at hr; injection hr with hr; subst hr
      exact h1
    · exact MarksAt.ge h5 d' hd r' hr

theorem MarksAt.below {B : Nat} {w w' : World} {ds : List Deferred} (h : MarksAt B w ds) (hb : Below w.heap.size w w') : MarksAt B w' ds :=
  h.of_block fun d hd r hr => hb.block r (h.lt d hd r hr)

theorem MarksAt.cons {B D : Nat} {w w' : World} {ds : List Deferred} (h : MarksAt B w ds) (hb : Below w.heap.size w w') (hD : w.heap.size ≤ D) (hB : B ≤ D) (hd : w'.heap[D]? = some (.deferred (some []))) :
    MarksAt B w' ({ target := .collected D, args := #[] } :: ds) :=
  ⟨⟨D, hB, rfl, hd, fun d' hd' e => by have := h.lt d' hd' D e; omega⟩, h.below hb⟩

theorem below_putM {B : Nat} (W : World) (l : Nat) (o' : Obj) {o : Obj} (hl : W.heap[l]? = some o) (hB : B ≤ l) : Below B W (W.putObj l o') :=
  (Below.refl B W).grown (grownBy_putObj' W l o') (by have := (Array.getElem?_eq_some_iff.1 hl).1; omega) (fun k e => by cases e; omega)

theorem leaves_marks {P : Program} {F : Fence} {n : Nat} {fn : Func} {tmps : Array Value} {R : Ending → World → Prop} {B : Nat} : ∀ (ds : List Deferred) (w : World), MarksAt B w ds →
    (∀ w', Below B w w' → ∃ v, (results fn tmps).run P w' = .ok v w' ∧ R (.returned v) w') → LeavesInM F n P fn tmps R ds .returning w
  | [], w, _, h => h w (Below.refl _ _)
  | d :: ds, w, ⟨⟨r, h1, h2, h3, h4⟩, h5⟩, h => by
    refine ⟨by simp, .inl ⟨r, _, h2, run_takeDeferred h3, leaves_marks ds _ (h5.of_block fun d' hd r' hr => ?_) fun w' hb => h w' ((below_putM w r _ h3 h1).trans hb)⟩⟩
    exact World.putObj_heap_other (fun e => by subst e; exact h4 d' hd hr)
end Go.Proofs.YtehnikgdjnmfcaaGreat

