/- addAll, Less. -/
import Derived.Test.YtkmoepabnnjoaaaDoorMZ2
import Derived.Laws.Rows
import Derived.Deep.AppendLies
import Derived.Maps.AppendAt
namespace Go.Proofs.YtkmoepabnnjoaaaDoor
open Go.RowKit Go.WideMaps

def W64 : Nat := 18446744073709551616

/-- five words in memory that may be written -/
def WordsAt (w : World) (b off : Nat) (U : Nat → Nat) : Prop :=
  ∀ j, j < 5 → w.cell? ⟨b, off + j, none⟩ = some (.int .u64 ((U j : Nat) : Int)) ∧ w.frozen? ⟨b, off + j, none⟩ = false ∧ U j < 18446744073709551616

theorem WordsAt.set {w : World} {b off : Nat} {U : Nat → Nat} (h : WordsAt w b off U) (k m : Nat) (hk : k < 5) (hm : m < 18446744073709551616) :
    WordsAt (w.setCell ⟨b, off + k, none⟩ (.int .u64 (m : Int))) b off (fun j => if j = k then m else U j) := by
  intro j hj
  obtain ⟨h1, h2, h3⟩ := h j hj
  by_cases e : j = k
  · subst e
    exact ⟨by simp only [↓reduceIte]; exact World.cell?_setCell_same _ _ _ h1, by rw [World.frozen?_setCell]; exact h2, by simpa using hm⟩
  · refine ⟨?_, by rw [World.frozen?_setCell]; exact h2, by simpa [e] using h3⟩
    rw [World.cell?_setCell_other _ _ _ _ (by intro hh; injection hh with _ hh; omega), h1]
    simp [e]

theorem WordsAt.drew {w : World} {b off : Nat} {U : Nat → Nat} (h : WordsAt w b off U) : WordsAt w.drew b off U := h

theorem WordsAt.grown {w w' : World} {b off : Nat} {U : Nat → Nat} {row : Option Nat} (h : WordsAt w b off U) (hg : w.grownBy w' row) (hb : b < w.heap.size) (hne : some b ≠ row) : WordsAt w' b off U := by
  intro j hj
  obtain ⟨h1, h2, h3⟩ := h j hj
  exact ⟨(hg.cell_far ⟨b, off + j, none⟩ hb hne).trans h1, (hg.frozen_far ⟨b, off + j, none⟩ hb hne).trans h2, h3⟩

theorem WordsAt.below {w w' : World} {b off B : Nat} {U : Nat → Nat} (h : WordsAt w b off U) (hg : Below B w w') (hb : b < B) : WordsAt w' b off U := by
  intro j hj
  obtain ⟨h1, h2, h3⟩ := h j hj
  exact ⟨(hg.cell (p := ⟨b, off + j, none⟩) hb).trans h1, (hg.frozen (p := ⟨b, off + j, none⟩) hb).trans h2, h3⟩

theorem WordsAt.congr {w : World} {b off : Nat} {U U' : Nat → Nat} (h : WordsAt w b off U) (e : ∀ j, j < 5 → U j = U' j) : WordsAt w b off U' := by
  intro j hj
  rw [← e j hj]; exact h j hj

theorem grownBy_setCell (w : World) (a : Addr) (v : Value) : w.grownBy (w.setCell a v) (some a.block) :=
  ⟨rfl, rfl, rfl, by simp [World.setCell], fun k _ hne => Below.heap_setCell _ _ _ _ (fun e => hne (by rw [e]))⟩

theorem grownBy_drew {w w' : World} {row : Option Nat} (h : w.grownBy w' row) : w.grownBy w'.drew row := ⟨h.os, h.tape, h.output, h.size, h.block⟩

theorem or_bits (x y : Nat) (hx : x < 18446744073709551616) (hy : y < 18446744073709551616) : bits BinOp.or IntKind.u64 (x : Int) (y : Int) = ((x ||| y : Nat) : Int) := u64_or_nat x y hx hy
theorem or_lt (x y : Nat) (hx : x < 18446744073709551616) (hy : y < 18446744073709551616) : x ||| y < 18446744073709551616 := by
  have := Nat.or_lt_two_pow (n := 64) (x := x) (y := y) (by simpa using hx) (by simpa using hy)
  simpa using this

def wordsV (V : Nat → Nat) : Value := .agg #[.int .u64 ((V 0 : Nat) : Int), .int .u64 ((V 1 : Nat) : Int), .int .u64 ((V 2 : Nat) : Int), .int .u64 ((V 3 : Nat) : Int), .int .u64 ((V 4 : Nat) : Int)]

end Go.Proofs.YtkmoepabnnjoaaaDoor

/- Less. -/
namespace Go.Proofs.YtkmoepabnnjoaaaDoor
open Go.RowKit Go.WideMaps

def wordsOf (ys : List Nat) (j : Nat) : Nat := ys.foldl (fun a k => if k / 64 = j then a ||| 2 ^ (k % 64) else a) 0

/-- the words of the union of what is above some classes -/
def upW (ns : List Nm) (abv : Nat → List Nat) (l : List Nm) (j : Nat) : Nat := l.foldl (fun a c => a ||| wordsOf (abv (ixOf ns c)) j) 0

def upHas (ns : List Nm) (abv : Nat → List Nat) (l : List Nm) (c : Nm) : Bool := (upW ns abv l (ixOf ns c / 64)).testBit (ixOf ns c % 64)

/-- the classes above each class, as sets in memory -/
def AbvAt (w : World) (ga : Option Addr) (abv : Nat → List Nat) (n : Nat) : Prop :=
  0 < n → ∃ ba off, ga = some ⟨ba, off, none⟩ ∧ ba < w.heap.size ∧ ∀ i, i < n → WordsAt w ba (off + i * 5) (wordsOf (abv i))

theorem AbvAt.below {w w' : World} {B n : Nat} {ga : Option Addr} {abv : Nat → List Nat} (h : AbvAt w ga abv n) (hb : Below B w w') (hB : w.heap.size ≤ B) : AbvAt w' ga abv n := by
  intro hn
  obtain ⟨ba, off, e, h1, h2⟩ := h hn
  exact ⟨ba, off, e, by have := hb.size; omega, fun i hi => (h2 i hi).below hb (by omega)⟩

theorem bcell {W w1 : World} (hb : Below W.heap.size W w1) : (∀ b o, b < W.heap.size → w1.cell? ⟨b, o, none⟩ = W.cell? ⟨b, o, none⟩) ∧ (∀ b o, b < W.heap.size → w1.frozen? ⟨b, o, none⟩ = W.frozen? ⟨b, o, none⟩) :=
  ⟨fun b o h => hb.cell (p := ⟨b, o, none⟩) h, fun b o h => hb.frozen (p := ⟨b, o, none⟩) h⟩

theorem SlS.at {w : World} {a : Option Addr} {n cap : Nat} {ss : List Nm} (h : SlS w (.slice a n cap) ss) {k : Nat} (hk : k < ss.length) :
    ∃ b off x, a = some ⟨b, off, none⟩ ∧ b < w.heap.size ∧ w.cell? ⟨b, off + k, none⟩ = some (.string (bs x)) ∧ x.length ≤ maxLen ∧ x = ss.getD k [] := by
  obtain ⟨_, a', cap', he, hx⟩ := h
  injection he with e1 _ _
  subst e1
  obtain ⟨b, off, rfl, hb, hc, hw⟩ := hx (by omega)
  exact ⟨b, off, _, rfl, hb, hc k hk, hw _ (getD_mem ss [] k hk), rfl⟩

theorem take_snocD {α : Type} (l : List α) (d : α) (k : Nat) (hk : k < l.length) : l.take (k + 1) = l.take k ++ [l.getD k d] := by
  rw [List.take_succ_eq_append_getElem hk, List.getD_eq_getElem?_getD, List.getElem?_eq_getElem hk]; rfl

theorem below_alloc (w : World) (o : Obj) : Below w.heap.size w (w.alloc o) := (Below.refl _ w).alloc (Nat.le_refl _) _

/-- what is known of a signature in memory -/
def SigAt (w : World) (g : Value) (ns : List Nm) (abv : Nat → List Nat) : Prop :=
  ns.length ≤ 300 ∧ ∃ bm c1 ga capa c3 c4 c5, g = .agg #[.map (some bm), c1, .slice ga ns.length capa, c3, c4, c5] ∧ MapAt w bm ns ∧ AbvAt w ga abv ns.length

theorem SigAt.below {w w' : World} {B : Nat} {g : Value} {ns : List Nm} {abv : Nat → List Nat} (h : SigAt w g ns abv) (hb : Below B w w') (hB : w.heap.size ≤ B) : SigAt w' g ns abv := by
  obtain ⟨h0, bm, c1, ga, capa, c3, c4, c5, e, h1, h2⟩ := h
  exact ⟨h0, bm, c1, ga, capa, c3, c4, c5, e, h1.below hb (by have := h1.lt; omega), h2.below hb hB⟩

def lessB (ns : List Nm) (abv : Nat → List Nat) (ss ts : List Nm) : Bool := ss.all (inNs ns) && (ts.all (inNs ns) && ts.all (upHas ns abv ss))

end Go.Proofs.YtkmoepabnnjoaaaDoor

/- hasBelow. -/
namespace Go.Proofs.YtkmoepabnnjoaaaDoor
open Go.RowKit Go.WideMaps

def belowB (ns : List Nm) (abv : Nat → List Nat) (d c : Nm) : Bool := (wordsOf (abv (ixOf ns d)) (ixOf ns c / 64)).testBit (ixOf ns c % 64)
def dropB (ns : List Nm) (abv : Nat → List Nat) (c d : Nm) : Bool := !((ixOf ns d : Nat) == ixOf ns c) && belowB ns abv d c

theorem ixOf_lt {ns : List Nm} {x : Nm} (h : inNs ns x = true) : ixOf ns x < ns.length := by
  have hi := of_decide_eq_true h
  unfold ixOf; rw [if_pos hi]; exact List.idxOf_lt_length_of_mem hi

theorem any_drop_getD {α : Type} (l : List α) (d : α) (p : α → Bool) (k : Nat) (hk : k < l.length) :
    (l.drop k).any p = (p (l.getD k d) || (l.drop (k + 1)).any p) := by
  rw [List.drop_eq_getElem_cons hk, List.any_cons, List.getD_eq_getElem?_getD, List.getElem?_eq_getElem hk]
  rfl

end Go.Proofs.YtkmoepabnnjoaaaDoor
