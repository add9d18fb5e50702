/- Bit sets. -/
import Derived.Test.YtkmoepabnnjoaaaDoorMZ1
import Derived.Laws.BitsAllLaws
import Derived.WalkSmall
import Derived.RegionTactic
import Derived.Lib.Hide
import Derived.Maps.OwnSet
import Derived.Maps.OwnOps
import Derived.Maps.Views
import Derived.StringKeys
namespace Go.Proofs.YtkmoepabnnjoaaaDoor
open Go.RowKit

theorem pow_lt64 (i : Nat) : 2 ^ (i % 64) < 18446744073709551616 := by
  have : 2 ^ (i % 64) < 2 ^ 64 := Nat.pow_lt_pow_right (by omega) (Nat.mod_lt _ (by omega))
  simpa using this

theorem has_bit (m i : Nat) (hm : m < 18446744073709551616) :
    (bits BinOp.and IntKind.u64 ((m : Int) / 2 ^ (i % 64)) 1 == 1) = m.testBit (i % 64) := by
  have e : ((m : Int) / 2 ^ (i % 64)) = ((m / 2 ^ (i % 64) : Nat) : Int) := by push_cast; rfl
  have hle : m / 2 ^ (i % 64) ≤ m := Nat.div_le_self _ _
  rw [e, Nat.testBit_eq_decide_div_mod_eq]
  generalize m / 2 ^ (i % 64) = q at *
  rw [and_one_u64 _ (by omega) (by omega)]
  rw [Bool.eq_iff_iff]; simp; omega

theorem add_bit (m i : Nat) (hm : m < 18446744073709551616) :
    bits BinOp.or IntKind.u64 (m : Int) (IntKind.u64.wrap (2 ^ (i % 64))) = ((m ||| 2 ^ (i % 64) : Nat) : Int) := by
  have h := pow_lt64 i
  have e : IntKind.u64.wrap (2 ^ (i % 64)) = ((2 ^ (i % 64) : Nat) : Int) := by
    have e2 : ((2 : Int) ^ (i % 64)) = ((2 ^ (i % 64) : Nat) : Int) := by push_cast; rfl
    rw [e2]
    generalize 2 ^ (i % 64) = q at *
    exact IntWalk.u64_in _ (by omega)
  rw [e]
  exact u64_or_nat _ _ hm h

theorem or_lt64 (m i : Nat) (hm : m < 18446744073709551616) : m ||| 2 ^ (i % 64) < 18446744073709551616 := by
  have := Nat.or_lt_two_pow (n := 64) (x := m) (y := 2 ^ (i % 64)) (by simpa using hm) (by simpa using pow_lt64 i)
  simpa using this

end Go.Proofs.YtkmoepabnnjoaaaDoor

/- The map of class names; Known. -/
namespace Go.Proofs.YtkmoepabnnjoaaaDoor
open Go.RowKit Go.WideMaps

abbrev Nm := List UInt8
def bs (l : Nm) : ByteArray := ⟨l.toArray⟩
theorem bs_list (l : Nm) : (bs l).data.toList = l := rfl
theorem bs_of (s : ByteArray) : bs s.data.toList = s := rfl
theorem bs_size (l : Nm) : (bs l).size = l.length := by simp [bs, ByteArray.size]

/-- the index of a name among some, 0 for none -/
def ixOf (ns : List Nm) (s : Nm) : Nat := if s ∈ ns then ns.idxOf s else 0
def inNs (ns : List Nm) (s : Nm) : Bool := decide (s ∈ ns)

/-- block b is the map of the names ns to their indices -/
def MapAt (w : World) (b : Nat) (ns : List Nm) : Prop :=
  ∃ D : DataW Unit, Maps.IsMap D ∧ w.ownsMap Tryd.prog 9 (plainElem Tryd.prog 3) b ns.length D ∧
    ∀ s : Nm, Maps.has D (.string s) = inNs ns s ∧ D.atKey (.string s) (.lit (.int .i64 0)) = .lit (.int .i64 ((ixOf ns s : Nat) : Int))

theorem zeroE (w : World) : (zeroValue 3).run Tryd.prog w = .ok (.int .i64 0) w := by kernel_rfl

theorem key_bs {s : Nm} (hs : s.length ≤ maxLen) : keyOf Tryd.prog 9 (.string (bs s)) = some (.string s) :=
  WideMaps.keyOf_string_mk Tryd.underlying9 (s := bs s) (by rw [bs_size]; exact hs)

theorem MapAt.lt {w : World} {b : Nat} {ns : List Nm} (h : MapAt w b ns) : b < w.heap.size := by
  obtain ⟨D, _, h, _⟩ := h; exact h.lt
theorem MapAt.kept {w w' : World} {b : Nat} {ns : List Nm} {row : Option Nat} (h : MapAt w b ns) (hg : w.grownBy w' row) (hne : some b ≠ row) : MapAt w' b ns := by
  obtain ⟨D, h1, h, h2⟩ := h; exact ⟨D, h1, h.kept hg hne, h2⟩
theorem MapAt.alloc {w : World} {b : Nat} {ns : List Nm} (h : MapAt w b ns) (o : Obj) : MapAt (w.alloc o) b ns := by
  obtain ⟨D, h1, h, h2⟩ := h; exact ⟨D, h1, h.alloc o, h2⟩
theorem MapAt.below {w w' : World} {B b : Nat} {ns : List Nm} (h : MapAt w b ns) (hb : Below B w w') (hB : b < B) : MapAt w' b ns := by
  obtain ⟨D, h1, ⟨es, cl, e1, e2⟩, h2⟩ := h; exact ⟨D, h1, ⟨es, cl, (hb.block b hB).trans e1, e2⟩, h2⟩

/-- the first cells of a row of strings -/
def StrsAt (w : World) (b off : Nat) (ss : List Nm) : Prop :=
  (∀ i, i < ss.length → w.cell? ⟨b, off + i, none⟩ = some (.string (bs (ss.getD i [])))) ∧ ∀ s ∈ ss, s.length ≤ maxLen

theorem StrsAt.below {w w' : World} {B b off : Nat} {ss : List Nm} (h : StrsAt w b off ss) (hb : Below B w w') (hB : b < B) : StrsAt w' b off ss :=
  ⟨fun i hi => (hb.cell (p := ⟨b, off + i, none⟩) hB).trans (h.1 i hi), h.2⟩

theorem getD_mem {α : Type} (l : List α) (d : α) (i : Nat) (h : i < l.length) : l.getD i d ∈ l := by
  rw [List.getD_eq_getElem?_getD, List.getElem?_eq_getElem h]; simp

/-- a slice value over a row of strings; where there are none, whatever it points to -/
def SlS (w : World) (v : Value) (ss : List Nm) : Prop :=
  ss.length ≤ maxLen ∧ ∃ a cap, v = .slice a ss.length cap ∧ (0 < ss.length → ∃ b off, a = some ⟨b, off, none⟩ ∧ b < w.heap.size ∧ StrsAt w b off ss)

theorem SlS.below {w w' : World} {B : Nat} {v : Value} {ss : List Nm} (h : SlS w v ss) (hb : Below B w w') (hB : w.heap.size ≤ B) : SlS w' v ss := by
  obtain ⟨h1, a, cap, h2, h3⟩ := h
  refine ⟨h1, a, cap, h2, fun h => ?_⟩
  obtain ⟨b, off, h4, h5, h6⟩ := h3 h
  exact ⟨b, off, h4, by have := hb.size; omega, h6.below hb (by omega)⟩

theorem all_drop_getD {α : Type} (l : List α) (d : α) (p : α → Bool) (k : Nat) (hk : k < l.length) :
    (l.drop k).all p = (p (l.getD k d) && (l.drop (k + 1)).all p) := by
  rw [List.drop_eq_getElem_cons hk, List.all_cons, List.getD_eq_getElem?_getD, List.getElem?_eq_getElem hk]
  rfl

end Go.Proofs.YtkmoepabnnjoaaaDoor
