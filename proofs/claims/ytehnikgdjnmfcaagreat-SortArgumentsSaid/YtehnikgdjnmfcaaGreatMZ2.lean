/- Bit sets. -/
import Derived.Test.YtehnikgdjnmfcaaGreatMZ1
import Derived.Laws.BitsAllLaws
import Derived.WalkSmall
import Derived.RegionTactic
import Derived.Lib.Hide
import Derived.Maps.OwnSet
import Derived.Maps.OwnOps
import Derived.Maps.Views
import Derived.StringKeys
namespace Go.Proofs.YtehnikgdjnmfcaaGreat
open Go.RowKit

theorem pow_lt64 (i : Nat) : 2 ^ (i % 64) < 18446744073709551616 := by
  have : 2 ^ (i % 64) < 2 ^ 64 := Nat.pow_lt_pow_right (by omega) (Nat.mod_lt _ (by omega))
  simpa using this

theorem has_bit (m i : Nat) (hm : m < 18446744073709551616) :
    (bits BinOp.and IntKind.u64 ((m : Int) / 2 ^ (i % 64)) 1 == 1) = m.testBit (i % 64) := by
  have e : ((m : Int) / 2 ^ (i % 64)) = ((m / 2 ^ (i % 64) : Nat) : Int) := by push_cast; rfl
  have hle : m / 2 ^ (i % 64) ≤ m := Nat.div_le_self _ _
  rw [e, Nat.testBit_eq_decide_div_mod_eq]
  generalize m / 2 ^ (i % 64) = q at *
  rw [and_one_u64 _ (by omega) (by omega)]
  rw [Bool.eq_iff_iff]; simp; omega

theorem add_bit (m i : Nat) (hm : m < 18446744073709551616) :
    bits BinOp.or IntKind.u64 (m : Int) (IntKind.u64.wrap (2 ^ (i % 64))) = ((m ||| 2 ^ (i % 64) : Nat) : Int) := by
  have h := pow_lt64 i
  have e : IntKind.u64.wrap (2 ^ (i % 64)) = ((2 ^ (i % 64) : Nat) : Int) := by
    have e2 : ((2 : Int) ^ (i % 64)) = ((2 ^ (i % 64) : Nat) : Int) := by push_cast; rfl
    rw [e2]
    generalize 2 ^ (i % 64) = q at *
    exact IntWalk.u64_in _ (by omega)
  rw [e]
  exact u64_or_nat _ _ hm h

theorem or_lt64 (m i : Nat) (hm : m < 18446744073709551616) : m ||| 2 ^ (i % 64) < 18446744073709551616 := by
  have := Nat.or_lt_two_pow (n := 64) (x := m) (y := 2 ^ (i % 64)) (by simpa using hm) (by simpa using pow_lt64 i)
  simpa using this

set_option maxHeartbeats 400000 in
theorem has_any (b off : Nat) (i : Nat) (m : Nat) (w : World) (hi : i < 320) (hm : m < 18446744073709551616)
    (hc : w.cell? ⟨b, off + i / 64, none⟩ = some (.int .u64 (m : Int))) :
    Calls Tryz.prog 75 #[.pointer (some ⟨b, off, none⟩), .int .i64 i] w fun e w' => e = .returned (.bool (m.testBit (i % 64))) ∧ w = w' := by
  have HB := Lib.hid (has_bit m i hm)
  go_enter Tryz.func75, Tryz.ntmps75
  go_wp2
  go_ret
  exact ⟨ret_bool HB.out, rfl⟩

set_option maxHeartbeats 400000 in
theorem add_any (b off : Nat) (i : Nat) (m : Nat) (w : World) (hi : i < 320) (hm : m < 18446744073709551616)
    (hc : w.cell? ⟨b, off + i / 64, none⟩ = some (.int .u64 (m : Int))) (hf : w.frozen? ⟨b, off + i / 64, none⟩ = false) :
    Calls Tryz.prog 72 #[.pointer (some ⟨b, off, none⟩), .int .i64 i] w fun e w' => e = .returned (.tuple #[]) ∧ w' = (w.setCell ⟨b, off + i / 64, none⟩ (.int .u64 ((m ||| 2 ^ (i % 64) : Nat) : Int))).drew := by
  have HB := Lib.hid (add_bit m i hm)
  go_enter Tryz.func72, Tryz.ntmps72
  go_wp2
  go_region
  all_goals
    go_end0
    exact ⟨rfl, by rw [HB.out]⟩
end Go.Proofs.YtehnikgdjnmfcaaGreat

/- The map of class names; Known. -/
namespace Go.Proofs.YtehnikgdjnmfcaaGreat
open Go.RowKit Go.WideMaps

abbrev Nm := List UInt8
def bs (l : Nm) : ByteArray := ⟨l.toArray⟩
theorem bs_list (l : Nm) : (bs l).data.toList = l := rfl
theorem bs_of (s : ByteArray) : bs s.data.toList = s := rfl
theorem bs_size (l : Nm) : (bs l).size = l.length := by simp [bs, ByteArray.size]

/-- the index of a name among some, 0 for none -/
def ixOf (ns : List Nm) (s : Nm) : Nat := if s ∈ ns then ns.idxOf s else 0
def inNs (ns : List Nm) (s : Nm) : Bool := decide (s ∈ ns)

/-- block b is the map of the names ns to their indices -/
def MapAt (w : World) (b : Nat) (ns : List Nm) : Prop :=
  ∃ D : DataW Unit, Maps.IsMap D ∧ w.ownsMap Tryz.prog 9 (plainElem Tryz.prog 3) b ns.length D ∧
    ∀ s : Nm, Maps.has D (.string s) = inNs ns s ∧ D.atKey (.string s) (.lit (.int .i64 0)) = .lit (.int .i64 ((ixOf ns s : Nat) : Int))

theorem zeroE (w : World) : (zeroValue 3).run Tryz.prog w = .ok (.int .i64 0) w := by kernel_rfl

theorem key_bs {s : Nm} (hs : s.length ≤ maxLen) : keyOf Tryz.prog 9 (.string (bs s)) = some (.string s) :=
  WideMaps.keyOf_string_mk Tryz.underlying9 (s := bs s) (by rw [bs_size]; exact hs)

theorem wpList_mapAt_ok (w : World) {ops : Array Oper} {rest : List Oper} {o : Oper} {a : Act} {Q : Exit → Act → World → Prop}
    (hg : o.guard = none) (m x : Operand) (hop : o.op = Op.lookup 58 m x true) (b : Nat) (hm : a.eval m = .map (some b)) (ns : List Nm) (hown : MapAt w b ns)
    (s : Nm) (hx : a.eval x = .string (bs s)) (hs : s.length ≤ maxLen)
    (hK : wpList Tryz.prog ops Q rest (a.put o.dst (.tuple #[.int .i64 ((ixOf ns s : Nat) : Int), .bool (inNs ns s)])) w) :
    wpList Tryz.prog ops Q (o :: rest) a w := by
  obtain ⟨D, _, hown, hD⟩ := hown
  refine wpList_lookup_own_ok_int w hg m x 58 hop 9 3 .i64 (Maps.string_keyed Tryz.underlying9) Tryz.underlying58 Tryz.underlying3 (zeroE _) b ns.length D hm hown _ _ hx (key_bs hs) ?_
  intro c hat _
  obtain ⟨h1, h2⟩ := hD s
  rw [h2] at hat
  injection hat with hat
  injection hat with _ hat
  rw [h1, ← hat]
  exact hK

theorem wpList_mapAt (w : World) {ops : Array Oper} {rest : List Oper} {o : Oper} {a : Act} {Q : Exit → Act → World → Prop}
    (hg : o.guard = none) (m x : Operand) (hop : o.op = Op.lookup 58 m x false) (b : Nat) (hm : a.eval m = .map (some b)) (ns : List Nm) (hown : MapAt w b ns)
    (s : Nm) (hx : a.eval x = .string (bs s)) (hs : s.length ≤ maxLen)
    (hK : wpList Tryz.prog ops Q rest (a.put o.dst (.int .i64 ((ixOf ns s : Nat) : Int))) w) :
    wpList Tryz.prog ops Q (o :: rest) a w := by
  obtain ⟨D, _, hown, hD⟩ := hown
  refine wpList_lookup_own_int w hg m x 58 hop 9 3 .i64 (Maps.string_keyed Tryz.underlying9) Tryz.underlying58 Tryz.underlying3 (zeroE _) b ns.length D hm hown _ _ hx (key_bs hs) ?_
  intro c hat _
  obtain ⟨h1, h2⟩ := hD s
  rw [h2] at hat
  injection hat with hat
  injection hat with _ hat
  rw [← hat]
  exact hK

theorem MapAt.lt {w : World} {b : Nat} {ns : List Nm} (h : MapAt w b ns) : b < w.heap.size := by
  obtain ⟨D, _, h, _⟩ := h; exact h.lt
theorem MapAt.kept {w w' : World} {b : Nat} {ns : List Nm} {row : Option Nat} (h : MapAt w b ns) (hg : w.grownBy w' row) (hne : some b ≠ row) : MapAt w' b ns := by
  obtain ⟨D, h1, h, h2⟩ := h; exact ⟨D, h1, h.kept hg hne, h2⟩
theorem MapAt.alloc {w : World} {b : Nat} {ns : List Nm} (h : MapAt w b ns) (o : Obj) : MapAt (w.alloc o) b ns := by
  obtain ⟨D, h1, h, h2⟩ := h; exact ⟨D, h1, h.alloc o, h2⟩
theorem MapAt.below {w w' : World} {B b : Nat} {ns : List Nm} (h : MapAt w b ns) (hb : Below B w w') (hB : b < B) : MapAt w' b ns := by
  obtain ⟨D, h1, ⟨es, cl, e1, e2⟩, h2⟩ := h; exact ⟨D, h1, ⟨es, cl, (hb.block b hB).trans e1, e2⟩, h2⟩

/-- the first cells of a row of strings -/
def StrsAt (w : World) (b off : Nat) (ss : List Nm) : Prop :=
  (∀ i, i < ss.length → w.cell? ⟨b, off + i, none⟩ = some (.string (bs (ss.getD i [])))) ∧ ∀ s ∈ ss, s.length ≤ maxLen

theorem StrsAt.below {w w' : World} {B b off : Nat} {ss : List Nm} (h : StrsAt w b off ss) (hb : Below B w w') (hB : b < B) : StrsAt w' b off ss :=
  ⟨fun i hi => (hb.cell (p := ⟨b, off + i, none⟩) hB).trans (h.1 i hi), h.2⟩

theorem getD_mem {α : Type} (l : List α) (d : α) (i : Nat) (h : i < l.length) : l.getD i d ∈ l := by
  rw [List.getD_eq_getElem?_getD, List.getElem?_eq_getElem h]; simp

/-- a slice value over a row of strings; where there are none, whatever it points to -/
def SlS (w : World) (v : Value) (ss : List Nm) : Prop :=
  ss.length ≤ maxLen ∧ ∃ a cap, v = .slice a ss.length cap ∧ (0 < ss.length → ∃ b off, a = some ⟨b, off, none⟩ ∧ b < w.heap.size ∧ StrsAt w b off ss)

theorem SlS.below {w w' : World} {B : Nat} {v : Value} {ss : List Nm} (h : SlS w v ss) (hb : Below B w w') (hB : w.heap.size ≤ B) : SlS w' v ss := by
  obtain ⟨h1, a, cap, h2, h3⟩ := h
  refine ⟨h1, a, cap, h2, fun h => ?_⟩
  obtain ⟨b, off, h4, h5, h6⟩ := h3 h
  exact ⟨b, off, h4, by have := hb.size; omega, h6.below hb (by omega)⟩

theorem all_drop_getD {α : Type} (l : List α) (d : α) (p : α → Bool) (k : Nat) (hk : k < l.length) :
    (l.drop k).all p = (p (l.getD k d) && (l.drop (k + 1)).all p) := by
  rw [List.drop_eq_getElem_cons hk, List.all_cons, List.getD_eq_getElem?_getD, List.getElem?_eq_getElem hk]
  rfl

set_option maxHeartbeats 400000 in
theorem known_any (bm : Nat) (c1 c2 c3 c4 c5 v : Value) (ss ns : List Nm) (w : World) (hm : MapAt w bm ns) (hv : SlS w v ss) :
    Calls Tryz.prog 46 #[.agg #[.map (some bm), c1, c2, c3, c4, c5], v] w fun e w' => e = .returned (.bool (ss.all (inNs ns))) ∧ Below w.heap.size w w' := by
  obtain ⟨hl, a, cap, rfl, hs⟩ := hv
  unfold maxLen at hl
  have hm1 := hm.alloc (Obj.cells #[.map (some bm), c1, c2, c3, c4, c5] 63)
  have HS := Lib.hid hs
  clear hs hm
  have H0 : Hid (ss.all (inNs ns) = (ss.drop 0).all (inNs ns)) := rfl
  go_enter Tryz.func46, Tryz.ntmps46
  go_wp2
  go_loop [11] (fun i => ∃ k : Nat, k ≤ ss.length ∧ i = .int .i64 k ∧ Hid (ss.all (inNs ns) = (ss.drop k).all (inNs ns))) (fun i => ss.length - (intOf i).toNat)
  case atStart => exact ⟨0, by omega, rfl, H0⟩
  case round =>
    obtain ⟨k, hk, rfl, hI⟩ := hrel
    by_cases hlt : k < ss.length
    · obtain ⟨b, off, rfl, hb, hc, hw⟩ := HS.out (by omega)
      have hck := hc k hlt
      have hwk : (ss.getD k []).length ≤ maxLen := hw _ (getD_mem ss [] k hlt)
      generalize hx : ss.getD k [] = x at *
      have hstep : Hid (ss.all (inNs ns) = (inNs ns x && (ss.drop (k + 1)).all (inNs ns))) := by
        unfold Hid; rw [hI.out, all_drop_getD _ [] _ _ hlt, hx]
      clear hx hc hw hI H0 HS
      by_cases hin : inNs ns x = true
      · have hst2 : Hid (ss.all (inNs ns) = (ss.drop (k + 1)).all (inNs ns)) := by
          unfold Hid; rw [hstep.out, hin]; simp
        clear hstep
        go_wp2_with (at_lookup; refine wpList_mapAt_ok _ rfl _ _ rfl bm rfl ns hm1 x rfl hwk ?_)
        go_round
        case rel => exact ⟨k + 1, by omega, by go_num, hst2⟩
        case measure => simp [intOf]; omega
      · have hin' : inNs ns x = false := by simpa using hin
        have hst2 : Hid (ss.all (inNs ns) = false) := by
          unfold Hid; rw [hstep.out, hin']; simp
        clear hstep hin
        go_wp2_with (at_lookup; refine wpList_mapAt_ok _ rfl _ _ rfl bm rfl ns hm1 x rfl hwk ?_)
        go_ret
        exact ⟨ret_bool hst2.out.symm, (Below.refl _ w).alloc (Nat.le_refl _) _⟩
    · clear HS
      have hst2 : Hid (ss.all (inNs ns) = true) := by
        unfold Hid; rw [hI.out, List.drop_eq_nil_of_le (by omega)]; rfl
      clear hI H0
      go_wp2
      go_ret
      exact ⟨ret_bool hst2.out.symm, (Below.refl _ w).alloc (Nat.le_refl _) _⟩

end Go.Proofs.YtehnikgdjnmfcaaGreat
