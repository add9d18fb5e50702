/- Bit sets. -/
import Derived.Test.YtehnikgdjnmfcaaA
import Derived.Laws.BitsAllLaws
import Derived.WalkSmall
import Derived.RegionTactic
import Derived.Lib.Hide
namespace Go.Proofs.Ytehnikgdjnmfcaa
open Go.RowKit

theorem pow_lt64 (i : Nat) : 2 ^ (i % 64) < 18446744073709551616 := by
  have : 2 ^ (i % 64) < 2 ^ 64 := Nat.pow_lt_pow_right (by omega) (Nat.mod_lt _ (by omega))
  simpa using this

theorem has_bit (m i : Nat) (hm : m < 18446744073709551616) :
    (bits BinOp.and IntKind.u64 ((m : Int) / 2 ^ (i % 64)) 1 == 1) = m.testBit (i % 64) := by
  have e : ((m : Int) / 2 ^ (i % 64)) = ((m / 2 ^ (i % 64) : Nat) : Int) := by push_cast; rfl
  have hle : m / 2 ^ (i % 64) ≤ m := Nat.div_le_self _ _
  rw [e, Nat.testBit_eq_decide_div_mod_eq]
  generalize m / 2 ^ (i % 64) = q at *
  rw [and_one_u64 _ (by omega) (by omega)]
  rw [Bool.eq_iff_iff]; simp; omega

theorem add_bit (m i : Nat) (hm : m < 18446744073709551616) :
    bits BinOp.or IntKind.u64 (m : Int) (IntKind.u64.wrap (2 ^ (i % 64))) = ((m ||| 2 ^ (i % 64) : Nat) : Int) := by
  have h := pow_lt64 i
  have e : IntKind.u64.wrap (2 ^ (i % 64)) = ((2 ^ (i % 64) : Nat) : Int) := by
    have e2 : ((2 : Int) ^ (i % 64)) = ((2 ^ (i % 64) : Nat) : Int) := by push_cast; rfl
    rw [e2]
    generalize 2 ^ (i % 64) = q at *
    exact IntWalk.u64_in _ (by omega)
  rw [e]
  exact u64_or_nat _ _ hm h

theorem or_lt64 (m i : Nat) (hm : m < 18446744073709551616) : m ||| 2 ^ (i % 64) < 18446744073709551616 := by
  have := Nat.or_lt_two_pow (n := 64) (x := m) (y := 2 ^ (i % 64)) (by simpa using hm) (by simpa using pow_lt64 i)
  simpa using this

set_option maxHeartbeats 400000 in
theorem has_any (b off : Nat) (i : Nat) (m : Nat) (w : World) (hi : i < 320) (hm : m < 18446744073709551616)
    (hc : w.cell? ⟨b, off + i / 64, none⟩ = some (.int .u64 (m : Int))) :
    Calls Try.prog 61 #[.pointer (some ⟨b, off, none⟩), .int .i64 i] w fun e w' => e = .returned (.bool (m.testBit (i % 64))) ∧ w = w' := by
  have HB := Lib.hid (has_bit m i hm)
  go_enter Try.func61, Try.ntmps61
  go_wp2
  go_ret
  exact ⟨ret_bool HB.out, rfl⟩

set_option maxHeartbeats 400000 in
theorem add_any (b off : Nat) (i : Nat) (m : Nat) (w : World) (hi : i < 320) (hm : m < 18446744073709551616)
    (hc : w.cell? ⟨b, off + i / 64, none⟩ = some (.int .u64 (m : Int))) (hf : w.frozen? ⟨b, off + i / 64, none⟩ = false) :
    Calls Try.prog 74 #[.pointer (some ⟨b, off, none⟩), .int .i64 i] w fun e w' => e = .returned (.tuple #[]) ∧ w' = (w.setCell ⟨b, off + i / 64, none⟩ (.int .u64 ((m ||| 2 ^ (i % 64) : Nat) : Int))).drew := by
  have HB := Lib.hid (add_bit m i hm)
  go_enter Try.func74, Try.ntmps74
  go_wp2
  go_region
  all_goals
    go_end0
    exact ⟨rfl, by rw [HB.out]⟩
end Go.Proofs.Ytehnikgdjnmfcaa
