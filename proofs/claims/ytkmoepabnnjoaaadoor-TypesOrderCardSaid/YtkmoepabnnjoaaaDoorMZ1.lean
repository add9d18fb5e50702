/- Leaf functions. -/
import Derived.Test.YtkmoepabnnjoaaaDoorProg
import Derived.WalkKit
import Derived.WalkSpells
import Derived.WalkLawsBesides
namespace Go.Proofs.YtkmoepabnnjoaaaDoor
open Go.RowKit

def beginsB (n : Int) : Bool := decide (97 ≤ n ∧ n ≤ 122 ∨ 65 ≤ n ∧ n ≤ 90 ∨ n = 95)
def inB (n : Int) : Bool := beginsB n || decide (48 ≤ n ∧ n ≤ 57 ∨ n = 39 ∨ n = 46)

theorem ret_bool {a b : Bool} (h : a = b) : Ending.returned (.bool a) = .returned (.bool b) := by rw [h]

set_option maxHeartbeats 400000 in
theorem begins_any (n : Int) (w : World) :
    Calls Tryd.prog 62 #[.int .u8 n] w fun e w' => e = .returned (.bool (beginsB n)) ∧ w = w' := by
  go_enter Tryd.func62, Tryd.ntmps62
  go_wp2
  all_goals
    go_ret
    refine ⟨ret_bool ?_, rfl⟩
    unfold beginsB
    rw [Bool.eq_iff_iff]
    simp
    try omega

set_option maxHeartbeats 400000 in
theorem in_any (n : Int) (w : World) :
    Calls Tryd.prog 63 #[.int .u8 n] w fun e w' => e = .returned (.bool (inB n)) ∧ w = w' := by
  go_enter Tryd.func63, Tryd.ntmps63
  go_wp2_with (go_at_call 62; refine (begins_any _ _).mono ?_; rintro e w' ⟨rfl, rfl⟩)
  all_goals
    go_ret
    refine ⟨ret_bool ?_, rfl⟩
    unfold inB
    rw [Bool.eq_iff_iff]
    simp [*]
    try omega

def byteI (c : UInt8) : Int := (c.toNat : Int)
def isNameB (s : ByteArray) : Bool :=
  decide (0 < s.size) && decide (s.size ≤ 40) && beginsB (byteI (s.data.toList.getD 0 0)) && (s.data.toList.drop 1).all (fun c => inB (byteI c))

theorem byte_getD (s : ByteArray) (k : Nat) (h : k < s.size) : s.data.toList.getD k 0 = s[k] := by
  have hk : k < s.data.toList.length := by simpa using h
  rw [List.getD_eq_getElem?_getD, List.getElem?_eq_getElem hk]
  rfl

theorem all_drop_succ (l : List UInt8) (p : UInt8 → Bool) (k : Nat) (hk : k < l.length) :
    (l.drop k).all p = (p (l.getD k 0) && (l.drop (k + 1)).all p) := by
  rw [List.drop_eq_getElem_cons hk, List.all_cons, List.getD_eq_getElem?_getD, List.getElem?_eq_getElem hk]
  rfl

set_option maxHeartbeats 400000 in
theorem isName_any (s : ByteArray) (w : World) (hs : s.size ≤ maxLen) :
    Calls Tryd.prog 55 #[.string s] w fun e w' => e = .returned (.bool (isNameB s)) ∧ w = w' := by
  unfold maxLen at hs
  by_cases h0 : s.size = 0
  · have h1 : ((s.size : Int) == 0) = true := by simp [h0]
    have HF : Hid (isNameB s = false) := by unfold isNameB Hid; simp [h0]
    clear h0
    go_enter Tryd.func55, Tryd.ntmps55
    go_wp2_with (go_at_call 62; refine (begins_any _ _).mono ?_; rintro e w' ⟨rfl, rfl⟩)
    go_ret
    exact ⟨ret_bool HF.out.symm, rfl⟩
  · have h0' : 0 < s.size := by omega
    have h1 : ((s.size : Int) == 0) = false := by rw [beq_eq_false_iff_ne]; omega
    by_cases h4 : s.size ≤ 40
    · have h5 : decide ((s.size : Int) > 40) = false := by simp; omega
      have h6 : decide (40 < (s.size : Int)) = false := by simp; omega
      have hb0 := byte_getD s 0 h0'
      by_cases hb : beginsB (byteI (s.data.toList.getD 0 0)) = true
      · have HI : Hid (isNameB s = (s.data.toList.drop 1).all (fun c => inB (byteI c))) := by
          unfold isNameB Hid; rw [hb]; simp [h0', h4]
        have hb1 : beginsB (s[0].toNat : Int) = true := by rw [hb0] at hb; exact hb
        clear hb hb0 h0
        go_enter Tryd.func55, Tryd.ntmps55
        go_wp2_with (go_at_call 62; refine (begins_any _ _).mono ?_; rintro e w' ⟨rfl, rfl⟩)
        go_loop [3] (fun i => ∃ k : Nat, 1 ≤ k ∧ k ≤ s.size ∧ i = .int .i64 k ∧ Hid (isNameB s = (s.data.toList.drop k).all (fun c => inB (byteI c)))) (fun i => s.size - (intOf i).toNat)
        case atStart => exact ⟨1, by omega, by omega, rfl, HI⟩
        case round =>
          obtain ⟨k, hk1, hk, rfl, hI⟩ := hrel
          by_cases hlt : k < s.size
          · have hst : Hid ((s.data.toList.drop k).all (fun c => inB (byteI c)) = (inB (s[k].toNat : Int) && (s.data.toList.drop (k + 1)).all (fun c => inB (byteI c)))) := by
              unfold Hid
              rw [all_drop_succ _ _ _ (by simpa using hlt), byte_getD s k hlt]; rfl
            by_cases hin : inB (s[k].toNat : Int) = true
            · have hst2 : Hid (isNameB s = (s.data.toList.drop (k + 1)).all (fun c => inB (byteI c))) := by
                unfold Hid; rw [hI.out, hst.out, hin]; simp
              clear hst hI HI
              go_wp2_with (go_at_call 63; refine (in_any _ _).mono ?_; rintro e w' ⟨rfl, rfl⟩)
              go_round
              case rel => exact ⟨k + 1, by omega, by omega, by go_num, hst2⟩
              case measure => simp [intOf]; omega
            · have hin' : inB (s[k].toNat : Int) = false := by simpa using hin
              have hst2 : Hid (isNameB s = false) := by
                unfold Hid; rw [hI.out, hst.out, hin']; simp
              clear hst hI HI hin
              go_wp2_with (go_at_call 63; refine (in_any _ _).mono ?_; rintro e w' ⟨rfl, rfl⟩)
              go_ret
              exact ⟨ret_bool hst2.out.symm, rfl⟩
          · have hst2 : Hid (isNameB s = true) := by
              unfold Hid; rw [hI.out, List.drop_eq_nil_of_le (by simp; omega)]; rfl
            clear hI HI
            go_wp2_with (go_at_call 63; refine (in_any _ _).mono ?_; rintro e w' ⟨rfl, rfl⟩)
            go_ret
            exact ⟨ret_bool hst2.out.symm, rfl⟩
      · have hb' : beginsB (byteI (s.data.toList.getD 0 0)) = false := by simpa using hb
        have HI : Hid (isNameB s = false) := by unfold isNameB Hid; rw [hb']; simp
        have hb1 : beginsB (s[0].toNat : Int) = false := by rw [hb0] at hb'; exact hb'
        clear hb hb' hb0 h0
        go_enter Tryd.func55, Tryd.ntmps55
        go_wp2_with (go_at_call 62; refine (begins_any _ _).mono ?_; rintro e w' ⟨rfl, rfl⟩)
        go_ret
        exact ⟨ret_bool HI.out.symm, rfl⟩
    · have HI : Hid (isNameB s = false) := by unfold isNameB Hid; simp [h4]
      have h6 : decide (40 < (s.size : Int)) = true := by simp; omega
      clear h0 h4
      go_enter Tryd.func55, Tryd.ntmps55
      go_wp2_with (go_at_call 62; refine (begins_any _ _).mono ?_; rintro e w' ⟨rfl, rfl⟩)
      go_ret
      exact ⟨ret_bool HI.out.symm, rfl⟩

end Go.Proofs.YtkmoepabnnjoaaaDoor

