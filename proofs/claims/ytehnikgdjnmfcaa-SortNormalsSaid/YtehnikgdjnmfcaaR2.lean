/- The reference: IsName. -/
import Derived.Test.YtehnikgdjnmfcaaR1
namespace Go.Proofs.Ytehnikgdjnmfcaa
open Go.RowKit Go.WideMaps Go.Shelf

def Tests (x : Int) (b1 b2 b3 b4 b5 b6 b7 b8 b9 l m : Bool) : Prop :=
  decide (97 ≤ x) = b1 ∧ decide (x ≤ 122) = b2 ∧ decide (65 ≤ x) = b3 ∧ decide (x ≤ 90) = b4 ∧ (x == 95) = b5 ∧ decide (48 ≤ x) = b6 ∧ decide (x ≤ 57) = b7 ∧ (x == 39) = b8 ∧ (x == 46) = b9 ∧ beginsB x = l ∧ inB x = m

theorem tests (x : Int) : Tests x true true true false false true false false false true true ∨ Tests x false true true true false true false false false true true ∨ Tests x false true true false true true false false false true true ∨ Tests x false true false true false true true false false false true ∨ Tests x false true false true false false true true false false true ∨ Tests x false true false true false false true false true false true ∨ Tests x false true false true false false true false false false false ∨ Tests x false true false true false true false false false false false ∨ Tests x false true true false false true false false false false false ∨ Tests x true false true false false true false false false false false := by
  by_cases hA : 97 ≤ x ∧ x ≤ 122
  · exact .inl (by unfold Tests beginsB; refine ⟨?_, ?_, ?_, ?_, ?_, ?_, ?_, ?_, ?_, ?_, ?_⟩ <;> simp [inB, beginsB] <;> omega)
  by_cases hB : 65 ≤ x ∧ x ≤ 90
  · exact .inr (.inl (by unfold Tests beginsB; refine ⟨?_, ?_, ?_, ?_, ?_, ?_, ?_, ?_, ?_, ?_, ?_⟩ <;> simp [inB, beginsB] <;> omega))
  by_cases hC : x = 95
  · exact .inr (.inr (.inl (by unfold Tests beginsB; refine ⟨?_, ?_, ?_, ?_, ?_, ?_, ?_, ?_, ?_, ?_, ?_⟩ <;> simp [inB, beginsB] <;> omega)))
  by_cases hD : 48 ≤ x ∧ x ≤ 57
  · exact .inr (.inr (.inr (.inl (by unfold Tests beginsB; refine ⟨?_, ?_, ?_, ?_, ?_, ?_, ?_, ?_, ?_, ?_, ?_⟩ <;> simp [inB, beginsB] <;> omega))))
  by_cases hE : x = 39
  · exact .inr (.inr (.inr (.inr (.inl (by unfold Tests beginsB; refine ⟨?_, ?_, ?_, ?_, ?_, ?_, ?_, ?_, ?_, ?_, ?_⟩ <;> simp [inB, beginsB] <;> omega)))))
  by_cases hF : x = 46
  · exact .inr (.inr (.inr (.inr (.inr (.inl (by unfold Tests beginsB; refine ⟨?_, ?_, ?_, ?_, ?_, ?_, ?_, ?_, ?_, ?_, ?_⟩ <;> simp [inB, beginsB] <;> omega))))))
  by_cases hG : x < 48
  · exact .inr (.inr (.inr (.inr (.inr (.inr (.inl (by unfold Tests beginsB; refine ⟨?_, ?_, ?_, ?_, ?_, ?_, ?_, ?_, ?_, ?_, ?_⟩ <;> simp [inB, beginsB] <;> omega)))))))
  by_cases hH : x ≤ 64
  · exact .inr (.inr (.inr (.inr (.inr (.inr (.inr (.inl (by unfold Tests beginsB; refine ⟨?_, ?_, ?_, ?_, ?_, ?_, ?_, ?_, ?_, ?_, ?_⟩ <;> simp [inB, beginsB] <;> omega))))))))
  by_cases hI : x ≤ 122
  · exact .inr (.inr (.inr (.inr (.inr (.inr (.inr (.inr (.inl (by unfold Tests beginsB; refine ⟨?_, ?_, ?_, ?_, ?_, ?_, ?_, ?_, ?_, ?_, ?_⟩ <;> simp [inB, beginsB] <;> omega)))))))))
  exact .inr (.inr (.inr (.inr (.inr (.inr (.inr (.inr (.inr ((by unfold Tests beginsB; refine ⟨?_, ?_, ?_, ?_, ?_, ?_, ?_, ?_, ?_, ?_, ?_⟩ <;> simp [inB, beginsB] <;> omega))))))))))

theorem isName_zero {s : ByteArray} (h0 : 0 < s.size) (h4 : s.size ≤ 40) : isNameB s = (beginsB (s[0].toNat : Int) && (s.data.toList.drop 1).all (fun c => inB (byteI c))) := by
  unfold isNameB
  rw [byte_getD s 0 h0, decide_eq_true h0, decide_eq_true h4]; rfl

set_option maxHeartbeats 8000000 in
theorem rIsName_any (s : ByteArray) (w : World) (hs : s.size ≤ maxLen) :
    Calls Try.prog 18 #[.string s] w fun e w' => e = .returned (.bool (isNameB s)) ∧ w = w' := by
  unfold maxLen at hs
  by_cases h0 : s.size = 0
  · have h1 : decide ((s.size : Int) < 1) = true := by simp [h0]
    have HF : Hid (isNameB s = false) := by unfold isNameB Hid; simp [h0]
    clear h0
    go_enter Try.func18, Try.ntmps18
    go_wp2_with fail
    go_ret
    exact ⟨ret_bool HF.out.symm, rfl⟩
  · have h0' : 0 < s.size := by omega
    have h1 : decide ((s.size : Int) < 1) = false := by simp; omega
    by_cases h4 : s.size ≤ 40
    · have h6 : decide (40 < (s.size : Int)) = false := by simp; omega
      have HZ := Lib.hid (isName_zero h0' h4)
      go_enter Try.func18, Try.ntmps18
      go_wp2_with fail
      go_loop [3] (fun i => ∃ k : Nat, k ≤ s.size ∧ i = .int .i64 k ∧ Hid (k = 0 ∨ 1 ≤ k ∧ isNameB s = (s.data.toList.drop k).all (fun c => inB (byteI c)))) (fun i => s.size - (intOf i).toNat)
      case atStart => exact ⟨0, by omega, rfl, .inl rfl⟩
      case round =>
        obtain ⟨k, hk, rfl, hI⟩ := hrel
        by_cases hlt : k < s.size
        · rcases hI.out with hk0 | ⟨hk1, hI1⟩
          · subst hk0
            clear hI
            rcases tests (s[0].toNat : Int) with ⟨d1, d2, d3, d4, d5, d6, d7, d8, d9, hl, hm⟩ | ⟨d1, d2, d3, d4, d5, d6, d7, d8, d9, hl, hm⟩ | ⟨d1, d2, d3, d4, d5, d6, d7, d8, d9, hl, hm⟩ | ⟨d1, d2, d3, d4, d5, d6, d7, d8, d9, hl, hm⟩ | ⟨d1, d2, d3, d4, d5, d6, d7, d8, d9, hl, hm⟩ | ⟨d1, d2, d3, d4, d5, d6, d7, d8, d9, hl, hm⟩ | ⟨d1, d2, d3, d4, d5, d6, d7, d8, d9, hl, hm⟩ | ⟨d1, d2, d3, d4, d5, d6, d7, d8, d9, hl, hm⟩ | ⟨d1, d2, d3, d4, d5, d6, d7, d8, d9, hl, hm⟩ | ⟨d1, d2, d3, d4, d5, d6, d7, d8, d9, hl, hm⟩
            all_goals
              have HL := Lib.hid hl
              clear hl hm
              go_wp2_with fail
              first
                | (have HN : Hid (isNameB s = (s.data.toList.drop 1).all (fun c => inB (byteI c))) := by
                    unfold Hid; rw [HZ.out, HL.out]; rfl
                   clear HL
                   go_round
                   case rel => exact ⟨1, by omega, rfl, .inr ⟨by omega, HN.out⟩⟩
                   case measure => simp [intOf]; omega)
                | (have HN : Hid (isNameB s = false) := by
                    unfold Hid; rw [HZ.out, HL.out]; rfl
                   clear HL
                   go_ret
                   exact ⟨ret_bool HN.out.symm, rfl⟩)
          · have hst : Hid ((s.data.toList.drop k).all (fun c => inB (byteI c)) = (inB (s[k].toNat : Int) && (s.data.toList.drop (k + 1)).all (fun c => inB (byteI c)))) := by
              unfold Hid
              rw [all_drop_succ _ _ _ (by simpa using hlt), byte_getD s k hlt]; rfl
            have HI1 := Lib.hid hI1
            have hk2 : ((k : Int) == 0) = false := by rw [beq_eq_false_iff_ne]; omega
            clear hI hI1
            rcases tests (s[k].toNat : Int) with ⟨d1, d2, d3, d4, d5, d6, d7, d8, d9, hl, hm⟩ | ⟨d1, d2, d3, d4, d5, d6, d7, d8, d9, hl, hm⟩ | ⟨d1, d2, d3, d4, d5, d6, d7, d8, d9, hl, hm⟩ | ⟨d1, d2, d3, d4, d5, d6, d7, d8, d9, hl, hm⟩ | ⟨d1, d2, d3, d4, d5, d6, d7, d8, d9, hl, hm⟩ | ⟨d1, d2, d3, d4, d5, d6, d7, d8, d9, hl, hm⟩ | ⟨d1, d2, d3, d4, d5, d6, d7, d8, d9, hl, hm⟩ | ⟨d1, d2, d3, d4, d5, d6, d7, d8, d9, hl, hm⟩ | ⟨d1, d2, d3, d4, d5, d6, d7, d8, d9, hl, hm⟩ | ⟨d1, d2, d3, d4, d5, d6, d7, d8, d9, hl, hm⟩
            all_goals
              have HM := Lib.hid hm
              clear hl hm
              go_wp2_with fail
              first
                | (have HN : Hid (isNameB s = (s.data.toList.drop (k + 1)).all (fun c => inB (byteI c))) := by
                    unfold Hid; rw [HI1.out, hst.out, HM.out]; rfl
                   clear HM hst
                   go_round
                   case rel => exact ⟨k + 1, by omega, by go_num, .inr ⟨by omega, HN.out⟩⟩
                   case measure => simp [intOf]; omega)
                | (have HN : Hid (isNameB s = false) := by
                    unfold Hid; rw [HI1.out, hst.out, HM.out]; rfl
                   clear HM hst
                   go_ret
                   exact ⟨ret_bool HN.out.symm, rfl⟩)
        · have hst2 : Hid (isNameB s = true) := by
            unfold Hid
            rcases hI.out with hk0 | ⟨hk1, hI1⟩
            · omega
            · rw [hI1, List.drop_eq_nil_of_le (by simp; omega)]; rfl
          clear hI
          go_wp2_with fail
          go_ret
          exact ⟨ret_bool hst2.out.symm, rfl⟩
    · have HI : Hid (isNameB s = false) := by unfold isNameB Hid; simp [h4]
      have h6 : decide (40 < (s.size : Int)) = true := by simp; omega
      clear h0 h4
      go_enter Try.func18, Try.ntmps18
      go_wp2_with fail
      go_ret
      exact ⟨ret_bool HI.out.symm, rfl⟩
end Go.Proofs.Ytehnikgdjnmfcaa
