/- hasBelow. -/
import Derived.Test.YtehnikgdjnmfcaaE
namespace Go.Proofs.Ytehnikgdjnmfcaa
open Go.RowKit Go.WideMaps

def belowB (ns : List Nm) (abv : Nat → List Nat) (d c : Nm) : Bool := (wordsOf (abv (ixOf ns d)) (ixOf ns c / 64)).testBit (ixOf ns c % 64)
def dropB (ns : List Nm) (abv : Nat → List Nat) (c d : Nm) : Bool := !((ixOf ns d : Nat) == ixOf ns c) && belowB ns abv d c

theorem ixOf_lt {ns : List Nm} {x : Nm} (h : inNs ns x = true) : ixOf ns x < ns.length := by
  have hi := of_decide_eq_true h
  unfold ixOf; rw [if_pos hi]; exact List.idxOf_lt_length_of_mem hi

theorem any_drop_getD {α : Type} (l : List α) (d : α) (p : α → Bool) (k : Nat) (hk : k < l.length) :
    (l.drop k).any p = (p (l.getD k d) || (l.drop (k + 1)).any p) := by
  rw [List.drop_eq_getElem_cons hk, List.any_cons, List.getD_eq_getElem?_getD, List.getElem?_eq_getElem hk]
  rfl

set_option maxHeartbeats 400000 in
set_option maxRecDepth 100000 in
theorem hasBelow_any (g va : Value) (c : Nm) (ss ns : List Nm) (abv : Nat → List Nat) (w : World) (hg : SigAt w g ns abv) (hs : SlS w va ss)
    (hks : ss.all (inNs ns) = true) (hkc : inNs ns c = true) (hcl : c.length ≤ maxLen) :
    Calls Try.prog 78 #[g, va, .string (bs c)] w fun e w' => e = .returned (.bool (ss.any (dropB ns abv c))) ∧ Below w.heap.size w w' := by
  obtain ⟨hn, bm, c1, ga, capa, c3, c4, c5, rfl, hm, hab⟩ := hg
  obtain ⟨hls, aa, capa', rfl, hsa⟩ := hs
  have hm1 := hm.alloc (Obj.cells #[.map (some bm), c1, .slice ga ns.length capa, c3, c4, c5] 66)
  have HS : Hid (SlS (w.alloc (Obj.cells #[.map (some bm), c1, .slice ga ns.length capa, c3, c4, c5] 66)) (.slice aa ss.length capa') ss) := SlS.below ⟨hls, aa, capa', rfl, hsa⟩ (below_alloc _ _) (Nat.le_refl _)
  have HA : Hid (AbvAt (w.alloc (Obj.cells #[.map (some bm), c1, .slice ga ns.length capa, c3, c4, c5] 66)) ga abv ns.length) := hab.below (below_alloc _ _) (Nat.le_refl _)
  have HKS := Lib.hid hks
  have hixc := ixOf_lt hkc
  unfold maxLen at hls
  have H0 : Hid (ss.any (dropB ns abv c) = (ss.drop 0).any (dropB ns abv c)) := rfl
  clear hm hsa hab hks hkc
  go_enter Try.func78, Try.ntmps78
  go_wp2_with (at_lookup; refine wpList_mapAt _ rfl _ _ rfl bm rfl ns hm1 c rfl hcl ?_)
  go_loop [17] (fun i => ∃ k : Nat, k ≤ ss.length ∧ i = .int .i64 k ∧ Hid (ss.any (dropB ns abv c) = (ss.drop k).any (dropB ns abv c))) (fun i => ss.length - (intOf i).toNat)
  case atStart => exact ⟨0, by omega, rfl, H0⟩
  case round =>
    obtain ⟨k, hk, rfl, hI⟩ := hrel
    by_cases hlt : k < ss.length
    · obtain ⟨b, off, x, rfl, hb, hck, hwk, hx⟩ := HS.out.at hlt
      have hin : inNs ns x = true := by rw [hx]; exact List.all_eq_true.1 HKS.out _ (getD_mem ss [] k hlt)
      have hix := ixOf_lt hin
      have hstep : Hid (ss.any (dropB ns abv c) = (dropB ns abv c x || (ss.drop (k + 1)).any (dropB ns abv c))) := by
        unfold Hid; rw [hI.out, any_drop_getD _ [] _ _ hlt, hx]
      obtain ⟨ba, offa, rfl, hba, hA0⟩ := HA.out (by omega)
      have hW := Lib.hid (hA0 _ hix)
      clear hx hI H0 hin hA0
      have hcell := hW.out (ixOf ns c / 64) (by omega)
      have C := has_any ba (offa + ixOf ns x * 5) (ixOf ns c) (wordsOf (abv (ixOf ns x)) (ixOf ns c / 64)) _ (by omega) hcell.2.2 hcell.1
      by_cases he : ixOf ns x = ixOf ns c
      · have he1 : (((ixOf ns x : Nat) : Int) == ((ixOf ns c : Nat) : Int)) = true := by simp [he]
        have he2 : (((ixOf ns x : Nat) : Int) != ((ixOf ns c : Nat) : Int)) = false := by simp [he]
        have hst2 : Hid (ss.any (dropB ns abv c) = (ss.drop (k + 1)).any (dropB ns abv c)) := by
          unfold Hid; rw [hstep.out]; simp [dropB, he]
        clear C hstep hcell he hW
        go_wp2_with (at_lookup; refine wpList_mapAt _ rfl _ _ rfl bm rfl ns hm1 x rfl hwk ?_)
        go_round
        case rel => exact ⟨k + 1, by omega, by go_num, hst2⟩
        case measure => simp [intOf]; omega
      · have he1 : (((ixOf ns x : Nat) : Int) == ((ixOf ns c : Nat) : Int)) = false := by rw [beq_eq_false_iff_ne]; omega
        have he2 : (((ixOf ns x : Nat) : Int) != ((ixOf ns c : Nat) : Int)) = true := by rw [bne_iff_ne]; omega
        by_cases hbl : belowB ns abv x c = true
        · have hst2 : Hid (ss.any (dropB ns abv c) = true) := by
            unfold Hid; rw [hstep.out]; simp [dropB, he, hbl]
          have hb2 : (wordsOf (abv (ixOf ns x)) (ixOf ns c / 64)).testBit (ixOf ns c % 64) = true := hbl
          rw [hb2] at C
          have HC := Lib.hid C
          clear C hstep hcell he hW hbl hb2
          go_wp2_with (first | (at_lookup; refine wpList_mapAt _ rfl _ _ rfl bm rfl ns hm1 x rfl hwk ?_) | (go_at_call 61; refine HC.out.mono ?_; rintro e w' ⟨rfl, rfl⟩))
          go_ret
          exact ⟨ret_bool hst2.out.symm, below_alloc _ _⟩
        · have hbl0 : belowB ns abv x c = false := by simpa using hbl
          have hst2 : Hid (ss.any (dropB ns abv c) = (ss.drop (k + 1)).any (dropB ns abv c)) := by
            unfold Hid; rw [hstep.out]; simp [dropB, hbl0]
          have hb2 : (wordsOf (abv (ixOf ns x)) (ixOf ns c / 64)).testBit (ixOf ns c % 64) = false := hbl0
          rw [hb2] at C
          have HC := Lib.hid C
          clear C hstep hcell he hW hbl hb2 hbl0
          go_wp2_with (first | (at_lookup; refine wpList_mapAt _ rfl _ _ rfl bm rfl ns hm1 x rfl hwk ?_) | (go_at_call 61; refine HC.out.mono ?_; rintro e w' ⟨rfl, rfl⟩))
          go_round
          case rel => exact ⟨k + 1, by omega, by go_num, hst2⟩
          case measure => simp [intOf]; omega
    · have hst2 : Hid (ss.any (dropB ns abv c) = false) := by
        unfold Hid; rw [hI.out, List.drop_eq_nil_of_le (by omega)]; rfl
      clear hI H0
      go_wp2_with fail
      go_ret
      exact ⟨ret_bool hst2.out.symm, below_alloc _ _⟩
end Go.Proofs.Ytehnikgdjnmfcaa
