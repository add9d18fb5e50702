/- The law SortArguments 3. -/
import Derived.Test.YtehnikgdjnmfcaaGreatMZ34
import Derived.Test.YtehnikgdjnmfcaaGreatMZ37
import Derived.Test.YtehnikgdjnmfcaaGreatMZ17
import Derived.Test.YtehnikgdjnmfcaaGreatMZ33
import Derived.Test.YtehnikgdjnmfcaaGreatMZ26
import Derived.Deep.CutRange
namespace Go.Proofs.YtehnikgdjnmfcaaGreat
open Go.RowKit Go.WideMaps Go.Shelf Go.Sort Go.Lib
attribute [local go_sem] Oper.semAt_some

theorem slSS1 {w : World} {k c : Nat} {p1 : Option Addr} {n1 c1 : Nat} {fr : Nat × Nat} (h : w.heap[k]? = some (.cells #[.slice p1 n1 c1] 27 fr)) : SlSS w (.slice (some ⟨k, 0, none⟩) 1 c) := by
  refine ⟨_, 1, c, rfl, by decide, fun _ => ⟨k, 0, rfl, (Array.getElem?_eq_some_iff.1 h).1, fun j hj => ?_⟩⟩
  rw [cell_of_row w _ _ _ _ _ h]
  have : j = 0 := by omega
  subst this
  exact ⟨_, _, _, rfl⟩

theorem groundErr_zero {cs : List (Nm × List Nm)} {ab : List (List Nat)} {ds : List (Nm × Int)} {rs : List Ar} {ss : List Nm} (h : groundErr cs ab ds rs ss = 0) : chkErr cs ab ds rs = 0 ∧ normErr (cs.map Prod.fst) ss = 0 := by
  unfold groundErr at h
  by_cases h0 : chkErr cs ab ds rs = 0
  · rw [if_pos h0] at h; exact ⟨h0, h⟩
  · rw [if_neg h0] at h; exact absurd h h0

/-- the program's Ground and the reference's have the same results -/
theorem grounds_any (n c t2 t3 t4 t5 t6 v : Value) (dp : Int) (cs : List (Nm × List Nm)) (ab : List (List Nat)) (ds : List (Nm × Int)) (rs : List Ar) (ss : List Nm) (w : World) (hc : SlC w c cs) (hd : SlT w t2 ds) (ha : SlAr w t3 rs)
    (hab : clsErr cs = 0 → ∃ sp, Built cs sp ab) (hs : SlS w v ss) :
    ∃ er d t ok, (∀ W, Below w.heap.size w W → Calls Tryz.prog 12 #[.agg #[n, c, t2, t3, t4, t5, t6], v, .int .i64 dp] W (GdPost W er d t ok)) ∧
      (∀ W, Below w.heap.size w W → Calls Tryz.prog 13 #[.agg #[n, c, t2, t3, t4, t5, t6], v, .int .i64 dp] W (GdPost W er d t ok)) := by
  by_cases hr : dp < 0 ∨ 5 < dp
  · refine ⟨_, 0, .zero, false, fun W hB => ground_out _ v cs ab ds rs ss dp W n c t2 t3 t4 t5 t6 rfl (hc.below hB (Nat.le_refl _)) (hd.below hB (Nat.le_refl _)) (ha.below hB (Nat.le_refl _)) hab (hs.below hB (Nat.le_refl _)) hr, fun W hB => ?_⟩
    refine ground_r n c t2 t3 t4 t5 t6 v cs ab ds rs ss dp _ 0 .zero false W (hc.below hB (Nat.le_refl _)) (hd.below hB (Nat.le_refl _)) (ha.below hB (Nat.le_refl _)) hab (hs.below hB (Nat.le_refl _)) (fun h => ⟨by rw [if_neg h], rfl, rfl⟩) (fun h _ => ⟨by rw [if_pos h], rfl, rfl⟩) (fun _ h => absurd hr h)
  · obtain ⟨dn, hdn⟩ : ∃ dn : Nat, dp = (dn : Int) := ⟨dp.toNat, by omega⟩
    subst hdn
    refine ⟨_, dn, _, _, fun W hB => ground_any _ v cs ab ds rs ss dn W n c t2 t3 t4 t5 t6 rfl (hc.below hB (Nat.le_refl _)) (hd.below hB (Nat.le_refl _)) (ha.below hB (Nat.le_refl _)) hab (hs.below hB (Nat.le_refl _)) (by omega), fun W hB => ?_⟩
    refine ground_r n c t2 t3 t4 t5 t6 v cs ab ds rs ss dn _ dn _ _ W (hc.below hB (Nat.le_refl _)) (hd.below hB (Nat.le_refl _)) (ha.below hB (Nat.le_refl _)) hab (hs.below hB (Nat.le_refl _)) (fun h => ⟨rfl, ?_, ?_⟩) (fun _ h => absurd h hr) (fun h _ => ?_)
    · unfold groundT; rw [if_neg h]
    · unfold groundB; rw [decide_eq_false h]; rfl
    · obtain ⟨h1, h2⟩ := groundErr_zero h
      obtain ⟨k1, k2, k3, k4⟩ := chk_zero h1
      obtain ⟨sp, hb⟩ := hab k1
      obtain ⟨g1, g2⟩ := ground_least (ds := ds) hb k3 k4 (normErr_zero h2).2 dn
      refine ⟨h, rfl, ?_, ?_⟩
      · unfold groundT; rw [if_pos h, g2]
      · unfold groundB; rw [decide_eq_true h, g1]; rfl

set_option maxRecDepth 100000 in
set_option maxHeartbeats 8000000 in
theorem sortArguments_any (t v : Value) (x : Nm) (dp : Int) (cs : List (Nm × List Nm)) (ds : List (Nm × Int)) (rs : List Ar) (ss : List Nm) (w : World) (ht : ThG w t cs ds rs) (hs : SlS w v ss) (hx : x.length ≤ maxLen) :
    Calls Tryz.prog 3 #[t, .string (bs x), v, .int .i64 dp] w fun e w' => e = .returned (.bool true) ∧ Below w.heap.size w w' := by
  have HT := Lib.hid ht.thF
  have HS := Lib.hid hs
  obtain ⟨_, sa, scap, rfl, _⟩ := hs
  obtain ⟨n, c, t2, t3, t4, t5, t6, rfl, hcc, hdd, haa⟩ := ht
  have HCC := Lib.hid hcc
  have HDD := Lib.hid hdd
  have HAA := Lib.hid haa
  have HXL := Lib.hid hx
  have HA := Lib.hid awake_any
  obtain ⟨ab, hab⟩ : ∃ ab, clsErr cs = 0 → ∃ sp, Built cs sp ab := by
    by_cases h : clsErr cs = 0
    · obtain ⟨sp, ab, hb⟩ := built_of h
      exact ⟨ab, fun _ => ⟨sp, hb⟩⟩
    · exact ⟨[], fun h' => absurd h' h⟩
  obtain ⟨GE, d, T, ok, hg1, hg2⟩ := grounds_any n c t2 t3 t4 t5 t6 (.slice sa ss.length scap) dp cs ab ds rs ss w hcc hdd haa hab HS.out
  have HAB := Lib.hid hab
  obtain ⟨E1, hE1⟩ : ∃ E, E = argsErr2 cs ab ds rs x ss := ⟨_, rfl⟩
  obtain ⟨XL, hXL⟩ : ∃ X, X = (if E1 = 0 then wantC cs ab ds rs x ss else []) := ⟨_, rfl⟩
  have P1 : Hid (∀ W, Below w.heap.size w W → Calls Tryz.prog 8 #[.agg #[n, c, t2, t3, t4, t5, t6], .string (bs x), .slice sa ss.length scap] W fun e w' => ∃ v, e = .returned (.tuple #[v, .int .i64 E1]) ∧ Below W.heap.size W w' ∧ SlSs w' v XL) := by
    intro W hB; rw [hXL, hE1]
    exact args_any _ _ cs ab ds rs x ss W n c t2 t3 t4 t5 t6 rfl (HCC.out.below hB (Nat.le_refl _)) (HDD.out.below hB (Nat.le_refl _)) (HAA.out.below hB (Nat.le_refl _)) HAB.out HXL.out (HS.out.below hB (Nat.le_refl _))
  have P2 : Hid (∀ W, Below w.heap.size w W → Calls Tryz.prog 9 #[.agg #[n, c, t2, t3, t4, t5, t6], .string (bs x), .slice sa ss.length scap] W fun e w' => ∃ v, e = .returned (.tuple #[v, .int .i64 E1]) ∧ Below W.heap.size W w' ∧ SlSs w' v XL) := by
    intro W hB; rw [hXL, hE1]
    exact args_r n c t2 t3 t4 t5 t6 _ cs ab ds rs x ss W (HCC.out.below hB (Nat.le_refl _)) (HDD.out.below hB (Nat.le_refl _)) (HAA.out.below hB (Nat.le_refl _)) HAB.out (HS.out.below hB (Nat.le_refl _))
  have P3 := Lib.hid hg1
  have P4 := Lib.hid hg2
  unfold GdPost at P3 P4
  have PA : Hid (∀ W, Below w.heap.size w W → Calls Tryz.prog 6 #[.agg #[n, c, t2, t3, t4, t5, t6]] W fun e w' => (∃ k : Int, e = .returned (.int .i64 k)) ∧ Below W.heap.size W w') := fun W hB => arguments_any n c t2 t3 t4 t5 t6 ds W (HDD.out.below hB (Nat.le_refl _))
  have hb0 := below_alloc w (Obj.cells #[n, c, t2, t3, t4, t5, t6] 29)
  have r0 := Lib.hid (heap_alloc_new w (Obj.cells #[n, c, t2, t3, t4, t5, t6] 29))
  have C0 := Lib.hid (fewT (HT.out.below hb0 (Nat.le_refl _)))
  have hz0 : w.heap.size < (w.alloc (Obj.cells #[n, c, t2, t3, t4, t5, t6] 29)).heap.size := by simp
  clear hE1 hXL hg1 hg2 hab hcc hdd haa hx
  go_enter Tryz.func3, Tryz.ntmps3
  go_upto_region 1 with (fail)
  go_cut [42] from 17 to 41 (fun b w' => ∃ r : Bool, b = .bool r ∧ Hid (w'.heap[w.heap.size]? = some (Obj.cells #[n, c, t2, t3, t4, t5, t6] 29 (0, 0))) ∧ Below w.heap.size w w')
  case first =>
    go_wp2_with (first | (go_at_call 4; refine C0.out.mono ?_; rintro e w1 ⟨r, rfl, hb1⟩; cases r) | fail)
    · have hB1 : Below w.heap.size w w1 := hb0.trans (hb1.mono (Nat.le_of_lt hz0))
      have r1 := Lib.hid ((hb1.block w.heap.size hz0).trans r0.out)
      clear C0 r0 hb1 hb0 hz0
      go_wp2_with fail
      go_meet
      case rel => exact ⟨true, rfl, r1, hB1⟩
    · have hB1 : Below w.heap.size w w1 := hb0.trans (hb1.mono (Nat.le_of_lt hz0))
      have hz1 : w.heap.size < w1.heap.size := Nat.lt_of_lt_of_le hz0 hb1.size
      have r1 := Lib.hid ((hb1.block w.heap.size hz0).trans r0.out)
      clear C0 r0 hb1 hb0 hz0
      have hb2 := below_alloc w1 (Obj.cells #[.slice sa ss.length scap] 27)
      refine (fewSorts_any _ _ (slSS1 (heap_alloc_new w1 _))).mono ?_
      rintro e w2 ⟨r, rfl, hb3⟩
      have hz2' : w1.heap.size ≤ (w1.alloc (Obj.cells #[.slice sa ss.length scap] 27)).heap.size := hb2.size
      have hB2 : Below w.heap.size w w2 := hB1.trans ((hb2.mono (Nat.le_of_lt hz1)).trans (hb3.mono (by omega)))
      have r2 := Lib.hid ((hb3.block w.heap.size (by omega)).trans ((hb2.block w.heap.size hz1).trans r1.out))
      have hz2 : w.heap.size < w2.heap.size := by have := hb3.size; omega
      obtain ⟨c0, c1, c2, c3, c4, c5, c6⟩ := cells7' r2.out
      clear r1 hb2 hb3 hz1 hB1 hz2'
      cases r
      · go_wp2_with fail
        go_meet
        case rel => exact ⟨true, rfl, r2, hB2⟩
      · by_cases h3 : 3 < dp
        · have d3 : decide (3 < dp) = true := decide_eq_true h3
          by_cases h6 : dp < 6
          · have d6 : decide (dp < 6) = true := decide_eq_true h6
            clear h3 h6
            go_wp2_with fail
            go_meet
            case rel => exact ⟨true, rfl, r2, hB2⟩
          · have d6 : decide (dp < 6) = false := decide_eq_false h6
            have e3 : (dp == 3) = false := by simp; omega
            clear h3 h6
            go_wp2_with fail
            go_meet
            case rel => exact ⟨false, rfl, r2, hB2⟩
        · have d3 : decide (3 < dp) = false := decide_eq_false h3
          by_cases he : dp = 3
          · have e3 : (dp == 3) = true := by simpa using he
            clear h3 he
            go_wp2_with fail
            refine (PA.out _ hB2).mono ?_
            rintro e w3 ⟨⟨k, rfl⟩, hb4⟩
            have hB3 := hB2.trans (hb4.mono (Nat.le_of_lt hz2))
            have r3 := Lib.hid ((hb4.block w.heap.size hz2).trans r2.out)
            by_cases hk : 25 < k
            · have dk : decide (25 < k) = true := decide_eq_true hk
              clear hk
              go_wp2_with fail
              go_meet
              case rel => exact ⟨true, rfl, r3, hB3⟩
            · have dk : decide (25 < k) = false := decide_eq_false hk
              clear hk
              go_wp2_with fail
              go_meet
              case rel => exact ⟨false, rfl, r3, hB3⟩
          · have e3 : (dp == 3) = false := by simpa using he
            clear h3 he
            go_wp2_with fail
            go_meet
            case rel => exact ⟨false, rfl, r2, hB2⟩
  case rest =>
    obtain ⟨r, rfl, r1, hB1⟩ := hcut
    have hz1 : w.heap.size < wc.heap.size := (Array.getElem?_eq_some_iff.1 r1.out).1
    clear C0 r0 hb0 hz0 PA
    cases r
    · obtain ⟨c0, c1, c2, c3, c4, c5, c6⟩ := cells7' r1.out
      go_wp2_with fail
      refine (P1.out _ hB1).mono ?_
      rintro e w2 ⟨v2, rfl, hb2, hs2⟩
      have hB2 := hB1.trans (hb2.mono (Nat.le_of_lt hz1))
      have r2 := Lib.hid ((hb2.block w.heap.size hz1).trans r1.out)
      have hz2 : w.heap.size < w2.heap.size := Nat.lt_of_lt_of_le hz1 hb2.size
      have S2 := Lib.hid hs2
      obtain ⟨_, a2, q2, rfl, _⟩ := hs2
      clear c0 c1 c2 c3 c4 c5 c6 hb2 r1 hz1 P1
      obtain ⟨c0, c1, c2, c3, c4, c5, c6⟩ := cells7' r2.out
      go_wp2_with fail
      refine (P2.out _ hB2).mono ?_
      rintro e w3 ⟨v3, rfl, hb3, hs3⟩
      have hB3 := hB2.trans (hb3.mono (Nat.le_of_lt hz2))
      have r3 := Lib.hid ((hb3.block w.heap.size hz2).trans r2.out)
      have hz3 : w.heap.size < w3.heap.size := Nat.lt_of_lt_of_le hz2 hb3.size
      have EQ := Lib.hid (equalSs_any _ _ XL w3 (S2.out.below hb3 (Nat.le_refl _)) hs3)
      obtain ⟨_, a3, q3, rfl, _⟩ := hs3
      clear c0 c1 c2 c3 c4 c5 c6 hb3 r2 hz2 P2 S2
      go_wp2_with fail
      refine EQ.out.mono ?_
      rintro e w4 ⟨rfl, hb4⟩
      have hB4 := hB3.trans (hb4.mono (Nat.le_of_lt hz3))
      have r4 := Lib.hid ((hb4.block w.heap.size hz3).trans r3.out)
      have hz4 : w.heap.size < w4.heap.size := Nat.lt_of_lt_of_le hz3 hb4.size
      clear EQ hb4 r3 hz3
      obtain ⟨c0, c1, c2, c3, c4, c5, c6⟩ := cells7' r4.out
      go_wp2_with fail
      refine (P3.out _ hB4).mono ?_
      rintro e w5 ⟨o5, x5, a5, n5, q5, rfl, hb5, ht5⟩
      have hB5 := hB4.trans (hb5.mono (Nat.le_of_lt hz4))
      have r5 := Lib.hid ((hb5.block w.heap.size hz4).trans r4.out)
      have hz5 : w.heap.size < w5.heap.size := Nat.lt_of_lt_of_le hz4 hb5.size
      have hb6 := below_alloc w5 (Obj.cells #[.int .i64 o5, .string x5, .int .i64 0, .slice none 0 0, .slice a5 n5 q5] 42)
      have g6 := heap_alloc_new w5 (Obj.cells #[.int .i64 o5, .string x5, .int .i64 0, .slice none 0 0, .slice a5 n5 q5] 42)
      have hz6 : (w5.alloc (Obj.cells #[.int .i64 o5, .string x5, .int .i64 0, .slice none 0 0, .slice a5 n5 q5] 42)).heap.size = w5.heap.size + 1 := by simp
      have hB6 := hB5.trans (hb6.mono (Nat.le_of_lt hz5))
      have r6 := Lib.hid ((hb6.block w.heap.size hz5).trans r5.out)
      have G6 := Lib.hid g6
      have T6 := Lib.hid (ht5.below hb6)
      have P46 := Lib.hid (P4.out _ hB6)
      have HZ6 := Lib.hid hz6
      clear c0 c1 c2 c3 c4 c5 c6 hb5 r4 hz4 P3 P4 ht5 hb6 g6 r5 hz6
      obtain ⟨c0, c1, c2, c3, c4, c5, c6⟩ := cells7' r6.out
      go_wp2_with fail
      refine P46.out.mono ?_
      rintro e w7 ⟨o7, x7, a7, n7, q7, rfl, hb7, ht7⟩
      have hB7 := hB6.trans (hb7.mono (by rw [HZ6.out]; omega))
      have g7 := (hb7.block w5.heap.size (by rw [HZ6.out]; omega)).trans G6.out
      have T7 := T6.out.below hb7
      have hz7 : w5.heap.size < w7.heap.size := by have := hb7.size; rw [HZ6.out] at this; omega
      have hb8 := below_alloc w7 (Obj.cells #[.int .i64 o7, .string x7, .int .i64 0, .slice none 0 0, .slice a7 n7 q7] 42)
      have g8 := heap_alloc_new w7 (Obj.cells #[.int .i64 o7, .string x7, .int .i64 0, .slice none 0 0, .slice a7 n7 q7] 42)
      have g8' := (hb8.block w5.heap.size hz7).trans g7
      have SM := Lib.hid (same_any d _ _ T o5 o7 x5 x7 a5 a7 n5 n7 q5 q7 _ (T7.below hb8) (ht7.below hb8))
      have hB8 := hB7.trans (hb8.mono (by omega))
      have hz8 : w.heap.size ≤ (w7.alloc (Obj.cells #[.int .i64 o7, .string x7, .int .i64 0, .slice none 0 0, .slice a7 n7 q7] 42)).heap.size := hB8.size
      clear c0 c1 c2 c3 c4 c5 c6 hb7 hb8 P46 g7 T7 T6 G6 r6 ht7
      obtain ⟨⟨x0, x1, x2, x3, x4⟩, _⟩ := five g8'
      obtain ⟨⟨y0, y1, y2, y3, y4⟩, _⟩ := five g8
      clear g8 g8'
      go_wp2_with fail
      refine SM.out.mono ?_
      rintro e w9 ⟨rfl, hb9⟩
      go_wp2_with fail
      refine (HA.out _).mono ?_
      rintro e w10 ⟨rfl, hb10⟩
      go_wp2_with fail
      go_ret
      exact ⟨rfl, (hB8.trans (hb9.mono hz8)).trans (hb10.mono (by have := hb9.size; omega))⟩
    · go_wp2_with fail
      refine (HA.out _).mono ?_
      rintro e w2 ⟨rfl, hb2⟩
      go_wp2_with fail
      go_ret
      exact ⟨rfl, hB1.trans (hb2.mono (Nat.le_of_lt hz1))⟩
end Go.Proofs.YtehnikgdjnmfcaaGreat

