/- The law of the order of sorts, walked. -/
import Derived.Test.YtehnikgdjnmfcaaD1
import Derived.Deep.RegionHeld3
namespace Go.Proofs.Ytehnikgdjnmfcaa
open Go.RowKit Go.WideMaps Go.Shelf

set_option maxRecDepth 100000 in
set_option maxHeartbeats 80000000 in
theorem sortOrder_any (t u v x : Value) (cs : List (Nm × List Nm)) (ss ts us : List Nm) (w : World) (ht : ThF w t cs) (hs : SlS w u ss) (hs2 : SlS w v ts) (hs3 : SlS w x us) :
    Calls Try.prog 5 #[t, u, v, x] w fun e w' => e = .returned (.bool true) ∧ Below w.heap.size w w' := by
  have HT := Lib.hid ht
  have HS := Lib.hid hs
  have HS2 := Lib.hid hs2
  have HS3 := Lib.hid hs3
  obtain ⟨_, sa, scap, rfl, _⟩ := hs
  obtain ⟨_, ta, tcap, rfl, _⟩ := hs2
  obtain ⟨_, ua, ucap, rfl, _⟩ := hs3
  obtain ⟨n, c, p2, n2, k2, t3, t4, t5, t6, rfl, _, _⟩ := ht
  have HA := Lib.hid awake_any
  go_enter Try.func5, Try.ntmps5
  have hb0 := below_alloc w (Obj.cells #[n, c, .slice p2 n2 k2, t3, t4, t5, t6] 29)
  have r0 := Lib.hid (heap_alloc_new w (Obj.cells #[n, c, .slice p2 n2 k2, t3, t4, t5, t6] 29))
  have C0 := Lib.hid (fewT (HT.out.below hb0 (Nat.le_refl _)))
  have hz0 : w.heap.size < (w.alloc (Obj.cells #[n, c, .slice p2 n2 k2, t3, t4, t5, t6] 29)).heap.size := by simp
  go_wp2_with (first | (go_at_call 8; refine C0.out.mono ?_; rintro e w1 ⟨r, rfl, hb1⟩; cases r) | fail)
  · refine (HA.out _).mono ?_
    rintro e w2 ⟨rfl, hb2⟩
    go_wp2_with fail
    go_ret
    exact ⟨rfl, (hb0.trans (hb1.mono (by omega))).trans (hb2.mono (by have := hb1.size; omega))⟩
  · have hB1 : Below w.heap.size w w1 := hb0.trans (hb1.mono (by omega))
    have hz1 : w.heap.size < w1.heap.size := by have := hb1.size; omega
    have r1 := Lib.hid ((hb1.block w.heap.size hz0).trans r0.out)
    clear C0 r0 hb1 hb0 hz0
    have hb2 := below_alloc w1 (Obj.cells #[.slice sa ss.length scap, .slice ta ts.length tcap, .slice ua us.length ucap] 27)
    refine (fewSorts_any _ _ (slSS3 (heap_alloc_new w1 _))).mono ?_
    rintro e w2 ⟨r, rfl, hb3⟩
    have hB2 : Below w.heap.size w w2 := hB1.trans ((hb2.mono (by omega)).trans (hb3.mono (by simp; omega)))
    have hz2 : w.heap.size < w2.heap.size := by have := hb3.size; simp at this; omega
    have r2 := Lib.hid ((hb3.block w.heap.size (by simp; omega)).trans ((hb2.block w.heap.size hz1).trans r1.out))
    clear r1 hb2 hb3 hz1 hB1
    cases r
    · go_wp2_with fail
      refine (HA.out _).mono ?_
      rintro e wz ⟨rfl, hbz⟩
      go_wp2_with fail
      go_ret
      exact ⟨rfl, hB2.trans (hbz.mono (Nat.le_of_lt hz2))⟩
    · obtain ⟨c0, c1, c2, c3, c4, c5, c6⟩ := cells7 r2.out
      go_wp2_with fail
      refine (normal_any _ _ cs ss w2 (HT.out.below hB2 (Nat.le_refl _)).th (HS.out.below hB2 (Nat.le_refl _))).mono ?_
      rintro e w3 ⟨v1, e1, rfl, hb3, ha3, hn3⟩
      have HN3 := Lib.hid hn3
      have HE3 := Lib.hid ha3
      clear hn3 ha3
      have hbk3 := hb3
      clear c0 c1 c2 c3 c4 c5 c6
      have hB3 := hB2.trans (hb3.mono (Nat.le_of_lt hz2))
      have hz3 : w.heap.size < w3.heap.size := by have := hb3.size; omega
      have r3 := Lib.hid ((hb3.block w.heap.size hz2).trans r2.out)
      clear r2 hb3 
      obtain ⟨c0, c1, c2, c3, c4, c5, c6⟩ := cells7 r3.out
      go_wp2_with fail
      refine (normal_any _ _ cs ts w3 (HT.out.below hB3 (Nat.le_refl _)).th (HS2.out.below hB3 (Nat.le_refl _))).mono ?_
      rintro e w4 ⟨v2, e2, rfl, hb4, ha4, hn4⟩
      have HN4 := Lib.hid hn4
      have HE4 := Lib.hid ha4
      clear hn4 ha4
      have hbk4 := hb4
      clear c0 c1 c2 c3 c4 c5 c6
      have hB4 := hB3.trans (hb4.mono (Nat.le_of_lt hz3))
      have hz4 : w.heap.size < w4.heap.size := by have := hb4.size; omega
      have r4 := Lib.hid ((hb4.block w.heap.size hz3).trans r3.out)
      clear r3 hb4 
      obtain ⟨c0, c1, c2, c3, c4, c5, c6⟩ := cells7 r4.out
      go_wp2_with fail
      refine (normal_any _ _ cs us w4 (HT.out.below hB4 (Nat.le_refl _)).th (HS3.out.below hB4 (Nat.le_refl _))).mono ?_
      rintro e w5 ⟨v3, e3, rfl, hb5, ha5, hn5⟩
      have HN5 := Lib.hid hn5
      have HE5 := Lib.hid ha5
      clear hn5 ha5
      have hbk5 := hb5
      clear c0 c1 c2 c3 c4 c5 c6
      have hB5 := hB4.trans (hb5.mono (Nat.le_of_lt hz4))
      have hz5 : w.heap.size < w5.heap.size := by have := hb5.size; omega
      have r5 := Lib.hid ((hb5.block w.heap.size hz4).trans r4.out)
      clear r4 hb5 
      obtain ⟨c0, c1, c2, c3, c4, c5, c6⟩ := cells7 r5.out
      go_wp2_with fail
      refine (meetT_any _ _ _ cs ss ts w5 (HT.out.below hB5 (Nat.le_refl _)).th (HS.out.below hB5 (Nat.le_refl _)) (HS2.out.below hB5 (Nat.le_refl _))).mono ?_
      rintro e w6 ⟨v4, e4, rfl, hb6, ha6, hn6⟩
      have HN6 := Lib.hid hn6
      clear hn6 ha6
      have hbk6 := hb6
      clear c0 c1 c2 c3 c4 c5 c6
      have hB6 := hB5.trans (hb6.mono (Nat.le_of_lt hz5))
      have hz6 : w.heap.size < w6.heap.size := by have := hb6.size; omega
      have r6 := Lib.hid ((hb6.block w.heap.size hz5).trans r5.out)
      clear r5 hb6 
      by_cases he1 : e1 = 0
      rotate_left
      · have hd : decide (e1 = 0) = false := by simpa using he1
        clear HN3 HN4 HN5 HN6 HE3 HE4 HE5
        go_wp2_with fail
        refine (HA.out _).mono ?_
        rintro e wz ⟨rfl, hbz⟩
        go_wp2_with fail
        go_ret
        exact ⟨rfl, hB6.trans (hbz.mono (Nat.le_of_lt hz6))⟩
      subst he1
      by_cases he2 : e2 = 0
      rotate_left
      · have hd : decide (e2 = 0) = false := by simpa using he2
        clear HN3 HN4 HN5 HN6 HE3 HE4 HE5
        go_wp2_with fail
        refine (HA.out _).mono ?_
        rintro e wz ⟨rfl, hbz⟩
        go_wp2_with fail
        go_ret
        exact ⟨rfl, hB6.trans (hbz.mono (Nat.le_of_lt hz6))⟩
      subst he2
      by_cases he3 : e3 = 0
      rotate_left
      · have hd : decide (e3 = 0) = false := by simpa using he3
        clear HN3 HN4 HN5 HN6 HE3 HE4 HE5
        go_wp2_with fail
        refine (HA.out _).mono ?_
        rintro e wz ⟨rfl, hbz⟩
        go_wp2_with fail
        go_ret
        exact ⟨rfl, hB6.trans (hbz.mono (Nat.le_of_lt hz6))⟩
      subst he3
      by_cases he4 : e4 = 0
      rotate_left
      · have hd : decide (e4 = 0) = false := by simpa using he4
        clear HN3 HN4 HN5 HN6 HE3 HE4 HE5
        go_wp2_with fail
        refine (HA.out _).mono ?_
        rintro e wz ⟨rfl, hbz⟩
        go_wp2_with fail
        go_ret
        exact ⟨rfl, hB6.trans (hbz.mono (Nat.le_of_lt hz6))⟩
      subst he4
      have hcls : clsErr cs = 0 := Classical.byContradiction fun h => h (HE3.out h).symm
      obtain ⟨sp, ab, hu, hq1, ho1⟩ := HN3.out hcls
      obtain ⟨sp2, ab2, hu2, hq2, ho2⟩ := HN4.out hcls
      obtain ⟨sp3, ab3, hu3, hq3, ho3⟩ := HN5.out hcls
      obtain ⟨sp4, ab4, hu4, hq4, ho4⟩ := HN6.out hcls
      have ho1 := ho1 rfl
      have ho4 := ho4 rfl
      have kS := List.all_eq_true.1 (normErr_zero hq1.symm).2
      have kT := List.all_eq_true.1 (normErr_zero hq2.symm).2
      have kU := List.all_eq_true.1 (normErr_zero hq3.symm).2
      have kST : ∀ y ∈ ss ++ ts, inNs (cs.map Prod.fst) y = true := fun y hy => (List.mem_append.1 hy).elim (kS y) (kT y)
      rw [least_eq hu4 hu kST (fun _ => Iff.rfl)] at ho4
      have F1 := Lib.hid (less_refl hu kS)
      have F2 := Lib.hid (least_less hu kS)
      have F3 := Lib.hid (less_least hu kS)
      have F6 := Lib.hid (less_trans hu kS kT kU)
      have F7 := Lib.hid (meet_less (ts := ts) hu kST kS (fun y hy => List.mem_append_left _ hy) rfl)
      have F8 := Lib.hid (meet_less (ts := ts) hu kST kT (fun y hy => List.mem_append_right _ hy) rfl)
      have F9 := Lib.hid (less_meet hu kS kT kU)
      have KS := Lib.hid kS
      have KT := Lib.hid kT
      have KU := Lib.hid kU
      have KN := Lib.hid (least_known hu kS)
      have KM := Lib.hid (least_known hu kST)
      have HU := Lib.hid hu
      have HCLS := Lib.hid hcls
      generalize leastB (cs.map Prod.fst) (fun i => ab.getD i []) ss = N at *
      generalize leastB (cs.map Prod.fst) (fun i => ab.getD i []) (ss ++ ts) = M at *
      have HN1 := Lib.hid (((ho1.sl.below hbk4 (Nat.le_refl _)).below hbk5 (Nat.le_refl _)).below hbk6 (Nat.le_refl _))
      have HM1 := Lib.hid ho4.sl
      obtain ⟨_, _, a1, q1, hv1, _⟩ := ho1
      obtain ⟨_, _, a4, q4, hv4, _⟩ := ho4
      subst hv1
      subst hv4
      have X6 := HN1
      have Y6 := HM1
      clear HN3 HN4 HN5 HN6 HE3 HE4 HE5 hu2 hu3 hu4 hq1 hq2 hq3 hq4 ho2 ho3 kS kT kU kST hu hcls HN1 HM1 hbk3 hbk4 hbk5 hbk6
      obtain ⟨c0, c1, c2, c3, c4, c5, c6⟩ := cells7 r6.out
      go_wp2_with fail
      refine (lessT_fix (ss := ss) (ts := ss) HU.out HCLS.out (HT.out.below hB6 (Nat.le_refl _)).th (HS.out.below hB6 (Nat.le_refl _)) (HS.out.below hB6 (Nat.le_refl _)) KS.out KS.out F1.out).mono ?_
      rintro e w7 ⟨rfl, hb7⟩
      clear c0 c1 c2 c3 c4 c5 c6
      have hB7 := hB6.trans (hb7.mono (Nat.le_of_lt hz6))
      have hz7 : w.heap.size < w7.heap.size := by have := hb7.size; omega
      have r7 := Lib.hid ((hb7.block w.heap.size hz6).trans r6.out)
      have X7 := Lib.hid (X6.out.below hb7 (Nat.le_refl _))
      have Y7 := Lib.hid (Y6.out.below hb7 (Nat.le_refl _))
      clear r6 hb7 X6 Y6
      obtain ⟨c0, c1, c2, c3, c4, c5, c6⟩ := cells7 r7.out
      go_wp2_with fail
      refine (lessT_fix (ss := N) (ts := ss) HU.out HCLS.out (HT.out.below hB7 (Nat.le_refl _)).th X7.out (HS.out.below hB7 (Nat.le_refl _)) KN.out KS.out F2.out).mono ?_
      rintro e w8 ⟨rfl, hb8⟩
      clear c0 c1 c2 c3 c4 c5 c6
      have hB8 := hB7.trans (hb8.mono (Nat.le_of_lt hz7))
      have hz8 : w.heap.size < w8.heap.size := by have := hb8.size; omega
      have r8 := Lib.hid ((hb8.block w.heap.size hz7).trans r7.out)
      have X8 := Lib.hid (X7.out.below hb8 (Nat.le_refl _))
      have Y8 := Lib.hid (Y7.out.below hb8 (Nat.le_refl _))
      clear r7 hb8 X7 Y7
      obtain ⟨c0, c1, c2, c3, c4, c5, c6⟩ := cells7 r8.out
      go_wp2_with fail
      refine (lessT_fix (ss := ss) (ts := N) HU.out HCLS.out (HT.out.below hB8 (Nat.le_refl _)).th (HS.out.below hB8 (Nat.le_refl _)) X8.out KS.out KN.out F3.out).mono ?_
      rintro e w9 ⟨rfl, hb9⟩
      clear c0 c1 c2 c3 c4 c5 c6
      have hB9 := hB8.trans (hb9.mono (Nat.le_of_lt hz8))
      have hz9 : w.heap.size < w9.heap.size := by have := hb9.size; omega
      have r9 := Lib.hid ((hb9.block w.heap.size hz8).trans r8.out)
      have X9 := Lib.hid (X8.out.below hb9 (Nat.le_refl _))
      have Y9 := Lib.hid (Y8.out.below hb9 (Nat.le_refl _))
      clear r8 hb9 X8 Y8
      by_cases x1 : lessB (cs.map Prod.fst) (fun i => ab.getD i []) ss ts = true
      · by_cases x2 : lessB (cs.map Prod.fst) (fun i => ab.getD i []) ts us = true
        · have F66 := Lib.hid (F6.out x1 x2)
          have X1 := Lib.hid x1
          have X2 := Lib.hid x2
          clear x1 x2
          obtain ⟨c0, c1, c2, c3, c4, c5, c6⟩ := cells7 r9.out
          go_wp2_with fail
          refine (lessT_fix (ss := ss) (ts := ts) HU.out HCLS.out (HT.out.below hB9 (Nat.le_refl _)).th (HS.out.below hB9 (Nat.le_refl _)) (HS2.out.below hB9 (Nat.le_refl _)) KS.out KT.out X1.out).mono ?_
          rintro e w10 ⟨rfl, hb10⟩
          clear c0 c1 c2 c3 c4 c5 c6
          have hB10 := hB9.trans (hb10.mono (Nat.le_of_lt hz9))
          have hz10 : w.heap.size < w10.heap.size := by have := hb10.size; omega
          have r10 := Lib.hid ((hb10.block w.heap.size hz9).trans r9.out)
          have X10 := Lib.hid (X9.out.below hb10 (Nat.le_refl _))
          have Y10 := Lib.hid (Y9.out.below hb10 (Nat.le_refl _))
          clear r9 hb10 X9 Y9
          obtain ⟨c0, c1, c2, c3, c4, c5, c6⟩ := cells7 r10.out
          go_wp2_with fail
          refine (lessT_fix (ss := ts) (ts := us) HU.out HCLS.out (HT.out.below hB10 (Nat.le_refl _)).th (HS2.out.below hB10 (Nat.le_refl _)) (HS3.out.below hB10 (Nat.le_refl _)) KT.out KU.out X2.out).mono ?_
          rintro e w11 ⟨rfl, hb11⟩
          clear c0 c1 c2 c3 c4 c5 c6
          have hB11 := hB10.trans (hb11.mono (Nat.le_of_lt hz10))
          have hz11 : w.heap.size < w11.heap.size := by have := hb11.size; omega
          have r11 := Lib.hid ((hb11.block w.heap.size hz10).trans r10.out)
          have X11 := Lib.hid (X10.out.below hb11 (Nat.le_refl _))
          have Y11 := Lib.hid (Y10.out.below hb11 (Nat.le_refl _))
          clear r10 hb11 X10 Y10
          obtain ⟨c0, c1, c2, c3, c4, c5, c6⟩ := cells7 r11.out
          go_wp2_with fail
          refine (lessT_fix (ss := ss) (ts := us) HU.out HCLS.out (HT.out.below hB11 (Nat.le_refl _)).th (HS.out.below hB11 (Nat.le_refl _)) (HS3.out.below hB11 (Nat.le_refl _)) KS.out KU.out F66.out).mono ?_
          rintro e w12 ⟨rfl, hb12⟩
          clear c0 c1 c2 c3 c4 c5 c6
          have hB12 := hB11.trans (hb12.mono (Nat.le_of_lt hz11))
          have hz12 : w.heap.size < w12.heap.size := by have := hb12.size; omega
          have r12 := Lib.hid ((hb12.block w.heap.size hz11).trans r11.out)
          have X12 := Lib.hid (X11.out.below hb12 (Nat.le_refl _))
          have Y12 := Lib.hid (Y11.out.below hb12 (Nat.le_refl _))
          clear r11 hb12 X11 Y11
          by_cases z1 : lessB (cs.map Prod.fst) (fun i => ab.getD i []) us ss = true
          · by_cases z2 : lessB (cs.map Prod.fst) (fun i => ab.getD i []) us ts = true
            · have FY : Hid (lessB (cs.map Prod.fst) (fun i => ab.getD i []) us M = true) := by unfold Hid; rw [F9.out, z1, z2]; rfl
              have Z1 := Lib.hid z1
              have Z2 := Lib.hid z2
              clear z1 z2 X12
              go_wp2_with fail
              obtain ⟨c0, c1, c2, c3, c4, c5, c6⟩ := cells7 r12.out
              go_region_held3 (fun w' => w'.cell? ⟨w.heap.size, 0, none⟩ = some n ∧ w'.cell? ⟨w.heap.size, 1, none⟩ = some c ∧ w'.cell? ⟨w.heap.size, 2, none⟩ = some (.slice p2 n2 k2) ∧ w'.cell? ⟨w.heap.size, 3, none⟩ = some t3 ∧ w'.cell? ⟨w.heap.size, 4, none⟩ = some t4 ∧ w'.cell? ⟨w.heap.size, 5, none⟩ = some t5 ∧ w'.cell? ⟨w.heap.size, 6, none⟩ = some t6)
                (first | exact cells7 rz.out | exact cells7 r17.out | exact cells7 r16.out | exact cells7 r15.out | exact cells7 r14.out | exact cells7 r13.out | exact cells7 r12.out)
                (first | (go_at_call 10; refine (HA.out _).mono ?_; rintro e wz ⟨rfl, hbz⟩; have hbz : Below w17.heap.size w17 wz := (by first | exact hbz | exact ((Below.refl _ w17).drew).trans hbz); have hBz : Below w.heap.size w wz := hB17.trans (hbz.mono (Nat.le_of_lt hz17)); have rz := Lib.hid ((hbz.block w.heap.size hz17).trans r17.out)) | (go_at_call 15; have hq := hB16; clear hq; refine (lessT_fix (ss := us) (ts := ts) HU.out HCLS.out (HT.out.below (B := w.heap.size) (by first | exact hB16 | exact hB16.drew | exact hB16.drew.drew) (Nat.le_refl _)).th (HS3.out.below (B := w.heap.size) (by first | exact hB16 | exact hB16.drew | exact hB16.drew.drew) (Nat.le_refl _)) (HS2.out.below (B := w.heap.size) (by first | exact hB16 | exact hB16.drew | exact hB16.drew.drew) (Nat.le_refl _)) KU.out KT.out Z2.out).mono ?_; rintro e w17 ⟨rfl, hb17⟩; have hb17 : Below w16.heap.size w16 w17 := (by first | exact hb17 | exact ((Below.refl _ w16).drew).trans hb17); have hB17 : Below w.heap.size w w17 := hB16.trans (hb17.mono (Nat.le_of_lt hz16)); have hz17 : w.heap.size < w17.heap.size := Nat.lt_of_lt_of_le hz16 hb17.size; have r17 := Lib.hid ((hb17.block w.heap.size hz16).trans r16.out); have Y17 := Lib.hid (Y16.out.below hb17 (Nat.le_refl _)); clear hb17) | (go_at_call 15; have hq := hB15; clear hq; refine (lessT_fix (ss := us) (ts := ss) HU.out HCLS.out (HT.out.below (B := w.heap.size) (by first | exact hB15 | exact hB15.drew | exact hB15.drew.drew) (Nat.le_refl _)).th (HS3.out.below (B := w.heap.size) (by first | exact hB15 | exact hB15.drew | exact hB15.drew.drew) (Nat.le_refl _)) (HS.out.below (B := w.heap.size) (by first | exact hB15 | exact hB15.drew | exact hB15.drew.drew) (Nat.le_refl _)) KU.out KS.out Z1.out).mono ?_; rintro e w16 ⟨rfl, hb16⟩; have hb16 : Below w15.heap.size w15 w16 := (by first | exact hb16 | exact ((Below.refl _ w15).drew).trans hb16); have hB16 : Below w.heap.size w w16 := hB15.trans (hb16.mono (Nat.le_of_lt hz15)); have hz16 : w.heap.size < w16.heap.size := Nat.lt_of_lt_of_le hz15 hb16.size; have r16 := Lib.hid ((hb16.block w.heap.size hz15).trans r15.out); have Y16 := Lib.hid (Y15.out.below hb16 (Nat.le_refl _)); clear hb16) | (go_at_call 15; have hq := hB14; clear hq; refine (lessT_fix (ss := us) (ts := M) HU.out HCLS.out (HT.out.below (B := w.heap.size) (by first | exact hB14 | exact hB14.drew | exact hB14.drew.drew) (Nat.le_refl _)).th (HS3.out.below (B := w.heap.size) (by first | exact hB14 | exact hB14.drew | exact hB14.drew.drew) (Nat.le_refl _)) (by exact Y14.out) KU.out KM.out FY.out).mono ?_; rintro e w15 ⟨rfl, hb15⟩; have hb15 : Below w14.heap.size w14 w15 := (by first | exact hb15 | exact ((Below.refl _ w14).drew).trans hb15); have hB15 : Below w.heap.size w w15 := hB14.trans (hb15.mono (Nat.le_of_lt hz14)); have hz15 : w.heap.size < w15.heap.size := Nat.lt_of_lt_of_le hz14 hb15.size; have r15 := Lib.hid ((hb15.block w.heap.size hz14).trans r14.out); have Y15 := Lib.hid (Y14.out.below hb15 (Nat.le_refl _)); clear hb15) | (go_at_call 15; have hq := hB13; clear hq; refine (lessT_fix (ss := M) (ts := ts) HU.out HCLS.out (HT.out.below (B := w.heap.size) (by first | exact hB13 | exact hB13.drew | exact hB13.drew.drew) (Nat.le_refl _)).th (by exact Y13.out) (HS2.out.below (B := w.heap.size) (by first | exact hB13 | exact hB13.drew | exact hB13.drew.drew) (Nat.le_refl _)) KM.out KT.out F8.out).mono ?_; rintro e w14 ⟨rfl, hb14⟩; have hb14 : Below w13.heap.size w13 w14 := (by first | exact hb14 | exact ((Below.refl _ w13).drew).trans hb14); have hB14 : Below w.heap.size w w14 := hB13.trans (hb14.mono (Nat.le_of_lt hz13)); have hz14 : w.heap.size < w14.heap.size := Nat.lt_of_lt_of_le hz13 hb14.size; have r14 := Lib.hid ((hb14.block w.heap.size hz13).trans r13.out); have Y14 := Lib.hid (Y13.out.below hb14 (Nat.le_refl _)); clear hb14) | (go_at_call 15; have hq := hB12; clear hq; refine (lessT_fix (ss := M) (ts := ss) HU.out HCLS.out (HT.out.below (B := w.heap.size) (by first | exact hB12 | exact hB12.drew | exact hB12.drew.drew) (Nat.le_refl _)).th (by exact Y12.out) (HS.out.below (B := w.heap.size) (by first | exact hB12 | exact hB12.drew | exact hB12.drew.drew) (Nat.le_refl _)) KM.out KS.out F7.out).mono ?_; rintro e w13 ⟨rfl, hb13⟩; have hb13 : Below w12.heap.size w12 w13 := (by first | exact hb13 | exact ((Below.refl _ w12).drew).trans hb13); have hB13 : Below w.heap.size w w13 := hB12.trans (hb13.mono (Nat.le_of_lt hz12)); have hz13 : w.heap.size < w13.heap.size := Nat.lt_of_lt_of_le hz12 hb13.size; have r13 := Lib.hid ((hb13.block w.heap.size hz12).trans r12.out); have Y13 := Lib.hid (Y12.out.below hb13 (Nat.le_refl _)); clear hb13))
              go_wp2_with fail
              go_ret
              exact ⟨rfl, hBz⟩
            · have z2' : lessB (cs.map Prod.fst) (fun i => ab.getD i []) us ts = false := by simpa using z2
              have FY : Hid (lessB (cs.map Prod.fst) (fun i => ab.getD i []) us M = false) := by unfold Hid; rw [F9.out, z1, z2']; rfl
              have Z1 := Lib.hid z1
              have Z2 := Lib.hid z2'
              clear z1 z2 z2' X12
              go_wp2_with fail
              obtain ⟨c0, c1, c2, c3, c4, c5, c6⟩ := cells7 r12.out
              go_region_held3 (fun w' => w'.cell? ⟨w.heap.size, 0, none⟩ = some n ∧ w'.cell? ⟨w.heap.size, 1, none⟩ = some c ∧ w'.cell? ⟨w.heap.size, 2, none⟩ = some (.slice p2 n2 k2) ∧ w'.cell? ⟨w.heap.size, 3, none⟩ = some t3 ∧ w'.cell? ⟨w.heap.size, 4, none⟩ = some t4 ∧ w'.cell? ⟨w.heap.size, 5, none⟩ = some t5 ∧ w'.cell? ⟨w.heap.size, 6, none⟩ = some t6)
                (first | exact cells7 rz.out | exact cells7 r17.out | exact cells7 r16.out | exact cells7 r15.out | exact cells7 r14.out | exact cells7 r13.out | exact cells7 r12.out)
                (first | (go_at_call 10; refine (HA.out _).mono ?_; rintro e wz ⟨rfl, hbz⟩; have hbz : Below w17.heap.size w17 wz := (by first | exact hbz | exact ((Below.refl _ w17).drew).trans hbz); have hBz : Below w.heap.size w wz := hB17.trans (hbz.mono (Nat.le_of_lt hz17)); have rz := Lib.hid ((hbz.block w.heap.size hz17).trans r17.out)) | (go_at_call 15; have hq := hB16; clear hq; refine (lessT_fix (ss := us) (ts := ts) HU.out HCLS.out (HT.out.below (B := w.heap.size) (by first | exact hB16 | exact hB16.drew | exact hB16.drew.drew) (Nat.le_refl _)).th (HS3.out.below (B := w.heap.size) (by first | exact hB16 | exact hB16.drew | exact hB16.drew.drew) (Nat.le_refl _)) (HS2.out.below (B := w.heap.size) (by first | exact hB16 | exact hB16.drew | exact hB16.drew.drew) (Nat.le_refl _)) KU.out KT.out Z2.out).mono ?_; rintro e w17 ⟨rfl, hb17⟩; have hb17 : Below w16.heap.size w16 w17 := (by first | exact hb17 | exact ((Below.refl _ w16).drew).trans hb17); have hB17 : Below w.heap.size w w17 := hB16.trans (hb17.mono (Nat.le_of_lt hz16)); have hz17 : w.heap.size < w17.heap.size := Nat.lt_of_lt_of_le hz16 hb17.size; have r17 := Lib.hid ((hb17.block w.heap.size hz16).trans r16.out); have Y17 := Lib.hid (Y16.out.below hb17 (Nat.le_refl _)); clear hb17) | (go_at_call 15; have hq := hB15; clear hq; refine (lessT_fix (ss := us) (ts := ss) HU.out HCLS.out (HT.out.below (B := w.heap.size) (by first | exact hB15 | exact hB15.drew | exact hB15.drew.drew) (Nat.le_refl _)).th (HS3.out.below (B := w.heap.size) (by first | exact hB15 | exact hB15.drew | exact hB15.drew.drew) (Nat.le_refl _)) (HS.out.below (B := w.heap.size) (by first | exact hB15 | exact hB15.drew | exact hB15.drew.drew) (Nat.le_refl _)) KU.out KS.out Z1.out).mono ?_; rintro e w16 ⟨rfl, hb16⟩; have hb16 : Below w15.heap.size w15 w16 := (by first | exact hb16 | exact ((Below.refl _ w15).drew).trans hb16); have hB16 : Below w.heap.size w w16 := hB15.trans (hb16.mono (Nat.le_of_lt hz15)); have hz16 : w.heap.size < w16.heap.size := Nat.lt_of_lt_of_le hz15 hb16.size; have r16 := Lib.hid ((hb16.block w.heap.size hz15).trans r15.out); have Y16 := Lib.hid (Y15.out.below hb16 (Nat.le_refl _)); clear hb16) | (go_at_call 15; have hq := hB14; clear hq; refine (lessT_fix (ss := us) (ts := M) HU.out HCLS.out (HT.out.below (B := w.heap.size) (by first | exact hB14 | exact hB14.drew | exact hB14.drew.drew) (Nat.le_refl _)).th (HS3.out.below (B := w.heap.size) (by first | exact hB14 | exact hB14.drew | exact hB14.drew.drew) (Nat.le_refl _)) (by exact Y14.out) KU.out KM.out FY.out).mono ?_; rintro e w15 ⟨rfl, hb15⟩; have hb15 : Below w14.heap.size w14 w15 := (by first | exact hb15 | exact ((Below.refl _ w14).drew).trans hb15); have hB15 : Below w.heap.size w w15 := hB14.trans (hb15.mono (Nat.le_of_lt hz14)); have hz15 : w.heap.size < w15.heap.size := Nat.lt_of_lt_of_le hz14 hb15.size; have r15 := Lib.hid ((hb15.block w.heap.size hz14).trans r14.out); have Y15 := Lib.hid (Y14.out.below hb15 (Nat.le_refl _)); clear hb15) | (go_at_call 15; have hq := hB13; clear hq; refine (lessT_fix (ss := M) (ts := ts) HU.out HCLS.out (HT.out.below (B := w.heap.size) (by first | exact hB13 | exact hB13.drew | exact hB13.drew.drew) (Nat.le_refl _)).th (by exact Y13.out) (HS2.out.below (B := w.heap.size) (by first | exact hB13 | exact hB13.drew | exact hB13.drew.drew) (Nat.le_refl _)) KM.out KT.out F8.out).mono ?_; rintro e w14 ⟨rfl, hb14⟩; have hb14 : Below w13.heap.size w13 w14 := (by first | exact hb14 | exact ((Below.refl _ w13).drew).trans hb14); have hB14 : Below w.heap.size w w14 := hB13.trans (hb14.mono (Nat.le_of_lt hz13)); have hz14 : w.heap.size < w14.heap.size := Nat.lt_of_lt_of_le hz13 hb14.size; have r14 := Lib.hid ((hb14.block w.heap.size hz13).trans r13.out); have Y14 := Lib.hid (Y13.out.below hb14 (Nat.le_refl _)); clear hb14) | (go_at_call 15; have hq := hB12; clear hq; refine (lessT_fix (ss := M) (ts := ss) HU.out HCLS.out (HT.out.below (B := w.heap.size) (by first | exact hB12 | exact hB12.drew | exact hB12.drew.drew) (Nat.le_refl _)).th (by exact Y12.out) (HS.out.below (B := w.heap.size) (by first | exact hB12 | exact hB12.drew | exact hB12.drew.drew) (Nat.le_refl _)) KM.out KS.out F7.out).mono ?_; rintro e w13 ⟨rfl, hb13⟩; have hb13 : Below w12.heap.size w12 w13 := (by first | exact hb13 | exact ((Below.refl _ w12).drew).trans hb13); have hB13 : Below w.heap.size w w13 := hB12.trans (hb13.mono (Nat.le_of_lt hz12)); have hz13 : w.heap.size < w13.heap.size := Nat.lt_of_lt_of_le hz12 hb13.size; have r13 := Lib.hid ((hb13.block w.heap.size hz12).trans r12.out); have Y13 := Lib.hid (Y12.out.below hb13 (Nat.le_refl _)); clear hb13))
              go_wp2_with fail
              go_ret
              exact ⟨rfl, hBz⟩
          · have z1' : lessB (cs.map Prod.fst) (fun i => ab.getD i []) us ss = false := by simpa using z1
            have FY : Hid (lessB (cs.map Prod.fst) (fun i => ab.getD i []) us M = false) := by unfold Hid; rw [F9.out, z1']; rfl
            have Z1 := Lib.hid z1'
            clear z1 z1' X12
            go_wp2_with fail
            obtain ⟨c0, c1, c2, c3, c4, c5, c6⟩ := cells7 r12.out
            refine wp_region_held_drew (S := (fun w' => w'.cell? ⟨w.heap.size, 0, none⟩ = some n ∧ w'.cell? ⟨w.heap.size, 1, none⟩ = some c ∧ w'.cell? ⟨w.heap.size, 2, none⟩ = some (.slice p2 n2 k2) ∧ w'.cell? ⟨w.heap.size, 3, none⟩ = some t3 ∧ w'.cell? ⟨w.heap.size, 4, none⟩ = some t4 ∧ w'.cell? ⟨w.heap.size, 5, none⟩ = some t5 ∧ w'.cell? ⟨w.heap.size, 6, none⟩ = some t6)) (by kernel_rfl) ?_ (fun hHeld => ?_)
            · exact cells7 r12.out
            clear c0 c1 c2 c3 c4 c5 c6
            refine wpAnyH_take (i := 0) (oi := { dst := some 107, op := Op.load 29 (Operand.tmp 4), type := 29, pos := "law.go:106", after := #[], guard := none }) (v := ?v0ua) rfl (by kernel_rfl) (by kernel_rfl) (by kernel_rfl) (fun _ _ _ h => h) (Or.inl ⟨by rfl, ?hy0ua⟩) (by assumption) ?rest0ua
            case hy0ua => (intro wq hSq; (try dsimp only at hSq); go_simp; try with_reducible rfl)
            try simp only [Act.put, List.setIfInBounds_toArray, List.set_cons_zero, List.set_cons_succ]
            refine wpAnyH_take (i := 1) (oi := { dst := some 108, op := Op.move (Operand.tmp 15), type := 27, pos := "law.go:106", after := #[], guard := none }) (v := ?v1ua) rfl (by kernel_rfl) (by kernel_rfl) (by kernel_rfl) (fun _ _ _ h => h) (Or.inl ⟨by rfl, ?hy1ua⟩) (by assumption) ?rest1ua
            case hy1ua => (intro wq hSq; (try dsimp only at hSq); go_simp; try with_reducible rfl)
            try simp only [Act.put, List.setIfInBounds_toArray, List.set_cons_zero, List.set_cons_succ]
            refine wpAnyH_take (i := 2) (oi := { dst := some 109, op := Op.move (Operand.tmp 1), type := 27, pos := "law.go:106", after := #[], guard := none }) (v := ?v2ua) rfl (by kernel_rfl) (by kernel_rfl) (by kernel_rfl) (fun _ _ _ h => h) (Or.inl ⟨by rfl, ?hy2ua⟩) (by assumption) ?rest2ua
            case hy2ua => (intro wq hSq; (try dsimp only at hSq); go_simp; try with_reducible rfl)
            try simp only [Act.put, List.setIfInBounds_toArray, List.set_cons_zero, List.set_cons_succ]
            refine wpAnyH_ready (rs := [3]) (by kernel_rfl) (by simp) ?_
            refine AllReadyH.cons rfl (fun K hK => ?_) AllReadyH.nil
            go_simp
            go_wp2_with (go_at_call 15; refine (lessT_fix (ss := M) (ts := ss) HU.out HCLS.out (HT.out.below (B := w.heap.size) (by first | exact hB12 | exact hB12.drew) (Nat.le_refl _)).th (by exact Y12.out) (HS.out.below (B := w.heap.size) (by first | exact hB12 | exact hB12.drew) (Nat.le_refl _)) KM.out KS.out F7.out).mono ?_; rintro e w13 ⟨rfl, hb13⟩; have hb13 : Below w12.heap.size w12 w13 := (by first | exact hb13 | exact ((Below.refl _ w12).drew).trans hb13); have hB13 : Below w.heap.size w w13 := hB12.trans (hb13.mono (Nat.le_of_lt hz12)); have hz13 : w.heap.size < w13.heap.size := Nat.lt_of_lt_of_le hz12 hb13.size; have r13 := Lib.hid ((hb13.block w.heap.size hz12).trans r12.out); have Y13 := Lib.hid (Y12.out.below hb13 (Nat.le_refl _)); clear hb13)
            refine hK.out _ _ ?_ (fun hHeldN => ?_)
            · (try dsimp only); exact cells7 r13.out
            clear hK K hHeld
            have hHeld := hHeldN
            clear hHeldN
            refine wpAnyH_take (i := 4) (oi := { dst := some 111, op := Op.move (Operand.tmp 110), type := 4, pos := "law.go:106", after := #[{ on := 3, ground := Ground.data }, { on := 3, ground := Ground.chain }], guard := none }) (v := ?v4ua) rfl (by kernel_rfl) (by kernel_rfl) (by kernel_rfl) (fun _ _ _ h => h) (Or.inl ⟨by rfl, ?hy4ua⟩) (by assumption) ?rest4ua
            case hy4ua => (intro wq hSq; (try dsimp only at hSq); go_simp; try with_reducible rfl)
            try simp only [Act.put, List.setIfInBounds_toArray, List.set_cons_zero, List.set_cons_succ]
            refine wpAnyH_take (i := 5) (oi := { dst := some 112, op := Op.load 29 (Operand.tmp 4), type := 29, pos := "law.go:106", after := #[{ on := 4, ground := Ground.guard }], guard := some (4, true) }) (v := ?v5ua) rfl (by kernel_rfl) (by kernel_rfl) (by kernel_rfl) (fun _ _ _ h => h) (Or.inl ⟨by rfl, ?hy5ua⟩) (by assumption) ?rest5ua
            case hy5ua => (intro wq hSq; (try dsimp only at hSq); go_simp; try with_reducible rfl)
            try simp only [Act.put, List.setIfInBounds_toArray, List.set_cons_zero, List.set_cons_succ]
            refine wpAnyH_take (i := 6) (oi := { dst := some 113, op := Op.move (Operand.tmp 15), type := 27, pos := "law.go:106", after := #[{ on := 4, ground := Ground.guard }], guard := some (4, true) }) (v := ?v6ua) rfl (by kernel_rfl) (by kernel_rfl) (by kernel_rfl) (fun _ _ _ h => h) (Or.inl ⟨by rfl, ?hy6ua⟩) (by assumption) ?rest6ua
            case hy6ua => (intro wq hSq; (try dsimp only at hSq); go_simp; try with_reducible rfl)
            try simp only [Act.put, List.setIfInBounds_toArray, List.set_cons_zero, List.set_cons_succ]
            refine wpAnyH_take (i := 7) (oi := { dst := some 114, op := Op.move (Operand.tmp 2), type := 27, pos := "law.go:106", after := #[{ on := 4, ground := Ground.guard }], guard := some (4, true) }) (v := ?v7ua) rfl (by kernel_rfl) (by kernel_rfl) (by kernel_rfl) (fun _ _ _ h => h) (Or.inl ⟨by rfl, ?hy7ua⟩) (by assumption) ?rest7ua
            case hy7ua => (intro wq hSq; (try dsimp only at hSq); go_simp; try with_reducible rfl)
            try simp only [Act.put, List.setIfInBounds_toArray, List.set_cons_zero, List.set_cons_succ]
            refine wpAnyH_ready (rs := [8]) (by kernel_rfl) (by simp) ?_
            refine AllReadyH.cons rfl (fun K hK => ?_) AllReadyH.nil
            go_simp
            go_wp2_with (go_at_call 15; refine (lessT_fix (ss := M) (ts := ts) HU.out HCLS.out (HT.out.below (B := w.heap.size) (by first | exact hB13 | exact hB13.drew) (Nat.le_refl _)).th (by exact Y13.out) (HS2.out.below (B := w.heap.size) (by first | exact hB13 | exact hB13.drew) (Nat.le_refl _)) KM.out KT.out F8.out).mono ?_; rintro e w14 ⟨rfl, hb14⟩; have hb14 : Below w13.heap.size w13 w14 := (by first | exact hb14 | exact ((Below.refl _ w13).drew).trans hb14); have hB14 : Below w.heap.size w w14 := hB13.trans (hb14.mono (Nat.le_of_lt hz13)); have hz14 : w.heap.size < w14.heap.size := Nat.lt_of_lt_of_le hz13 hb14.size; have r14 := Lib.hid ((hb14.block w.heap.size hz13).trans r13.out); have Y14 := Lib.hid (Y13.out.below hb14 (Nat.le_refl _)); clear hb14)
            refine hK.out _ _ ?_ (fun hHeldN => ?_)
            · (try dsimp only); exact cells7 r14.out
            clear hK K hHeld
            have hHeld := hHeldN
            clear hHeldN
            refine wpAnyH_take (i := 9) (oi := { dst := some 116, op := Op.pick (Operand.tmp 111) (Operand.tmp 115) (Operand.const (Value.bool false)), type := 4, pos := "law.go:106", after := #[{ on := 4, ground := Ground.data }, { on := 8, ground := Ground.data }], guard := none }) (v := ?v9ua) rfl (by kernel_rfl) (by kernel_rfl) (by kernel_rfl) (fun _ _ _ h => h) (Or.inl ⟨by rfl, ?hy9ua⟩) (by assumption) ?rest9ua
            case hy9ua => (intro wq hSq; (try dsimp only at hSq); go_simp; try with_reducible rfl)
            try simp only [Act.put, List.setIfInBounds_toArray, List.set_cons_zero, List.set_cons_succ]
            refine wpAnyH_take (i := 10) (oi := { dst := some 117, op := Op.move (Operand.tmp 116), type := 4, pos := "law.go:106", after := #[{ on := 9, ground := Ground.data }, { on := 8, ground := Ground.chain }], guard := none }) (v := ?v10ua) rfl (by kernel_rfl) (by kernel_rfl) (by kernel_rfl) (fun _ _ _ h => h) (Or.inl ⟨by rfl, ?hy10ua⟩) (by assumption) ?rest10ua
            case hy10ua => (intro wq hSq; (try dsimp only at hSq); go_simp; try with_reducible rfl)
            try simp only [Act.put, List.setIfInBounds_toArray, List.set_cons_zero, List.set_cons_succ]
            refine wpAnyH_take (i := 11) (oi := { dst := some 118, op := Op.load 29 (Operand.tmp 4), type := 29, pos := "law.go:106", after := #[{ on := 10, ground := Ground.guard }], guard := some (10, true) }) (v := ?v11ua) rfl (by kernel_rfl) (by kernel_rfl) (by kernel_rfl) (fun _ _ _ h => h) (Or.inl ⟨by rfl, ?hy11ua⟩) (by assumption) ?rest11ua
            case hy11ua => (intro wq hSq; (try dsimp only at hSq); go_simp; try with_reducible rfl)
            try simp only [Act.put, List.setIfInBounds_toArray, List.set_cons_zero, List.set_cons_succ]
            refine wpAnyH_take (i := 12) (oi := { dst := some 119, op := Op.move (Operand.tmp 3), type := 27, pos := "law.go:106", after := #[{ on := 10, ground := Ground.guard }], guard := some (10, true) }) (v := ?v12ua) rfl (by kernel_rfl) (by kernel_rfl) (by kernel_rfl) (fun _ _ _ h => h) (Or.inl ⟨by rfl, ?hy12ua⟩) (by assumption) ?rest12ua
            case hy12ua => (intro wq hSq; (try dsimp only at hSq); go_simp; try with_reducible rfl)
            try simp only [Act.put, List.setIfInBounds_toArray, List.set_cons_zero, List.set_cons_succ]
            refine wpAnyH_take (i := 13) (oi := { dst := some 120, op := Op.move (Operand.tmp 15), type := 27, pos := "law.go:106", after := #[{ on := 10, ground := Ground.guard }], guard := some (10, true) }) (v := ?v13ua) rfl (by kernel_rfl) (by kernel_rfl) (by kernel_rfl) (fun _ _ _ h => h) (Or.inl ⟨by rfl, ?hy13ua⟩) (by assumption) ?rest13ua
            case hy13ua => (intro wq hSq; (try dsimp only at hSq); go_simp; try with_reducible rfl)
            try simp only [Act.put, List.setIfInBounds_toArray, List.set_cons_zero, List.set_cons_succ]
            refine wpAnyH_take (i := 15) (oi := { dst := some 122, op := Op.load 29 (Operand.tmp 4), type := 29, pos := "law.go:106", after := #[{ on := 10, ground := Ground.guard }], guard := some (10, true) }) (v := ?v15ua) rfl (by kernel_rfl) (by kernel_rfl) (by kernel_rfl) (fun _ _ _ h => h) (Or.inl ⟨by rfl, ?hy15ua⟩) (by assumption) ?rest15ua
            case hy15ua => (intro wq hSq; (try dsimp only at hSq); go_simp; try with_reducible rfl)
            try simp only [Act.put, List.setIfInBounds_toArray, List.set_cons_zero, List.set_cons_succ]
            refine wpAnyH_take (i := 16) (oi := { dst := some 123, op := Op.move (Operand.tmp 3), type := 27, pos := "law.go:106", after := #[{ on := 10, ground := Ground.guard }], guard := some (10, true) }) (v := ?v16ua) rfl (by kernel_rfl) (by kernel_rfl) (by kernel_rfl) (fun _ _ _ h => h) (Or.inl ⟨by rfl, ?hy16ua⟩) (by assumption) ?rest16ua
            case hy16ua => (intro wq hSq; (try dsimp only at hSq); go_simp; try with_reducible rfl)
            try simp only [Act.put, List.setIfInBounds_toArray, List.set_cons_zero, List.set_cons_succ]
            refine wpAnyH_take (i := 17) (oi := { dst := some 124, op := Op.move (Operand.tmp 1), type := 27, pos := "law.go:106", after := #[{ on := 10, ground := Ground.guard }], guard := some (10, true) }) (v := ?v17ua) rfl (by kernel_rfl) (by kernel_rfl) (by kernel_rfl) (fun _ _ _ h => h) (Or.inl ⟨by rfl, ?hy17ua⟩) (by assumption) ?rest17ua
            case hy17ua => (intro wq hSq; (try dsimp only at hSq); go_simp; try with_reducible rfl)
            try simp only [Act.put, List.setIfInBounds_toArray, List.set_cons_zero, List.set_cons_succ]
            refine wpAnyH_ready (rs := [14]) (by kernel_rfl) (by simp) ?_
            refine AllReadyH.cons rfl (fun K hK => ?_) AllReadyH.nil
            go_simp
            go_wp2_with (go_at_call 15; refine (lessT_fix (ss := us) (ts := M) HU.out HCLS.out (HT.out.below (B := w.heap.size) (by first | exact hB14 | exact hB14.drew) (Nat.le_refl _)).th (HS3.out.below (B := w.heap.size) (by first | exact hB14 | exact hB14.drew) (Nat.le_refl _)) (by exact Y14.out) KU.out KM.out FY.out).mono ?_; rintro e w15 ⟨rfl, hb15⟩; have hb15 : Below w14.heap.size w14 w15 := (by first | exact hb15 | exact ((Below.refl _ w14).drew).trans hb15); have hB15 : Below w.heap.size w w15 := hB14.trans (hb15.mono (Nat.le_of_lt hz14)); have hz15 : w.heap.size < w15.heap.size := Nat.lt_of_lt_of_le hz14 hb15.size; have r15 := Lib.hid ((hb15.block w.heap.size hz14).trans r14.out); have Y15 := Lib.hid (Y14.out.below hb15 (Nat.le_refl _)); clear hb15)
            refine hK.out _ _ ?_ (fun hHeldN => ?_)
            · (try dsimp only); exact cells7 r15.out
            clear hK K hHeld
            have hHeld := hHeldN
            clear hHeldN
            refine wpAnyH_ready (rs := [18]) (by kernel_rfl) (by simp) ?_
            refine AllReadyH.cons rfl (fun K hK => ?_) AllReadyH.nil
            go_simp
            go_wp2_with (go_at_call 15; refine (lessT_fix (ss := us) (ts := ss) HU.out HCLS.out (HT.out.below (B := w.heap.size) (by first | exact hB15 | exact hB15.drew) (Nat.le_refl _)).th (HS3.out.below (B := w.heap.size) (by first | exact hB15 | exact hB15.drew) (Nat.le_refl _)) (HS.out.below (B := w.heap.size) (by first | exact hB15 | exact hB15.drew) (Nat.le_refl _)) KU.out KS.out Z1.out).mono ?_; rintro e w16 ⟨rfl, hb16⟩; have hb16 : Below w15.heap.size w15 w16 := (by first | exact hb16 | exact ((Below.refl _ w15).drew).trans hb16); have hB16 : Below w.heap.size w w16 := hB15.trans (hb16.mono (Nat.le_of_lt hz15)); have hz16 : w.heap.size < w16.heap.size := Nat.lt_of_lt_of_le hz15 hb16.size; have r16 := Lib.hid ((hb16.block w.heap.size hz15).trans r15.out); have Y16 := Lib.hid (Y15.out.below hb16 (Nat.le_refl _)); clear hb16)
            refine hK.out _ _ ?_ (fun hHeldN => ?_)
            · (try dsimp only); exact cells7 r16.out
            clear hK K hHeld
            have hHeld := hHeldN
            clear hHeldN
            refine wpAnyH_take (i := 19) (oi := { dst := some 126, op := Op.move (Operand.tmp 125), type := 4, pos := "law.go:106", after := #[{ on := 18, ground := Ground.data }, { on := 18, ground := Ground.chain }, { on := 10, ground := Ground.guard }], guard := some (10, true) }) (v := ?v19ua) rfl (by kernel_rfl) (by kernel_rfl) (by kernel_rfl) (fun _ _ _ h => h) (Or.inl ⟨by rfl, ?hy19ua⟩) (by assumption) ?rest19ua
            case hy19ua => (intro wq hSq; (try dsimp only at hSq); go_simp; try with_reducible rfl)
            try simp only [Act.put, List.setIfInBounds_toArray, List.set_cons_zero, List.set_cons_succ]
            refine wpAnyH_take (i := 20) (oi := { dst := some 127, op := Op.load 29 (Operand.tmp 4), type := 29, pos := "law.go:106", after := #[{ on := 19, ground := Ground.guard }], guard := some (19, true) }) (v := undef) rfl (by kernel_rfl) (by kernel_rfl) (by kernel_rfl) (fun _ _ _ h => h) (Or.inr ⟨by rfl, rfl⟩) (by assumption) ?_
            try simp only [Act.put, List.setIfInBounds_toArray, List.set_cons_zero, List.set_cons_succ]
            refine wpAnyH_take (i := 21) (oi := { dst := some 128, op := Op.move (Operand.tmp 3), type := 27, pos := "law.go:106", after := #[{ on := 19, ground := Ground.guard }], guard := some (19, true) }) (v := undef) rfl (by kernel_rfl) (by kernel_rfl) (by kernel_rfl) (fun _ _ _ h => h) (Or.inr ⟨by rfl, rfl⟩) (by assumption) ?_
            try simp only [Act.put, List.setIfInBounds_toArray, List.set_cons_zero, List.set_cons_succ]
            refine wpAnyH_take (i := 22) (oi := { dst := some 129, op := Op.move (Operand.tmp 2), type := 27, pos := "law.go:106", after := #[{ on := 19, ground := Ground.guard }], guard := some (19, true) }) (v := undef) rfl (by kernel_rfl) (by kernel_rfl) (by kernel_rfl) (fun _ _ _ h => h) (Or.inr ⟨by rfl, rfl⟩) (by assumption) ?_
            try simp only [Act.put, List.setIfInBounds_toArray, List.set_cons_zero, List.set_cons_succ]
            refine wpAnyH_ready (rs := [23]) (by kernel_rfl) (by simp) ?_
            refine AllReadyH.cons rfl (fun K hK => ?_) AllReadyH.nil
            go_simp
            refine hK.out _ _ ?_ (fun hHeldN => ?_)
            · (try dsimp only); exact cells7 r16.out
            clear hK K hHeld
            have hHeld := hHeldN
            clear hHeldN
            refine wpAnyH_take (i := 24) (oi := { dst := some 131, op := Op.pick (Operand.tmp 126) (Operand.tmp 130) (Operand.const (Value.bool false)), type := 4, pos := "law.go:106", after := #[{ on := 19, ground := Ground.data }, { on := 23, ground := Ground.data }, { on := 10, ground := Ground.guard }], guard := some (10, true) }) (v := ?v24ua) rfl (by kernel_rfl) (by kernel_rfl) (by kernel_rfl) (fun _ _ _ h => h) (Or.inl ⟨by rfl, ?hy24ua⟩) (by assumption) ?rest24ua
            case hy24ua => (intro wq hSq; (try dsimp only at hSq); go_simp; try with_reducible rfl)
            try simp only [Act.put, List.setIfInBounds_toArray, List.set_cons_zero, List.set_cons_succ]
            refine wpAnyH_take (i := 25) (oi := { dst := some 132, op := Op.binOp BinOp.eql 4 (Operand.tmp 121) (Operand.tmp 131) 4, type := 4, pos := "law.go:106", after := #[{ on := 14, ground := Ground.data }, { on := 24, ground := Ground.data }, { on := 10, ground := Ground.guard }], guard := some (10, true) }) (v := ?v25ua) rfl (by kernel_rfl) (by kernel_rfl) (by kernel_rfl) (fun _ _ _ h => h) (Or.inl ⟨by rfl, ?hy25ua⟩) (by assumption) ?rest25ua
            case hy25ua => (intro wq hSq; (try dsimp only at hSq); go_simp; try with_reducible rfl)
            try simp only [Act.put, List.setIfInBounds_toArray, List.set_cons_zero, List.set_cons_succ]
            refine wpAnyH_take (i := 26) (oi := { dst := some 133, op := Op.pick (Operand.tmp 117) (Operand.tmp 132) (Operand.const (Value.bool false)), type := 4, pos := "law.go:106", after := #[{ on := 10, ground := Ground.data }, { on := 25, ground := Ground.data }], guard := none }) (v := ?v26ua) rfl (by kernel_rfl) (by kernel_rfl) (by kernel_rfl) (fun _ _ _ h => h) (Or.inl ⟨by rfl, ?hy26ua⟩) (by assumption) ?rest26ua
            case hy26ua => (intro wq hSq; (try dsimp only at hSq); go_simp; try with_reducible rfl)
            try simp only [Act.put, List.setIfInBounds_toArray, List.set_cons_zero, List.set_cons_succ]
            refine wpAnyH_take (i := 27) (oi := { dst := some 134, op := Op.move (Operand.tmp 133), type := 4, pos := "law.go:106", after := #[{ on := 26, ground := Ground.data }, { on := 23, ground := Ground.chain }], guard := none }) (v := ?v27ua) rfl (by kernel_rfl) (by kernel_rfl) (by kernel_rfl) (fun _ _ _ h => h) (Or.inl ⟨by rfl, ?hy27ua⟩) (by assumption) ?rest27ua
            case hy27ua => (intro wq hSq; (try dsimp only at hSq); go_simp; try with_reducible rfl)
            try simp only [Act.put, List.setIfInBounds_toArray, List.set_cons_zero, List.set_cons_succ]
            refine wpAnyH_ready (rs := [28]) (by kernel_rfl) (by simp) ?_
            refine AllReadyH.cons rfl (fun K hK => ?_) AllReadyH.nil
            go_simp
            go_wp2_with (go_at_call 10; refine (HA.out _).mono ?_; rintro e wz ⟨rfl, hbz⟩; have hBz : Below w.heap.size w wz := hB16.trans (hbz.mono (Nat.le_of_lt hz16)); have rz := Lib.hid ((hbz.block w.heap.size hz16).trans r16.out))
            refine hK.out _ _ ?_ (fun hHeldN => ?_)
            · (try dsimp only); exact cells7 rz.out
            clear hK K hHeld
            have hHeld := hHeldN
            clear hHeldN
            refine wpAnyH_take (i := 29) (oi := { dst := some 136, op := Op.pick (Operand.tmp 134) (Operand.tmp 135) (Operand.const (Value.bool false)), type := 4, pos := "law.go:106", after := #[{ on := 27, ground := Ground.data }, { on := 28, ground := Ground.data }], guard := none }) (v := ?v29ua) rfl (by kernel_rfl) (by kernel_rfl) (by kernel_rfl) (fun _ _ _ h => h) (Or.inl ⟨by rfl, ?hy29ua⟩) (by assumption) ?rest29ua
            case hy29ua => (intro wq hSq; (try dsimp only at hSq); go_simp; try with_reducible rfl)
            try simp only [Act.put, List.setIfInBounds_toArray, List.set_cons_zero, List.set_cons_succ]
            refine wpAnyH_take (i := 30) (oi := { dst := some 8, op := Op.assign (Operand.tmp 136), type := 4, pos := "law.go:106", after := #[{ on := 29, ground := Ground.data }, { on := 28, ground := Ground.chain }, { on := 0, ground := Ground.phase }, { on := 1, ground := Ground.phase }, { on := 2, ground := Ground.phase }, { on := 3, ground := Ground.phase }, { on := 4, ground := Ground.phase }, { on := 5, ground := Ground.phase }, { on := 6, ground := Ground.phase }, { on := 7, ground := Ground.phase }, { on := 8, ground := Ground.phase }, { on := 9, ground := Ground.phase }, { on := 10, ground := Ground.phase }, { on := 11, ground := Ground.phase }, { on := 12, ground := Ground.phase }, { on := 13, ground := Ground.phase }, { on := 14, ground := Ground.phase }, { on := 15, ground := Ground.phase }, { on := 16, ground := Ground.phase }, { on := 17, ground := Ground.phase }, { on := 18, ground := Ground.phase }, { on := 19, ground := Ground.phase }, { on := 20, ground := Ground.phase }, { on := 21, ground := Ground.phase }, { on := 22, ground := Ground.phase }, { on := 23, ground := Ground.phase }, { on := 24, ground := Ground.phase }, { on := 25, ground := Ground.phase }, { on := 26, ground := Ground.phase }, { on := 27, ground := Ground.phase }, { on := 28, ground := Ground.phase }, { on := 29, ground := Ground.phase }], guard := none }) (v := ?v30ua) rfl (by kernel_rfl) (by kernel_rfl) (by kernel_rfl) (fun _ _ _ h => h) (Or.inl ⟨by rfl, ?hy30ua⟩) (by assumption) ?rest30ua
            case hy30ua => (intro wq hSq; (try dsimp only at hSq); go_simp; try with_reducible rfl)
            try simp only [Act.put, List.setIfInBounds_toArray, List.set_cons_zero, List.set_cons_succ]
            refine wpAnyH_done (by kernel_rfl) ?_ _
            go_wp2_with fail
            go_ret
            exact ⟨rfl, hBz⟩
        · have x2' : lessB (cs.map Prod.fst) (fun i => ab.getD i []) ts us = false := by simpa using x2
          have X1 := Lib.hid x1
          have X2 := Lib.hid x2'
          clear x1 x2 x2'
          obtain ⟨c0, c1, c2, c3, c4, c5, c6⟩ := cells7 r9.out
          go_wp2_with fail
          refine (lessT_fix (ss := ss) (ts := ts) HU.out HCLS.out (HT.out.below hB9 (Nat.le_refl _)).th (HS.out.below hB9 (Nat.le_refl _)) (HS2.out.below hB9 (Nat.le_refl _)) KS.out KT.out X1.out).mono ?_
          rintro e w10 ⟨rfl, hb10⟩
          clear c0 c1 c2 c3 c4 c5 c6
          have hB10 := hB9.trans (hb10.mono (Nat.le_of_lt hz9))
          have hz10 : w.heap.size < w10.heap.size := by have := hb10.size; omega
          have r10 := Lib.hid ((hb10.block w.heap.size hz9).trans r9.out)
          have X10 := Lib.hid (X9.out.below hb10 (Nat.le_refl _))
          have Y10 := Lib.hid (Y9.out.below hb10 (Nat.le_refl _))
          clear r9 hb10 X9 Y9
          obtain ⟨c0, c1, c2, c3, c4, c5, c6⟩ := cells7 r10.out
          go_wp2_with fail
          refine (lessT_fix (ss := ts) (ts := us) HU.out HCLS.out (HT.out.below hB10 (Nat.le_refl _)).th (HS2.out.below hB10 (Nat.le_refl _)) (HS3.out.below hB10 (Nat.le_refl _)) KT.out KU.out X2.out).mono ?_
          rintro e w11 ⟨rfl, hb11⟩
          clear c0 c1 c2 c3 c4 c5 c6
          have hB11 := hB10.trans (hb11.mono (Nat.le_of_lt hz10))
          have hz11 : w.heap.size < w11.heap.size := by have := hb11.size; omega
          have r11 := Lib.hid ((hb11.block w.heap.size hz10).trans r10.out)
          have X11 := Lib.hid (X10.out.below hb11 (Nat.le_refl _))
          have Y11 := Lib.hid (Y10.out.below hb11 (Nat.le_refl _))
          clear r10 hb11 X10 Y10
          by_cases z1 : lessB (cs.map Prod.fst) (fun i => ab.getD i []) us ss = true
          · by_cases z2 : lessB (cs.map Prod.fst) (fun i => ab.getD i []) us ts = true
            · have FY : Hid (lessB (cs.map Prod.fst) (fun i => ab.getD i []) us M = true) := by unfold Hid; rw [F9.out, z1, z2]; rfl
              have Z1 := Lib.hid z1
              have Z2 := Lib.hid z2
              clear z1 z2 X11
              go_wp2_with fail
              obtain ⟨c0, c1, c2, c3, c4, c5, c6⟩ := cells7 r11.out
              go_region_held3 (fun w' => w'.cell? ⟨w.heap.size, 0, none⟩ = some n ∧ w'.cell? ⟨w.heap.size, 1, none⟩ = some c ∧ w'.cell? ⟨w.heap.size, 2, none⟩ = some (.slice p2 n2 k2) ∧ w'.cell? ⟨w.heap.size, 3, none⟩ = some t3 ∧ w'.cell? ⟨w.heap.size, 4, none⟩ = some t4 ∧ w'.cell? ⟨w.heap.size, 5, none⟩ = some t5 ∧ w'.cell? ⟨w.heap.size, 6, none⟩ = some t6)
                (first | exact cells7 rz.out | exact cells7 r16.out | exact cells7 r15.out | exact cells7 r14.out | exact cells7 r13.out | exact cells7 r12.out | exact cells7 r11.out)
                (first | (go_at_call 10; refine (HA.out _).mono ?_; rintro e wz ⟨rfl, hbz⟩; have hbz : Below w16.heap.size w16 wz := (by first | exact hbz | exact ((Below.refl _ w16).drew).trans hbz); have hBz : Below w.heap.size w wz := hB16.trans (hbz.mono (Nat.le_of_lt hz16)); have rz := Lib.hid ((hbz.block w.heap.size hz16).trans r16.out)) | (go_at_call 15; have hq := hB15; clear hq; refine (lessT_fix (ss := us) (ts := ts) HU.out HCLS.out (HT.out.below (B := w.heap.size) (by first | exact hB15 | exact hB15.drew | exact hB15.drew.drew) (Nat.le_refl _)).th (HS3.out.below (B := w.heap.size) (by first | exact hB15 | exact hB15.drew | exact hB15.drew.drew) (Nat.le_refl _)) (HS2.out.below (B := w.heap.size) (by first | exact hB15 | exact hB15.drew | exact hB15.drew.drew) (Nat.le_refl _)) KU.out KT.out Z2.out).mono ?_; rintro e w16 ⟨rfl, hb16⟩; have hb16 : Below w15.heap.size w15 w16 := (by first | exact hb16 | exact ((Below.refl _ w15).drew).trans hb16); have hB16 : Below w.heap.size w w16 := hB15.trans (hb16.mono (Nat.le_of_lt hz15)); have hz16 : w.heap.size < w16.heap.size := Nat.lt_of_lt_of_le hz15 hb16.size; have r16 := Lib.hid ((hb16.block w.heap.size hz15).trans r15.out); have Y16 := Lib.hid (Y15.out.below hb16 (Nat.le_refl _)); clear hb16) | (go_at_call 15; have hq := hB14; clear hq; refine (lessT_fix (ss := us) (ts := ss) HU.out HCLS.out (HT.out.below (B := w.heap.size) (by first | exact hB14 | exact hB14.drew | exact hB14.drew.drew) (Nat.le_refl _)).th (HS3.out.below (B := w.heap.size) (by first | exact hB14 | exact hB14.drew | exact hB14.drew.drew) (Nat.le_refl _)) (HS.out.below (B := w.heap.size) (by first | exact hB14 | exact hB14.drew | exact hB14.drew.drew) (Nat.le_refl _)) KU.out KS.out Z1.out).mono ?_; rintro e w15 ⟨rfl, hb15⟩; have hb15 : Below w14.heap.size w14 w15 := (by first | exact hb15 | exact ((Below.refl _ w14).drew).trans hb15); have hB15 : Below w.heap.size w w15 := hB14.trans (hb15.mono (Nat.le_of_lt hz14)); have hz15 : w.heap.size < w15.heap.size := Nat.lt_of_lt_of_le hz14 hb15.size; have r15 := Lib.hid ((hb15.block w.heap.size hz14).trans r14.out); have Y15 := Lib.hid (Y14.out.below hb15 (Nat.le_refl _)); clear hb15) | (go_at_call 15; have hq := hB13; clear hq; refine (lessT_fix (ss := us) (ts := M) HU.out HCLS.out (HT.out.below (B := w.heap.size) (by first | exact hB13 | exact hB13.drew | exact hB13.drew.drew) (Nat.le_refl _)).th (HS3.out.below (B := w.heap.size) (by first | exact hB13 | exact hB13.drew | exact hB13.drew.drew) (Nat.le_refl _)) (by exact Y13.out) KU.out KM.out FY.out).mono ?_; rintro e w14 ⟨rfl, hb14⟩; have hb14 : Below w13.heap.size w13 w14 := (by first | exact hb14 | exact ((Below.refl _ w13).drew).trans hb14); have hB14 : Below w.heap.size w w14 := hB13.trans (hb14.mono (Nat.le_of_lt hz13)); have hz14 : w.heap.size < w14.heap.size := Nat.lt_of_lt_of_le hz13 hb14.size; have r14 := Lib.hid ((hb14.block w.heap.size hz13).trans r13.out); have Y14 := Lib.hid (Y13.out.below hb14 (Nat.le_refl _)); clear hb14) | (go_at_call 15; have hq := hB12; clear hq; refine (lessT_fix (ss := M) (ts := ts) HU.out HCLS.out (HT.out.below (B := w.heap.size) (by first | exact hB12 | exact hB12.drew | exact hB12.drew.drew) (Nat.le_refl _)).th (by exact Y12.out) (HS2.out.below (B := w.heap.size) (by first | exact hB12 | exact hB12.drew | exact hB12.drew.drew) (Nat.le_refl _)) KM.out KT.out F8.out).mono ?_; rintro e w13 ⟨rfl, hb13⟩; have hb13 : Below w12.heap.size w12 w13 := (by first | exact hb13 | exact ((Below.refl _ w12).drew).trans hb13); have hB13 : Below w.heap.size w w13 := hB12.trans (hb13.mono (Nat.le_of_lt hz12)); have hz13 : w.heap.size < w13.heap.size := Nat.lt_of_lt_of_le hz12 hb13.size; have r13 := Lib.hid ((hb13.block w.heap.size hz12).trans r12.out); have Y13 := Lib.hid (Y12.out.below hb13 (Nat.le_refl _)); clear hb13) | (go_at_call 15; have hq := hB11; clear hq; refine (lessT_fix (ss := M) (ts := ss) HU.out HCLS.out (HT.out.below (B := w.heap.size) (by first | exact hB11 | exact hB11.drew | exact hB11.drew.drew) (Nat.le_refl _)).th (by exact Y11.out) (HS.out.below (B := w.heap.size) (by first | exact hB11 | exact hB11.drew | exact hB11.drew.drew) (Nat.le_refl _)) KM.out KS.out F7.out).mono ?_; rintro e w12 ⟨rfl, hb12⟩; have hb12 : Below w11.heap.size w11 w12 := (by first | exact hb12 | exact ((Below.refl _ w11).drew).trans hb12); have hB12 : Below w.heap.size w w12 := hB11.trans (hb12.mono (Nat.le_of_lt hz11)); have hz12 : w.heap.size < w12.heap.size := Nat.lt_of_lt_of_le hz11 hb12.size; have r12 := Lib.hid ((hb12.block w.heap.size hz11).trans r11.out); have Y12 := Lib.hid (Y11.out.below hb12 (Nat.le_refl _)); clear hb12))
              go_wp2_with fail
              go_ret
              exact ⟨rfl, hBz⟩
            · have z2' : lessB (cs.map Prod.fst) (fun i => ab.getD i []) us ts = false := by simpa using z2
              have FY : Hid (lessB (cs.map Prod.fst) (fun i => ab.getD i []) us M = false) := by unfold Hid; rw [F9.out, z1, z2']; rfl
              have Z1 := Lib.hid z1
              have Z2 := Lib.hid z2'
              clear z1 z2 z2' X11
              go_wp2_with fail
              obtain ⟨c0, c1, c2, c3, c4, c5, c6⟩ := cells7 r11.out
              go_region_held3 (fun w' => w'.cell? ⟨w.heap.size, 0, none⟩ = some n ∧ w'.cell? ⟨w.heap.size, 1, none⟩ = some c ∧ w'.cell? ⟨w.heap.size, 2, none⟩ = some (.slice p2 n2 k2) ∧ w'.cell? ⟨w.heap.size, 3, none⟩ = some t3 ∧ w'.cell? ⟨w.heap.size, 4, none⟩ = some t4 ∧ w'.cell? ⟨w.heap.size, 5, none⟩ = some t5 ∧ w'.cell? ⟨w.heap.size, 6, none⟩ = some t6)
                (first | exact cells7 rz.out | exact cells7 r16.out | exact cells7 r15.out | exact cells7 r14.out | exact cells7 r13.out | exact cells7 r12.out | exact cells7 r11.out)
                (first | (go_at_call 10; refine (HA.out _).mono ?_; rintro e wz ⟨rfl, hbz⟩; have hbz : Below w16.heap.size w16 wz := (by first | exact hbz | exact ((Below.refl _ w16).drew).trans hbz); have hBz : Below w.heap.size w wz := hB16.trans (hbz.mono (Nat.le_of_lt hz16)); have rz := Lib.hid ((hbz.block w.heap.size hz16).trans r16.out)) | (go_at_call 15; have hq := hB15; clear hq; refine (lessT_fix (ss := us) (ts := ts) HU.out HCLS.out (HT.out.below (B := w.heap.size) (by first | exact hB15 | exact hB15.drew | exact hB15.drew.drew) (Nat.le_refl _)).th (HS3.out.below (B := w.heap.size) (by first | exact hB15 | exact hB15.drew | exact hB15.drew.drew) (Nat.le_refl _)) (HS2.out.below (B := w.heap.size) (by first | exact hB15 | exact hB15.drew | exact hB15.drew.drew) (Nat.le_refl _)) KU.out KT.out Z2.out).mono ?_; rintro e w16 ⟨rfl, hb16⟩; have hb16 : Below w15.heap.size w15 w16 := (by first | exact hb16 | exact ((Below.refl _ w15).drew).trans hb16); have hB16 : Below w.heap.size w w16 := hB15.trans (hb16.mono (Nat.le_of_lt hz15)); have hz16 : w.heap.size < w16.heap.size := Nat.lt_of_lt_of_le hz15 hb16.size; have r16 := Lib.hid ((hb16.block w.heap.size hz15).trans r15.out); have Y16 := Lib.hid (Y15.out.below hb16 (Nat.le_refl _)); clear hb16) | (go_at_call 15; have hq := hB14; clear hq; refine (lessT_fix (ss := us) (ts := ss) HU.out HCLS.out (HT.out.below (B := w.heap.size) (by first | exact hB14 | exact hB14.drew | exact hB14.drew.drew) (Nat.le_refl _)).th (HS3.out.below (B := w.heap.size) (by first | exact hB14 | exact hB14.drew | exact hB14.drew.drew) (Nat.le_refl _)) (HS.out.below (B := w.heap.size) (by first | exact hB14 | exact hB14.drew | exact hB14.drew.drew) (Nat.le_refl _)) KU.out KS.out Z1.out).mono ?_; rintro e w15 ⟨rfl, hb15⟩; have hb15 : Below w14.heap.size w14 w15 := (by first | exact hb15 | exact ((Below.refl _ w14).drew).trans hb15); have hB15 : Below w.heap.size w w15 := hB14.trans (hb15.mono (Nat.le_of_lt hz14)); have hz15 : w.heap.size < w15.heap.size := Nat.lt_of_lt_of_le hz14 hb15.size; have r15 := Lib.hid ((hb15.block w.heap.size hz14).trans r14.out); have Y15 := Lib.hid (Y14.out.below hb15 (Nat.le_refl _)); clear hb15) | (go_at_call 15; have hq := hB13; clear hq; refine (lessT_fix (ss := us) (ts := M) HU.out HCLS.out (HT.out.below (B := w.heap.size) (by first | exact hB13 | exact hB13.drew | exact hB13.drew.drew) (Nat.le_refl _)).th (HS3.out.below (B := w.heap.size) (by first | exact hB13 | exact hB13.drew | exact hB13.drew.drew) (Nat.le_refl _)) (by exact Y13.out) KU.out KM.out FY.out).mono ?_; rintro e w14 ⟨rfl, hb14⟩; have hb14 : Below w13.heap.size w13 w14 := (by first | exact hb14 | exact ((Below.refl _ w13).drew).trans hb14); have hB14 : Below w.heap.size w w14 := hB13.trans (hb14.mono (Nat.le_of_lt hz13)); have hz14 : w.heap.size < w14.heap.size := Nat.lt_of_lt_of_le hz13 hb14.size; have r14 := Lib.hid ((hb14.block w.heap.size hz13).trans r13.out); have Y14 := Lib.hid (Y13.out.below hb14 (Nat.le_refl _)); clear hb14) | (go_at_call 15; have hq := hB12; clear hq; refine (lessT_fix (ss := M) (ts := ts) HU.out HCLS.out (HT.out.below (B := w.heap.size) (by first | exact hB12 | exact hB12.drew | exact hB12.drew.drew) (Nat.le_refl _)).th (by exact Y12.out) (HS2.out.below (B := w.heap.size) (by first | exact hB12 | exact hB12.drew | exact hB12.drew.drew) (Nat.le_refl _)) KM.out KT.out F8.out).mono ?_; rintro e w13 ⟨rfl, hb13⟩; have hb13 : Below w12.heap.size w12 w13 := (by first | exact hb13 | exact ((Below.refl _ w12).drew).trans hb13); have hB13 : Below w.heap.size w w13 := hB12.trans (hb13.mono (Nat.le_of_lt hz12)); have hz13 : w.heap.size < w13.heap.size := Nat.lt_of_lt_of_le hz12 hb13.size; have r13 := Lib.hid ((hb13.block w.heap.size hz12).trans r12.out); have Y13 := Lib.hid (Y12.out.below hb13 (Nat.le_refl _)); clear hb13) | (go_at_call 15; have hq := hB11; clear hq; refine (lessT_fix (ss := M) (ts := ss) HU.out HCLS.out (HT.out.below (B := w.heap.size) (by first | exact hB11 | exact hB11.drew | exact hB11.drew.drew) (Nat.le_refl _)).th (by exact Y11.out) (HS.out.below (B := w.heap.size) (by first | exact hB11 | exact hB11.drew | exact hB11.drew.drew) (Nat.le_refl _)) KM.out KS.out F7.out).mono ?_; rintro e w12 ⟨rfl, hb12⟩; have hb12 : Below w11.heap.size w11 w12 := (by first | exact hb12 | exact ((Below.refl _ w11).drew).trans hb12); have hB12 : Below w.heap.size w w12 := hB11.trans (hb12.mono (Nat.le_of_lt hz11)); have hz12 : w.heap.size < w12.heap.size := Nat.lt_of_lt_of_le hz11 hb12.size; have r12 := Lib.hid ((hb12.block w.heap.size hz11).trans r11.out); have Y12 := Lib.hid (Y11.out.below hb12 (Nat.le_refl _)); clear hb12))
              go_wp2_with fail
              go_ret
              exact ⟨rfl, hBz⟩
          · have z1' : lessB (cs.map Prod.fst) (fun i => ab.getD i []) us ss = false := by simpa using z1
            have FY : Hid (lessB (cs.map Prod.fst) (fun i => ab.getD i []) us M = false) := by unfold Hid; rw [F9.out, z1']; rfl
            have Z1 := Lib.hid z1'
            clear z1 z1' X11
            go_wp2_with fail
            obtain ⟨c0, c1, c2, c3, c4, c5, c6⟩ := cells7 r11.out
            refine wp_region_held_drew (S := (fun w' => w'.cell? ⟨w.heap.size, 0, none⟩ = some n ∧ w'.cell? ⟨w.heap.size, 1, none⟩ = some c ∧ w'.cell? ⟨w.heap.size, 2, none⟩ = some (.slice p2 n2 k2) ∧ w'.cell? ⟨w.heap.size, 3, none⟩ = some t3 ∧ w'.cell? ⟨w.heap.size, 4, none⟩ = some t4 ∧ w'.cell? ⟨w.heap.size, 5, none⟩ = some t5 ∧ w'.cell? ⟨w.heap.size, 6, none⟩ = some t6)) (by kernel_rfl) ?_ (fun hHeld => ?_)
            · exact cells7 r11.out
            clear c0 c1 c2 c3 c4 c5 c6
            refine wpAnyH_take (i := 0) (oi := { dst := some 107, op := Op.load 29 (Operand.tmp 4), type := 29, pos := "law.go:106", after := #[], guard := none }) (v := ?v0ub) rfl (by kernel_rfl) (by kernel_rfl) (by kernel_rfl) (fun _ _ _ h => h) (Or.inl ⟨by rfl, ?hy0ub⟩) (by assumption) ?rest0ub
            case hy0ub => (intro wq hSq; (try dsimp only at hSq); go_simp; try with_reducible rfl)
            try simp only [Act.put, List.setIfInBounds_toArray, List.set_cons_zero, List.set_cons_succ]
            refine wpAnyH_take (i := 1) (oi := { dst := some 108, op := Op.move (Operand.tmp 15), type := 27, pos := "law.go:106", after := #[], guard := none }) (v := ?v1ub) rfl (by kernel_rfl) (by kernel_rfl) (by kernel_rfl) (fun _ _ _ h => h) (Or.inl ⟨by rfl, ?hy1ub⟩) (by assumption) ?rest1ub
            case hy1ub => (intro wq hSq; (try dsimp only at hSq); go_simp; try with_reducible rfl)
            try simp only [Act.put, List.setIfInBounds_toArray, List.set_cons_zero, List.set_cons_succ]
            refine wpAnyH_take (i := 2) (oi := { dst := some 109, op := Op.move (Operand.tmp 1), type := 27, pos := "law.go:106", after := #[], guard := none }) (v := ?v2ub) rfl (by kernel_rfl) (by kernel_rfl) (by kernel_rfl) (fun _ _ _ h => h) (Or.inl ⟨by rfl, ?hy2ub⟩) (by assumption) ?rest2ub
            case hy2ub => (intro wq hSq; (try dsimp only at hSq); go_simp; try with_reducible rfl)
            try simp only [Act.put, List.setIfInBounds_toArray, List.set_cons_zero, List.set_cons_succ]
            refine wpAnyH_ready (rs := [3]) (by kernel_rfl) (by simp) ?_
            refine AllReadyH.cons rfl (fun K hK => ?_) AllReadyH.nil
            go_simp
            go_wp2_with (go_at_call 15; refine (lessT_fix (ss := M) (ts := ss) HU.out HCLS.out (HT.out.below (B := w.heap.size) (by first | exact hB11 | exact hB11.drew) (Nat.le_refl _)).th (by exact Y11.out) (HS.out.below (B := w.heap.size) (by first | exact hB11 | exact hB11.drew) (Nat.le_refl _)) KM.out KS.out F7.out).mono ?_; rintro e w12 ⟨rfl, hb12⟩; have hb12 : Below w11.heap.size w11 w12 := (by first | exact hb12 | exact ((Below.refl _ w11).drew).trans hb12); have hB12 : Below w.heap.size w w12 := hB11.trans (hb12.mono (Nat.le_of_lt hz11)); have hz12 : w.heap.size < w12.heap.size := Nat.lt_of_lt_of_le hz11 hb12.size; have r12 := Lib.hid ((hb12.block w.heap.size hz11).trans r11.out); have Y12 := Lib.hid (Y11.out.below hb12 (Nat.le_refl _)); clear hb12)
            refine hK.out _ _ ?_ (fun hHeldN => ?_)
            · (try dsimp only); exact cells7 r12.out
            clear hK K hHeld
            have hHeld := hHeldN
            clear hHeldN
            refine wpAnyH_take (i := 4) (oi := { dst := some 111, op := Op.move (Operand.tmp 110), type := 4, pos := "law.go:106", after := #[{ on := 3, ground := Ground.data }, { on := 3, ground := Ground.chain }], guard := none }) (v := ?v4ub) rfl (by kernel_rfl) (by kernel_rfl) (by kernel_rfl) (fun _ _ _ h => h) (Or.inl ⟨by rfl, ?hy4ub⟩) (by assumption) ?rest4ub
            case hy4ub => (intro wq hSq; (try dsimp only at hSq); go_simp; try with_reducible rfl)
            try simp only [Act.put, List.setIfInBounds_toArray, List.set_cons_zero, List.set_cons_succ]
            refine wpAnyH_take (i := 5) (oi := { dst := some 112, op := Op.load 29 (Operand.tmp 4), type := 29, pos := "law.go:106", after := #[{ on := 4, ground := Ground.guard }], guard := some (4, true) }) (v := ?v5ub) rfl (by kernel_rfl) (by kernel_rfl) (by kernel_rfl) (fun _ _ _ h => h) (Or.inl ⟨by rfl, ?hy5ub⟩) (by assumption) ?rest5ub
            case hy5ub => (intro wq hSq; (try dsimp only at hSq); go_simp; try with_reducible rfl)
            try simp only [Act.put, List.setIfInBounds_toArray, List.set_cons_zero, List.set_cons_succ]
            refine wpAnyH_take (i := 6) (oi := { dst := some 113, op := Op.move (Operand.tmp 15), type := 27, pos := "law.go:106", after := #[{ on := 4, ground := Ground.guard }], guard := some (4, true) }) (v := ?v6ub) rfl (by kernel_rfl) (by kernel_rfl) (by kernel_rfl) (fun _ _ _ h => h) (Or.inl ⟨by rfl, ?hy6ub⟩) (by assumption) ?rest6ub
            case hy6ub => (intro wq hSq; (try dsimp only at hSq); go_simp; try with_reducible rfl)
            try simp only [Act.put, List.setIfInBounds_toArray, List.set_cons_zero, List.set_cons_succ]
            refine wpAnyH_take (i := 7) (oi := { dst := some 114, op := Op.move (Operand.tmp 2), type := 27, pos := "law.go:106", after := #[{ on := 4, ground := Ground.guard }], guard := some (4, true) }) (v := ?v7ub) rfl (by kernel_rfl) (by kernel_rfl) (by kernel_rfl) (fun _ _ _ h => h) (Or.inl ⟨by rfl, ?hy7ub⟩) (by assumption) ?rest7ub
            case hy7ub => (intro wq hSq; (try dsimp only at hSq); go_simp; try with_reducible rfl)
            try simp only [Act.put, List.setIfInBounds_toArray, List.set_cons_zero, List.set_cons_succ]
            refine wpAnyH_ready (rs := [8]) (by kernel_rfl) (by simp) ?_
            refine AllReadyH.cons rfl (fun K hK => ?_) AllReadyH.nil
            go_simp
            go_wp2_with (go_at_call 15; refine (lessT_fix (ss := M) (ts := ts) HU.out HCLS.out (HT.out.below (B := w.heap.size) (by first | exact hB12 | exact hB12.drew) (Nat.le_refl _)).th (by exact Y12.out) (HS2.out.below (B := w.heap.size) (by first | exact hB12 | exact hB12.drew) (Nat.le_refl _)) KM.out KT.out F8.out).mono ?_; rintro e w13 ⟨rfl, hb13⟩; have hb13 : Below w12.heap.size w12 w13 := (by first | exact hb13 | exact ((Below.refl _ w12).drew).trans hb13); have hB13 : Below w.heap.size w w13 := hB12.trans (hb13.mono (Nat.le_of_lt hz12)); have hz13 : w.heap.size < w13.heap.size := Nat.lt_of_lt_of_le hz12 hb13.size; have r13 := Lib.hid ((hb13.block w.heap.size hz12).trans r12.out); have Y13 := Lib.hid (Y12.out.below hb13 (Nat.le_refl _)); clear hb13)
            refine hK.out _ _ ?_ (fun hHeldN => ?_)
            · (try dsimp only); exact cells7 r13.out
            clear hK K hHeld
            have hHeld := hHeldN
            clear hHeldN
            refine wpAnyH_take (i := 9) (oi := { dst := some 116, op := Op.pick (Operand.tmp 111) (Operand.tmp 115) (Operand.const (Value.bool false)), type := 4, pos := "law.go:106", after := #[{ on := 4, ground := Ground.data }, { on := 8, ground := Ground.data }], guard := none }) (v := ?v9ub) rfl (by kernel_rfl) (by kernel_rfl) (by kernel_rfl) (fun _ _ _ h => h) (Or.inl ⟨by rfl, ?hy9ub⟩) (by assumption) ?rest9ub
            case hy9ub => (intro wq hSq; (try dsimp only at hSq); go_simp; try with_reducible rfl)
            try simp only [Act.put, List.setIfInBounds_toArray, List.set_cons_zero, List.set_cons_succ]
            refine wpAnyH_take (i := 10) (oi := { dst := some 117, op := Op.move (Operand.tmp 116), type := 4, pos := "law.go:106", after := #[{ on := 9, ground := Ground.data }, { on := 8, ground := Ground.chain }], guard := none }) (v := ?v10ub) rfl (by kernel_rfl) (by kernel_rfl) (by kernel_rfl) (fun _ _ _ h => h) (Or.inl ⟨by rfl, ?hy10ub⟩) (by assumption) ?rest10ub
            case hy10ub => (intro wq hSq; (try dsimp only at hSq); go_simp; try with_reducible rfl)
            try simp only [Act.put, List.setIfInBounds_toArray, List.set_cons_zero, List.set_cons_succ]
            refine wpAnyH_take (i := 11) (oi := { dst := some 118, op := Op.load 29 (Operand.tmp 4), type := 29, pos := "law.go:106", after := #[{ on := 10, ground := Ground.guard }], guard := some (10, true) }) (v := ?v11ub) rfl (by kernel_rfl) (by kernel_rfl) (by kernel_rfl) (fun _ _ _ h => h) (Or.inl ⟨by rfl, ?hy11ub⟩) (by assumption) ?rest11ub
            case hy11ub => (intro wq hSq; (try dsimp only at hSq); go_simp; try with_reducible rfl)
            try simp only [Act.put, List.setIfInBounds_toArray, List.set_cons_zero, List.set_cons_succ]
            refine wpAnyH_take (i := 12) (oi := { dst := some 119, op := Op.move (Operand.tmp 3), type := 27, pos := "law.go:106", after := #[{ on := 10, ground := Ground.guard }], guard := some (10, true) }) (v := ?v12ub) rfl (by kernel_rfl) (by kernel_rfl) (by kernel_rfl) (fun _ _ _ h => h) (Or.inl ⟨by rfl, ?hy12ub⟩) (by assumption) ?rest12ub
            case hy12ub => (intro wq hSq; (try dsimp only at hSq); go_simp; try with_reducible rfl)
            try simp only [Act.put, List.setIfInBounds_toArray, List.set_cons_zero, List.set_cons_succ]
            refine wpAnyH_take (i := 13) (oi := { dst := some 120, op := Op.move (Operand.tmp 15), type := 27, pos := "law.go:106", after := #[{ on := 10, ground := Ground.guard }], guard := some (10, true) }) (v := ?v13ub) rfl (by kernel_rfl) (by kernel_rfl) (by kernel_rfl) (fun _ _ _ h => h) (Or.inl ⟨by rfl, ?hy13ub⟩) (by assumption) ?rest13ub
            case hy13ub => (intro wq hSq; (try dsimp only at hSq); go_simp; try with_reducible rfl)
            try simp only [Act.put, List.setIfInBounds_toArray, List.set_cons_zero, List.set_cons_succ]
            refine wpAnyH_take (i := 15) (oi := { dst := some 122, op := Op.load 29 (Operand.tmp 4), type := 29, pos := "law.go:106", after := #[{ on := 10, ground := Ground.guard }], guard := some (10, true) }) (v := ?v15ub) rfl (by kernel_rfl) (by kernel_rfl) (by kernel_rfl) (fun _ _ _ h => h) (Or.inl ⟨by rfl, ?hy15ub⟩) (by assumption) ?rest15ub
            case hy15ub => (intro wq hSq; (try dsimp only at hSq); go_simp; try with_reducible rfl)
            try simp only [Act.put, List.setIfInBounds_toArray, List.set_cons_zero, List.set_cons_succ]
            refine wpAnyH_take (i := 16) (oi := { dst := some 123, op := Op.move (Operand.tmp 3), type := 27, pos := "law.go:106", after := #[{ on := 10, ground := Ground.guard }], guard := some (10, true) }) (v := ?v16ub) rfl (by kernel_rfl) (by kernel_rfl) (by kernel_rfl) (fun _ _ _ h => h) (Or.inl ⟨by rfl, ?hy16ub⟩) (by assumption) ?rest16ub
            case hy16ub => (intro wq hSq; (try dsimp only at hSq); go_simp; try with_reducible rfl)
            try simp only [Act.put, List.setIfInBounds_toArray, List.set_cons_zero, List.set_cons_succ]
            refine wpAnyH_take (i := 17) (oi := { dst := some 124, op := Op.move (Operand.tmp 1), type := 27, pos := "law.go:106", after := #[{ on := 10, ground := Ground.guard }], guard := some (10, true) }) (v := ?v17ub) rfl (by kernel_rfl) (by kernel_rfl) (by kernel_rfl) (fun _ _ _ h => h) (Or.inl ⟨by rfl, ?hy17ub⟩) (by assumption) ?rest17ub
            case hy17ub => (intro wq hSq; (try dsimp only at hSq); go_simp; try with_reducible rfl)
            try simp only [Act.put, List.setIfInBounds_toArray, List.set_cons_zero, List.set_cons_succ]
            refine wpAnyH_ready (rs := [14]) (by kernel_rfl) (by simp) ?_
            refine AllReadyH.cons rfl (fun K hK => ?_) AllReadyH.nil
            go_simp
            go_wp2_with (go_at_call 15; refine (lessT_fix (ss := us) (ts := M) HU.out HCLS.out (HT.out.below (B := w.heap.size) (by first | exact hB13 | exact hB13.drew) (Nat.le_refl _)).th (HS3.out.below (B := w.heap.size) (by first | exact hB13 | exact hB13.drew) (Nat.le_refl _)) (by exact Y13.out) KU.out KM.out FY.out).mono ?_; rintro e w14 ⟨rfl, hb14⟩; have hb14 : Below w13.heap.size w13 w14 := (by first | exact hb14 | exact ((Below.refl _ w13).drew).trans hb14); have hB14 : Below w.heap.size w w14 := hB13.trans (hb14.mono (Nat.le_of_lt hz13)); have hz14 : w.heap.size < w14.heap.size := Nat.lt_of_lt_of_le hz13 hb14.size; have r14 := Lib.hid ((hb14.block w.heap.size hz13).trans r13.out); have Y14 := Lib.hid (Y13.out.below hb14 (Nat.le_refl _)); clear hb14)
            refine hK.out _ _ ?_ (fun hHeldN => ?_)
            · (try dsimp only); exact cells7 r14.out
            clear hK K hHeld
            have hHeld := hHeldN
            clear hHeldN
            refine wpAnyH_ready (rs := [18]) (by kernel_rfl) (by simp) ?_
            refine AllReadyH.cons rfl (fun K hK => ?_) AllReadyH.nil
            go_simp
            go_wp2_with (go_at_call 15; refine (lessT_fix (ss := us) (ts := ss) HU.out HCLS.out (HT.out.below (B := w.heap.size) (by first | exact hB14 | exact hB14.drew) (Nat.le_refl _)).th (HS3.out.below (B := w.heap.size) (by first | exact hB14 | exact hB14.drew) (Nat.le_refl _)) (HS.out.below (B := w.heap.size) (by first | exact hB14 | exact hB14.drew) (Nat.le_refl _)) KU.out KS.out Z1.out).mono ?_; rintro e w15 ⟨rfl, hb15⟩; have hb15 : Below w14.heap.size w14 w15 := (by first | exact hb15 | exact ((Below.refl _ w14).drew).trans hb15); have hB15 : Below w.heap.size w w15 := hB14.trans (hb15.mono (Nat.le_of_lt hz14)); have hz15 : w.heap.size < w15.heap.size := Nat.lt_of_lt_of_le hz14 hb15.size; have r15 := Lib.hid ((hb15.block w.heap.size hz14).trans r14.out); have Y15 := Lib.hid (Y14.out.below hb15 (Nat.le_refl _)); clear hb15)
            refine hK.out _ _ ?_ (fun hHeldN => ?_)
            · (try dsimp only); exact cells7 r15.out
            clear hK K hHeld
            have hHeld := hHeldN
            clear hHeldN
            refine wpAnyH_take (i := 19) (oi := { dst := some 126, op := Op.move (Operand.tmp 125), type := 4, pos := "law.go:106", after := #[{ on := 18, ground := Ground.data }, { on := 18, ground := Ground.chain }, { on := 10, ground := Ground.guard }], guard := some (10, true) }) (v := ?v19ub) rfl (by kernel_rfl) (by kernel_rfl) (by kernel_rfl) (fun _ _ _ h => h) (Or.inl ⟨by rfl, ?hy19ub⟩) (by assumption) ?rest19ub
            case hy19ub => (intro wq hSq; (try dsimp only at hSq); go_simp; try with_reducible rfl)
            try simp only [Act.put, List.setIfInBounds_toArray, List.set_cons_zero, List.set_cons_succ]
            refine wpAnyH_take (i := 20) (oi := { dst := some 127, op := Op.load 29 (Operand.tmp 4), type := 29, pos := "law.go:106", after := #[{ on := 19, ground := Ground.guard }], guard := some (19, true) }) (v := undef) rfl (by kernel_rfl) (by kernel_rfl) (by kernel_rfl) (fun _ _ _ h => h) (Or.inr ⟨by rfl, rfl⟩) (by assumption) ?_
            try simp only [Act.put, List.setIfInBounds_toArray, List.set_cons_zero, List.set_cons_succ]
            refine wpAnyH_take (i := 21) (oi := { dst := some 128, op := Op.move (Operand.tmp 3), type := 27, pos := "law.go:106", after := #[{ on := 19, ground := Ground.guard }], guard := some (19, true) }) (v := undef) rfl (by kernel_rfl) (by kernel_rfl) (by kernel_rfl) (fun _ _ _ h => h) (Or.inr ⟨by rfl, rfl⟩) (by assumption) ?_
            try simp only [Act.put, List.setIfInBounds_toArray, List.set_cons_zero, List.set_cons_succ]
            refine wpAnyH_take (i := 22) (oi := { dst := some 129, op := Op.move (Operand.tmp 2), type := 27, pos := "law.go:106", after := #[{ on := 19, ground := Ground.guard }], guard := some (19, true) }) (v := undef) rfl (by kernel_rfl) (by kernel_rfl) (by kernel_rfl) (fun _ _ _ h => h) (Or.inr ⟨by rfl, rfl⟩) (by assumption) ?_
            try simp only [Act.put, List.setIfInBounds_toArray, List.set_cons_zero, List.set_cons_succ]
            refine wpAnyH_ready (rs := [23]) (by kernel_rfl) (by simp) ?_
            refine AllReadyH.cons rfl (fun K hK => ?_) AllReadyH.nil
            go_simp
            refine hK.out _ _ ?_ (fun hHeldN => ?_)
            · (try dsimp only); exact cells7 r15.out
            clear hK K hHeld
            have hHeld := hHeldN
            clear hHeldN
            refine wpAnyH_take (i := 24) (oi := { dst := some 131, op := Op.pick (Operand.tmp 126) (Operand.tmp 130) (Operand.const (Value.bool false)), type := 4, pos := "law.go:106", after := #[{ on := 19, ground := Ground.data }, { on := 23, ground := Ground.data }, { on := 10, ground := Ground.guard }], guard := some (10, true) }) (v := ?v24ub) rfl (by kernel_rfl) (by kernel_rfl) (by kernel_rfl) (fun _ _ _ h => h) (Or.inl ⟨by rfl, ?hy24ub⟩) (by assumption) ?rest24ub
            case hy24ub => (intro wq hSq; (try dsimp only at hSq); go_simp; try with_reducible rfl)
            try simp only [Act.put, List.setIfInBounds_toArray, List.set_cons_zero, List.set_cons_succ]
            refine wpAnyH_take (i := 25) (oi := { dst := some 132, op := Op.binOp BinOp.eql 4 (Operand.tmp 121) (Operand.tmp 131) 4, type := 4, pos := "law.go:106", after := #[{ on := 14, ground := Ground.data }, { on := 24, ground := Ground.data }, { on := 10, ground := Ground.guard }], guard := some (10, true) }) (v := ?v25ub) rfl (by kernel_rfl) (by kernel_rfl) (by kernel_rfl) (fun _ _ _ h => h) (Or.inl ⟨by rfl, ?hy25ub⟩) (by assumption) ?rest25ub
            case hy25ub => (intro wq hSq; (try dsimp only at hSq); go_simp; try with_reducible rfl)
            try simp only [Act.put, List.setIfInBounds_toArray, List.set_cons_zero, List.set_cons_succ]
            refine wpAnyH_take (i := 26) (oi := { dst := some 133, op := Op.pick (Operand.tmp 117) (Operand.tmp 132) (Operand.const (Value.bool false)), type := 4, pos := "law.go:106", after := #[{ on := 10, ground := Ground.data }, { on := 25, ground := Ground.data }], guard := none }) (v := ?v26ub) rfl (by kernel_rfl) (by kernel_rfl) (by kernel_rfl) (fun _ _ _ h => h) (Or.inl ⟨by rfl, ?hy26ub⟩) (by assumption) ?rest26ub
            case hy26ub => (intro wq hSq; (try dsimp only at hSq); go_simp; try with_reducible rfl)
            try simp only [Act.put, List.setIfInBounds_toArray, List.set_cons_zero, List.set_cons_succ]
            refine wpAnyH_take (i := 27) (oi := { dst := some 134, op := Op.move (Operand.tmp 133), type := 4, pos := "law.go:106", after := #[{ on := 26, ground := Ground.data }, { on := 23, ground := Ground.chain }], guard := none }) (v := ?v27ub) rfl (by kernel_rfl) (by kernel_rfl) (by kernel_rfl) (fun _ _ _ h => h) (Or.inl ⟨by rfl, ?hy27ub⟩) (by assumption) ?rest27ub
            case hy27ub => (intro wq hSq; (try dsimp only at hSq); go_simp; try with_reducible rfl)
            try simp only [Act.put, List.setIfInBounds_toArray, List.set_cons_zero, List.set_cons_succ]
            refine wpAnyH_ready (rs := [28]) (by kernel_rfl) (by simp) ?_
            refine AllReadyH.cons rfl (fun K hK => ?_) AllReadyH.nil
            go_simp
            go_wp2_with (go_at_call 10; refine (HA.out _).mono ?_; rintro e wz ⟨rfl, hbz⟩; have hBz : Below w.heap.size w wz := hB15.trans (hbz.mono (Nat.le_of_lt hz15)); have rz := Lib.hid ((hbz.block w.heap.size hz15).trans r15.out))
            refine hK.out _ _ ?_ (fun hHeldN => ?_)
            · (try dsimp only); exact cells7 rz.out
            clear hK K hHeld
            have hHeld := hHeldN
            clear hHeldN
            refine wpAnyH_take (i := 29) (oi := { dst := some 136, op := Op.pick (Operand.tmp 134) (Operand.tmp 135) (Operand.const (Value.bool false)), type := 4, pos := "law.go:106", after := #[{ on := 27, ground := Ground.data }, { on := 28, ground := Ground.data }], guard := none }) (v := ?v29ub) rfl (by kernel_rfl) (by kernel_rfl) (by kernel_rfl) (fun _ _ _ h => h) (Or.inl ⟨by rfl, ?hy29ub⟩) (by assumption) ?rest29ub
            case hy29ub => (intro wq hSq; (try dsimp only at hSq); go_simp; try with_reducible rfl)
            try simp only [Act.put, List.setIfInBounds_toArray, List.set_cons_zero, List.set_cons_succ]
            refine wpAnyH_take (i := 30) (oi := { dst := some 8, op := Op.assign (Operand.tmp 136), type := 4, pos := "law.go:106", after := #[{ on := 29, ground := Ground.data }, { on := 28, ground := Ground.chain }, { on := 0, ground := Ground.phase }, { on := 1, ground := Ground.phase }, { on := 2, ground := Ground.phase }, { on := 3, ground := Ground.phase }, { on := 4, ground := Ground.phase }, { on := 5, ground := Ground.phase }, { on := 6, ground := Ground.phase }, { on := 7, ground := Ground.phase }, { on := 8, ground := Ground.phase }, { on := 9, ground := Ground.phase }, { on := 10, ground := Ground.phase }, { on := 11, ground := Ground.phase }, { on := 12, ground := Ground.phase }, { on := 13, ground := Ground.phase }, { on := 14, ground := Ground.phase }, { on := 15, ground := Ground.phase }, { on := 16, ground := Ground.phase }, { on := 17, ground := Ground.phase }, { on := 18, ground := Ground.phase }, { on := 19, ground := Ground.phase }, { on := 20, ground := Ground.phase }, { on := 21, ground := Ground.phase }, { on := 22, ground := Ground.phase }, { on := 23, ground := Ground.phase }, { on := 24, ground := Ground.phase }, { on := 25, ground := Ground.phase }, { on := 26, ground := Ground.phase }, { on := 27, ground := Ground.phase }, { on := 28, ground := Ground.phase }, { on := 29, ground := Ground.phase }], guard := none }) (v := ?v30ub) rfl (by kernel_rfl) (by kernel_rfl) (by kernel_rfl) (fun _ _ _ h => h) (Or.inl ⟨by rfl, ?hy30ub⟩) (by assumption) ?rest30ub
            case hy30ub => (intro wq hSq; (try dsimp only at hSq); go_simp; try with_reducible rfl)
            try simp only [Act.put, List.setIfInBounds_toArray, List.set_cons_zero, List.set_cons_succ]
            refine wpAnyH_done (by kernel_rfl) ?_ _
            go_wp2_with fail
            go_ret
            exact ⟨rfl, hBz⟩
      · have x1' : lessB (cs.map Prod.fst) (fun i => ab.getD i []) ss ts = false := by simpa using x1
        have X1 := Lib.hid x1'
        clear x1 x1'
        obtain ⟨c0, c1, c2, c3, c4, c5, c6⟩ := cells7 r9.out
        go_wp2_with fail
        refine (lessT_fix (ss := ss) (ts := ts) HU.out HCLS.out (HT.out.below hB9 (Nat.le_refl _)).th (HS.out.below hB9 (Nat.le_refl _)) (HS2.out.below hB9 (Nat.le_refl _)) KS.out KT.out X1.out).mono ?_
        rintro e w10 ⟨rfl, hb10⟩
        clear c0 c1 c2 c3 c4 c5 c6
        have hB10 := hB9.trans (hb10.mono (Nat.le_of_lt hz9))
        have hz10 : w.heap.size < w10.heap.size := by have := hb10.size; omega
        have r10 := Lib.hid ((hb10.block w.heap.size hz9).trans r9.out)
        have X10 := Lib.hid (X9.out.below hb10 (Nat.le_refl _))
        have Y10 := Lib.hid (Y9.out.below hb10 (Nat.le_refl _))
        clear r9 hb10 X9 Y9
        by_cases z1 : lessB (cs.map Prod.fst) (fun i => ab.getD i []) us ss = true
        · by_cases z2 : lessB (cs.map Prod.fst) (fun i => ab.getD i []) us ts = true
          · have FY : Hid (lessB (cs.map Prod.fst) (fun i => ab.getD i []) us M = true) := by unfold Hid; rw [F9.out, z1, z2]; rfl
            have Z1 := Lib.hid z1
            have Z2 := Lib.hid z2
            clear z1 z2 X10
            go_wp2_with fail
            obtain ⟨c0, c1, c2, c3, c4, c5, c6⟩ := cells7 r10.out
            go_region_held3 (fun w' => w'.cell? ⟨w.heap.size, 0, none⟩ = some n ∧ w'.cell? ⟨w.heap.size, 1, none⟩ = some c ∧ w'.cell? ⟨w.heap.size, 2, none⟩ = some (.slice p2 n2 k2) ∧ w'.cell? ⟨w.heap.size, 3, none⟩ = some t3 ∧ w'.cell? ⟨w.heap.size, 4, none⟩ = some t4 ∧ w'.cell? ⟨w.heap.size, 5, none⟩ = some t5 ∧ w'.cell? ⟨w.heap.size, 6, none⟩ = some t6)
              (first | exact cells7 rz.out | exact cells7 r15.out | exact cells7 r14.out | exact cells7 r13.out | exact cells7 r12.out | exact cells7 r11.out | exact cells7 r10.out)
              (first | (go_at_call 10; refine (HA.out _).mono ?_; rintro e wz ⟨rfl, hbz⟩; have hbz : Below w15.heap.size w15 wz := (by first | exact hbz | exact ((Below.refl _ w15).drew).trans hbz); have hBz : Below w.heap.size w wz := hB15.trans (hbz.mono (Nat.le_of_lt hz15)); have rz := Lib.hid ((hbz.block w.heap.size hz15).trans r15.out)) | (go_at_call 15; have hq := hB14; clear hq; refine (lessT_fix (ss := us) (ts := ts) HU.out HCLS.out (HT.out.below (B := w.heap.size) (by first | exact hB14 | exact hB14.drew | exact hB14.drew.drew) (Nat.le_refl _)).th (HS3.out.below (B := w.heap.size) (by first | exact hB14 | exact hB14.drew | exact hB14.drew.drew) (Nat.le_refl _)) (HS2.out.below (B := w.heap.size) (by first | exact hB14 | exact hB14.drew | exact hB14.drew.drew) (Nat.le_refl _)) KU.out KT.out Z2.out).mono ?_; rintro e w15 ⟨rfl, hb15⟩; have hb15 : Below w14.heap.size w14 w15 := (by first | exact hb15 | exact ((Below.refl _ w14).drew).trans hb15); have hB15 : Below w.heap.size w w15 := hB14.trans (hb15.mono (Nat.le_of_lt hz14)); have hz15 : w.heap.size < w15.heap.size := Nat.lt_of_lt_of_le hz14 hb15.size; have r15 := Lib.hid ((hb15.block w.heap.size hz14).trans r14.out); have Y15 := Lib.hid (Y14.out.below hb15 (Nat.le_refl _)); clear hb15) | (go_at_call 15; have hq := hB13; clear hq; refine (lessT_fix (ss := us) (ts := ss) HU.out HCLS.out (HT.out.below (B := w.heap.size) (by first | exact hB13 | exact hB13.drew | exact hB13.drew.drew) (Nat.le_refl _)).th (HS3.out.below (B := w.heap.size) (by first | exact hB13 | exact hB13.drew | exact hB13.drew.drew) (Nat.le_refl _)) (HS.out.below (B := w.heap.size) (by first | exact hB13 | exact hB13.drew | exact hB13.drew.drew) (Nat.le_refl _)) KU.out KS.out Z1.out).mono ?_; rintro e w14 ⟨rfl, hb14⟩; have hb14 : Below w13.heap.size w13 w14 := (by first | exact hb14 | exact ((Below.refl _ w13).drew).trans hb14); have hB14 : Below w.heap.size w w14 := hB13.trans (hb14.mono (Nat.le_of_lt hz13)); have hz14 : w.heap.size < w14.heap.size := Nat.lt_of_lt_of_le hz13 hb14.size; have r14 := Lib.hid ((hb14.block w.heap.size hz13).trans r13.out); have Y14 := Lib.hid (Y13.out.below hb14 (Nat.le_refl _)); clear hb14) | (go_at_call 15; have hq := hB12; clear hq; refine (lessT_fix (ss := us) (ts := M) HU.out HCLS.out (HT.out.below (B := w.heap.size) (by first | exact hB12 | exact hB12.drew | exact hB12.drew.drew) (Nat.le_refl _)).th (HS3.out.below (B := w.heap.size) (by first | exact hB12 | exact hB12.drew | exact hB12.drew.drew) (Nat.le_refl _)) (by exact Y12.out) KU.out KM.out FY.out).mono ?_; rintro e w13 ⟨rfl, hb13⟩; have hb13 : Below w12.heap.size w12 w13 := (by first | exact hb13 | exact ((Below.refl _ w12).drew).trans hb13); have hB13 : Below w.heap.size w w13 := hB12.trans (hb13.mono (Nat.le_of_lt hz12)); have hz13 : w.heap.size < w13.heap.size := Nat.lt_of_lt_of_le hz12 hb13.size; have r13 := Lib.hid ((hb13.block w.heap.size hz12).trans r12.out); have Y13 := Lib.hid (Y12.out.below hb13 (Nat.le_refl _)); clear hb13) | (go_at_call 15; have hq := hB11; clear hq; refine (lessT_fix (ss := M) (ts := ts) HU.out HCLS.out (HT.out.below (B := w.heap.size) (by first | exact hB11 | exact hB11.drew | exact hB11.drew.drew) (Nat.le_refl _)).th (by exact Y11.out) (HS2.out.below (B := w.heap.size) (by first | exact hB11 | exact hB11.drew | exact hB11.drew.drew) (Nat.le_refl _)) KM.out KT.out F8.out).mono ?_; rintro e w12 ⟨rfl, hb12⟩; have hb12 : Below w11.heap.size w11 w12 := (by first | exact hb12 | exact ((Below.refl _ w11).drew).trans hb12); have hB12 : Below w.heap.size w w12 := hB11.trans (hb12.mono (Nat.le_of_lt hz11)); have hz12 : w.heap.size < w12.heap.size := Nat.lt_of_lt_of_le hz11 hb12.size; have r12 := Lib.hid ((hb12.block w.heap.size hz11).trans r11.out); have Y12 := Lib.hid (Y11.out.below hb12 (Nat.le_refl _)); clear hb12) | (go_at_call 15; have hq := hB10; clear hq; refine (lessT_fix (ss := M) (ts := ss) HU.out HCLS.out (HT.out.below (B := w.heap.size) (by first | exact hB10 | exact hB10.drew | exact hB10.drew.drew) (Nat.le_refl _)).th (by exact Y10.out) (HS.out.below (B := w.heap.size) (by first | exact hB10 | exact hB10.drew | exact hB10.drew.drew) (Nat.le_refl _)) KM.out KS.out F7.out).mono ?_; rintro e w11 ⟨rfl, hb11⟩; have hb11 : Below w10.heap.size w10 w11 := (by first | exact hb11 | exact ((Below.refl _ w10).drew).trans hb11); have hB11 : Below w.heap.size w w11 := hB10.trans (hb11.mono (Nat.le_of_lt hz10)); have hz11 : w.heap.size < w11.heap.size := Nat.lt_of_lt_of_le hz10 hb11.size; have r11 := Lib.hid ((hb11.block w.heap.size hz10).trans r10.out); have Y11 := Lib.hid (Y10.out.below hb11 (Nat.le_refl _)); clear hb11))
            go_wp2_with fail
            go_ret
            exact ⟨rfl, hBz⟩
          · have z2' : lessB (cs.map Prod.fst) (fun i => ab.getD i []) us ts = false := by simpa using z2
            have FY : Hid (lessB (cs.map Prod.fst) (fun i => ab.getD i []) us M = false) := by unfold Hid; rw [F9.out, z1, z2']; rfl
            have Z1 := Lib.hid z1
            have Z2 := Lib.hid z2'
            clear z1 z2 z2' X10
            go_wp2_with fail
            obtain ⟨c0, c1, c2, c3, c4, c5, c6⟩ := cells7 r10.out
            go_region_held3 (fun w' => w'.cell? ⟨w.heap.size, 0, none⟩ = some n ∧ w'.cell? ⟨w.heap.size, 1, none⟩ = some c ∧ w'.cell? ⟨w.heap.size, 2, none⟩ = some (.slice p2 n2 k2) ∧ w'.cell? ⟨w.heap.size, 3, none⟩ = some t3 ∧ w'.cell? ⟨w.heap.size, 4, none⟩ = some t4 ∧ w'.cell? ⟨w.heap.size, 5, none⟩ = some t5 ∧ w'.cell? ⟨w.heap.size, 6, none⟩ = some t6)
              (first | exact cells7 rz.out | exact cells7 r15.out | exact cells7 r14.out | exact cells7 r13.out | exact cells7 r12.out | exact cells7 r11.out | exact cells7 r10.out)
              (first | (go_at_call 10; refine (HA.out _).mono ?_; rintro e wz ⟨rfl, hbz⟩; have hbz : Below w15.heap.size w15 wz := (by first | exact hbz | exact ((Below.refl _ w15).drew).trans hbz); have hBz : Below w.heap.size w wz := hB15.trans (hbz.mono (Nat.le_of_lt hz15)); have rz := Lib.hid ((hbz.block w.heap.size hz15).trans r15.out)) | (go_at_call 15; have hq := hB14; clear hq; refine (lessT_fix (ss := us) (ts := ts) HU.out HCLS.out (HT.out.below (B := w.heap.size) (by first | exact hB14 | exact hB14.drew | exact hB14.drew.drew) (Nat.le_refl _)).th (HS3.out.below (B := w.heap.size) (by first | exact hB14 | exact hB14.drew | exact hB14.drew.drew) (Nat.le_refl _)) (HS2.out.below (B := w.heap.size) (by first | exact hB14 | exact hB14.drew | exact hB14.drew.drew) (Nat.le_refl _)) KU.out KT.out Z2.out).mono ?_; rintro e w15 ⟨rfl, hb15⟩; have hb15 : Below w14.heap.size w14 w15 := (by first | exact hb15 | exact ((Below.refl _ w14).drew).trans hb15); have hB15 : Below w.heap.size w w15 := hB14.trans (hb15.mono (Nat.le_of_lt hz14)); have hz15 : w.heap.size < w15.heap.size := Nat.lt_of_lt_of_le hz14 hb15.size; have r15 := Lib.hid ((hb15.block w.heap.size hz14).trans r14.out); have Y15 := Lib.hid (Y14.out.below hb15 (Nat.le_refl _)); clear hb15) | (go_at_call 15; have hq := hB13; clear hq; refine (lessT_fix (ss := us) (ts := ss) HU.out HCLS.out (HT.out.below (B := w.heap.size) (by first | exact hB13 | exact hB13.drew | exact hB13.drew.drew) (Nat.le_refl _)).th (HS3.out.below (B := w.heap.size) (by first | exact hB13 | exact hB13.drew | exact hB13.drew.drew) (Nat.le_refl _)) (HS.out.below (B := w.heap.size) (by first | exact hB13 | exact hB13.drew | exact hB13.drew.drew) (Nat.le_refl _)) KU.out KS.out Z1.out).mono ?_; rintro e w14 ⟨rfl, hb14⟩; have hb14 : Below w13.heap.size w13 w14 := (by first | exact hb14 | exact ((Below.refl _ w13).drew).trans hb14); have hB14 : Below w.heap.size w w14 := hB13.trans (hb14.mono (Nat.le_of_lt hz13)); have hz14 : w.heap.size < w14.heap.size := Nat.lt_of_lt_of_le hz13 hb14.size; have r14 := Lib.hid ((hb14.block w.heap.size hz13).trans r13.out); have Y14 := Lib.hid (Y13.out.below hb14 (Nat.le_refl _)); clear hb14) | (go_at_call 15; have hq := hB12; clear hq; refine (lessT_fix (ss := us) (ts := M) HU.out HCLS.out (HT.out.below (B := w.heap.size) (by first | exact hB12 | exact hB12.drew | exact hB12.drew.drew) (Nat.le_refl _)).th (HS3.out.below (B := w.heap.size) (by first | exact hB12 | exact hB12.drew | exact hB12.drew.drew) (Nat.le_refl _)) (by exact Y12.out) KU.out KM.out FY.out).mono ?_; rintro e w13 ⟨rfl, hb13⟩; have hb13 : Below w12.heap.size w12 w13 := (by first | exact hb13 | exact ((Below.refl _ w12).drew).trans hb13); have hB13 : Below w.heap.size w w13 := hB12.trans (hb13.mono (Nat.le_of_lt hz12)); have hz13 : w.heap.size < w13.heap.size := Nat.lt_of_lt_of_le hz12 hb13.size; have r13 := Lib.hid ((hb13.block w.heap.size hz12).trans r12.out); have Y13 := Lib.hid (Y12.out.below hb13 (Nat.le_refl _)); clear hb13) | (go_at_call 15; have hq := hB11; clear hq; refine (lessT_fix (ss := M) (ts := ts) HU.out HCLS.out (HT.out.below (B := w.heap.size) (by first | exact hB11 | exact hB11.drew | exact hB11.drew.drew) (Nat.le_refl _)).th (by exact Y11.out) (HS2.out.below (B := w.heap.size) (by first | exact hB11 | exact hB11.drew | exact hB11.drew.drew) (Nat.le_refl _)) KM.out KT.out F8.out).mono ?_; rintro e w12 ⟨rfl, hb12⟩; have hb12 : Below w11.heap.size w11 w12 := (by first | exact hb12 | exact ((Below.refl _ w11).drew).trans hb12); have hB12 : Below w.heap.size w w12 := hB11.trans (hb12.mono (Nat.le_of_lt hz11)); have hz12 : w.heap.size < w12.heap.size := Nat.lt_of_lt_of_le hz11 hb12.size; have r12 := Lib.hid ((hb12.block w.heap.size hz11).trans r11.out); have Y12 := Lib.hid (Y11.out.below hb12 (Nat.le_refl _)); clear hb12) | (go_at_call 15; have hq := hB10; clear hq; refine (lessT_fix (ss := M) (ts := ss) HU.out HCLS.out (HT.out.below (B := w.heap.size) (by first | exact hB10 | exact hB10.drew | exact hB10.drew.drew) (Nat.le_refl _)).th (by exact Y10.out) (HS.out.below (B := w.heap.size) (by first | exact hB10 | exact hB10.drew | exact hB10.drew.drew) (Nat.le_refl _)) KM.out KS.out F7.out).mono ?_; rintro e w11 ⟨rfl, hb11⟩; have hb11 : Below w10.heap.size w10 w11 := (by first | exact hb11 | exact ((Below.refl _ w10).drew).trans hb11); have hB11 : Below w.heap.size w w11 := hB10.trans (hb11.mono (Nat.le_of_lt hz10)); have hz11 : w.heap.size < w11.heap.size := Nat.lt_of_lt_of_le hz10 hb11.size; have r11 := Lib.hid ((hb11.block w.heap.size hz10).trans r10.out); have Y11 := Lib.hid (Y10.out.below hb11 (Nat.le_refl _)); clear hb11))
            go_wp2_with fail
            go_ret
            exact ⟨rfl, hBz⟩
        · have z1' : lessB (cs.map Prod.fst) (fun i => ab.getD i []) us ss = false := by simpa using z1
          have FY : Hid (lessB (cs.map Prod.fst) (fun i => ab.getD i []) us M = false) := by unfold Hid; rw [F9.out, z1']; rfl
          have Z1 := Lib.hid z1'
          clear z1 z1' X10
          go_wp2_with fail
          obtain ⟨c0, c1, c2, c3, c4, c5, c6⟩ := cells7 r10.out
          refine wp_region_held_drew (S := (fun w' => w'.cell? ⟨w.heap.size, 0, none⟩ = some n ∧ w'.cell? ⟨w.heap.size, 1, none⟩ = some c ∧ w'.cell? ⟨w.heap.size, 2, none⟩ = some (.slice p2 n2 k2) ∧ w'.cell? ⟨w.heap.size, 3, none⟩ = some t3 ∧ w'.cell? ⟨w.heap.size, 4, none⟩ = some t4 ∧ w'.cell? ⟨w.heap.size, 5, none⟩ = some t5 ∧ w'.cell? ⟨w.heap.size, 6, none⟩ = some t6)) (by kernel_rfl) ?_ (fun hHeld => ?_)
          · exact cells7 r10.out
          clear c0 c1 c2 c3 c4 c5 c6
          refine wpAnyH_take (i := 0) (oi := { dst := some 107, op := Op.load 29 (Operand.tmp 4), type := 29, pos := "law.go:106", after := #[], guard := none }) (v := ?v0uc) rfl (by kernel_rfl) (by kernel_rfl) (by kernel_rfl) (fun _ _ _ h => h) (Or.inl ⟨by rfl, ?hy0uc⟩) (by assumption) ?rest0uc
          case hy0uc => (intro wq hSq; (try dsimp only at hSq); go_simp; try with_reducible rfl)
          try simp only [Act.put, List.setIfInBounds_toArray, List.set_cons_zero, List.set_cons_succ]
          refine wpAnyH_take (i := 1) (oi := { dst := some 108, op := Op.move (Operand.tmp 15), type := 27, pos := "law.go:106", after := #[], guard := none }) (v := ?v1uc) rfl (by kernel_rfl) (by kernel_rfl) (by kernel_rfl) (fun _ _ _ h => h) (Or.inl ⟨by rfl, ?hy1uc⟩) (by assumption) ?rest1uc
          case hy1uc => (intro wq hSq; (try dsimp only at hSq); go_simp; try with_reducible rfl)
          try simp only [Act.put, List.setIfInBounds_toArray, List.set_cons_zero, List.set_cons_succ]
          refine wpAnyH_take (i := 2) (oi := { dst := some 109, op := Op.move (Operand.tmp 1), type := 27, pos := "law.go:106", after := #[], guard := none }) (v := ?v2uc) rfl (by kernel_rfl) (by kernel_rfl) (by kernel_rfl) (fun _ _ _ h => h) (Or.inl ⟨by rfl, ?hy2uc⟩) (by assumption) ?rest2uc
          case hy2uc => (intro wq hSq; (try dsimp only at hSq); go_simp; try with_reducible rfl)
          try simp only [Act.put, List.setIfInBounds_toArray, List.set_cons_zero, List.set_cons_succ]
          refine wpAnyH_ready (rs := [3]) (by kernel_rfl) (by simp) ?_
          refine AllReadyH.cons rfl (fun K hK => ?_) AllReadyH.nil
          go_simp
          go_wp2_with (go_at_call 15; refine (lessT_fix (ss := M) (ts := ss) HU.out HCLS.out (HT.out.below (B := w.heap.size) (by first | exact hB10 | exact hB10.drew) (Nat.le_refl _)).th (by exact Y10.out) (HS.out.below (B := w.heap.size) (by first | exact hB10 | exact hB10.drew) (Nat.le_refl _)) KM.out KS.out F7.out).mono ?_; rintro e w11 ⟨rfl, hb11⟩; have hb11 : Below w10.heap.size w10 w11 := (by first | exact hb11 | exact ((Below.refl _ w10).drew).trans hb11); have hB11 : Below w.heap.size w w11 := hB10.trans (hb11.mono (Nat.le_of_lt hz10)); have hz11 : w.heap.size < w11.heap.size := Nat.lt_of_lt_of_le hz10 hb11.size; have r11 := Lib.hid ((hb11.block w.heap.size hz10).trans r10.out); have Y11 := Lib.hid (Y10.out.below hb11 (Nat.le_refl _)); clear hb11)
          refine hK.out _ _ ?_ (fun hHeldN => ?_)
          · (try dsimp only); exact cells7 r11.out
          clear hK K hHeld
          have hHeld := hHeldN
          clear hHeldN
          refine wpAnyH_take (i := 4) (oi := { dst := some 111, op := Op.move (Operand.tmp 110), type := 4, pos := "law.go:106", after := #[{ on := 3, ground := Ground.data }, { on := 3, ground := Ground.chain }], guard := none }) (v := ?v4uc) rfl (by kernel_rfl) (by kernel_rfl) (by kernel_rfl) (fun _ _ _ h => h) (Or.inl ⟨by rfl, ?hy4uc⟩) (by assumption) ?rest4uc
          case hy4uc => (intro wq hSq; (try dsimp only at hSq); go_simp; try with_reducible rfl)
          try simp only [Act.put, List.setIfInBounds_toArray, List.set_cons_zero, List.set_cons_succ]
          refine wpAnyH_take (i := 5) (oi := { dst := some 112, op := Op.load 29 (Operand.tmp 4), type := 29, pos := "law.go:106", after := #[{ on := 4, ground := Ground.guard }], guard := some (4, true) }) (v := ?v5uc) rfl (by kernel_rfl) (by kernel_rfl) (by kernel_rfl) (fun _ _ _ h => h) (Or.inl ⟨by rfl, ?hy5uc⟩) (by assumption) ?rest5uc
          case hy5uc => (intro wq hSq; (try dsimp only at hSq); go_simp; try with_reducible rfl)
          try simp only [Act.put, List.setIfInBounds_toArray, List.set_cons_zero, List.set_cons_succ]
          refine wpAnyH_take (i := 6) (oi := { dst := some 113, op := Op.move (Operand.tmp 15), type := 27, pos := "law.go:106", after := #[{ on := 4, ground := Ground.guard }], guard := some (4, true) }) (v := ?v6uc) rfl (by kernel_rfl) (by kernel_rfl) (by kernel_rfl) (fun _ _ _ h => h) (Or.inl ⟨by rfl, ?hy6uc⟩) (by assumption) ?rest6uc
          case hy6uc => (intro wq hSq; (try dsimp only at hSq); go_simp; try with_reducible rfl)
          try simp only [Act.put, List.setIfInBounds_toArray, List.set_cons_zero, List.set_cons_succ]
          refine wpAnyH_take (i := 7) (oi := { dst := some 114, op := Op.move (Operand.tmp 2), type := 27, pos := "law.go:106", after := #[{ on := 4, ground := Ground.guard }], guard := some (4, true) }) (v := ?v7uc) rfl (by kernel_rfl) (by kernel_rfl) (by kernel_rfl) (fun _ _ _ h => h) (Or.inl ⟨by rfl, ?hy7uc⟩) (by assumption) ?rest7uc
          case hy7uc => (intro wq hSq; (try dsimp only at hSq); go_simp; try with_reducible rfl)
          try simp only [Act.put, List.setIfInBounds_toArray, List.set_cons_zero, List.set_cons_succ]
          refine wpAnyH_ready (rs := [8]) (by kernel_rfl) (by simp) ?_
          refine AllReadyH.cons rfl (fun K hK => ?_) AllReadyH.nil
          go_simp
          go_wp2_with (go_at_call 15; refine (lessT_fix (ss := M) (ts := ts) HU.out HCLS.out (HT.out.below (B := w.heap.size) (by first | exact hB11 | exact hB11.drew) (Nat.le_refl _)).th (by exact Y11.out) (HS2.out.below (B := w.heap.size) (by first | exact hB11 | exact hB11.drew) (Nat.le_refl _)) KM.out KT.out F8.out).mono ?_; rintro e w12 ⟨rfl, hb12⟩; have hb12 : Below w11.heap.size w11 w12 := (by first | exact hb12 | exact ((Below.refl _ w11).drew).trans hb12); have hB12 : Below w.heap.size w w12 := hB11.trans (hb12.mono (Nat.le_of_lt hz11)); have hz12 : w.heap.size < w12.heap.size := Nat.lt_of_lt_of_le hz11 hb12.size; have r12 := Lib.hid ((hb12.block w.heap.size hz11).trans r11.out); have Y12 := Lib.hid (Y11.out.below hb12 (Nat.le_refl _)); clear hb12)
          refine hK.out _ _ ?_ (fun hHeldN => ?_)
          · (try dsimp only); exact cells7 r12.out
          clear hK K hHeld
          have hHeld := hHeldN
          clear hHeldN
          refine wpAnyH_take (i := 9) (oi := { dst := some 116, op := Op.pick (Operand.tmp 111) (Operand.tmp 115) (Operand.const (Value.bool false)), type := 4, pos := "law.go:106", after := #[{ on := 4, ground := Ground.data }, { on := 8, ground := Ground.data }], guard := none }) (v := ?v9uc) rfl (by kernel_rfl) (by kernel_rfl) (by kernel_rfl) (fun _ _ _ h => h) (Or.inl ⟨by rfl, ?hy9uc⟩) (by assumption) ?rest9uc
          case hy9uc => (intro wq hSq; (try dsimp only at hSq); go_simp; try with_reducible rfl)
          try simp only [Act.put, List.setIfInBounds_toArray, List.set_cons_zero, List.set_cons_succ]
          refine wpAnyH_take (i := 10) (oi := { dst := some 117, op := Op.move (Operand.tmp 116), type := 4, pos := "law.go:106", after := #[{ on := 9, ground := Ground.data }, { on := 8, ground := Ground.chain }], guard := none }) (v := ?v10uc) rfl (by kernel_rfl) (by kernel_rfl) (by kernel_rfl) (fun _ _ _ h => h) (Or.inl ⟨by rfl, ?hy10uc⟩) (by assumption) ?rest10uc
          case hy10uc => (intro wq hSq; (try dsimp only at hSq); go_simp; try with_reducible rfl)
          try simp only [Act.put, List.setIfInBounds_toArray, List.set_cons_zero, List.set_cons_succ]
          refine wpAnyH_take (i := 11) (oi := { dst := some 118, op := Op.load 29 (Operand.tmp 4), type := 29, pos := "law.go:106", after := #[{ on := 10, ground := Ground.guard }], guard := some (10, true) }) (v := ?v11uc) rfl (by kernel_rfl) (by kernel_rfl) (by kernel_rfl) (fun _ _ _ h => h) (Or.inl ⟨by rfl, ?hy11uc⟩) (by assumption) ?rest11uc
          case hy11uc => (intro wq hSq; (try dsimp only at hSq); go_simp; try with_reducible rfl)
          try simp only [Act.put, List.setIfInBounds_toArray, List.set_cons_zero, List.set_cons_succ]
          refine wpAnyH_take (i := 12) (oi := { dst := some 119, op := Op.move (Operand.tmp 3), type := 27, pos := "law.go:106", after := #[{ on := 10, ground := Ground.guard }], guard := some (10, true) }) (v := ?v12uc) rfl (by kernel_rfl) (by kernel_rfl) (by kernel_rfl) (fun _ _ _ h => h) (Or.inl ⟨by rfl, ?hy12uc⟩) (by assumption) ?rest12uc
          case hy12uc => (intro wq hSq; (try dsimp only at hSq); go_simp; try with_reducible rfl)
          try simp only [Act.put, List.setIfInBounds_toArray, List.set_cons_zero, List.set_cons_succ]
          refine wpAnyH_take (i := 13) (oi := { dst := some 120, op := Op.move (Operand.tmp 15), type := 27, pos := "law.go:106", after := #[{ on := 10, ground := Ground.guard }], guard := some (10, true) }) (v := ?v13uc) rfl (by kernel_rfl) (by kernel_rfl) (by kernel_rfl) (fun _ _ _ h => h) (Or.inl ⟨by rfl, ?hy13uc⟩) (by assumption) ?rest13uc
          case hy13uc => (intro wq hSq; (try dsimp only at hSq); go_simp; try with_reducible rfl)
          try simp only [Act.put, List.setIfInBounds_toArray, List.set_cons_zero, List.set_cons_succ]
          refine wpAnyH_take (i := 15) (oi := { dst := some 122, op := Op.load 29 (Operand.tmp 4), type := 29, pos := "law.go:106", after := #[{ on := 10, ground := Ground.guard }], guard := some (10, true) }) (v := ?v15uc) rfl (by kernel_rfl) (by kernel_rfl) (by kernel_rfl) (fun _ _ _ h => h) (Or.inl ⟨by rfl, ?hy15uc⟩) (by assumption) ?rest15uc
          case hy15uc => (intro wq hSq; (try dsimp only at hSq); go_simp; try with_reducible rfl)
          try simp only [Act.put, List.setIfInBounds_toArray, List.set_cons_zero, List.set_cons_succ]
          refine wpAnyH_take (i := 16) (oi := { dst := some 123, op := Op.move (Operand.tmp 3), type := 27, pos := "law.go:106", after := #[{ on := 10, ground := Ground.guard }], guard := some (10, true) }) (v := ?v16uc) rfl (by kernel_rfl) (by kernel_rfl) (by kernel_rfl) (fun _ _ _ h => h) (Or.inl ⟨by rfl, ?hy16uc⟩) (by assumption) ?rest16uc
          case hy16uc => (intro wq hSq; (try dsimp only at hSq); go_simp; try with_reducible rfl)
          try simp only [Act.put, List.setIfInBounds_toArray, List.set_cons_zero, List.set_cons_succ]
          refine wpAnyH_take (i := 17) (oi := { dst := some 124, op := Op.move (Operand.tmp 1), type := 27, pos := "law.go:106", after := #[{ on := 10, ground := Ground.guard }], guard := some (10, true) }) (v := ?v17uc) rfl (by kernel_rfl) (by kernel_rfl) (by kernel_rfl) (fun _ _ _ h => h) (Or.inl ⟨by rfl, ?hy17uc⟩) (by assumption) ?rest17uc
          case hy17uc => (intro wq hSq; (try dsimp only at hSq); go_simp; try with_reducible rfl)
          try simp only [Act.put, List.setIfInBounds_toArray, List.set_cons_zero, List.set_cons_succ]
          refine wpAnyH_ready (rs := [14]) (by kernel_rfl) (by simp) ?_
          refine AllReadyH.cons rfl (fun K hK => ?_) AllReadyH.nil
          go_simp
          go_wp2_with (go_at_call 15; refine (lessT_fix (ss := us) (ts := M) HU.out HCLS.out (HT.out.below (B := w.heap.size) (by first | exact hB12 | exact hB12.drew) (Nat.le_refl _)).th (HS3.out.below (B := w.heap.size) (by first | exact hB12 | exact hB12.drew) (Nat.le_refl _)) (by exact Y12.out) KU.out KM.out FY.out).mono ?_; rintro e w13 ⟨rfl, hb13⟩; have hb13 : Below w12.heap.size w12 w13 := (by first | exact hb13 | exact ((Below.refl _ w12).drew).trans hb13); have hB13 : Below w.heap.size w w13 := hB12.trans (hb13.mono (Nat.le_of_lt hz12)); have hz13 : w.heap.size < w13.heap.size := Nat.lt_of_lt_of_le hz12 hb13.size; have r13 := Lib.hid ((hb13.block w.heap.size hz12).trans r12.out); have Y13 := Lib.hid (Y12.out.below hb13 (Nat.le_refl _)); clear hb13)
          refine hK.out _ _ ?_ (fun hHeldN => ?_)
          · (try dsimp only); exact cells7 r13.out
          clear hK K hHeld
          have hHeld := hHeldN
          clear hHeldN
          refine wpAnyH_ready (rs := [18]) (by kernel_rfl) (by simp) ?_
          refine AllReadyH.cons rfl (fun K hK => ?_) AllReadyH.nil
          go_simp
          go_wp2_with (go_at_call 15; refine (lessT_fix (ss := us) (ts := ss) HU.out HCLS.out (HT.out.below (B := w.heap.size) (by first | exact hB13 | exact hB13.drew) (Nat.le_refl _)).th (HS3.out.below (B := w.heap.size) (by first | exact hB13 | exact hB13.drew) (Nat.le_refl _)) (HS.out.below (B := w.heap.size) (by first | exact hB13 | exact hB13.drew) (Nat.le_refl _)) KU.out KS.out Z1.out).mono ?_; rintro e w14 ⟨rfl, hb14⟩; have hb14 : Below w13.heap.size w13 w14 := (by first | exact hb14 | exact ((Below.refl _ w13).drew).trans hb14); have hB14 : Below w.heap.size w w14 := hB13.trans (hb14.mono (Nat.le_of_lt hz13)); have hz14 : w.heap.size < w14.heap.size := Nat.lt_of_lt_of_le hz13 hb14.size; have r14 := Lib.hid ((hb14.block w.heap.size hz13).trans r13.out); have Y14 := Lib.hid (Y13.out.below hb14 (Nat.le_refl _)); clear hb14)
          refine hK.out _ _ ?_ (fun hHeldN => ?_)
          · (try dsimp only); exact cells7 r14.out
          clear hK K hHeld
          have hHeld := hHeldN
          clear hHeldN
          refine wpAnyH_take (i := 19) (oi := { dst := some 126, op := Op.move (Operand.tmp 125), type := 4, pos := "law.go:106", after := #[{ on := 18, ground := Ground.data }, { on := 18, ground := Ground.chain }, { on := 10, ground := Ground.guard }], guard := some (10, true) }) (v := ?v19uc) rfl (by kernel_rfl) (by kernel_rfl) (by kernel_rfl) (fun _ _ _ h => h) (Or.inl ⟨by rfl, ?hy19uc⟩) (by assumption) ?rest19uc
          case hy19uc => (intro wq hSq; (try dsimp only at hSq); go_simp; try with_reducible rfl)
          try simp only [Act.put, List.setIfInBounds_toArray, List.set_cons_zero, List.set_cons_succ]
          refine wpAnyH_take (i := 20) (oi := { dst := some 127, op := Op.load 29 (Operand.tmp 4), type := 29, pos := "law.go:106", after := #[{ on := 19, ground := Ground.guard }], guard := some (19, true) }) (v := undef) rfl (by kernel_rfl) (by kernel_rfl) (by kernel_rfl) (fun _ _ _ h => h) (Or.inr ⟨by rfl, rfl⟩) (by assumption) ?_
          try simp only [Act.put, List.setIfInBounds_toArray, List.set_cons_zero, List.set_cons_succ]
          refine wpAnyH_take (i := 21) (oi := { dst := some 128, op := Op.move (Operand.tmp 3), type := 27, pos := "law.go:106", after := #[{ on := 19, ground := Ground.guard }], guard := some (19, true) }) (v := undef) rfl (by kernel_rfl) (by kernel_rfl) (by kernel_rfl) (fun _ _ _ h => h) (Or.inr ⟨by rfl, rfl⟩) (by assumption) ?_
          try simp only [Act.put, List.setIfInBounds_toArray, List.set_cons_zero, List.set_cons_succ]
          refine wpAnyH_take (i := 22) (oi := { dst := some 129, op := Op.move (Operand.tmp 2), type := 27, pos := "law.go:106", after := #[{ on := 19, ground := Ground.guard }], guard := some (19, true) }) (v := undef) rfl (by kernel_rfl) (by kernel_rfl) (by kernel_rfl) (fun _ _ _ h => h) (Or.inr ⟨by rfl, rfl⟩) (by assumption) ?_
          try simp only [Act.put, List.setIfInBounds_toArray, List.set_cons_zero, List.set_cons_succ]
          refine wpAnyH_ready (rs := [23]) (by kernel_rfl) (by simp) ?_
          refine AllReadyH.cons rfl (fun K hK => ?_) AllReadyH.nil
          go_simp
          refine hK.out _ _ ?_ (fun hHeldN => ?_)
          · (try dsimp only); exact cells7 r14.out
          clear hK K hHeld
          have hHeld := hHeldN
          clear hHeldN
          refine wpAnyH_take (i := 24) (oi := { dst := some 131, op := Op.pick (Operand.tmp 126) (Operand.tmp 130) (Operand.const (Value.bool false)), type := 4, pos := "law.go:106", after := #[{ on := 19, ground := Ground.data }, { on := 23, ground := Ground.data }, { on := 10, ground := Ground.guard }], guard := some (10, true) }) (v := ?v24uc) rfl (by kernel_rfl) (by kernel_rfl) (by kernel_rfl) (fun _ _ _ h => h) (Or.inl ⟨by rfl, ?hy24uc⟩) (by assumption) ?rest24uc
          case hy24uc => (intro wq hSq; (try dsimp only at hSq); go_simp; try with_reducible rfl)
          try simp only [Act.put, List.setIfInBounds_toArray, List.set_cons_zero, List.set_cons_succ]
          refine wpAnyH_take (i := 25) (oi := { dst := some 132, op := Op.binOp BinOp.eql 4 (Operand.tmp 121) (Operand.tmp 131) 4, type := 4, pos := "law.go:106", after := #[{ on := 14, ground := Ground.data }, { on := 24, ground := Ground.data }, { on := 10, ground := Ground.guard }], guard := some (10, true) }) (v := ?v25uc) rfl (by kernel_rfl) (by kernel_rfl) (by kernel_rfl) (fun _ _ _ h => h) (Or.inl ⟨by rfl, ?hy25uc⟩) (by assumption) ?rest25uc
          case hy25uc => (intro wq hSq; (try dsimp only at hSq); go_simp; try with_reducible rfl)
          try simp only [Act.put, List.setIfInBounds_toArray, List.set_cons_zero, List.set_cons_succ]
          refine wpAnyH_take (i := 26) (oi := { dst := some 133, op := Op.pick (Operand.tmp 117) (Operand.tmp 132) (Operand.const (Value.bool false)), type := 4, pos := "law.go:106", after := #[{ on := 10, ground := Ground.data }, { on := 25, ground := Ground.data }], guard := none }) (v := ?v26uc) rfl (by kernel_rfl) (by kernel_rfl) (by kernel_rfl) (fun _ _ _ h => h) (Or.inl ⟨by rfl, ?hy26uc⟩) (by assumption) ?rest26uc
          case hy26uc => (intro wq hSq; (try dsimp only at hSq); go_simp; try with_reducible rfl)
          try simp only [Act.put, List.setIfInBounds_toArray, List.set_cons_zero, List.set_cons_succ]
          refine wpAnyH_take (i := 27) (oi := { dst := some 134, op := Op.move (Operand.tmp 133), type := 4, pos := "law.go:106", after := #[{ on := 26, ground := Ground.data }, { on := 23, ground := Ground.chain }], guard := none }) (v := ?v27uc) rfl (by kernel_rfl) (by kernel_rfl) (by kernel_rfl) (fun _ _ _ h => h) (Or.inl ⟨by rfl, ?hy27uc⟩) (by assumption) ?rest27uc
          case hy27uc => (intro wq hSq; (try dsimp only at hSq); go_simp; try with_reducible rfl)
          try simp only [Act.put, List.setIfInBounds_toArray, List.set_cons_zero, List.set_cons_succ]
          refine wpAnyH_ready (rs := [28]) (by kernel_rfl) (by simp) ?_
          refine AllReadyH.cons rfl (fun K hK => ?_) AllReadyH.nil
          go_simp
          go_wp2_with (go_at_call 10; refine (HA.out _).mono ?_; rintro e wz ⟨rfl, hbz⟩; have hBz : Below w.heap.size w wz := hB14.trans (hbz.mono (Nat.le_of_lt hz14)); have rz := Lib.hid ((hbz.block w.heap.size hz14).trans r14.out))
          refine hK.out _ _ ?_ (fun hHeldN => ?_)
          · (try dsimp only); exact cells7 rz.out
          clear hK K hHeld
          have hHeld := hHeldN
          clear hHeldN
          refine wpAnyH_take (i := 29) (oi := { dst := some 136, op := Op.pick (Operand.tmp 134) (Operand.tmp 135) (Operand.const (Value.bool false)), type := 4, pos := "law.go:106", after := #[{ on := 27, ground := Ground.data }, { on := 28, ground := Ground.data }], guard := none }) (v := ?v29uc) rfl (by kernel_rfl) (by kernel_rfl) (by kernel_rfl) (fun _ _ _ h => h) (Or.inl ⟨by rfl, ?hy29uc⟩) (by assumption) ?rest29uc
          case hy29uc => (intro wq hSq; (try dsimp only at hSq); go_simp; try with_reducible rfl)
          try simp only [Act.put, List.setIfInBounds_toArray, List.set_cons_zero, List.set_cons_succ]
          refine wpAnyH_take (i := 30) (oi := { dst := some 8, op := Op.assign (Operand.tmp 136), type := 4, pos := "law.go:106", after := #[{ on := 29, ground := Ground.data }, { on := 28, ground := Ground.chain }, { on := 0, ground := Ground.phase }, { on := 1, ground := Ground.phase }, { on := 2, ground := Ground.phase }, { on := 3, ground := Ground.phase }, { on := 4, ground := Ground.phase }, { on := 5, ground := Ground.phase }, { on := 6, ground := Ground.phase }, { on := 7, ground := Ground.phase }, { on := 8, ground := Ground.phase }, { on := 9, ground := Ground.phase }, { on := 10, ground := Ground.phase }, { on := 11, ground := Ground.phase }, { on := 12, ground := Ground.phase }, { on := 13, ground := Ground.phase }, { on := 14, ground := Ground.phase }, { on := 15, ground := Ground.phase }, { on := 16, ground := Ground.phase }, { on := 17, ground := Ground.phase }, { on := 18, ground := Ground.phase }, { on := 19, ground := Ground.phase }, { on := 20, ground := Ground.phase }, { on := 21, ground := Ground.phase }, { on := 22, ground := Ground.phase }, { on := 23, ground := Ground.phase }, { on := 24, ground := Ground.phase }, { on := 25, ground := Ground.phase }, { on := 26, ground := Ground.phase }, { on := 27, ground := Ground.phase }, { on := 28, ground := Ground.phase }, { on := 29, ground := Ground.phase }], guard := none }) (v := ?v30uc) rfl (by kernel_rfl) (by kernel_rfl) (by kernel_rfl) (fun _ _ _ h => h) (Or.inl ⟨by rfl, ?hy30uc⟩) (by assumption) ?rest30uc
          case hy30uc => (intro wq hSq; (try dsimp only at hSq); go_simp; try with_reducible rfl)
          try simp only [Act.put, List.setIfInBounds_toArray, List.set_cons_zero, List.set_cons_succ]
          refine wpAnyH_done (by kernel_rfl) ?_ _
          go_wp2_with fail
          go_ret
          exact ⟨rfl, hBz⟩
end Go.Proofs.Ytehnikgdjnmfcaa
