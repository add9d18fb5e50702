/- The reference: the error of the classes. -/
import Derived.Test.YtehnikgdjnmfcaaGreatMZ8
import Derived.Deep.QuietTactic
import Derived.BigQuiet
namespace Go.Proofs.YtehnikgdjnmfcaaGreat
open Go.RowKit Go.WideMaps Go.Shelf

theorem cells2 {w : World} {k : Nat} {a0 a1 : Value} {t : TypeId} {fr : Nat × Nat} (h : w.heap[k]? = some (.cells #[a0, a1] t fr)) : w.cell? ⟨k, 0, none⟩ = some a0 ∧ w.cell? ⟨k, 1, none⟩ = some a1 :=
  ⟨by rw [cell_of_row w _ 0 _ _ _ h]; rfl, by rw [cell_of_row w _ 1 _ _ _ h]; rfl⟩

/-- what Class says of a name, seen from the i-th class -/
theorem clsI_own {cs : List (Nm × List Nm)} {i : Nat} {nm : Nm} (hi : i < cs.length) (he : (cs.getD i ([], [])).1 = nm) :
    (inNs ((cs.take i).map Prod.fst) nm = false → clsI (cs.map Prod.fst) nm = ((i : Nat) : Int)) ∧
    (inNs ((cs.take i).map Prod.fst) nm = true → (clsI (cs.map Prod.fst) nm != ((i : Nat) : Int)) = true) := by
  constructor
  · intro h
    obtain ⟨h1, h2⟩ := ix_first hi h he
    rw [clsI_in h1, h2]
  · intro h
    obtain ⟨h1, h2⟩ := ix_take h
    rw [clsI_in h1, h2, bne_iff_ne]
    have := ixOf_lt h
    rw [List.length_map, List.length_take] at this; omega

theorem clsI_sup {cs : List (Nm × List Nm)} {i : Nat} (x : Nm) (hi : i < cs.length) :
    (inNs ((cs.take i).map Prod.fst) x = true → ∃ m : Nat, clsI (cs.map Prod.fst) x = (m : Int) ∧ m < i) ∧
    (inNs ((cs.take i).map Prod.fst) x = false → clsI (cs.map Prod.fst) x = -1 ∨ ∃ m : Nat, clsI (cs.map Prod.fst) x = (m : Int) ∧ i ≤ m) := by
  constructor
  · intro h
    obtain ⟨h1, h2⟩ := ix_take h
    refine ⟨_, clsI_in h1, ?_⟩
    rw [h2]
    have := ixOf_lt h
    rw [List.length_map, List.length_take] at this; omega
  · intro h
    by_cases h1 : inNs (cs.map Prod.fst) x = true
    · refine .inr ⟨_, clsI_in h1, ?_⟩
      refine Nat.le_of_not_lt fun hl => ?_
      rw [ix_lt_take h1 hl] at h; cases h
    · exact .inl (clsI_out (by simpa using h1))

set_option maxRecDepth 100000 in
set_option maxHeartbeats 8000000 in
theorem classes_any (n c t2 t3 t4 t5 t6 : Value) (cs : List (Nm × List Nm)) (w : World) (hc : SlC w c cs) :
    Calls Tryz.prog 39 #[.agg #[n, c, t2, t3, t4, t5, t6]] w fun e w' => e = .returned (.int .i64 (clsErr cs)) ∧ Below w.heap.size w w' := by
  have hb0 := below_alloc w (Obj.cells #[n, c, t2, t3, t4, t5, t6] 29)
  have HC := Lib.hid (hc.below hb0 (Nat.le_refl _))
  have HR := Lib.hid (heap_alloc_new w (Obj.cells #[n, c, t2, t3, t4, t5, t6] 29))
  have hz0 : w.heap.size < (w.alloc (Obj.cells #[n, c, t2, t3, t4, t5, t6] 29)).heap.size := by simp
  obtain ⟨hl, ca, ccap, rfl, _⟩ := hc
  unfold maxLen at hl
  by_cases h300 : 300 < cs.length
  · have hd : decide (300 < ((cs.length : Nat) : Int)) = true := by simp; omega
    have HE : Hid (clsErr cs = 5) := by unfold Hid clsErr; rw [if_pos h300]
    go_enter Tryz.func39, Tryz.ntmps39
    go_wp2_with fail
    go_ret
    exact ⟨by rw [HE.out]; rfl, hb0⟩
  · have hd : decide (300 < ((cs.length : Nat) : Int)) = false := by simp; omega
    have HE : Hid (clsErr cs = clsErrFrom cs (cs.length - 0) 0) := by unfold Hid clsErr; rw [if_neg h300]; rfl
    have c1 := (cells7' HR.out).2.1
    go_enter Tryz.func39, Tryz.ntmps39
    go_wp2_with fail
    generalize (w.alloc (Obj.cells #[n, .slice ca cs.length ccap, t2, t3, t4, t5, t6] 29)) = W0 at *
    clear c1
    go_loopw [3] (fun i wr => ∃ i' : Nat, i' ≤ cs.length ∧ i = .int .i64 i' ∧ Hid (clsErr cs = clsErrFrom cs (cs.length - i') i') ∧ Below W0.heap.size W0 wr) (fun i _ => cs.length - (intOf i).toNat)
    case atStart => exact ⟨0, by omega, rfl, HE, Below.refl _ _⟩
    case round =>
      obtain ⟨i, hi, rfl, hE, hB⟩ := hrel
      have hz := hB.size
      have hBw : Below w.heap.size w wr := hb0.trans (hB.mono (by omega))
      have hrow := Lib.hid ((hB.block w.heap.size hz0).trans HR.out)
      by_cases hlt : i < cs.length
      · obtain ⟨_, ca', cap', hee, hsx⟩ := HC.out.below hB (Nat.le_refl _)
        injection hee with hee _ hee2
        subst hee hee2
        obtain ⟨b, off, rfl, hb, hcl⟩ := hsx (by omega)
        obtain ⟨g0, hnl, sa, scap, g1, hss⟩ := hcl i hlt
        have hown := Lib.hid (clsI_own (nm := (cs.getD i ([], [])).1) hlt rfl)
        have hstep : Hid (clsErr cs = if classErr ((cs.take i).map Prod.fst) (cs.getD i ([], [])).1 (cs.getD i ([], [])).2 = 0 then clsErrFrom cs (cs.length - (i + 1)) (i + 1) else classErr ((cs.take i).map Prod.fst) (cs.getD i ([], [])).1 (cs.getD i ([], [])).2) := by
          unfold Hid; rw [hE.out]
          have : cs.length - i = (cs.length - (i + 1)) + 1 := by omega
          rw [this]; rfl
        clear hcl hsx hE HE
        have HSUP := Lib.hid (fun x => clsI_sup (cs := cs) (i := i) x hlt)
        generalize hns : (cs.take i).map Prod.fst = ns at *
        generalize hnm : (cs.getD i ([], [])).1 = nm at *
        generalize hsu : (cs.getD i ([], [])).2 = sups at *
        have HSS := Lib.hid hss
        have hsl := hss.1
        unfold maxLen at hsl
        clear hns hnm hsu hss
        obtain ⟨c0, c1, c2, c3, c4, c5, c6⟩ := cells7' hrow.out
        have NM := Lib.hid (rIsName_any (bs nm))
        have hnl2 : (bs nm).size ≤ maxLen := by rw [bs_size]; exact hnl
        have hb1 := below_alloc wr (Obj.cells #[.string (bs nm), .slice sa sups.length scap] 48)
        by_cases hname : isNameB (bs nm) = true
        · have HN := Lib.hid hname
          have HN1 : Hid (¬ isNameB (bs nm) = false) := by unfold Hid; rw [hname]; decide
          clear hname
          go_wp2_with fail
          refine (NM.out _ hnl2).mono ?_
          rw [HN.out]
          rintro e w1 ⟨rfl, rfl⟩
          have r1 := Lib.hid ((hb1.block w.heap.size (by omega)).trans hrow.out)
          have q1 := Lib.hid (heap_alloc_new wr (Obj.cells #[.string (bs nm), .slice sa sups.length scap] 48))
          have hz1 : w.heap.size < (wr.alloc (Obj.cells #[.string (bs nm), .slice sa sups.length scap] 48)).heap.size := by simp; omega
          have hB1 : Below W0.heap.size W0 (wr.alloc (Obj.cells #[.string (bs nm), .slice sa sups.length scap] 48)) := hB.trans (hb1.mono (by omega))
          have hq1 : wr.heap.size < (wr.alloc (Obj.cells #[.string (bs nm), .slice sa sups.length scap] 48)).heap.size := by simp
          have HS1 := Lib.hid (HSS.out.below hb1 (Nat.le_refl _))
          have hle1 := hb1.size
          clear c0 c1 c2 c3 c4 c5 c6 hb1
          generalize (wr.alloc (Obj.cells #[.string (bs nm), .slice sa sups.length scap] 48)) = w1 at *
          have hBw1 : Below w.heap.size w w1 := hb0.trans (hB1.mono (by omega))
          have HC1 := Lib.hid (HC.out.below hB1 (Nat.le_refl _))
          obtain ⟨c0, c1, c2, c3, c4, c5, c6⟩ := cells7' r1.out
          obtain ⟨d0, d1⟩ := cells2 q1.out
          by_cases hdup : inNs ns nm = true
          · have hne := hown.out.2 hdup
            have hE10 : Hid (clsErr cs = 10) := by
              unfold Hid; rw [hstep.out]; unfold classErr; rw [if_neg HN1.out, if_pos hdup]; rfl
            have CL := Lib.hid (class_any n _ t2 t3 t4 t5 t6 nm cs w1 HC1.out)
            clear hstep hdup hown
            generalize clsI (cs.map Prod.fst) nm = j at *
            go_wp2_with fail
            refine CL.out.mono ?_
            rintro e w2 ⟨rfl, hb2⟩
            go_wp2_with fail
            go_ret
            exact ⟨by rw [hE10.out]; rfl, hBw1.trans (hb2.mono (by omega))⟩
          · have hdup' : inNs ns nm = false := by simpa using hdup
            have hji := hown.out.1 hdup'
            have CL := Lib.hid (class_any n _ t2 t3 t4 t5 t6 nm cs w1 HC1.out)
            rw [hji] at CL
            have HD1 := Lib.hid hdup
            clear hdup hdup' hown hji
            go_wp2_with fail
            refine CL.out.mono ?_
            rintro e w2 ⟨rfl, hb2⟩
            have r2 := Lib.hid ((hb2.block w.heap.size hz1).trans r1.out)
            have q2 := Lib.hid ((hb2.block wr.heap.size hq1).trans q1.out)
            have hz2 := hb2.size
            clear c0 c1 c2 c3 c4 c5 c6 d0 d1
            obtain ⟨c0, c1, c2, c3, c4, c5, c6⟩ := cells7' r2.out
            obtain ⟨d0, d1⟩ := cells2 q2.out
            have hB2 : Below W0.heap.size W0 w2 := hB1.trans (hb2.mono (by omega))
            have HS2 := Lib.hid (HS1.out.below hb2 (Nat.le_refl _))
            by_cases h20 : 20 < sups.length
            · have hd20 : decide (20 < ((sups.length : Nat) : Int)) = true := by simp; omega
              have hE5 : Hid (clsErr cs = 5) := by
                unfold Hid; rw [hstep.out]; unfold classErr; rw [if_neg HN1.out, if_neg HD1.out, if_pos h20]; rfl
              clear hstep
              go_wp2_with fail
              go_ret
              exact ⟨by rw [hE5.out]; rfl, hBw1.trans (hb2.mono (by omega))⟩
            · have hd20 : decide (20 < ((sups.length : Nat) : Int)) = false := by simp; omega
              have hst2 : Hid (clsErr cs = if supErr ns sups = 0 then clsErrFrom cs (cs.length - (i + 1)) (i + 1) else supErr ns sups) := by
                unfold Hid; rw [hstep.out]; unfold classErr; rw [if_neg HN1.out, if_neg HD1.out, if_neg h20]
              have hE0 : Hid (supErr ns sups = supErrFrom ns sups (sups.length - 0) 0) := rfl
              clear hstep
              go_wp2_with fail
              clear c0 c1 c2 c3 c4 c5 c6 d0 d1
              obtain ⟨wo, rfl⟩ : ∃ wo : World, wo = wr := ⟨_, rfl⟩
              go_loopw [5] (fun u wr2 => ∃ k : Nat, k ≤ sups.length ∧ u = .int .i64 k ∧ Hid (supErr ns sups = supErrFrom ns sups (sups.length - k) k) ∧ Below w2.heap.size w2 wr2) (fun u _ => sups.length - (intOf u).toNat)
              case atStart => exact ⟨0, by omega, rfl, hE0, Below.refl _ _⟩
              case round =>
                obtain ⟨k, hk, rfl, hI, hB3⟩ := hrel
                clear hE0
                have hz3 := hB3.size
                have r3 := Lib.hid ((hB3.block w.heap.size (by omega)).trans r2.out)
                have q3 := Lib.hid ((hB3.block wo.heap.size (by omega)).trans q2.out)
                obtain ⟨c0, c1, c2, c3, c4, c5, c6⟩ := cells7' r3.out
                obtain ⟨d0, d1⟩ := cells2 q3.out
                have hBw3 : Below w.heap.size w wr := (hb0.trans (hB2.mono (by omega))).trans (hB3.mono (by omega))
                by_cases hltk : k < sups.length
                · obtain ⟨b2, off2, x, rfl, hb2x, hck, hwk, hx⟩ := (HS2.out.below hB3 (Nat.le_refl _)).at hltk
                  have hckd := Lib.hid hck
                  have hstep : Hid (supErr ns sups = if supE ns sups k = 0 then supErrFrom ns sups (sups.length - (k + 1)) (k + 1) else supE ns sups k) := by
                    unfold Hid; rw [hI.out]
                    have : sups.length - k = (sups.length - (k + 1)) + 1 := by omega
                    rw [this]; rfl
                  have HC3 := Lib.hid (HC.out.below (hB2.trans (hB3.mono (by omega))).drew (Nat.le_refl _))
                  have HX := Lib.hid hx
                  obtain ⟨s1, s2⟩ := HSUP.out x
                  clear hI hx
                  by_cases hin : inNs ns x = true
                  · obtain ⟨m, hm, hmi⟩ := s1 hin
                    have CL := Lib.hid (class_any n _ t2 t3 t4 t5 t6 x cs wr.drew HC3.out)
                    rw [hm] at CL
                    clear s1 s2 hm
                    have f1 : decide ((m : Int) < 0) = false := by simp
                    have f2 : decide (i ≤ m) = false := by simp; omega
                    have f3 : decide ((i : Int) ≤ (m : Int)) = false := by simp; omega
                    go_wp2_with fail
                    go_region_held3 (fun w' => w'.cell? ⟨w.heap.size, 0, none⟩ = some n ∧ w'.cell? ⟨w.heap.size, 1, none⟩ = some (.slice (some ⟨b, off, none⟩) cs.length ccap) ∧ w'.cell? ⟨w.heap.size, 2, none⟩ = some t2 ∧ w'.cell? ⟨w.heap.size, 3, none⟩ = some t3 ∧ w'.cell? ⟨w.heap.size, 4, none⟩ = some t4 ∧ w'.cell? ⟨w.heap.size, 5, none⟩ = some t5 ∧ w'.cell? ⟨w.heap.size, 6, none⟩ = some t6 ∧ w'.cell? ⟨wo.heap.size, 1, none⟩ = some (.slice (some ⟨b2, off2, none⟩) sups.length scap) ∧ w'.cell? ⟨b2, off2 + k, none⟩ = some (.string (bs x)))
                      (first | exact cells7and r3.out ⟨(cells2 q3.out).2, hckd.out⟩ | exact cells7and r4.out ⟨(cells2 q4.out).2, k4.out⟩)
                      ((go_at_call 57; refine CL.out.mono ?_; rintro e w4 ⟨rfl, hb4⟩; have hb4 : Below wr.heap.size wr w4 := ((Below.refl _ wr).drew).trans hb4; have r4 := Lib.hid ((hb4.block w.heap.size (by omega)).trans r3.out); have q4 := Lib.hid ((hb4.block wo.heap.size (by omega)).trans q3.out); have k4 := Lib.hid ((hb4.cell (p := ⟨b2, off2 + k, none⟩) hb2x).trans hckd.out)))
                    clear c0 c1 c2 c3 c4 c5 c6 d0 d1
                    have hz4 := hb4.size
                    have hB4 : Below w2.heap.size w2 w4 := hB3.trans (hb4.mono (by omega))
                    have hBw4 : Below w.heap.size w w4 := hBw3.trans (hb4.mono (by omega))
                    obtain ⟨d0, d1⟩ := cells2 q4.out
                    by_cases hk0 : 0 < k
                    · obtain ⟨b5, off5, y, hee5, hb5x, hck5, hwk5, hy⟩ := (HS2.out.below hB4 (Nat.le_refl _)).at (k := k - 1) (by omega)
                      injection hee5 with hee5
                      injection hee5 with e51 e52
                      subst e51 e52
                      have HY := Lib.hid hy
                      have hckx := k4.out
                      clear hy
                      have g1 : IntKind.i64.wrap ((k : Int) - 1) = (k : Int) - 1 := IntWalk.i64_in _ (by omega)
                      have g2 : 0 ≤ (k : Int) - 1 := by omega
                      have g3 : ((k : Int) - 1).toNat = k - 1 := by omega
                      have g4 : decide (0 < k) = true := by simpa using hk0
                      have g5 : decide (0 < (k : Int)) = true := by simpa using hk0
                      by_cases hord : (!Op.bytesLess (bs y).toList (bs x).toList) = true
                      · have hE17 : Hid (supErr ns sups = 17) := by
                          unfold Hid; rw [hstep.out]
                          have : supE ns sups k = 17 := by unfold supE; rw [← HX.out, ← HY.out, hin]; simp only [if_true]; rw [if_pos ⟨hk0, hord⟩]
                          rw [this]; rfl
                        have hS17 : Hid (clsErr cs = 17) := by unfold Hid; rw [hst2.out, hE17.out]; rfl
                        clear hE17 hst2 hstep hin
                        go_wp2_with fail
                        go_quiet (fail)
                        go_wp2_with fail
                        go_ret
                        exact ⟨by rw [hS17.out]; rfl, below_drewN hBw4 _⟩
                      · have hord' : (!Op.bytesLess (bs y).toList (bs x).toList) = false := by simpa using hord
                        have hI2 : Hid (supErr ns sups = supErrFrom ns sups (sups.length - (k + 1)) (k + 1)) := by
                          unfold Hid; rw [hstep.out]
                          have : supE ns sups k = 0 := by unfold supE; rw [← HX.out, ← HY.out, hin]; simp only [if_true]; rw [if_neg (fun h => hord h.2)]
                          rw [this]; rfl
                        clear hstep hin hord
                        go_wp2_with fail
                        go_quiet (fail)
                        go_wp2_with fail
                        go_roundw
                        case rel => exact ⟨k + 1, by omega, by go_num, hI2, below_drewN hB4 _⟩
                        case measure => simp [intOf]; omega
                    · have g4 : decide (0 < k) = false := by simpa using hk0
                      have g5 : decide (0 < (k : Int)) = false := by simpa using hk0
                      have hI2 : Hid (supErr ns sups = supErrFrom ns sups (sups.length - (k + 1)) (k + 1)) := by
                        unfold Hid; rw [hstep.out]
                        have : supE ns sups k = 0 := by unfold supE; rw [← HX.out, hin]; simp only [if_true]; rw [if_neg (fun h => hk0 h.1)]
                        rw [this]; rfl
                      clear hstep hin
                      go_wp2_with fail
                      go_quiet (fail)
                      go_wp2_with fail
                      go_roundw
                      case rel => exact ⟨k + 1, by omega, by go_num, hI2, below_drewN hB4 _⟩
                      case measure => simp [intOf]; omega
                  · have hin' : inNs ns x = false := by simpa using hin
                    have hE9 : Hid (clsErr cs = 9) := by
                      unfold Hid; rw [hst2.out]
                      have e9 : supErr ns sups = 9 := by
                        rw [hstep.out]
                        have : supE ns sups k = 9 := by unfold supE; rw [← HX.out, hin']; rfl
                        rw [this]; rfl
                      rw [e9]; rfl
                    have hs2 := s2 hin'
                    clear s1 s2 hin hin' hstep hst2
                    rcases hs2 with hm | ⟨m, hm, hmi⟩
                    · have CL := Lib.hid (class_any n _ t2 t3 t4 t5 t6 x cs wr.drew HC3.out)
                      rw [hm] at CL
                      clear hm
                      go_wp2_with fail
                      go_region_held3 (fun w' => w'.cell? ⟨w.heap.size, 0, none⟩ = some n ∧ w'.cell? ⟨w.heap.size, 1, none⟩ = some (.slice (some ⟨b, off, none⟩) cs.length ccap) ∧ w'.cell? ⟨w.heap.size, 2, none⟩ = some t2 ∧ w'.cell? ⟨w.heap.size, 3, none⟩ = some t3 ∧ w'.cell? ⟨w.heap.size, 4, none⟩ = some t4 ∧ w'.cell? ⟨w.heap.size, 5, none⟩ = some t5 ∧ w'.cell? ⟨w.heap.size, 6, none⟩ = some t6 ∧ w'.cell? ⟨wo.heap.size, 1, none⟩ = some (.slice (some ⟨b2, off2, none⟩) sups.length scap) ∧ w'.cell? ⟨b2, off2 + k, none⟩ = some (.string (bs x)))
                        (first | exact cells7and r3.out ⟨(cells2 q3.out).2, hckd.out⟩ | exact cells7and r4.out ⟨(cells2 q4.out).2, k4.out⟩)
                        ((go_at_call 57; refine CL.out.mono ?_; rintro e w4 ⟨rfl, hb4⟩; have hb4 : Below wr.heap.size wr w4 := ((Below.refl _ wr).drew).trans hb4; have r4 := Lib.hid ((hb4.block w.heap.size (by omega)).trans r3.out); have q4 := Lib.hid ((hb4.block wo.heap.size (by omega)).trans q3.out); have k4 := Lib.hid ((hb4.cell (p := ⟨b2, off2 + k, none⟩) hb2x).trans hckd.out)))
                      clear c0 c1 c2 c3 c4 c5 c6 d0 d1
                      have hz4 := hb4.size
                      have hB4 : Below w2.heap.size w2 w4 := hB3.trans (hb4.mono (by omega))
                      have hBw4 : Below w.heap.size w w4 := hBw3.trans (hb4.mono (by omega))
                      go_wp2_with fail
                      go_ret
                      exact ⟨by rw [hE9.out]; rfl, hBw4⟩
                    · have CL := Lib.hid (class_any n _ t2 t3 t4 t5 t6 x cs wr.drew HC3.out)
                      rw [hm] at CL
                      clear hm
                      have f1 : decide ((m : Int) < 0) = false := by simp
                      have f2 : decide (i ≤ m) = true := by simp; omega
                      have f3 : decide ((i : Int) ≤ (m : Int)) = true := by simp; omega
                      go_wp2_with fail
                      go_region_held3 (fun w' => w'.cell? ⟨w.heap.size, 0, none⟩ = some n ∧ w'.cell? ⟨w.heap.size, 1, none⟩ = some (.slice (some ⟨b, off, none⟩) cs.length ccap) ∧ w'.cell? ⟨w.heap.size, 2, none⟩ = some t2 ∧ w'.cell? ⟨w.heap.size, 3, none⟩ = some t3 ∧ w'.cell? ⟨w.heap.size, 4, none⟩ = some t4 ∧ w'.cell? ⟨w.heap.size, 5, none⟩ = some t5 ∧ w'.cell? ⟨w.heap.size, 6, none⟩ = some t6 ∧ w'.cell? ⟨wo.heap.size, 1, none⟩ = some (.slice (some ⟨b2, off2, none⟩) sups.length scap) ∧ w'.cell? ⟨b2, off2 + k, none⟩ = some (.string (bs x)))
                        (first | exact cells7and r3.out ⟨(cells2 q3.out).2, hckd.out⟩ | exact cells7and r4.out ⟨(cells2 q4.out).2, k4.out⟩)
                        ((go_at_call 57; refine CL.out.mono ?_; rintro e w4 ⟨rfl, hb4⟩; have hb4 : Below wr.heap.size wr w4 := ((Below.refl _ wr).drew).trans hb4; have r4 := Lib.hid ((hb4.block w.heap.size (by omega)).trans r3.out); have q4 := Lib.hid ((hb4.block wo.heap.size (by omega)).trans q3.out); have k4 := Lib.hid ((hb4.cell (p := ⟨b2, off2 + k, none⟩) hb2x).trans hckd.out)))
                      clear c0 c1 c2 c3 c4 c5 c6 d0 d1
                      have hz4 := hb4.size
                      have hB4 : Below w2.heap.size w2 w4 := hB3.trans (hb4.mono (by omega))
                      have hBw4 : Below w.heap.size w w4 := hBw3.trans (hb4.mono (by omega))
                      go_wp2_with fail
                      go_ret
                      exact ⟨by rw [hE9.out]; rfl, hBw4⟩
                · have hS0 : Hid (clsErr cs = clsErrFrom cs (cs.length - (i + 1)) (i + 1)) := by
                    unfold Hid; rw [hst2.out]
                    have e0 : supErr ns sups = 0 := by
                      rw [hI.out]
                      have : sups.length - k = 0 := by omega
                      rw [this]; rfl
                    rw [if_pos e0]
                  clear hst2 hI
                  go_wp2_with fail
                  go_roundw
                  case rel => exact ⟨i + 1, by omega, by go_num, hS0, hB2.trans (hB3.mono (by omega))⟩
                  case measure => simp [intOf]; omega
        · have hname' : isNameB (bs nm) = false := by simpa using hname
          have HN := Lib.hid hname'
          have hE30 : Hid (clsErr cs = 30) := by
            unfold Hid; rw [hstep.out]; unfold classErr; rw [if_pos hname']; rfl
          clear hname hname' hstep
          go_wp2_with fail
          refine (NM.out _ hnl2).mono ?_
          rw [HN.out]
          rintro e w1 ⟨rfl, rfl⟩
          go_wp2_with fail
          go_ret
          exact ⟨by rw [hE30.out]; rfl, hBw.trans (hb1.mono (by omega))⟩
      · have hst2 : Hid (clsErr cs = 0) := by
          unfold Hid; rw [hE.out]
          have : cs.length - i = 0 := by omega
          rw [this]; rfl
        clear hE HE
        obtain ⟨c0, c1, c2, c3, c4, c5, c6⟩ := cells7' hrow.out
        go_wp2_with fail
        go_ret
        exact ⟨by rw [hst2.out]; rfl, hBw⟩
end Go.Proofs.YtehnikgdjnmfcaaGreat

/- The reference: Type, constructors. -/
namespace Go.Proofs.YtehnikgdjnmfcaaGreat
open Go.RowKit Go.WideMaps Go.Shelf

theorem ns_as (ns : List Nm) : (ns.map fun x => (x, ([] : List Nm))).map Prod.fst = ns := by
  rw [List.map_map]
  exact List.map_id ns

theorem ixn_first {ns : List Nm} {k : Nat} {s : Nm} (hk : k < ns.length) (hn : inNs (ns.take k) s = false) (he : ns.getD k [] = s) : inNs ns s = true ∧ ixOf ns s = k := by
  have h := ix_first (cs := ns.map fun x => (x, ([] : List Nm))) (k := k) (s := s) (by simpa using hk) (by rw [← List.map_take, ns_as]; exact hn)
    (by rw [List.getD_eq_getElem?_getD, List.getElem?_map, List.getElem?_eq_getElem hk]; rw [List.getD_eq_getElem?_getD, List.getElem?_eq_getElem hk] at he; exact he)
  rw [ns_as] at h; exact h

theorem ixn_take {ns : List Nm} {k : Nat} {s : Nm} (h : inNs (ns.take k) s = true) : inNs ns s = true ∧ ixOf ns s = ixOf (ns.take k) s := by
  have h := ix_take (cs := ns.map fun x => (x, ([] : List Nm))) (k := k) (s := s) (by rw [← List.map_take, ns_as]; exact h)
  rw [← List.map_take, ns_as, ns_as] at h; exact h

/-- type constructors in memory: names and numbers of arguments -/
def SlT (w : World) (v : Value) (ds : List (Nm × Int)) : Prop :=
  ds.length ≤ maxLen ∧ ∃ a cap, v = .slice a ds.length cap ∧ (0 < ds.length → ∃ b off, a = some ⟨b, off, none⟩ ∧ b < w.heap.size ∧
    ∀ k, k < ds.length → w.cell? ⟨b, off + k * 2, none⟩ = some (.string (bs (ds.getD k ([], 0)).1)) ∧ (ds.getD k ([], 0)).1.length ≤ maxLen ∧ w.cell? ⟨b, off + k * 2 + 1, none⟩ = some (.int .i64 (ds.getD k ([], 0)).2))

theorem SlT.below {w w' : World} {B : Nat} {v : Value} {ds : List (Nm × Int)} (h : SlT w v ds) (hb : Below B w w') (hB : w.heap.size ≤ B) : SlT w' v ds := by
  obtain ⟨h1, a, cap, h2, h3⟩ := h
  refine ⟨h1, a, cap, h2, fun h => ?_⟩
  obtain ⟨b, off, h4, h5, h6⟩ := h3 h
  refine ⟨b, off, h4, by have := hb.size; omega, fun k hk => ?_⟩
  obtain ⟨g1, g2, g3⟩ := h6 k hk
  exact ⟨(hb.cell (p := ⟨b, _, none⟩) (by simp; omega)).trans g1, g2, (hb.cell (p := ⟨b, _, none⟩) (by simp; omega)).trans g3⟩

theorem names_take {α : Type} (ds : List (Nm × α)) (d : Nm × α) (k : Nat) (hk : k < ds.length) : (ds.map Prod.fst).take (k + 1) = (ds.map Prod.fst).take k ++ [(ds.getD k d).1] := by
  rw [← List.map_take, ← List.map_take, take_snocD ds d k hk, List.map_append]; rfl

theorem name_at {α : Type} (ds : List (Nm × α)) (d : Nm × α) (k : Nat) (hk : k < ds.length) : (ds.map Prod.fst).getD k [] = (ds.getD k d).1 := by
  rw [List.getD_eq_getElem?_getD, List.getElem?_map, List.getElem?_eq_getElem hk, List.getD_eq_getElem?_getD, List.getElem?_eq_getElem hk]; rfl

set_option maxHeartbeats 4000000 in
theorem type_any (n c t2 t3 t4 t5 t6 : Value) (s : Nm) (ds : List (Nm × Int)) (w : World) (hd : SlT w t2 ds) :
    Calls Tryz.prog 22 #[.agg #[n, c, t2, t3, t4, t5, t6], .string (bs s)] w fun e w' => e = .returned (.int .i64 (clsI (ds.map Prod.fst) s)) ∧ Below w.heap.size w w' := by
  have hb0 := below_alloc w (Obj.cells #[n, c, t2, t3, t4, t5, t6] 29)
  have HD := Lib.hid (hd.below hb0 (Nat.le_refl _))
  obtain ⟨hl, da, dcap, rfl, _⟩ := hd
  unfold maxLen at hl
  have H0 : Hid (inNs ((ds.map Prod.fst).take 0) s = false) := by unfold Hid; simp [inNs]
  have HB := Lib.hid hb0
  clear hb0
  go_enter Tryz.func22, Tryz.ntmps22
  go_wp2_with fail
  go_loop [5] (fun i => ∃ k : Nat, k ≤ ds.length ∧ i = .int .i64 k ∧ Hid (inNs ((ds.map Prod.fst).take k) s = false)) (fun i => ds.length - (intOf i).toNat)
  case atStart => exact ⟨0, by omega, rfl, H0⟩
  case round =>
    obtain ⟨k, hk, rfl, hI⟩ := hrel
    by_cases hlt : k < ds.length
    · obtain ⟨_, da', dcap', hee, hsx⟩ := HD.out
      injection hee with hee _ hee2
      subst hee hee2
      obtain ⟨b, off, rfl, hb, hcl⟩ := hsx (by omega)
      obtain ⟨g0, _⟩ := hcl k hlt
      have htk := Lib.hid (names_take ds ([], 0) k hlt)
      have hfx := Lib.hid (fun he => ixn_first (ns := ds.map Prod.fst) (s := s) (k := k) (by simpa using hlt) hI.out ((name_at ds ([], 0) k hlt).trans he))
      clear hcl hsx H0
      generalize hx : (ds.getD k ([], 0)).1 = x at *
      clear hx
      by_cases he : x = s
      · have hq : ((bs x).toList == (bs s).toList) = true := by rw [bs_eq]; exact decide_eq_true he
        obtain ⟨h1, h2⟩ := hfx.out he
        have HR : Hid (clsI (ds.map Prod.fst) s = ((k : Nat) : Int)) := by unfold Hid; rw [clsI_in h1, h2]
        clear h1 h2 he hfx htk hI
        go_wp2_with fail
        go_ret
        exact ⟨by rw [HR.out]; rfl, HB.out⟩
      · have hq : ((bs x).toList == (bs s).toList) = false := by rw [bs_eq]; exact decide_eq_false he
        have hst : Hid (inNs ((ds.map Prod.fst).take (k + 1)) s = false) := by
          unfold Hid; rw [htk.out, inNs_snoc, hI.out, decide_eq_false (fun e => he e.symm)]; rfl
        clear he hfx htk hI
        go_wp2_with fail
        go_round
        case rel => exact ⟨k + 1, by omega, by go_num, hst⟩
        case measure => simp [intOf]; omega
    · have HR : Hid (clsI (ds.map Prod.fst) s = -1) := by
        unfold Hid
        refine clsI_out ?_
        have := hI.out
        rw [List.take_of_length_le (by simp; omega)] at this; exact this
      clear hI H0
      go_wp2_with fail
      go_ret
      exact ⟨by rw [HR.out]; rfl, HB.out⟩

/-- the error of a type constructor behind some others -/
def declErr (ns : List Nm) (d : Nm × Int) : Int := if isNameB (bs d.1) = false then 30 else if inNs ns d.1 = true then 10 else if d.2 < 0 ∨ 10 < d.2 then 4 else 0
def declErrFrom (ds : List (Nm × Int)) : Nat → Nat → Int
  | 0, _ => 0
  | f + 1, k => if declErr ((ds.map Prod.fst).take k) (ds.getD k ([], 0)) = 0 then declErrFrom ds f (k + 1) else declErr ((ds.map Prod.fst).take k) (ds.getD k ([], 0))
def typesErr (ds : List (Nm × Int)) : Int := if 300 < ds.length then 5 else declErrFrom ds ds.length 0

theorem typeI_own {ds : List (Nm × Int)} {i : Nat} {nm : Nm} (hi : i < ds.length) (he : (ds.getD i ([], 0)).1 = nm) :
    (inNs ((ds.map Prod.fst).take i) nm = false → clsI (ds.map Prod.fst) nm = ((i : Nat) : Int)) ∧
    (inNs ((ds.map Prod.fst).take i) nm = true → (clsI (ds.map Prod.fst) nm != ((i : Nat) : Int)) = true) := by
  constructor
  · intro h
    obtain ⟨h1, h2⟩ := ixn_first (by simpa using hi) h ((name_at ds ([], 0) i hi).trans he)
    rw [clsI_in h1, h2]
  · intro h
    obtain ⟨h1, h2⟩ := ixn_take h
    rw [clsI_in h1, h2, bne_iff_ne]
    have := ixOf_lt h
    rw [List.length_take, List.length_map] at this; omega

set_option maxRecDepth 100000 in
set_option maxHeartbeats 8000000 in
theorem constructors_any (n c t2 t3 t4 t5 t6 : Value) (ds : List (Nm × Int)) (w : World) (hd : SlT w t2 ds) :
    Calls Tryz.prog 40 #[.agg #[n, c, t2, t3, t4, t5, t6]] w fun e w' => e = .returned (.int .i64 (typesErr ds)) ∧ Below w.heap.size w w' := by
  have hb0 := below_alloc w (Obj.cells #[n, c, t2, t3, t4, t5, t6] 29)
  have HD := Lib.hid hd
  have HR := Lib.hid (heap_alloc_new w (Obj.cells #[n, c, t2, t3, t4, t5, t6] 29))
  have hz0 : w.heap.size < (w.alloc (Obj.cells #[n, c, t2, t3, t4, t5, t6] 29)).heap.size := by simp
  obtain ⟨hl, da, dcap, rfl, _⟩ := hd
  unfold maxLen at hl
  by_cases h300 : 300 < ds.length
  · have hd3 : decide (300 < ((ds.length : Nat) : Int)) = true := by simp; omega
    have HE : Hid (typesErr ds = 5) := by unfold Hid typesErr; rw [if_pos h300]
    go_enter Tryz.func40, Tryz.ntmps40
    go_wp2_with fail
    go_ret
    exact ⟨by rw [HE.out]; rfl, hb0⟩
  · have hd3 : decide (300 < ((ds.length : Nat) : Int)) = false := by simp; omega
    have HE : Hid (typesErr ds = declErrFrom ds (ds.length - 0) 0) := by unfold Hid typesErr; rw [if_neg h300]; rfl
    have c2 := (cells7' HR.out).2.2.1
    go_enter Tryz.func40, Tryz.ntmps40
    go_wp2_with fail
    generalize (w.alloc (Obj.cells #[n, c, .slice da ds.length dcap, t3, t4, t5, t6] 29)) = W0 at *
    clear c2
    go_loopw [3] (fun i wr => ∃ i' : Nat, i' ≤ ds.length ∧ i = .int .i64 i' ∧ Hid (typesErr ds = declErrFrom ds (ds.length - i') i') ∧ Below W0.heap.size W0 wr) (fun i _ => ds.length - (intOf i).toNat)
    case atStart => exact ⟨0, by omega, rfl, HE, Below.refl _ _⟩
    case round =>
      obtain ⟨i, hi, rfl, hE, hB⟩ := hrel
      have hz := hB.size
      have hBw : Below w.heap.size w wr := hb0.trans (hB.mono (by omega))
      have hrow := Lib.hid ((hB.block w.heap.size hz0).trans HR.out)
      by_cases hlt : i < ds.length
      · obtain ⟨_, da', dcap', hee, hsx⟩ := HD.out
        injection hee with hee _ hee2
        subst hee hee2
        obtain ⟨b, off, rfl, hb, hcl⟩ := hsx (by omega)
        obtain ⟨g0w, hnl, g1w⟩ := hcl i hlt
        have g0 := (hBw.cell (p := ⟨b, off + i * 2, none⟩) hb).trans g0w
        have g1 := (hBw.cell (p := ⟨b, off + i * 2 + 1, none⟩) hb).trans g1w
        have hown := Lib.hid (typeI_own (nm := (ds.getD i ([], 0)).1) hlt rfl)
        have hstep : Hid (typesErr ds = if declErr ((ds.map Prod.fst).take i) (ds.getD i ([], 0)) = 0 then declErrFrom ds (ds.length - (i + 1)) (i + 1) else declErr ((ds.map Prod.fst).take i) (ds.getD i ([], 0))) := by
          unfold Hid; rw [hE.out]
          have : ds.length - i = (ds.length - (i + 1)) + 1 := by omega
          rw [this]; rfl
        have G0W := Lib.hid g0w
        have G1W := Lib.hid g1w
        clear hcl hsx hE HE g0w g1w
        generalize hns : (ds.map Prod.fst).take i = ns at *
        generalize hdd : ds.getD i ([], 0) = d at *
        obtain ⟨nm, ar⟩ := d
        dsimp only at hnl g0 g1
        have hown' := hown.out
        dsimp only at hown'
        have HOWN := Lib.hid hown'
        clear hns hdd hown hown'
        obtain ⟨c0, c1, c2, c3, c4, c5, c6⟩ := cells7' hrow.out
        have NM := Lib.hid (rIsName_any (bs nm))
        have hnl2 : (bs nm).size ≤ maxLen := by rw [bs_size]; exact hnl
        by_cases hname : isNameB (bs nm) = true
        · have HN := Lib.hid hname
          have HN1 : Hid (¬ isNameB (bs nm) = false) := by unfold Hid; rw [hname]; decide
          clear hname
          go_wp2_with fail
          refine (NM.out _ hnl2).mono ?_
          rw [HN.out]
          rintro e w1 ⟨rfl, rfl⟩
          have TY := Lib.hid (type_any n c _ t3 t4 t5 t6 nm ds wr.drew (HD.out.below hBw.drew (Nat.le_refl _)))
          have g0d := Lib.hid g0
          go_wp2_with fail
          by_cases hdup : inNs ns nm = true
          · have hne := HOWN.out.2 hdup
            have hE10 : Hid (typesErr ds = 10) := by
              have e : declErr ns (nm, ar) = 10 := by unfold declErr; rw [if_neg HN1.out, if_pos hdup]
              unfold Hid; rw [hstep.out, e]; rfl
            clear hstep hdup HOWN
            generalize clsI (ds.map Prod.fst) nm = j at *
            go_region_held3 (fun w' => w'.cell? ⟨w.heap.size, 0, none⟩ = some n ∧ w'.cell? ⟨w.heap.size, 1, none⟩ = some c ∧ w'.cell? ⟨w.heap.size, 2, none⟩ = some (.slice (some ⟨b, off, none⟩) ds.length dcap) ∧ w'.cell? ⟨w.heap.size, 3, none⟩ = some t3 ∧ w'.cell? ⟨w.heap.size, 4, none⟩ = some t4 ∧ w'.cell? ⟨w.heap.size, 5, none⟩ = some t5 ∧ w'.cell? ⟨w.heap.size, 6, none⟩ = some t6 ∧ w'.cell? ⟨b, off + i * 2, none⟩ = some (.string (bs nm)))
              (first | exact cells7and hrow.out g0d.out | exact cells7and r4.out k4.out)
              ((go_at_call 22; refine TY.out.mono ?_; rintro e w4 ⟨rfl, hb4⟩; have hb4 : Below wr.heap.size wr w4 := ((Below.refl _ wr).drew).trans hb4; have r4 := Lib.hid ((hb4.block w.heap.size (by omega)).trans hrow.out); have k4 := Lib.hid ((hb4.cell (p := ⟨b, off + i * 2, none⟩) (by simp; omega)).trans g0d.out)))
            clear c0 c1 c2 c3 c4 c5 c6
            go_wp2_with fail
            go_ret
            exact ⟨by rw [hE10.out]; rfl, hBw.trans (hb4.mono (by omega))⟩
          · have hdup' : inNs ns nm = false := by simpa using hdup
            have hji := HOWN.out.1 hdup'
            rw [hji] at TY
            have HD1 := Lib.hid hdup
            clear hdup hdup' HOWN hji
            go_region_held3 (fun w' => w'.cell? ⟨w.heap.size, 0, none⟩ = some n ∧ w'.cell? ⟨w.heap.size, 1, none⟩ = some c ∧ w'.cell? ⟨w.heap.size, 2, none⟩ = some (.slice (some ⟨b, off, none⟩) ds.length dcap) ∧ w'.cell? ⟨w.heap.size, 3, none⟩ = some t3 ∧ w'.cell? ⟨w.heap.size, 4, none⟩ = some t4 ∧ w'.cell? ⟨w.heap.size, 5, none⟩ = some t5 ∧ w'.cell? ⟨w.heap.size, 6, none⟩ = some t6 ∧ w'.cell? ⟨b, off + i * 2, none⟩ = some (.string (bs nm)))
              (first | exact cells7and hrow.out g0d.out | exact cells7and r4.out k4.out)
              ((go_at_call 22; refine TY.out.mono ?_; rintro e w4 ⟨rfl, hb4⟩; have hb4 : Below wr.heap.size wr w4 := ((Below.refl _ wr).drew).trans hb4; have r4 := Lib.hid ((hb4.block w.heap.size (by omega)).trans hrow.out); have k4 := Lib.hid ((hb4.cell (p := ⟨b, off + i * 2, none⟩) (by simp; omega)).trans g0d.out)))
            clear c0 c1 c2 c3 c4 c5 c6 g0 g1
            have hz4 := hb4.size
            have g1 := (hb4.cell (p := ⟨b, off + i * 2 + 1, none⟩) (by simp; omega)).trans ((hBw.cell (p := ⟨b, off + i * 2 + 1, none⟩) hb).trans G1W.out)
            obtain ⟨c0, c1, c2, c3, c4, c5, c6⟩ := cells7' r4.out
            by_cases hr : ar < 0 ∨ 10 < ar
            · have hE4 : Hid (typesErr ds = 4) := by
                have e : declErr ns (nm, ar) = 4 := by unfold declErr; rw [if_neg HN1.out, if_neg HD1.out, if_pos hr]
                unfold Hid; rw [hstep.out, e]; rfl
              clear hstep
              by_cases h1 : ar < 0
              · have d1 : decide (ar < 0) = true := by simpa using h1
                clear hr
                go_wp2_with fail
                go_ret
                exact ⟨by rw [hE4.out]; rfl, hBw.trans (hb4.mono (by omega))⟩
              · have d1 : decide (ar < 0) = false := by simpa using h1
                have d2 : decide (10 < ar) = true := by simp; omega
                clear hr h1
                go_wp2_with fail
                go_ret
                exact ⟨by rw [hE4.out]; rfl, hBw.trans (hb4.mono (by omega))⟩
            · have d1 : decide (ar < 0) = false := by simp; omega
              have d2 : decide (10 < ar) = false := by simp; omega
              have hst : Hid (typesErr ds = declErrFrom ds (ds.length - (i + 1)) (i + 1)) := by
                have e : declErr ns (nm, ar) = 0 := by unfold declErr; rw [if_neg HN1.out, if_neg HD1.out, if_neg hr]
                unfold Hid; rw [hstep.out, e]; rfl
              clear hstep hr
              go_wp2_with fail
              go_roundw
              case rel => exact ⟨i + 1, by omega, by go_num, hst, hB.trans (hb4.mono (by omega))⟩
              case measure => simp [intOf]; omega
        · have hname' : isNameB (bs nm) = false := by simpa using hname
          have HN := Lib.hid hname'
          have hE30 : Hid (typesErr ds = 30) := by
            have e : declErr ns (nm, ar) = 30 := by unfold declErr; rw [if_pos hname']
            unfold Hid; rw [hstep.out, e]; rfl
          clear hname hname' hstep
          go_wp2_with fail
          refine (NM.out _ hnl2).mono ?_
          rw [HN.out]
          rintro e w1 ⟨rfl, rfl⟩
          go_wp2_with fail
          go_ret
          exact ⟨by rw [hE30.out]; rfl, hBw⟩
      · have hst2 : Hid (typesErr ds = 0) := by
          unfold Hid; rw [hE.out]
          have : ds.length - i = 0 := by omega
          rw [this]; rfl
        clear hE HE
        obtain ⟨c0, c1, c2, c3, c4, c5, c6⟩ := cells7' hrow.out
        go_wp2_with fail
        go_ret
        exact ⟨by rw [hst2.out]; rfl, hBw⟩
end Go.Proofs.YtehnikgdjnmfcaaGreat
