/- Meet. -/
import Derived.Test.YtehnikgdjnmfcaaB1
import Derived.Deep.RegionHeld3
namespace Go.Proofs.Ytehnikgdjnmfcaa
open Go.RowKit Go.WideMaps Go.Shelf

def meetErr (ns : List Nm) (abv : Nat → List Nat) (ss ts : List Nm) : Int :=
  if normErr ns ss ≠ 0 then normErr ns ss else if normErr ns ts ≠ 0 then normErr ns ts else if 20 < (leastB ns abv (ss ++ ts)).length then 5 else 0

theorem meetErr_zero {ns : List Nm} {abv : Nat → List Nat} {ss ts : List Nm} (h : meetErr ns abv ss ts = 0) : normErr ns ss = 0 ∧ normErr ns ts = 0 ∧ (leastB ns abv (ss ++ ts)).length ≤ 20 := by
  unfold meetErr at h
  by_cases h1 : normErr ns ss = 0
  · rw [if_neg (by simpa using h1)] at h
    by_cases h2 : normErr ns ts = 0
    · rw [if_neg (by simpa using h2)] at h
      by_cases h3 : 20 < (leastB ns abv (ss ++ ts)).length
      · rw [if_pos h3] at h; exact absurd h (by decide)
      · exact ⟨h1, h2, by omega⟩
    · rw [if_pos h2] at h; exact absurd h h2
  · rw [if_pos h1] at h; exact absurd h h1

def MeetPost (w : World) (ns : List Nm) (abv : Nat → List Nat) (ss ts : List Nm) (e : Ending) (w' : World) : Prop :=
  ∃ v', e = .returned (.tuple #[v', .int .i64 (meetErr ns abv ss ts)]) ∧ Below w.heap.size w w' ∧ (meetErr ns abv ss ts = 0 → SlO w' w.heap.size v' (leastB ns abv (ss ++ ts)))

set_option maxRecDepth 100000 in
set_option maxHeartbeats 4000000 in
theorem meet_sig (g u v : Value) (ss ts ns : List Nm) (abv : Nat → List Nat) (w : World) (hg : SigAt w g ns abv) (hs : SlS w u ss) (ht : SlS w v ts) :
    Calls Try.prog 46 #[g, u, v] w (MeetPost w ns abv ss ts) := by
  have HG := Lib.hid hg
  have HS := Lib.hid hs
  have HT := Lib.hid ht
  obtain ⟨_, bm, c1, ga, capa, c3, c4, c5, rfl, _, _⟩ := hg
  obtain ⟨_, sa, scap, rfl, _⟩ := hs
  obtain ⟨_, ta, tcap, rfl, _⟩ := ht
  have hb0 := below_alloc w (Obj.cells #[.map (some bm), c1, .slice ga ns.length capa, c3, c4, c5] 66)
  have N0 := Lib.hid (normal_sig _ _ ss ns abv _ (HG.out.below hb0 (Nat.le_refl _)) (HS.out.below hb0 (Nat.le_refl _)))
  have r0 := Lib.hid (heap_alloc_new w (Obj.cells #[.map (some bm), c1, .slice ga ns.length capa, c3, c4, c5] 66))
  have hz0 : w.heap.size < (w.alloc (Obj.cells #[.map (some bm), c1, .slice ga ns.length capa, c3, c4, c5] 66)).heap.size := by simp
  go_enter Try.func46, Try.ntmps46
  go_wp2_with fail
  refine N0.out.mono ?_
  rintro e w1 ⟨v1, rfl, hb1, hx, hy⟩
  clear hx hy
  have hB1 : Below w.heap.size w w1 := hb0.trans (hb1.mono (by omega))
  have hz1 : w.heap.size < w1.heap.size := by have := hb1.size; omega
  have r1 := Lib.hid ((hb1.block w.heap.size hz0).trans r0.out)
  clear N0 r0 hb1 hb0 hz0
  by_cases h1 : normErr ns ss = 0
  · rw [h1]
    obtain ⟨p0, p1, p2, p3, p4, p5⟩ := cells6 r1.out
    have H1 := Lib.hid h1
    clear h1
    go_wp2_with fail
    refine (normal_sig _ _ ts ns abv w1 (HG.out.below hB1 (Nat.le_refl _)) (HT.out.below hB1 (Nat.le_refl _))).mono ?_
    rintro e w2 ⟨v2, rfl, hb2, hx, hy⟩
    clear hx hy
    have hB2 : Below w.heap.size w w2 := hB1.trans (hb2.mono (Nat.le_of_lt hz1))
    have hz2 : w.heap.size < w2.heap.size := by have := hb2.size; omega
    have r2 := Lib.hid ((hb2.block w.heap.size hz1).trans r1.out)
    clear p0 p1 p2 p3 p4 p5 r1 hb2
    by_cases h2 : normErr ns ts = 0
    · rw [h2]
      obtain ⟨l1, k1⟩ := normErr_zero H1.out
      obtain ⟨l2, k2⟩ := normErr_zero h2
      have H2 := Lib.hid h2
      have HK : Hid ((ss ++ ts).all (inNs ns) = true) := by unfold Hid; rw [List.all_append, k1, k2]; rfl
      clear h2 k1 k2
      obtain ⟨p0, p1, p2, p3, p4, p5⟩ := cells6 r2.out
      go_wp2_with fail
      have hb3 := (below_alloc w2 (Obj.cells #[.slice sa ss.length scap, .slice ta ts.length tcap] 27)).drew
      have rA := Lib.hid ((hb3.block w.heap.size hz2).trans r2.out)
      have hlen : (ss.length + ts.length) * 16 ≤ 140737488355328 := by omega
      have hlen2 : (ss ++ ts).length * 16 ≤ 140737488355328 := by rw [List.length_append]; omega
      have CC := Lib.hid (concat2 w2.heap.size 2 _ _ ss ts _ (show (w2.alloc (Obj.cells #[.slice sa ss.length scap, .slice ta ts.length tcap] 27)).drew.heap[w2.heap.size]? = _ from heap_alloc_new w2 _) ((HS.out.below hB2 (Nat.le_refl _)).below hb3 (Nat.le_refl _)) ((HT.out.below hB2 (Nat.le_refl _)).below hb3 (Nat.le_refl _)) hlen)
      have hBA : Below w.heap.size w (w2.alloc (Obj.cells #[.slice sa ss.length scap, .slice ta ts.length tcap] 27)).drew := hB2.trans (hb3.mono (Nat.le_of_lt hz2))
      have hzA : w.heap.size < (w2.alloc (Obj.cells #[.slice sa ss.length scap, .slice ta ts.length tcap] 27)).drew.heap.size := by have := hb3.size; omega
      generalize hWA : (w2.alloc (Obj.cells #[.slice sa ss.length scap, .slice ta ts.length tcap] 27)).drew = WA at *
      go_region_held3 (fun w' => w'.cell? ⟨w.heap.size, 0, none⟩ = some (.map (some bm)) ∧ w'.cell? ⟨w.heap.size, 1, none⟩ = some c1 ∧ w'.cell? ⟨w.heap.size, 2, none⟩ = some (.slice ga ns.length capa) ∧ w'.cell? ⟨w.heap.size, 3, none⟩ = some c3 ∧ w'.cell? ⟨w.heap.size, 4, none⟩ = some c4 ∧ w'.cell? ⟨w.heap.size, 5, none⟩ = some c5)
        (first | exact cells6 r2.out | exact cells6 rA.out | exact cells6 r4.out | exact cells6 r5.out)
        (first | (go_at_call 65; refine CC.out.mono ?_; rintro e w4 ⟨v4, rfl, ho4, hb4⟩; have r4 := Lib.hid ((hb4.block w.heap.size hzA).trans rA.out); have hB4 := hBA.trans (hb4.mono (Nat.le_of_lt hzA)); have hz4 : w.heap.size < w4.heap.size := Nat.lt_of_lt_of_le hzA hb4.size; have HO4 := Lib.hid ho4.sl; clear ho4 hb4) | (go_at_call 63; refine (least_any _ _ (ss ++ ts) ns abv _ (HG.out.below hB4 (Nat.le_refl _)) HO4.out hlen2 HK.out).mono ?_; rintro e w5 ⟨v5, rfl, ho5, hb5⟩; have r5 := Lib.hid ((hb5.block w.heap.size hz4).trans r4.out)))
      have hB5 := hB4.trans (hb5.mono (Nat.le_of_lt hz4))
      have HO5 := Lib.hid (ho5.base (Nat.le_of_lt hz4))
      obtain ⟨_, _, a5, q5, rfl, _⟩ := ho5
      have hEE : Hid (meetErr ns abv ss ts = if 20 < (leastB ns abv (ss ++ ts)).length then 5 else 0) := by
        unfold Hid meetErr
        rw [if_neg (by simpa using H1.out), if_neg (by simpa using H2.out)]
      clear p0 p1 p2 p3 p4 p5 hWA CC hb5 r4 r5 rA
      generalize hM : leastB ns abv (ss ++ ts) = M at *
      have HM := Lib.hid hM
      clear hM
      by_cases hm : 20 < M.length
      · have hd : decide (20 < ((M.length : Nat) : Int)) = true := by simp; omega
        have hE : Hid (meetErr ns abv ss ts = 5) := by unfold Hid; rw [hEE.out, if_pos hm]
        go_wp2_with fail
        go_ret2
        exact ⟨_, by rw [hE.out]; rfl, hB5, fun h => absurd (hE.out.symm.trans h) (by decide)⟩
      · have hd : decide (20 < ((M.length : Nat) : Int)) = false := by simp; omega
        have hE : Hid (meetErr ns abv ss ts = 0) := by unfold Hid; rw [hEE.out, if_neg hm]
        go_wp2_with fail
        go_ret2
        refine ⟨_, by rw [hE.out]; rfl, hB5, fun _ => ?_⟩
        rw [HM.out]
        exact HO5.out
    · have hd : decide (normErr ns ts = 0) = false := by simpa using h2
      have hE : Hid (meetErr ns abv ss ts = normErr ns ts) := by unfold Hid meetErr; rw [if_neg (by simpa using H1.out), if_pos h2]
      generalize hne : normErr ns ts = ne at *
      have H2 := Lib.hid h2
      go_wp2_with fail
      go_ret2
      exact ⟨_, by rw [hE.out]; rfl, hB2, fun h => absurd (hE.out.symm.trans h) H2.out⟩
  · have hd : decide (normErr ns ss = 0) = false := by simpa using h1
    have hE : Hid (meetErr ns abv ss ts = normErr ns ss) := by unfold Hid meetErr; rw [if_pos h1]
    generalize hne : normErr ns ss = ne at *
    have H1 := Lib.hid h1
    go_wp2_with fail
    go_ret2
    exact ⟨_, by rw [hE.out]; rfl, hB1, fun h => absurd (hE.out.symm.trans h) H1.out⟩
end Go.Proofs.Ytehnikgdjnmfcaa
