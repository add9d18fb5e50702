/- Normal and Meet, with what they return beside an error. -/
import Derived.Test.YtehnikgdjnmfcaaD1
namespace Go.Proofs.Ytehnikgdjnmfcaa
open Go.RowKit Go.WideMaps Go.Shelf

def nErr (cs : List (Nm × List Nm)) (ss : List Nm) : Int := if clsErr cs = 0 then normErr (cs.map Prod.fst) ss else clsErr cs
def mErr (cs : List (Nm × List Nm)) (ab : List (List Nat)) (ss ts : List Nm) : Int := if clsErr cs = 0 then meetErr (cs.map Prod.fst) (fun i => ab.getD i []) ss ts else clsErr cs

/-- what Normal and Meet return: an error, and a sort where it is none -/
def NPost (w : World) (er : Int) (L : List Nm) (e : Ending) (w' : World) : Prop :=
  ∃ v', e = .returned (.tuple #[v', .int .i64 er]) ∧ Below w.heap.size w w' ∧ SlS w' v' (if er = 0 then L else [])

theorem meetErr_known {ns : List Nm} {abv : Nat → List Nat} {ss ts : List Nm} (h : meetErr ns abv ss ts = 0) : ∀ x ∈ ss ++ ts, inNs ns x = true := by
  obtain ⟨h1, h2, _⟩ := meetErr_zero h
  intro x hx
  rcases List.mem_append.1 hx with hx | hx
  · exact List.all_eq_true.1 (normErr_zero h1).2 x hx
  · exact List.all_eq_true.1 (normErr_zero h2).2 x hx

theorem meetErr_eq {cs : List (Nm × List Nm)} {sp ab sp' ab' : List (List Nat)} (hb : Built cs sp ab) (hb' : Built cs sp' ab') {ss ts : List Nm} :
    meetErr (cs.map Prod.fst) (fun i => ab.getD i []) ss ts = meetErr (cs.map Prod.fst) (fun i => ab'.getD i []) ss ts := by
  unfold meetErr
  by_cases h1 : normErr (cs.map Prod.fst) ss = 0
  · have n1 : ¬ (normErr (cs.map Prod.fst) ss ≠ 0) := by simpa using h1
    rw [if_neg n1, if_neg n1]
    by_cases h2 : normErr (cs.map Prod.fst) ts = 0
    · have n2 : ¬ (normErr (cs.map Prod.fst) ts ≠ 0) := by simpa using h2
      rw [if_neg n2, if_neg n2]
      rw [least_eq hb hb' (ss := ss ++ ts) (tt := ss ++ ts) (fun x hx => ?_) (fun _ => Iff.rfl)]
      rcases List.mem_append.1 hx with hx | hx
      · exact List.all_eq_true.1 (normErr_zero h1).2 x hx
      · exact List.all_eq_true.1 (normErr_zero h2).2 x hx
    · rw [if_pos h2, if_pos h2]
  · rw [if_pos h1, if_pos h1]

def MeetPost2 (w : World) (ns : List Nm) (abv : Nat → List Nat) (ss ts : List Nm) (e : Ending) (w' : World) : Prop :=
  ∃ v', e = .returned (.tuple #[v', .int .i64 (meetErr ns abv ss ts)]) ∧ Below w.heap.size w w' ∧ (meetErr ns abv ss ts = 0 → SlO w' w.heap.size v' (leastB ns abv (ss ++ ts))) ∧ (meetErr ns abv ss ts ≠ 0 → v' = .slice none 0 0)

set_option maxRecDepth 100000 in
set_option maxHeartbeats 4000000 in
theorem meet_sig2 (g u v : Value) (ss ts ns : List Nm) (abv : Nat → List Nat) (w : World) (hg : SigAt w g ns abv) (hs : SlS w u ss) (ht : SlS w v ts) :
    Calls Try.prog 46 #[g, u, v] w (MeetPost2 w ns abv ss ts) := by
  have HG := Lib.hid hg
  have HS := Lib.hid hs
  have HT := Lib.hid ht
  obtain ⟨_, bm, c1, ga, capa, c3, c4, c5, rfl, _, _⟩ := hg
  obtain ⟨_, sa, scap, rfl, _⟩ := hs
  obtain ⟨_, ta, tcap, rfl, _⟩ := ht
  have hb0 := below_alloc w (Obj.cells #[.map (some bm), c1, .slice ga ns.length capa, c3, c4, c5] 66)
  have N0 := Lib.hid (normal_sig _ _ ss ns abv _ (HG.out.below hb0 (Nat.le_refl _)) (HS.out.below hb0 (Nat.le_refl _)))
  have r0 := Lib.hid (heap_alloc_new w (Obj.cells #[.map (some bm), c1, .slice ga ns.length capa, c3, c4, c5] 66))
  have hz0 : w.heap.size < (w.alloc (Obj.cells #[.map (some bm), c1, .slice ga ns.length capa, c3, c4, c5] 66)).heap.size := by simp
  go_enter Try.func46, Try.ntmps46
  go_wp2_with fail
  refine N0.out.mono ?_
  rintro e w1 ⟨v1, rfl, hb1, hx, hy⟩
  clear hx hy
  have hB1 : Below w.heap.size w w1 := hb0.trans (hb1.mono (by omega))
  have hz1 : w.heap.size < w1.heap.size := by have := hb1.size; omega
  have r1 := Lib.hid ((hb1.block w.heap.size hz0).trans r0.out)
  clear N0 r0 hb1 hb0 hz0
  by_cases h1 : normErr ns ss = 0
  · rw [h1]
    obtain ⟨p0, p1, p2, p3, p4, p5⟩ := cells6 r1.out
    have H1 := Lib.hid h1
    clear h1
    go_wp2_with fail
    refine (normal_sig _ _ ts ns abv w1 (HG.out.below hB1 (Nat.le_refl _)) (HT.out.below hB1 (Nat.le_refl _))).mono ?_
    rintro e w2 ⟨v2, rfl, hb2, hx, hy⟩
    clear hx hy
    have hB2 : Below w.heap.size w w2 := hB1.trans (hb2.mono (Nat.le_of_lt hz1))
    have hz2 : w.heap.size < w2.heap.size := by have := hb2.size; omega
    have r2 := Lib.hid ((hb2.block w.heap.size hz1).trans r1.out)
    clear p0 p1 p2 p3 p4 p5 r1 hb2
    by_cases h2 : normErr ns ts = 0
    · rw [h2]
      obtain ⟨l1, k1⟩ := normErr_zero H1.out
      obtain ⟨l2, k2⟩ := normErr_zero h2
      have H2 := Lib.hid h2
      have HK : Hid ((ss ++ ts).all (inNs ns) = true) := by unfold Hid; rw [List.all_append, k1, k2]; rfl
      clear h2 k1 k2
      obtain ⟨p0, p1, p2, p3, p4, p5⟩ := cells6 r2.out
      go_wp2_with fail
      have hb3 := (below_alloc w2 (Obj.cells #[.slice sa ss.length scap, .slice ta ts.length tcap] 27)).drew
      have rA := Lib.hid ((hb3.block w.heap.size hz2).trans r2.out)
      have hlen : (ss.length + ts.length) * 16 ≤ 140737488355328 := by omega
      have hlen2 : (ss ++ ts).length * 16 ≤ 140737488355328 := by rw [List.length_append]; omega
      have CC := Lib.hid (concat2 w2.heap.size 2 _ _ ss ts _ (show (w2.alloc (Obj.cells #[.slice sa ss.length scap, .slice ta ts.length tcap] 27)).drew.heap[w2.heap.size]? = _ from heap_alloc_new w2 _) ((HS.out.below hB2 (Nat.le_refl _)).below hb3 (Nat.le_refl _)) ((HT.out.below hB2 (Nat.le_refl _)).below hb3 (Nat.le_refl _)) hlen)
      have hBA : Below w.heap.size w (w2.alloc (Obj.cells #[.slice sa ss.length scap, .slice ta ts.length tcap] 27)).drew := hB2.trans (hb3.mono (Nat.le_of_lt hz2))
      have hzA : w.heap.size < (w2.alloc (Obj.cells #[.slice sa ss.length scap, .slice ta ts.length tcap] 27)).drew.heap.size := by have := hb3.size; omega
      generalize hWA : (w2.alloc (Obj.cells #[.slice sa ss.length scap, .slice ta ts.length tcap] 27)).drew = WA at *
      go_region_held3 (fun w' => w'.cell? ⟨w.heap.size, 0, none⟩ = some (.map (some bm)) ∧ w'.cell? ⟨w.heap.size, 1, none⟩ = some c1 ∧ w'.cell? ⟨w.heap.size, 2, none⟩ = some (.slice ga ns.length capa) ∧ w'.cell? ⟨w.heap.size, 3, none⟩ = some c3 ∧ w'.cell? ⟨w.heap.size, 4, none⟩ = some c4 ∧ w'.cell? ⟨w.heap.size, 5, none⟩ = some c5)
        (first | exact cells6 r2.out | exact cells6 rA.out | exact cells6 r4.out | exact cells6 r5.out)
        (first | (go_at_call 65; refine CC.out.mono ?_; rintro e w4 ⟨v4, rfl, ho4, hb4⟩; have r4 := Lib.hid ((hb4.block w.heap.size hzA).trans rA.out); have hB4 := hBA.trans (hb4.mono (Nat.le_of_lt hzA)); have hz4 : w.heap.size < w4.heap.size := Nat.lt_of_lt_of_le hzA hb4.size; have HO4 := Lib.hid ho4.sl; clear ho4 hb4) | (go_at_call 63; refine (least_any _ _ (ss ++ ts) ns abv _ (HG.out.below hB4 (Nat.le_refl _)) HO4.out hlen2 HK.out).mono ?_; rintro e w5 ⟨v5, rfl, ho5, hb5⟩; have r5 := Lib.hid ((hb5.block w.heap.size hz4).trans r4.out)))
      have hB5 := hB4.trans (hb5.mono (Nat.le_of_lt hz4))
      have HO5 := Lib.hid (ho5.base (Nat.le_of_lt hz4))
      obtain ⟨_, _, a5, q5, rfl, _⟩ := ho5
      have hEE : Hid (meetErr ns abv ss ts = if 20 < (leastB ns abv (ss ++ ts)).length then 5 else 0) := by
        unfold Hid meetErr
        rw [if_neg (by simpa using H1.out), if_neg (by simpa using H2.out)]
      clear p0 p1 p2 p3 p4 p5 hWA CC hb5 r4 r5 rA
      generalize hM : leastB ns abv (ss ++ ts) = M at *
      have HM := Lib.hid hM
      clear hM
      by_cases hm : 20 < M.length
      · have hd : decide (20 < ((M.length : Nat) : Int)) = true := by simp; omega
        have hE : Hid (meetErr ns abv ss ts = 5) := by unfold Hid; rw [hEE.out, if_pos hm]
        go_wp2_with fail
        go_ret2
        exact ⟨_, by rw [hE.out]; rfl, hB5, fun h => absurd (hE.out.symm.trans h) (by decide), fun _ => rfl⟩
      · have hd : decide (20 < ((M.length : Nat) : Int)) = false := by simp; omega
        have hE : Hid (meetErr ns abv ss ts = 0) := by unfold Hid; rw [hEE.out, if_neg hm]
        go_wp2_with fail
        go_ret2
        refine ⟨_, by rw [hE.out]; rfl, hB5, fun _ => ?_, fun h => absurd hE.out h⟩
        rw [HM.out]
        exact HO5.out
    · have hd : decide (normErr ns ts = 0) = false := by simpa using h2
      have hE : Hid (meetErr ns abv ss ts = normErr ns ts) := by unfold Hid meetErr; rw [if_neg (by simpa using H1.out), if_pos h2]
      generalize hne : normErr ns ts = ne at *
      have H2 := Lib.hid h2
      go_wp2_with fail
      go_ret2
      exact ⟨_, by rw [hE.out]; rfl, hB2, fun h => absurd (hE.out.symm.trans h) H2.out, fun _ => rfl⟩
  · have hd : decide (normErr ns ss = 0) = false := by simpa using h1
    have hE : Hid (meetErr ns abv ss ts = normErr ns ss) := by unfold Hid meetErr; rw [if_pos h1]
    generalize hne : normErr ns ss = ne at *
    have H1 := Lib.hid h1
    go_wp2_with fail
    go_ret2
    exact ⟨_, by rw [hE.out]; rfl, hB1, fun h => absurd (hE.out.symm.trans h) H1.out, fun _ => rfl⟩

set_option maxRecDepth 100000 in
set_option maxHeartbeats 4000000 in
theorem normal_p (t v : Value) (cs : List (Nm × List Nm)) (ab0 : List (List Nat)) (ss : List Nm) (w : World) (ht : ThAt w t cs) (hs : SlS w v ss) (hab : clsErr cs = 0 → ∃ sp, Built cs sp ab0) :
    Calls Try.prog 19 #[t, v] w (NPost w (nErr cs ss) (leastB (cs.map Prod.fst) (fun i => ab0.getD i []) ss)) := by
  obtain ⟨n, c, t2, t3, t4, t5, t6, rfl, hc⟩ := ht
  have HC := Lib.hid hc
  have HS := Lib.hid hs
  obtain ⟨_, sa, scap, rfl, _⟩ := hs
  obtain ⟨_, ca, ccap, rfl, _⟩ := hc
  go_enter Try.func19, Try.ntmps19
  go_wp2_with fail
  have hb0 := below_alloc w (Obj.cells #[n, .slice ca cs.length ccap, t2, t3, t4, t5, t6] 29)
  refine (signClasses_any _ cs _ (HC.out.below hb0 (Nat.le_refl _))).mono ?_
  rintro e w1 ⟨mb, a1, n1, k1, a2, n2, k2, rfl, hb1, hsig⟩
  have hB1 : Below w.heap.size w w1 := hb0.trans (hb1.mono (by simp))
  have hz1 := hB1.size
  by_cases h0 : clsErr cs = 0
  · obtain ⟨sp, ab, hbu, hsg⟩ := hsig h0
    have HSG := Lib.hid hsg
    have H0 := Lib.hid h0
    have HBU := Lib.hid hbu
    rw [h0]
    clear hsig h0 hbu
    go_wp2_with fail
    have hb2 := below_alloc w1 (Obj.cells #[.map mb, .slice a1 n1 k1, .slice a2 n2 k2, .slice none 0 0, .map none, .map none] 66)
    refine (normal_sig _ _ ss (cs.map Prod.fst) (fun i => ab.getD i []) _ (HSG.out.below hb2 (Nat.le_refl _)) ((HS.out.below hB1 (Nat.le_refl _)).below hb2 (Nat.le_refl _))).mono ?_
    rintro e w2 ⟨v', rfl, hb3, h4, h5⟩
    have hz2 := hb2.size
    have HE : Hid (NPost w (nErr cs ss) (leastB (cs.map Prod.fst) (fun i => ab0.getD i []) ss) (.returned (.tuple #[v', .int .i64 (normErr (cs.map Prod.fst) ss)])) w2) := by
      have e1 : nErr cs ss = normErr (cs.map Prod.fst) ss := by unfold nErr; rw [if_pos H0.out]
      refine ⟨v', by rw [e1], hB1.trans ((hb2.mono hz1).trans (hb3.mono (by omega))), ?_⟩
      rw [e1]
      by_cases hn : normErr (cs.map Prod.fst) ss = 0
      · rw [if_pos hn]
        obtain ⟨sp0, hb0'⟩ := hab H0.out
        rw [← least_eq HBU.out hb0' (List.all_eq_true.1 (normErr_zero hn).2) (fun _ => Iff.rfl)]
        exact (h4 hn).sl
      · rw [if_neg hn, h5 hn]; exact slS0
    clear h4 h5
    generalize normErr (cs.map Prod.fst) ss = r at *
    go_wp2_with fail
    go_ret2
    exact HE.out
  · have hd : decide (clsErr cs = 0) = false := by simpa using h0
    have H0 := Lib.hid h0
    have HER : Hid (nErr cs ss = clsErr cs) := by unfold Hid nErr; rw [if_neg h0]
    generalize hce : clsErr cs = ce at *
    clear hsig
    go_wp2_with fail
    go_ret2
    refine ⟨_, by rw [HER.out]; rfl, hB1.trans ((below_alloc w1 _).mono hz1), ?_⟩
    rw [HER.out, if_neg H0.out]
    exact slS0

set_option maxRecDepth 100000 in
set_option maxHeartbeats 4000000 in
theorem meet_p (t u v : Value) (cs : List (Nm × List Nm)) (ab0 : List (List Nat)) (ss ts : List Nm) (w : World) (ht : ThAt w t cs) (hs : SlS w u ss) (hs2 : SlS w v ts) (hab : clsErr cs = 0 → ∃ sp, Built cs sp ab0) :
    Calls Try.prog 21 #[t, u, v] w (NPost w (mErr cs ab0 ss ts) (leastB (cs.map Prod.fst) (fun i => ab0.getD i []) (ss ++ ts))) := by
  obtain ⟨n, c, t2, t3, t4, t5, t6, rfl, hc⟩ := ht
  have HC := Lib.hid hc
  have HS := Lib.hid hs
  have HT := Lib.hid hs2
  obtain ⟨_, sa, scap, rfl, _⟩ := hs
  obtain ⟨_, ta, tcap, rfl, _⟩ := hs2
  obtain ⟨_, ca, ccap, rfl, _⟩ := hc
  go_enter Try.func21, Try.ntmps21
  go_wp2_with fail
  have hb0 := below_alloc w (Obj.cells #[n, .slice ca cs.length ccap, t2, t3, t4, t5, t6] 29)
  refine (signClasses_any _ cs _ (HC.out.below hb0 (Nat.le_refl _))).mono ?_
  rintro e w1 ⟨mb, a1, n1, k1, a2, n2, k2, rfl, hb1, hsig⟩
  have hB1 : Below w.heap.size w w1 := hb0.trans (hb1.mono (by simp))
  have hz1 := hB1.size
  by_cases h0 : clsErr cs = 0
  · obtain ⟨sp, ab, hbu, hsg⟩ := hsig h0
    have HSG := Lib.hid hsg
    have H0 := Lib.hid h0
    have HBU := Lib.hid hbu
    rw [h0]
    clear hsig h0 hbu
    go_wp2_with fail
    have hb2 := below_alloc w1 (Obj.cells #[.map mb, .slice a1 n1 k1, .slice a2 n2 k2, .slice none 0 0, .map none, .map none] 66)
    refine (meet_sig2 _ _ _ ss ts (cs.map Prod.fst) (fun i => ab.getD i []) _ (HSG.out.below hb2 (Nat.le_refl _)) ((HS.out.below hB1 (Nat.le_refl _)).below hb2 (Nat.le_refl _)) ((HT.out.below hB1 (Nat.le_refl _)).below hb2 (Nat.le_refl _))).mono ?_
    rintro e w2 ⟨v', rfl, hb3, h4, h5⟩
    have hz2 := hb2.size
    have HE : Hid (NPost w (mErr cs ab0 ss ts) (leastB (cs.map Prod.fst) (fun i => ab0.getD i []) (ss ++ ts)) (.returned (.tuple #[v', .int .i64 (meetErr (cs.map Prod.fst) (fun i => ab.getD i []) ss ts)])) w2) := by
      obtain ⟨sp0, hb0'⟩ := hab H0.out
      have e1 : mErr cs ab0 ss ts = meetErr (cs.map Prod.fst) (fun i => ab.getD i []) ss ts := by unfold mErr; rw [if_pos H0.out]; exact meetErr_eq hb0' HBU.out
      refine ⟨v', by rw [e1], hB1.trans ((hb2.mono hz1).trans (hb3.mono (by omega))), ?_⟩
      rw [e1]
      by_cases hn : meetErr (cs.map Prod.fst) (fun i => ab.getD i []) ss ts = 0
      · rw [if_pos hn]
        rw [← least_eq HBU.out hb0' (meetErr_known hn) (fun _ => Iff.rfl)]
        exact (h4 hn).sl
      · rw [if_neg hn, h5 hn]; exact slS0
    clear h4 h5
    generalize meetErr (cs.map Prod.fst) (fun i => ab.getD i []) ss ts = r at *
    go_wp2_with fail
    go_ret2
    exact HE.out
  · have hd : decide (clsErr cs = 0) = false := by simpa using h0
    have H0 := Lib.hid h0
    have HER : Hid (mErr cs ab0 ss ts = clsErr cs) := by unfold Hid mErr; rw [if_neg h0]
    generalize hce : clsErr cs = ce at *
    clear hsig
    go_wp2_with fail
    go_ret2
    refine ⟨_, by rw [HER.out]; rfl, hB1.trans ((below_alloc w1 _).mono hz1), ?_⟩
    rw [HER.out, if_neg H0.out]
    exact slS0
end Go.Proofs.Ytehnikgdjnmfcaa
