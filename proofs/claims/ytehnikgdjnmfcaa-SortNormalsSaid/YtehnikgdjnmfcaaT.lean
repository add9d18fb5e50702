/- Normal, Less. -/
import Derived.Test.YtehnikgdjnmfcaaR
namespace Go.Proofs.Ytehnikgdjnmfcaa
open Go.RowKit Go.WideMaps Go.Shelf

def normErr (ns ss : List Nm) : Int := if 20 < ss.length then 5 else if ss.all (inNs ns) = true then 0 else 9

def NormPost (w : World) (ns : List Nm) (abv : Nat → List Nat) (ss : List Nm) (e : Ending) (w' : World) : Prop :=
  ∃ v', e = .returned (.tuple #[v', .int .i64 (normErr ns ss)]) ∧ Below w.heap.size w w' ∧ (normErr ns ss = 0 → SlO w' w.heap.size v' (leastB ns abv ss)) ∧ (normErr ns ss ≠ 0 → v' = .slice none 0 0)

theorem SlO.base {w : World} {B C : Nat} {v : Value} {ss : List Nm} (h : SlO w B v ss) (hC : C ≤ B) : SlO w C v ss := by
  obtain ⟨h1, h2, a, cap, e, h3⟩ := h
  exact ⟨h1, h2, a, cap, e, fun hn => let ⟨b, e1, h4, h5⟩ := h3 hn; ⟨b, e1, by omega, h5⟩⟩

theorem cells6 {w : World} {k : Nat} {a0 a1 a2 a3 a4 a5 : Value} {t : TypeId} {fr : Nat × Nat} (h : w.heap[k]? = some (.cells #[a0, a1, a2, a3, a4, a5] t fr)) :
    w.cell? ⟨k, 0, none⟩ = some a0 ∧ w.cell? ⟨k, 1, none⟩ = some a1 ∧ w.cell? ⟨k, 2, none⟩ = some a2 ∧ w.cell? ⟨k, 3, none⟩ = some a3 ∧ w.cell? ⟨k, 4, none⟩ = some a4 ∧ w.cell? ⟨k, 5, none⟩ = some a5 :=
  ⟨by rw [cell_of_row w _ 0 _ _ _ h]; rfl, by rw [cell_of_row w _ 1 _ _ _ h]; rfl, by rw [cell_of_row w _ 2 _ _ _ h]; rfl, by rw [cell_of_row w _ 3 _ _ _ h]; rfl, by rw [cell_of_row w _ 4 _ _ _ h]; rfl, by rw [cell_of_row w _ 5 _ _ _ h]; rfl⟩

set_option maxRecDepth 100000 in
set_option maxHeartbeats 4000000 in
theorem normal_sig (g v : Value) (ss ns : List Nm) (abv : Nat → List Nat) (w : World) (hg : SigAt w g ns abv) (hs : SlS w v ss) :
    Calls Try.prog 43 #[g, v] w (NormPost w ns abv ss) := by
  have HG := Lib.hid hg
  have HS := Lib.hid hs
  obtain ⟨_, bm, c1, ga, capa, c3, c4, c5, rfl, hm, _⟩ := hg
  obtain ⟨_, sa, scap, rfl, _⟩ := hs
  have HM := Lib.hid hm
  clear hm
  by_cases h20 : 20 < ss.length
  · have hE : Hid (normErr ns ss = 5) := by unfold Hid normErr; rw [if_pos h20]
    have hd : decide (20 < ((ss.length : Nat) : Int)) = true := by simp; omega
    go_enter Try.func43, Try.ntmps43
    go_wp2_with fail
    go_ret2
    refine ⟨_, by rw [hE.out]; rfl, below_alloc _ _, fun h => absurd (hE.out.symm.trans h) (by decide), fun _ => rfl⟩
  · have hd : decide (20 < ((ss.length : Nat) : Int)) = false := by simp; omega
    have C := Lib.hid (known_any bm c1 (.slice ga ns.length capa) c3 c4 c5 _ ss ns _ (HM.out.alloc (Obj.cells #[.map (some bm), c1, .slice ga ns.length capa, c3, c4, c5] 66)) (HS.out.below (below_alloc _ _) (Nat.le_refl _)))
    by_cases hk : ss.all (inNs ns) = true
    · have hE : Hid (normErr ns ss = 0) := by unfold Hid normErr; rw [if_neg h20, if_pos hk]
      rw [hk] at C
      have HK := Lib.hid hk
      clear hk
      go_enter Try.func43, Try.ntmps43
      go_wp2_with (go_at_call 59; refine C.out.mono ?_; rintro e w1 ⟨rfl, hb1⟩; obtain ⟨p0, p1, p2, p3, p4, p5⟩ := cells6 ((hb1.block w.heap.size (by simp)).trans (heap_alloc_new w _)); have hB1 := (below_alloc w (Obj.cells #[.map (some bm), c1, .slice ga ns.length capa, c3, c4, c5] 66)).trans (hb1.mono (by simp)))
      refine (least_any _ _ ss ns abv w1 (HG.out.below hB1 (Nat.le_refl _)) (HS.out.below hB1 (Nat.le_refl _)) (by omega) HK.out).mono ?_
      rintro e w2 ⟨v', rfl, ho, hb2⟩
      go_wp2_with fail
      go_ret2
      have hz := hB1.size
      exact ⟨v', by rw [hE.out]; rfl, hB1.trans (hb2.mono hz), fun _ => ho.base hz, fun h => absurd hE.out h⟩
    · have hk' : ss.all (inNs ns) = false := by simpa using hk
      have hE : Hid (normErr ns ss = 9) := by unfold Hid normErr; rw [if_neg h20, if_neg hk]
      rw [hk'] at C
      clear hk hk'
      go_enter Try.func43, Try.ntmps43
      go_wp2_with (go_at_call 59; refine C.out.mono ?_; rintro e w1 ⟨rfl, hb1⟩)
      go_ret2
      exact ⟨_, by rw [hE.out]; rfl, (below_alloc w _).trans (hb1.mono (by simp)), fun h => absurd (hE.out.symm.trans h) (by decide), fun _ => rfl⟩

/-- a theory in memory: its classes -/
def ThAt (w : World) (t : Value) (cs : List (Nm × List Nm)) : Prop :=
  ∃ n c t2 t3 t4 t5 t6, t = .agg #[n, c, t2, t3, t4, t5, t6] ∧ SlC w c cs

theorem ThAt.below {w w' : World} {B : Nat} {t : Value} {cs : List (Nm × List Nm)} (h : ThAt w t cs) (hb : Below B w w') (hB : w.heap.size ≤ B) : ThAt w' t cs := by
  obtain ⟨n, c, t2, t3, t4, t5, t6, e, h⟩ := h
  exact ⟨n, c, t2, t3, t4, t5, t6, e, h.below hb hB⟩

/-- what Normal returns -/
def NormalPost (w : World) (cs : List (Nm × List Nm)) (ss : List Nm) (e : Ending) (w' : World) : Prop :=
  ∃ v' er, e = .returned (.tuple #[v', .int .i64 er]) ∧ Below w.heap.size w w' ∧ (clsErr cs ≠ 0 → er = clsErr cs) ∧
    (clsErr cs = 0 → ∃ sp ab, Built cs sp ab ∧ er = normErr (cs.map Prod.fst) ss ∧ (er = 0 → SlO w' w.heap.size v' (leastB (cs.map Prod.fst) (fun i => ab.getD i []) ss)))

set_option maxRecDepth 100000 in
set_option maxHeartbeats 4000000 in
theorem normal_any (t v : Value) (cs : List (Nm × List Nm)) (ss : List Nm) (w : World) (ht : ThAt w t cs) (hs : SlS w v ss) :
    Calls Try.prog 19 #[t, v] w (NormalPost w cs ss) := by
  obtain ⟨n, c, t2, t3, t4, t5, t6, rfl, hc⟩ := ht
  have HC := Lib.hid hc
  have HS := Lib.hid hs
  obtain ⟨_, sa, scap, rfl, _⟩ := hs
  obtain ⟨_, ca, ccap, rfl, _⟩ := hc
  go_enter Try.func19, Try.ntmps19
  go_wp2_with fail
  have hb0 := below_alloc w (Obj.cells #[n, .slice ca cs.length ccap, t2, t3, t4, t5, t6] 29)
  refine (signClasses_any _ cs _ (HC.out.below hb0 (Nat.le_refl _))).mono ?_
  rintro e w1 ⟨mb, a1, n1, k1, a2, n2, k2, rfl, hb1, hsig⟩
  have hB1 : Below w.heap.size w w1 := hb0.trans (hb1.mono (by simp))
  have hz1 := hB1.size
  by_cases h0 : clsErr cs = 0
  · obtain ⟨sp, ab, hbu, hsg⟩ := hsig h0
    have HSG := Lib.hid hsg
    have H0 := Lib.hid h0
    have HBU := Lib.hid hbu
    rw [h0]
    clear hsig h0 hbu
    go_wp2_with fail
    have hb2 := below_alloc w1 (Obj.cells #[.map mb, .slice a1 n1 k1, .slice a2 n2 k2, .slice none 0 0, .map none, .map none] 66)
    refine (normal_sig _ _ ss (cs.map Prod.fst) (fun i => ab.getD i []) _ (HSG.out.below hb2 (Nat.le_refl _)) ((HS.out.below hB1 (Nat.le_refl _)).below hb2 (Nat.le_refl _))).mono ?_
    rintro e w2 ⟨v', rfl, hb3, h4, h5⟩
    go_wp2_with fail
    go_ret2
    have hz2 := hb2.size
    refine ⟨v', normErr (cs.map Prod.fst) ss, rfl, hB1.trans ((hb2.mono hz1).trans (hb3.mono (by omega))), fun h => absurd H0.out h, fun _ => ⟨sp, ab, HBU.out, rfl, fun h => (h4 h).base (by omega)⟩⟩
  · have hd : decide (clsErr cs = 0) = false := by simpa using h0
    have H0 := Lib.hid h0
    generalize hce : clsErr cs = ce at *
    clear hsig
    go_wp2_with fail
    go_ret2
    refine ⟨_, ce, rfl, hB1.trans ((below_alloc w1 _).mono hz1), fun _ => hce.symm, fun h => absurd (hce.symm.trans h) H0.out⟩

/-- what Less returns -/
def LessPost (w : World) (cs : List (Nm × List Nm)) (ss ts : List Nm) (e : Ending) (w' : World) : Prop :=
  ∃ r, e = .returned (.bool r) ∧ Below w.heap.size w w' ∧ (clsErr cs ≠ 0 → r = false) ∧
    (clsErr cs = 0 → ∃ sp ab, Built cs sp ab ∧ r = lessB (cs.map Prod.fst) (fun i => ab.getD i []) ss ts)

set_option maxRecDepth 100000 in
set_option maxHeartbeats 4000000 in
theorem lessT_any (t u v : Value) (cs : List (Nm × List Nm)) (ss ts : List Nm) (w : World) (ht : ThAt w t cs) (hs : SlS w u ss) (hs2 : SlS w v ts) :
    Calls Try.prog 15 #[t, u, v] w (LessPost w cs ss ts) := by
  obtain ⟨n, c, t2, t3, t4, t5, t6, rfl, hc⟩ := ht
  have HC := Lib.hid hc
  have HS := Lib.hid hs
  have HT := Lib.hid hs2
  obtain ⟨_, sa, scap, rfl, _⟩ := hs
  obtain ⟨_, ta, tcap, rfl, _⟩ := hs2
  obtain ⟨_, ca, ccap, rfl, _⟩ := hc
  go_enter Try.func15, Try.ntmps15
  go_wp2_with fail
  have hb0 := below_alloc w (Obj.cells #[n, .slice ca cs.length ccap, t2, t3, t4, t5, t6] 29)
  refine (signClasses_any _ cs _ (HC.out.below hb0 (Nat.le_refl _))).mono ?_
  rintro e w1 ⟨mb, a1, n1, k1, a2, n2, k2, rfl, hb1, hsig⟩
  have hB1 : Below w.heap.size w w1 := hb0.trans (hb1.mono (by simp))
  have hz1 := hB1.size
  by_cases h0 : clsErr cs = 0
  · obtain ⟨sp, ab, hbu, hsg⟩ := hsig h0
    have HSG := Lib.hid hsg
    have H0 := Lib.hid h0
    have HBU := Lib.hid hbu
    rw [h0]
    clear hsig h0 hbu
    go_wp2_with fail
    have hb2 := below_alloc w1 (Obj.cells #[.map mb, .slice a1 n1 k1, .slice a2 n2 k2, .slice none 0 0, .map none, .map none] 66)
    refine (less_any _ _ _ ss ts (cs.map Prod.fst) (fun i => ab.getD i []) _ (HSG.out.below hb2 (Nat.le_refl _)) ((HS.out.below hB1 (Nat.le_refl _)).below hb2 (Nat.le_refl _)) ((HT.out.below hB1 (Nat.le_refl _)).below hb2 (Nat.le_refl _))).mono ?_
    rintro e w2 ⟨rfl, hb3⟩
    have hz2 := hb2.size
    have HE : Hid (LessPost w cs ss ts (.returned (.bool (lessB (cs.map Prod.fst) (fun i => ab.getD i []) ss ts))) w2) :=
      ⟨_, rfl, hB1.trans ((hb2.mono hz1).trans (hb3.mono (by omega))), fun h => absurd H0.out h, fun _ => ⟨sp, ab, HBU.out, rfl⟩⟩
    generalize lessB (cs.map Prod.fst) (fun i => ab.getD i []) ss ts = r at *
    go_wp2_with fail
    go_ret
    exact HE.out
  · have hd : decide (clsErr cs = 0) = false := by simpa using h0
    have H0 := Lib.hid h0
    generalize hce : clsErr cs = ce at *
    clear hsig
    go_wp2_with fail
    go_ret
    refine ⟨_, rfl, hB1.trans ((below_alloc w1 _).mono hz1), fun _ => rfl, fun h => absurd (hce.symm.trans h) H0.out⟩
end Go.Proofs.Ytehnikgdjnmfcaa
