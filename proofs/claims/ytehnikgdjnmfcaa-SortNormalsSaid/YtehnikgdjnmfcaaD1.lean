/- The law of the order of sorts. -/
import Derived.Test.YtehnikgdjnmfcaaC1
namespace Go.Proofs.Ytehnikgdjnmfcaa
open Go.RowKit Go.WideMaps Go.Shelf

/-- what Meet returns -/
def MeetTPost (w : World) (cs : List (Nm × List Nm)) (ss ts : List Nm) (e : Ending) (w' : World) : Prop :=
  ∃ v' er, e = .returned (.tuple #[v', .int .i64 er]) ∧ Below w.heap.size w w' ∧ (clsErr cs ≠ 0 → er = clsErr cs) ∧
    (clsErr cs = 0 → ∃ sp ab, Built cs sp ab ∧ er = meetErr (cs.map Prod.fst) (fun i => ab.getD i []) ss ts ∧ (er = 0 → SlO w' w.heap.size v' (leastB (cs.map Prod.fst) (fun i => ab.getD i []) (ss ++ ts))))

set_option maxRecDepth 100000 in
set_option maxHeartbeats 4000000 in
theorem meetT_any (t u v : Value) (cs : List (Nm × List Nm)) (ss ts : List Nm) (w : World) (ht : ThAt w t cs) (hs : SlS w u ss) (hs2 : SlS w v ts) :
    Calls Try.prog 21 #[t, u, v] w (MeetTPost w cs ss ts) := by
  obtain ⟨n, c, t2, t3, t4, t5, t6, rfl, hc⟩ := ht
  have HC := Lib.hid hc
  have HS := Lib.hid hs
  have HT := Lib.hid hs2
  obtain ⟨_, sa, scap, rfl, _⟩ := hs
  obtain ⟨_, ta, tcap, rfl, _⟩ := hs2
  obtain ⟨_, ca, ccap, rfl, _⟩ := hc
  go_enter Try.func21, Try.ntmps21
  go_wp2_with fail
  have hb0 := below_alloc w (Obj.cells #[n, .slice ca cs.length ccap, t2, t3, t4, t5, t6] 29)
  refine (signClasses_any _ cs _ (HC.out.below hb0 (Nat.le_refl _))).mono ?_
  rintro e w1 ⟨mb, a1, n1, k1, a2, n2, k2, rfl, hb1, hsig⟩
  have hB1 : Below w.heap.size w w1 := hb0.trans (hb1.mono (by simp))
  have hz1 := hB1.size
  by_cases h0 : clsErr cs = 0
  · obtain ⟨sp, ab, hbu, hsg⟩ := hsig h0
    have HSG := Lib.hid hsg
    have H0 := Lib.hid h0
    have HBU := Lib.hid hbu
    rw [h0]
    clear hsig h0 hbu
    go_wp2_with fail
    have hb2 := below_alloc w1 (Obj.cells #[.map mb, .slice a1 n1 k1, .slice a2 n2 k2, .slice none 0 0, .map none, .map none] 66)
    refine (meet_sig _ _ _ ss ts (cs.map Prod.fst) (fun i => ab.getD i []) _ (HSG.out.below hb2 (Nat.le_refl _)) ((HS.out.below hB1 (Nat.le_refl _)).below hb2 (Nat.le_refl _)) ((HT.out.below hB1 (Nat.le_refl _)).below hb2 (Nat.le_refl _))).mono ?_
    rintro e w2 ⟨v', rfl, hb3, h4⟩
    have hz2 := hb2.size
    have HE : Hid (MeetTPost w cs ss ts (.returned (.tuple #[v', .int .i64 (meetErr (cs.map Prod.fst) (fun i => ab.getD i []) ss ts)])) w2) :=
      ⟨v', _, rfl, hB1.trans ((hb2.mono hz1).trans (hb3.mono (by omega))), fun h => absurd H0.out h, fun _ => ⟨sp, ab, HBU.out, rfl, fun h => (h4 h).base (by omega)⟩⟩
    clear h4
    generalize meetErr (cs.map Prod.fst) (fun i => ab.getD i []) ss ts = r at *
    go_wp2_with fail
    go_ret2
    exact HE.out
  · have hd : decide (clsErr cs = 0) = false := by simpa using h0
    have H0 := Lib.hid h0
    generalize hce : clsErr cs = ce at *
    clear hsig
    go_wp2_with fail
    go_ret2
    refine ⟨_, ce, rfl, hB1.trans ((below_alloc w1 _).mono hz1), fun _ => hce.symm, fun h => absurd (hce.symm.trans h) H0.out⟩

/-- Less, where the classes are right -/
theorem lessT_fix {t u v : Value} {cs : List (Nm × List Nm)} {sp ab : List (List Nat)} {ss ts : List Nm} {w : World} (hb : Built cs sp ab) (h0 : clsErr cs = 0) (ht : ThAt w t cs) (hs : SlS w u ss) (hs2 : SlS w v ts)
    (k1 : ∀ x ∈ ss, inNs (cs.map Prod.fst) x = true) (k2 : ∀ x ∈ ts, inNs (cs.map Prod.fst) x = true) {r : Bool} (hr : lessB (cs.map Prod.fst) (fun i => ab.getD i []) ss ts = r) :
    Calls Try.prog 15 #[t, u, v] w fun e w' => e = .returned (.bool r) ∧ Below w.heap.size w w' := by
  refine (lessT_any t u v cs ss ts w ht hs hs2).mono ?_
  rintro e w' ⟨r', rfl, hbl, _, h⟩
  obtain ⟨sp', ab', hb', rfl⟩ := h h0
  refine ⟨?_, hbl⟩
  rw [lessB_eq hb hb' k1 k2, hr]

theorem slSS3 {w : World} {k c : Nat} {p1 p2 p3 : Option Addr} {n1 c1 n2 c2 n3 c3 : Nat} {fr : Nat × Nat} (h : w.heap[k]? = some (.cells #[.slice p1 n1 c1, .slice p2 n2 c2, .slice p3 n3 c3] 27 fr)) : SlSS w (.slice (some ⟨k, 0, none⟩) 3 c) := by
  refine ⟨_, 3, c, rfl, by decide, fun _ => ⟨k, 0, rfl, (Array.getElem?_eq_some_iff.1 h).1, fun j hj => ?_⟩⟩
  rw [cell_of_row w _ _ _ _ _ h]
  have : j = 0 ∨ j = 1 ∨ j = 2 := by omega
  rcases this with rfl | rfl | rfl
  · exact ⟨_, _, _, rfl⟩
  · exact ⟨_, _, _, rfl⟩
  · exact ⟨_, _, _, rfl⟩
end Go.Proofs.Ytehnikgdjnmfcaa
