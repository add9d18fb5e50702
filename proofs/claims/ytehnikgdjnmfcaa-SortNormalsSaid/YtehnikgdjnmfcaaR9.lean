/- The reference: Normal. -/
import Derived.Test.YtehnikgdjnmfcaaR8
namespace Go.Proofs.Ytehnikgdjnmfcaa
open Go.RowKit Go.WideMaps Go.Shelf Go.Sort Go.Lib

theorem slSs1 {w : World} {k c cap : Nat} {p : Option Addr} {ss : List Nm} {fr : Nat × Nat} (h : w.heap[k]? = some (.cells #[.slice p ss.length c] 27 fr)) (hs : SlS w (.slice p ss.length c) ss) : SlSs w (.slice (some ⟨k, 0, none⟩) 1 cap) [ss] := by
  refine ⟨by unfold maxLen; simp, _, cap, rfl, fun _ => ⟨k, 0, rfl, (Array.getElem?_eq_some_iff.1 h).1, fun j hj => ?_⟩⟩
  have : j = 0 := by simp at hj; omega
  subst this
  exact ⟨p, c, by rw [cell_of_row w _ _ _ _ _ h]; rfl, hs⟩

theorem slSs2 {w : World} {k c c2 cap : Nat} {p p2 : Option Addr} {ss ts : List Nm} {fr : Nat × Nat} (h : w.heap[k]? = some (.cells #[.slice p ss.length c, .slice p2 ts.length c2] 27 fr)) (hs : SlS w (.slice p ss.length c) ss) (ht : SlS w (.slice p2 ts.length c2) ts) : SlSs w (.slice (some ⟨k, 0, none⟩) 2 cap) [ss, ts] := by
  refine ⟨by unfold maxLen; simp, _, cap, rfl, fun _ => ⟨k, 0, rfl, (Array.getElem?_eq_some_iff.1 h).1, fun j hj => ?_⟩⟩
  have : j = 0 ∨ j = 1 := by simp at hj; omega
  rcases this with rfl | rfl
  · exact ⟨p, c, by rw [cell_of_row w _ _ _ _ _ h]; rfl, hs⟩
  · exact ⟨p2, c2, by rw [cell_of_row w _ _ _ _ _ h]; rfl, ht⟩

theorem nErr_sorts (cs : List (Nm × List Nm)) (ss : List Nm) : sortsErr cs [ss] = nErr cs ss := by
  unfold sortsErr nErr firstErr
  by_cases h : normErr (cs.map Prod.fst) ss = 0
  · rw [if_pos h, h]; rfl
  · rw [if_neg h]

theorem nErr_zero {cs : List (Nm × List Nm)} {ss : List Nm} (h : nErr cs ss = 0) : clsErr cs = 0 ∧ normErr (cs.map Prod.fst) ss = 0 := by
  unfold nErr at h
  by_cases h0 : clsErr cs = 0
  · rw [if_pos h0] at h; exact ⟨h0, h⟩
  · rw [if_neg h0] at h; exact absurd h h0

set_option maxRecDepth 100000 in
set_option maxHeartbeats 8000000 in
theorem normal_r (n c t2 t3 t4 t5 t6 v : Value) (cs : List (Nm × List Nm)) (ab0 : List (List Nat)) (ss : List Nm) (w : World) (hc : SlC w c cs) (hs : SlS w v ss) (hab : clsErr cs = 0 → ∃ sp, Built cs sp ab0) :
    Calls Try.prog 20 #[.agg #[n, c, t2, t3, t4, t5, t6], v] w (NPost w (nErr cs ss) (leastB (cs.map Prod.fst) (fun i => ab0.getD i []) ss)) := by
  have hb0 := below_alloc w (Obj.cells #[n, c, t2, t3, t4, t5, t6] 29)
  have HC := Lib.hid hc
  have HS := Lib.hid hs
  have HAB := Lib.hid hab
  have r0 := Lib.hid (heap_alloc_new w (Obj.cells #[n, c, t2, t3, t4, t5, t6] 29))
  have hz0 : w.heap.size < (w.alloc (Obj.cells #[n, c, t2, t3, t4, t5, t6] 29)).heap.size := by simp
  obtain ⟨_, ca, ccap, rfl, _⟩ := hc
  obtain ⟨_, sa, scap, rfl, _⟩ := hs
  clear hab
  go_enter Try.func20, Try.ntmps20
  go_wp2_with fail
  have hb1 := below_alloc (w.alloc (Obj.cells #[n, .slice ca cs.length ccap, t2, t3, t4, t5, t6] 29)) (Obj.cells #[.slice sa ss.length scap] 27)
  have q1 := heap_alloc_new (w.alloc (Obj.cells #[n, .slice ca cs.length ccap, t2, t3, t4, t5, t6] 29)) (Obj.cells #[.slice sa ss.length scap] 27)
  have hB1 := hb0.trans (hb1.mono (Nat.le_of_lt hz0))
  have hs1 := slSs1 (cap := 1) q1 (HS.out.below hB1 (Nat.le_refl _))
  rw [show (w.alloc (Obj.cells #[n, .slice ca cs.length ccap, t2, t3, t4, t5, t6] 29)).heap.size = w.heap.size + 1 by simp] at hs1
  have r1 := Lib.hid ((hb1.block w.heap.size hz0).trans r0.out)
  have hz1 : w.heap.size < ((w.alloc (Obj.cells #[n, .slice ca cs.length ccap, t2, t3, t4, t5, t6] 29)).alloc (Obj.cells #[.slice sa ss.length scap] 27)).heap.size := by simp; omega
  have SO := Lib.hid (sorts_any n _ t2 t3 t4 t5 t6 _ cs [ss] _ (HC.out.below hB1 (Nat.le_refl _)) hs1)
  clear hb0 hb1 q1 hs1 r0 hz0
  rw [nErr_sorts] at SO
  refine SO.out.mono ?_
  rintro e w2 ⟨rfl, hb2⟩
  have hB2 : Below w.heap.size w w2 := hB1.trans (hb2.mono (by omega))
  have r2 := Lib.hid ((hb2.block w.heap.size hz1).trans r1.out)
  have hz2 : w.heap.size < w2.heap.size := Nat.lt_of_lt_of_le hz1 hb2.size
  clear SO hb2 r1 hz1 hB1
  obtain ⟨c0, c1, c2, c3, c4, c5, c6⟩ := cells7' r2.out
  by_cases h0 : nErr cs ss = 0
  · obtain ⟨hcl, hn⟩ := nErr_zero h0
    obtain ⟨sp, hbu⟩ := HAB.out hcl
    have LE := Lib.hid (rleast_any n _ t2 t3 t4 t5 t6 _ cs sp ab0 ss w2 (HC.out.below hB2 (Nat.le_refl _)) hbu (clsErr_len hcl) (HS.out.below hB2 (Nat.le_refl _)) (by have := (normErr_zero hn).1; omega) (normErr_zero hn).2)
    have H0 := Lib.hid h0
    rw [h0]
    clear h0 hcl hn hbu
    go_wp2_with fail
    refine LE.out.mono ?_
    rintro e w3 ⟨v3, rfl, ho3, hb3⟩
    have HO3 := Lib.hid ho3.sl
    clear ho3
    go_wp2_with fail
    go_ret2
    exact ⟨v3, by rw [H0.out]; rfl, hB2.trans (hb3.mono (Nat.le_of_lt hz2)), by rw [H0.out, if_pos rfl]; exact HO3.out⟩
  · have hd : decide (nErr cs ss = 0) = false := by simpa using h0
    have H0 := Lib.hid h0
    generalize hce : nErr cs ss = ce at *
    go_wp2_with fail
    go_ret2
    exact ⟨_, by rw [hce]; rfl, hB2, by rw [hce, if_neg H0.out]; exact slS0⟩
end Go.Proofs.Ytehnikgdjnmfcaa
