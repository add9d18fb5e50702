/- The law of normal sorts and meets against the reference. -/
import Derived.Test.YtehnikgdjnmfcaaS3
import Derived.Test.YtehnikgdjnmfcaaY
namespace Go.Proofs.Ytehnikgdjnmfcaa
open Go.RowKit Go.WideMaps Go.Shelf

theorem equal_self (u v : Value) (ss : List Nm) (w : World) (hs : SlS w u ss) (ht : SlS w v ss) :
    Calls Try.prog 23 #[u, v] w fun e w' => e = .returned (.bool true) ∧ Below w.heap.size w w' := by
  have h := equal_any u v ss ss w hs ht
  rw [decide_eq_true rfl] at h
  exact h

set_option maxRecDepth 100000 in
set_option maxHeartbeats 8000000 in
theorem sortNormals_any (t u v : Value) (cs : List (Nm × List Nm)) (ss ts : List Nm) (w : World) (ht : ThF w t cs) (hs : SlS w u ss) (hs2 : SlS w v ts) :
    Calls Try.prog 4 #[t, u, v] w fun e w' => e = .returned (.bool true) ∧ Below w.heap.size w w' := by
  have HT := Lib.hid ht
  have HS := Lib.hid hs
  have HS2 := Lib.hid hs2
  have HC := Lib.hid ht
  obtain ⟨_, sa, scap, rfl, _⟩ := hs
  obtain ⟨_, ta, tcap, rfl, _⟩ := hs2
  obtain ⟨n, c, p2, n2, k2, t3, t4, t5, t6, rfl, hcc, _⟩ := ht
  have HCC := Lib.hid hcc
  clear hcc HC
  have HA := Lib.hid awake_any
  obtain ⟨ab, hab⟩ : ∃ ab, clsErr cs = 0 → ∃ sp, Built cs sp ab := by
    by_cases h : clsErr cs = 0
    · obtain ⟨sp, ab, hb⟩ := built_of h
      exact ⟨ab, fun _ => ⟨sp, hb⟩⟩
    · exact ⟨[], fun h' => absurd h' h⟩
  have HAB := Lib.hid hab
  clear hab
  obtain ⟨E, hE⟩ : ∃ E, E = nErr cs ss := ⟨_, rfl⟩
  obtain ⟨G, hG⟩ : ∃ G, G = mErr cs ab ss ts := ⟨_, rfl⟩
  obtain ⟨X, hX⟩ : ∃ X, X = if nErr cs ss = 0 then leastB (cs.map Prod.fst) (fun i => ab.getD i []) ss else [] := ⟨_, rfl⟩
  obtain ⟨Y, hY⟩ : ∃ Y, Y = if mErr cs ab ss ts = 0 then leastB (cs.map Prod.fst) (fun i => ab.getD i []) (ss ++ ts) else [] := ⟨_, rfl⟩
  have PN : Hid (∀ W, Below w.heap.size w W → Calls Try.prog 19 #[.agg #[n, c, .slice p2 n2 k2, t3, t4, t5, t6], .slice sa ss.length scap] W fun e w' => ∃ v', e = .returned (.tuple #[v', .int .i64 E]) ∧ Below W.heap.size W w' ∧ SlS w' v' X) := by
    intro W hB
    have h := normal_p (.agg #[n, c, .slice p2 n2 k2, t3, t4, t5, t6]) (.slice sa ss.length scap) cs ab ss W (HT.out.below hB (Nat.le_refl _)).th (HS.out.below hB (Nat.le_refl _)) HAB.out
    unfold NPost at h
    rw [← hX, ← hE] at h
    exact h
  have PR : Hid (∀ W, Below w.heap.size w W → Calls Try.prog 20 #[.agg #[n, c, .slice p2 n2 k2, t3, t4, t5, t6], .slice sa ss.length scap] W fun e w' => ∃ v', e = .returned (.tuple #[v', .int .i64 E]) ∧ Below W.heap.size W w' ∧ SlS w' v' X) := by
    intro W hB
    have h := normal_r n c (.slice p2 n2 k2) t3 t4 t5 t6 (.slice sa ss.length scap) cs ab ss W (HCC.out.below hB (Nat.le_refl _)) (HS.out.below hB (Nat.le_refl _)) HAB.out
    unfold NPost at h
    rw [← hX, ← hE] at h
    exact h
  have PM : Hid (∀ W, Below w.heap.size w W → Calls Try.prog 21 #[.agg #[n, c, .slice p2 n2 k2, t3, t4, t5, t6], .slice sa ss.length scap, .slice ta ts.length tcap] W fun e w' => ∃ v', e = .returned (.tuple #[v', .int .i64 G]) ∧ Below W.heap.size W w' ∧ SlS w' v' Y) := by
    intro W hB
    have h := meet_p (.agg #[n, c, .slice p2 n2 k2, t3, t4, t5, t6]) (.slice sa ss.length scap) (.slice ta ts.length tcap) cs ab ss ts W (HT.out.below hB (Nat.le_refl _)).th (HS.out.below hB (Nat.le_refl _)) (HS2.out.below hB (Nat.le_refl _)) HAB.out
    unfold NPost at h
    rw [← hY, ← hG] at h
    exact h
  have PQ : Hid (∀ W, Below w.heap.size w W → Calls Try.prog 22 #[.agg #[n, c, .slice p2 n2 k2, t3, t4, t5, t6], .slice sa ss.length scap, .slice ta ts.length tcap] W fun e w' => ∃ v', e = .returned (.tuple #[v', .int .i64 G]) ∧ Below W.heap.size W w' ∧ SlS w' v' Y) := by
    intro W hB
    have h := meet_r n c (.slice p2 n2 k2) t3 t4 t5 t6 (.slice sa ss.length scap) (.slice ta ts.length tcap) cs ab ss ts W (HCC.out.below hB (Nat.le_refl _)) (HS.out.below hB (Nat.le_refl _)) (HS2.out.below hB (Nat.le_refl _)) HAB.out
    unfold NPost at h
    rw [← hY, ← hG] at h
    exact h
  clear hE hG hX hY HAB
  go_enter Try.func4, Try.ntmps4
  have hb0 := below_alloc w (Obj.cells #[n, c, .slice p2 n2 k2, t3, t4, t5, t6] 29)
  have r0 := Lib.hid (heap_alloc_new w (Obj.cells #[n, c, .slice p2 n2 k2, t3, t4, t5, t6] 29))
  have C0 := Lib.hid (fewT (HT.out.below hb0 (Nat.le_refl _)))
  have hz0 : w.heap.size < (w.alloc (Obj.cells #[n, c, .slice p2 n2 k2, t3, t4, t5, t6] 29)).heap.size := by simp
  go_wp2_with (first | (go_at_call 8; refine C0.out.mono ?_; rintro e w1 ⟨r, rfl, hb1⟩; cases r) | fail)
  · refine (HA.out _).mono ?_
    rintro e w2 ⟨rfl, hb2⟩
    go_wp2_with fail
    go_ret
    exact ⟨rfl, (hb0.trans (hb1.mono (by omega))).trans (hb2.mono (by have := hb1.size; omega))⟩
  · have hB1 : Below w.heap.size w w1 := hb0.trans (hb1.mono (by omega))
    have hz1 : w.heap.size < w1.heap.size := by have := hb1.size; omega
    have r1 := Lib.hid ((hb1.block w.heap.size hz0).trans r0.out)
    clear C0 r0 hb1 hb0 hz0
    have hb2 := below_alloc w1 (Obj.cells #[.slice sa ss.length scap, .slice ta ts.length tcap] 27)
    refine (fewSorts_any _ _ (slSS2 (heap_alloc_new w1 _))).mono ?_
    rintro e w2 ⟨r, rfl, hb3⟩
    have hB2 : Below w.heap.size w w2 := hB1.trans ((hb2.mono (by omega)).trans (hb3.mono (by simp; omega)))
    have hz2 : w.heap.size < w2.heap.size := by have := hb3.size; simp at this; omega
    have r2 := Lib.hid ((hb3.block w.heap.size (by simp; omega)).trans ((hb2.block w.heap.size hz1).trans r1.out))
    clear r1 hb2 hb3 hz1 hB1
    cases r
    · go_wp2_with fail
      refine (HA.out _).mono ?_
      rintro e w3 ⟨rfl, hb4⟩
      go_wp2_with fail
      go_ret
      exact ⟨rfl, hB2.trans (hb4.mono (by omega))⟩
    · obtain ⟨c0, c1, c2, c3, c4, c5, c6⟩ := cells7 r2.out
      go_wp2_with fail
      refine (PN.out _ hB2).mono ?_
      rintro e w3 ⟨x1, rfl, hb3, hx3⟩
      have hB3 := hB2.trans (hb3.mono (Nat.le_of_lt hz2))
      have hz3 : w.heap.size < w3.heap.size := Nat.lt_of_lt_of_le hz2 hb3.size
      have r3 := Lib.hid ((hb3.block w.heap.size hz2).trans r2.out)
      clear c0 c1 c2 c3 c4 c5 c6 r2
      obtain ⟨c0, c1, c2, c3, c4, c5, c6⟩ := cells7 r3.out
      have HX3 := Lib.hid hx3
      have HY3 := Lib.hid hb3
      clear hx3 hb3
      go_wp2_with fail
      refine (PR.out _ hB3).mono ?_
      rintro e w4 ⟨x2, rfl, hb4, hx4⟩
      have hB4 := hB3.trans (hb4.mono (Nat.le_of_lt hz3))
      have hz4 : w.heap.size < w4.heap.size := Nat.lt_of_lt_of_le hz3 hb4.size
      have r4 := Lib.hid ((hb4.block w.heap.size hz3).trans r3.out)
      clear c0 c1 c2 c3 c4 c5 c6 r3
      obtain ⟨c0, c1, c2, c3, c4, c5, c6⟩ := cells7 r4.out
      have HX4 := Lib.hid hx4
      have HY4 := Lib.hid hb4
      clear hx4 hb4
      go_wp2_with fail
      refine (PM.out _ hB4).mono ?_
      rintro e w5 ⟨x3, rfl, hb5, hx5⟩
      have hB5 := hB4.trans (hb5.mono (Nat.le_of_lt hz4))
      have hz5 : w.heap.size < w5.heap.size := Nat.lt_of_lt_of_le hz4 hb5.size
      have r5 := Lib.hid ((hb5.block w.heap.size hz4).trans r4.out)
      clear c0 c1 c2 c3 c4 c5 c6 r4
      obtain ⟨c0, c1, c2, c3, c4, c5, c6⟩ := cells7 r5.out
      have HX5 := Lib.hid hx5
      have HY5 := Lib.hid hb5
      clear hx5 hb5
      go_wp2_with fail
      refine (PQ.out _ hB5).mono ?_
      rintro e w6 ⟨x4, rfl, hb6, hx6⟩
      have hB6 := hB5.trans (hb6.mono (Nat.le_of_lt hz5))
      have hz6 : w.heap.size < w6.heap.size := Nat.lt_of_lt_of_le hz5 hb6.size
      have r6 := Lib.hid ((hb6.block w.heap.size hz5).trans r5.out)
      clear c0 c1 c2 c3 c4 c5 c6 r5
      obtain ⟨c0, c1, c2, c3, c4, c5, c6⟩ := cells7 r6.out
      have HX6 := Lib.hid hx6
      have HY6 := Lib.hid hb6
      clear hx6 hb6
      have A3 := Lib.hid (((HX3.out.below HY4.out (Nat.le_refl _)).below HY5.out (Nat.le_refl _)).below HY6.out (Nat.le_refl _))
      have A4 := Lib.hid ((HX4.out.below HY5.out (Nat.le_refl _)).below HY6.out (Nat.le_refl _))
      have A5 := Lib.hid (HX5.out.below HY6.out (Nat.le_refl _))
      clear c0 c1 c2 c3 c4 c5 c6
      go_wp2_with fail
      refine (equal_self _ _ X w6 A3.out A4.out).mono ?_
      rintro e w7 ⟨rfl, hb7⟩
      have hB7 := hB6.trans (hb7.mono (Nat.le_of_lt hz6))
      have hz7 : w.heap.size < w7.heap.size := Nat.lt_of_lt_of_le hz6 hb7.size
      have A57 := Lib.hid (A5.out.below hb7 (Nat.le_refl _))
      have A67 := Lib.hid (HX6.out.below hb7 (Nat.le_refl _))
      clear hb7
      go_wp2_with fail
      refine (equal_self _ _ Y w7 A57.out A67.out).mono ?_
      rintro e w8 ⟨rfl, hb8⟩
      have hB8 := hB7.trans (hb8.mono (Nat.le_of_lt hz7))
      have hz8 : w.heap.size < w8.heap.size := Nat.lt_of_lt_of_le hz7 hb8.size
      clear hb8
      go_wp2_with fail
      refine (HA.out _).mono ?_
      rintro e w9 ⟨rfl, hb9⟩
      go_wp2_with fail
      go_ret
      exact ⟨rfl, hB8.trans (hb9.mono (Nat.le_of_lt hz8))⟩
end Go.Proofs.Ytehnikgdjnmfcaa
