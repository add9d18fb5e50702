/- The law of checks against the reference. -/
import Derived.Test.YtehnikgdjnmfcaaMB33
import Derived.Test.YtehnikgdjnmfcaaMB25
namespace Go.Proofs.Ytehnikgdjnmfcaa
open Go.RowKit Go.WideMaps Go.Shelf

set_option maxRecDepth 100000 in
set_option maxHeartbeats 8000000 in
theorem sortChecks_any (t u v : Value) (x y : Nm) (cs : List (Nm × List Nm)) (ds : List (Nm × Int)) (rs : List Ar) (ss ts : List Nm) (w : World) (ht : ThG w t cs ds rs) (hs : SlS w u ss) (hs2 : SlS w v ts) (hx : x.length ≤ maxLen) (hy : y.length ≤ maxLen) :
    Calls Try.prog 3 #[t, u, v, .string (bs x), .string (bs y)] w fun e w' => e = .returned (.bool true) ∧ Below w.heap.size w w' := by
  have HT := Lib.hid ht.thF
  have HS := Lib.hid hs
  have HS2 := Lib.hid hs2
  obtain ⟨_, sa, scap, rfl, _⟩ := hs
  obtain ⟨_, ta, tcap, rfl, _⟩ := hs2
  obtain ⟨n, c, t2, t3, t4, t5, t6, rfl, hcc, hdd, haa⟩ := ht
  have HCC := Lib.hid hcc
  have HDD := Lib.hid hdd
  have HAA := Lib.hid haa
  have HXL := Lib.hid hx
  have HYL := Lib.hid hy
  clear hcc hdd haa hx hy
  have HA := Lib.hid awake_any
  obtain ⟨ab, hab⟩ : ∃ ab, clsErr cs = 0 → ∃ sp, Built cs sp ab := by
    by_cases h : clsErr cs = 0
    · obtain ⟨sp, ab, hb⟩ := built_of h
      exact ⟨ab, fun _ => ⟨sp, hb⟩⟩
    · exact ⟨[], fun h' => absurd h' h⟩
  have HAB := Lib.hid hab
  clear hab
  obtain ⟨E, hE⟩ : ∃ E, E = chkErr cs ab ds rs := ⟨_, rfl⟩
  obtain ⟨L, hL⟩ : ∃ L, L = lB cs ab ss ts := ⟨_, rfl⟩
  obtain ⟨M, hM⟩ : ∃ M, M = lB cs ab [x] [y] := ⟨_, rfl⟩
  obtain ⟨N, hN⟩ : ∃ N, N = isNameB (bs x) := ⟨_, rfl⟩
  have P1 : Hid (∀ W, Below w.heap.size w W → Calls Try.prog 11 #[.agg #[n, c, t2, t3, t4, t5, t6]] W fun e w' => e = .returned (.int .i64 E) ∧ Below W.heap.size W w') := by
    intro W hB; rw [hE]
    exact check_of complete_any n c t2 t3 t4 t5 t6 cs ab ds rs W (HCC.out.below hB (Nat.le_refl _)) (HDD.out.below hB (Nat.le_refl _)) (HAA.out.below hB (Nat.le_refl _)) HAB.out
  have P2 : Hid (∀ W, Below w.heap.size w W → Calls Try.prog 12 #[.agg #[n, c, t2, t3, t4, t5, t6]] W fun e w' => e = .returned (.int .i64 E) ∧ Below W.heap.size W w') := by
    intro W hB; rw [hE]
    exact check_r n c t2 t3 t4 t5 t6 cs ab ds rs W (HCC.out.below hB (Nat.le_refl _)) (HDD.out.below hB (Nat.le_refl _)) (HAA.out.below hB (Nat.le_refl _)) HAB.out
  have P3 : Hid (∀ W, Below w.heap.size w W → Calls Try.prog 13 #[.agg #[n, c, t2, t3, t4, t5, t6], .string (bs x), .string (bs y)] W fun e w' => e = .returned (.bool M) ∧ Below W.heap.size W w') := by
    intro W hB; rw [hM]
    exact below_p n c t2 t3 t4 t5 t6 cs ab x y W (HCC.out.below hB (Nat.le_refl _)) HXL.out HYL.out HAB.out
  have P4 : Hid (∀ W, Below w.heap.size w W → Calls Try.prog 14 #[.agg #[n, c, t2, t3, t4, t5, t6], .string (bs x), .string (bs y)] W fun e w' => e = .returned (.bool M) ∧ Below W.heap.size W w') := by
    intro W hB; rw [hM]
    exact below_r n c t2 t3 t4 t5 t6 cs ab x y W (HCC.out.below hB (Nat.le_refl _)) HAB.out
  have P5 : Hid (∀ W, Below w.heap.size w W → Calls Try.prog 15 #[.agg #[n, c, t2, t3, t4, t5, t6], .slice sa ss.length scap, .slice ta ts.length tcap] W fun e w' => e = .returned (.bool L) ∧ Below W.heap.size W w') := by
    intro W hB; rw [hL]
    exact less_p _ _ _ cs ab ss ts W (HT.out.below hB (Nat.le_refl _)).th (HS.out.below hB (Nat.le_refl _)) (HS2.out.below hB (Nat.le_refl _)) HAB.out
  have P6 : Hid (∀ W, Below w.heap.size w W → Calls Try.prog 16 #[.agg #[n, c, t2, t3, t4, t5, t6], .slice sa ss.length scap, .slice ta ts.length tcap] W fun e w' => e = .returned (.bool L) ∧ Below W.heap.size W w') := by
    intro W hB; rw [hL]
    exact less_r n c t2 t3 t4 t5 t6 _ _ cs ab ss ts W (HCC.out.below hB (Nat.le_refl _)) (HS.out.below hB (Nat.le_refl _)) (HS2.out.below hB (Nat.le_refl _)) HAB.out
  have P7 : Hid (∀ W, Calls Try.prog 17 #[.string (bs x)] W fun e w' => e = .returned (.bool N) ∧ W = w') := by
    intro W; rw [hN]
    exact isName_any (bs x) W (by rw [bs_size]; exact HXL.out)
  have P8 : Hid (∀ W, Calls Try.prog 18 #[.string (bs x)] W fun e w' => e = .returned (.bool N) ∧ W = w') := by
    intro W; rw [hN]
    exact rIsName_any (bs x) W (by rw [bs_size]; exact HXL.out)
  have HXS : Hid ((bs x).size = x.length) := bs_size x
  clear hE hL hM hN HAB
  go_enter Try.func3, Try.ntmps3
  have hb0 := below_alloc w (Obj.cells #[n, c, t2, t3, t4, t5, t6] 29)
  have r0 := Lib.hid (heap_alloc_new w (Obj.cells #[n, c, t2, t3, t4, t5, t6] 29))
  have C0 := Lib.hid (fewT (HT.out.below hb0 (Nat.le_refl _)))
  have hz0 : w.heap.size < (w.alloc (Obj.cells #[n, c, t2, t3, t4, t5, t6] 29)).heap.size := by simp
  go_wp2_with (first | (go_at_call 8; refine C0.out.mono ?_; rintro e w1 ⟨r, rfl, hb1⟩; cases r) | fail)
  · refine (HA.out _).mono ?_
    rintro e w2 ⟨rfl, hb2⟩
    go_wp2_with fail
    go_ret
    exact ⟨rfl, (hb0.trans (hb1.mono (by omega))).trans (hb2.mono (by have := hb1.size; omega))⟩
  · have hB1 : Below w.heap.size w w1 := hb0.trans (hb1.mono (by omega))
    have hz1 : w.heap.size < w1.heap.size := by have := hb1.size; omega
    have r1 := Lib.hid ((hb1.block w.heap.size hz0).trans r0.out)
    clear C0 r0 hb1 hb0 hz0
    have hb2 := below_alloc w1 (Obj.cells #[.slice sa ss.length scap, .slice ta ts.length tcap] 27)
    refine (fewSorts_any _ _ (slSS2 (heap_alloc_new w1 _))).mono ?_
    rintro e w2 ⟨r, rfl, hb3⟩
    have hB2 : Below w.heap.size w w2 := hB1.trans ((hb2.mono (by omega)).trans (hb3.mono (by simp; omega)))
    have hz2 : w.heap.size < w2.heap.size := by have := hb3.size; simp at this; omega
    have r2 := Lib.hid ((hb3.block w.heap.size (by simp; omega)).trans ((hb2.block w.heap.size hz1).trans r1.out))
    clear r1 hb2 hb3 hz1 hB1
    cases r
    · go_wp2_with fail
      refine (HA.out _).mono ?_
      rintro e w3 ⟨rfl, hb4⟩
      go_wp2_with fail
      go_ret
      exact ⟨rfl, hB2.trans (hb4.mono (by omega))⟩
    · by_cases h100 : 100 < x.length
      · have hd : decide (100 < (((bs x).size : Nat) : Int)) = true := by rw [bs_size]; simp; omega
        go_wp2_with fail
        refine (HA.out _).mono ?_
        rintro e w3 ⟨rfl, hb4⟩
        go_wp2_with fail
        go_ret
        exact ⟨rfl, hB2.trans (hb4.mono (by omega))⟩
      · have hd : decide (100 < (((bs x).size : Nat) : Int)) = false := by rw [bs_size]; simp; omega
        go_wp2_with fail
        have hBd : Below w.heap.size w w2.drew := hB2.drew
        have rd := Lib.hid (show w2.drew.heap[w.heap.size]? = _ from r2.out)
        have hzd : w.heap.size < w2.drew.heap.size := hz2
        refine wp_region_held_drew (S := (fun w' => w'.cell? ⟨w.heap.size, 0, none⟩ = some n ∧ w'.cell? ⟨w.heap.size, 1, none⟩ = some c ∧ w'.cell? ⟨w.heap.size, 2, none⟩ = some t2 ∧ w'.cell? ⟨w.heap.size, 3, none⟩ = some t3 ∧ w'.cell? ⟨w.heap.size, 4, none⟩ = some t4 ∧ w'.cell? ⟨w.heap.size, 5, none⟩ = some t5 ∧ w'.cell? ⟨w.heap.size, 6, none⟩ = some t6)) (by kernel_rfl) ?_ (fun hHeld => ?_)
        · exact cells7' rd.out
        refine wpAnyH_take (i := 0) (oi := { dst := some 27, op := Op.load 29 (Operand.tmp 5), type := 29, pos := "law.go:47", after := #[], guard := none }) (v := ?v0) rfl (by kernel_rfl) (by kernel_rfl) (by kernel_rfl) (fun _ _ _ h => h) (Or.inl ⟨by rfl, ?hy0⟩) (by assumption) ?rest0
        case hy0 => (intro wq hSq; (try dsimp only at hSq); go_simp; try with_reducible rfl)
        try simp only [Act.put, List.setIfInBounds_toArray, List.set_cons_zero, List.set_cons_succ]
        refine wpAnyH_take (i := 2) (oi := { dst := some 29, op := Op.load 29 (Operand.tmp 5), type := 29, pos := "law.go:47", after := #[], guard := none }) (v := ?v2) rfl (by kernel_rfl) (by kernel_rfl) (by kernel_rfl) (fun _ _ _ h => h) (Or.inl ⟨by rfl, ?hy2⟩) (by assumption) ?rest2
        case hy2 => (intro wq hSq; (try dsimp only at hSq); go_simp; try with_reducible rfl)
        try simp only [Act.put, List.setIfInBounds_toArray, List.set_cons_zero, List.set_cons_succ]
        refine wpAnyH_ready (rs := [1]) (by kernel_rfl) (by simp) ?_
        refine AllReadyH.cons rfl (fun K hK => ?_) AllReadyH.nil
        go_simp
        go_wp2_with (go_at_call 11; (with_reducible refine (P1.out _ hBd).mono ?_); rintro e w3 ⟨rfl, hb3⟩; have hB3 : Below w.heap.size w w3 := hBd.trans (hb3.mono (Nat.le_of_lt hzd)); have hz3 : w.heap.size < w3.heap.size := Nat.lt_of_lt_of_le hzd hb3.size; have r3 := Lib.hid ((hb3.block w.heap.size hzd).trans rd.out))
        refine hK.out _ _ ?_ (fun hHeldN => ?_)
        · (try dsimp only); exact cells7' r3.out
        clear hK K hHeld
        have hHeld := hHeldN
        clear hHeldN
        clear hb3
        refine wpAnyH_ready (rs := [3]) (by kernel_rfl) (by simp) ?_
        refine AllReadyH.cons rfl (fun K hK => ?_) AllReadyH.nil
        go_simp
        go_wp2_with (go_at_call 12; (with_reducible refine (P2.out _ hB3).mono ?_); rintro e w4 ⟨rfl, hb4⟩; have hB4 : Below w.heap.size w w4 := hB3.trans (hb4.mono (Nat.le_of_lt hz3)); have hz4 : w.heap.size < w4.heap.size := Nat.lt_of_lt_of_le hz3 hb4.size; have r4 := Lib.hid ((hb4.block w.heap.size hz3).trans r3.out))
        refine hK.out _ _ ?_ (fun hHeldN => ?_)
        · (try dsimp only); exact cells7' r4.out
        clear hK K hHeld
        have hHeld := hHeldN
        clear hHeldN
        clear hb4
        refine wpAnyH_take (i := 4) (oi := { dst := some 31, op := Op.binOp BinOp.eql 33 (Operand.tmp 28) (Operand.tmp 30) 33, type := 4, pos := "law.go:47", after := #[{ on := 1, ground := Ground.data }, { on := 3, ground := Ground.data }], guard := none }) (v := ?v4) rfl (by kernel_rfl) (by kernel_rfl) (by kernel_rfl) (fun _ _ _ h => h) (Or.inl ⟨by rfl, ?hy4⟩) (by assumption) ?rest4
        case hy4 => (intro wq hSq; (try dsimp only at hSq); go_simp; try with_reducible rfl)
        try simp only [Act.put, List.setIfInBounds_toArray, List.set_cons_zero, List.set_cons_succ]
        refine wpAnyH_take (i := 5) (oi := { dst := some 32, op := Op.move (Operand.tmp 31), type := 4, pos := "law.go:47", after := #[{ on := 4, ground := Ground.data }, { on := 3, ground := Ground.chain }], guard := none }) (v := ?v5) rfl (by kernel_rfl) (by kernel_rfl) (by kernel_rfl) (fun _ _ _ h => h) (Or.inl ⟨by rfl, ?hy5⟩) (by assumption) ?rest5
        case hy5 => (intro wq hSq; (try dsimp only at hSq); go_simp; try with_reducible rfl)
        try simp only [Act.put, List.setIfInBounds_toArray, List.set_cons_zero, List.set_cons_succ]
        refine wpAnyH_take (i := 6) (oi := { dst := some 33, op := Op.load 29 (Operand.tmp 5), type := 29, pos := "law.go:47", after := #[{ on := 5, ground := Ground.guard }], guard := some (5, true) }) (v := ?v6) rfl (by kernel_rfl) (by kernel_rfl) (by kernel_rfl) (fun _ _ _ h => h) (Or.inl ⟨by rfl, ?hy6⟩) (by assumption) ?rest6
        case hy6 => (intro wq hSq; (try dsimp only at hSq); go_simp; try with_reducible rfl)
        try simp only [Act.put, List.setIfInBounds_toArray, List.set_cons_zero, List.set_cons_succ]
        refine wpAnyH_take (i := 7) (oi := { dst := some 34, op := Op.move (Operand.tmp 3), type := 9, pos := "law.go:47", after := #[{ on := 5, ground := Ground.guard }], guard := some (5, true) }) (v := ?v7) rfl (by kernel_rfl) (by kernel_rfl) (by kernel_rfl) (fun _ _ _ h => h) (Or.inl ⟨by rfl, ?hy7⟩) (by assumption) ?rest7
        case hy7 => (intro wq hSq; (try dsimp only at hSq); go_simp; try with_reducible rfl)
        try simp only [Act.put, List.setIfInBounds_toArray, List.set_cons_zero, List.set_cons_succ]
        refine wpAnyH_take (i := 8) (oi := { dst := some 35, op := Op.move (Operand.tmp 4), type := 9, pos := "law.go:47", after := #[{ on := 5, ground := Ground.guard }], guard := some (5, true) }) (v := ?v8) rfl (by kernel_rfl) (by kernel_rfl) (by kernel_rfl) (fun _ _ _ h => h) (Or.inl ⟨by rfl, ?hy8⟩) (by assumption) ?rest8
        case hy8 => (intro wq hSq; (try dsimp only at hSq); go_simp; try with_reducible rfl)
        try simp only [Act.put, List.setIfInBounds_toArray, List.set_cons_zero, List.set_cons_succ]
        refine wpAnyH_take (i := 10) (oi := { dst := some 37, op := Op.load 29 (Operand.tmp 5), type := 29, pos := "law.go:47", after := #[{ on := 5, ground := Ground.guard }], guard := some (5, true) }) (v := ?v10) rfl (by kernel_rfl) (by kernel_rfl) (by kernel_rfl) (fun _ _ _ h => h) (Or.inl ⟨by rfl, ?hy10⟩) (by assumption) ?rest10
        case hy10 => (intro wq hSq; (try dsimp only at hSq); go_simp; try with_reducible rfl)
        try simp only [Act.put, List.setIfInBounds_toArray, List.set_cons_zero, List.set_cons_succ]
        refine wpAnyH_take (i := 11) (oi := { dst := some 38, op := Op.move (Operand.tmp 3), type := 9, pos := "law.go:47", after := #[{ on := 5, ground := Ground.guard }], guard := some (5, true) }) (v := ?v11) rfl (by kernel_rfl) (by kernel_rfl) (by kernel_rfl) (fun _ _ _ h => h) (Or.inl ⟨by rfl, ?hy11⟩) (by assumption) ?rest11
        case hy11 => (intro wq hSq; (try dsimp only at hSq); go_simp; try with_reducible rfl)
        try simp only [Act.put, List.setIfInBounds_toArray, List.set_cons_zero, List.set_cons_succ]
        refine wpAnyH_take (i := 12) (oi := { dst := some 39, op := Op.move (Operand.tmp 4), type := 9, pos := "law.go:47", after := #[{ on := 5, ground := Ground.guard }], guard := some (5, true) }) (v := ?v12) rfl (by kernel_rfl) (by kernel_rfl) (by kernel_rfl) (fun _ _ _ h => h) (Or.inl ⟨by rfl, ?hy12⟩) (by assumption) ?rest12
        case hy12 => (intro wq hSq; (try dsimp only at hSq); go_simp; try with_reducible rfl)
        try simp only [Act.put, List.setIfInBounds_toArray, List.set_cons_zero, List.set_cons_succ]
        refine wpAnyH_ready (rs := [9]) (by kernel_rfl) (by simp) ?_
        refine AllReadyH.cons rfl (fun K hK => ?_) AllReadyH.nil
        go_simp
        go_wp2_with (go_at_call 13; (with_reducible refine (P3.out _ hB4).mono ?_); rintro e w5 ⟨rfl, hb5⟩; have hB5 : Below w.heap.size w w5 := hB4.trans (hb5.mono (Nat.le_of_lt hz4)); have hz5 : w.heap.size < w5.heap.size := Nat.lt_of_lt_of_le hz4 hb5.size; have r5 := Lib.hid ((hb5.block w.heap.size hz4).trans r4.out))
        refine hK.out _ _ ?_ (fun hHeldN => ?_)
        · (try dsimp only); exact cells7' r5.out
        clear hK K hHeld
        have hHeld := hHeldN
        clear hHeldN
        clear hb5
        refine wpAnyH_ready (rs := [13]) (by kernel_rfl) (by simp) ?_
        refine AllReadyH.cons rfl (fun K hK => ?_) AllReadyH.nil
        go_simp
        go_wp2_with (go_at_call 14; (with_reducible refine (P4.out _ hB5).mono ?_); rintro e w6 ⟨rfl, hb6⟩; have hB6 : Below w.heap.size w w6 := hB5.trans (hb6.mono (Nat.le_of_lt hz5)); have hz6 : w.heap.size < w6.heap.size := Nat.lt_of_lt_of_le hz5 hb6.size; have r6 := Lib.hid ((hb6.block w.heap.size hz5).trans r5.out))
        refine hK.out _ _ ?_ (fun hHeldN => ?_)
        · (try dsimp only); exact cells7' r6.out
        clear hK K hHeld
        have hHeld := hHeldN
        clear hHeldN
        clear hb6
        refine wpAnyH_take (i := 14) (oi := { dst := some 41, op := Op.binOp BinOp.eql 4 (Operand.tmp 36) (Operand.tmp 40) 4, type := 4, pos := "law.go:47", after := #[{ on := 9, ground := Ground.data }, { on := 13, ground := Ground.data }, { on := 5, ground := Ground.guard }], guard := some (5, true) }) (v := ?v14) rfl (by kernel_rfl) (by kernel_rfl) (by kernel_rfl) (fun _ _ _ h => h) (Or.inl ⟨by rfl, ?hy14⟩) (by assumption) ?rest14
        case hy14 => (intro wq hSq; (try dsimp only at hSq); go_simp; try with_reducible rfl)
        try simp only [Act.put, List.setIfInBounds_toArray, List.set_cons_zero, List.set_cons_succ]
        refine wpAnyH_take (i := 15) (oi := { dst := some 42, op := Op.pick (Operand.tmp 32) (Operand.tmp 41) (Operand.const (Value.bool false)), type := 4, pos := "law.go:47", after := #[{ on := 5, ground := Ground.data }, { on := 14, ground := Ground.data }], guard := none }) (v := ?v15) rfl (by kernel_rfl) (by kernel_rfl) (by kernel_rfl) (fun _ _ _ h => h) (Or.inl ⟨by rfl, ?hy15⟩) (by assumption) ?rest15
        case hy15 => (intro wq hSq; (try dsimp only at hSq); go_simp; try with_reducible rfl)
        try simp only [Act.put, List.setIfInBounds_toArray, List.set_cons_zero, List.set_cons_succ]
        refine wpAnyH_take (i := 16) (oi := { dst := some 43, op := Op.move (Operand.tmp 42), type := 4, pos := "law.go:47", after := #[{ on := 15, ground := Ground.data }, { on := 13, ground := Ground.chain }], guard := none }) (v := ?v16) rfl (by kernel_rfl) (by kernel_rfl) (by kernel_rfl) (fun _ _ _ h => h) (Or.inl ⟨by rfl, ?hy16⟩) (by assumption) ?rest16
        case hy16 => (intro wq hSq; (try dsimp only at hSq); go_simp; try with_reducible rfl)
        try simp only [Act.put, List.setIfInBounds_toArray, List.set_cons_zero, List.set_cons_succ]
        refine wpAnyH_take (i := 17) (oi := { dst := some 44, op := Op.load 29 (Operand.tmp 5), type := 29, pos := "law.go:47", after := #[{ on := 16, ground := Ground.guard }], guard := some (16, true) }) (v := ?v17) rfl (by kernel_rfl) (by kernel_rfl) (by kernel_rfl) (fun _ _ _ h => h) (Or.inl ⟨by rfl, ?hy17⟩) (by assumption) ?rest17
        case hy17 => (intro wq hSq; (try dsimp only at hSq); go_simp; try with_reducible rfl)
        try simp only [Act.put, List.setIfInBounds_toArray, List.set_cons_zero, List.set_cons_succ]
        refine wpAnyH_take (i := 18) (oi := { dst := some 45, op := Op.move (Operand.tmp 1), type := 27, pos := "law.go:47", after := #[{ on := 16, ground := Ground.guard }], guard := some (16, true) }) (v := ?v18) rfl (by kernel_rfl) (by kernel_rfl) (by kernel_rfl) (fun _ _ _ h => h) (Or.inl ⟨by rfl, ?hy18⟩) (by assumption) ?rest18
        case hy18 => (intro wq hSq; (try dsimp only at hSq); go_simp; try with_reducible rfl)
        try simp only [Act.put, List.setIfInBounds_toArray, List.set_cons_zero, List.set_cons_succ]
        refine wpAnyH_take (i := 19) (oi := { dst := some 46, op := Op.move (Operand.tmp 2), type := 27, pos := "law.go:47", after := #[{ on := 16, ground := Ground.guard }], guard := some (16, true) }) (v := ?v19) rfl (by kernel_rfl) (by kernel_rfl) (by kernel_rfl) (fun _ _ _ h => h) (Or.inl ⟨by rfl, ?hy19⟩) (by assumption) ?rest19
        case hy19 => (intro wq hSq; (try dsimp only at hSq); go_simp; try with_reducible rfl)
        try simp only [Act.put, List.setIfInBounds_toArray, List.set_cons_zero, List.set_cons_succ]
        refine wpAnyH_take (i := 21) (oi := { dst := some 48, op := Op.load 29 (Operand.tmp 5), type := 29, pos := "law.go:47", after := #[{ on := 16, ground := Ground.guard }], guard := some (16, true) }) (v := ?v21) rfl (by kernel_rfl) (by kernel_rfl) (by kernel_rfl) (fun _ _ _ h => h) (Or.inl ⟨by rfl, ?hy21⟩) (by assumption) ?rest21
        case hy21 => (intro wq hSq; (try dsimp only at hSq); go_simp; try with_reducible rfl)
        try simp only [Act.put, List.setIfInBounds_toArray, List.set_cons_zero, List.set_cons_succ]
        refine wpAnyH_take (i := 22) (oi := { dst := some 49, op := Op.move (Operand.tmp 1), type := 27, pos := "law.go:47", after := #[{ on := 16, ground := Ground.guard }], guard := some (16, true) }) (v := ?v22) rfl (by kernel_rfl) (by kernel_rfl) (by kernel_rfl) (fun _ _ _ h => h) (Or.inl ⟨by rfl, ?hy22⟩) (by assumption) ?rest22
        case hy22 => (intro wq hSq; (try dsimp only at hSq); go_simp; try with_reducible rfl)
        try simp only [Act.put, List.setIfInBounds_toArray, List.set_cons_zero, List.set_cons_succ]
        refine wpAnyH_take (i := 23) (oi := { dst := some 50, op := Op.move (Operand.tmp 2), type := 27, pos := "law.go:47", after := #[{ on := 16, ground := Ground.guard }], guard := some (16, true) }) (v := ?v23) rfl (by kernel_rfl) (by kernel_rfl) (by kernel_rfl) (fun _ _ _ h => h) (Or.inl ⟨by rfl, ?hy23⟩) (by assumption) ?rest23
        case hy23 => (intro wq hSq; (try dsimp only at hSq); go_simp; try with_reducible rfl)
        try simp only [Act.put, List.setIfInBounds_toArray, List.set_cons_zero, List.set_cons_succ]
        refine wpAnyH_ready (rs := [20]) (by kernel_rfl) (by simp) ?_
        refine AllReadyH.cons rfl (fun K hK => ?_) AllReadyH.nil
        go_simp
        go_wp2_with (go_at_call 15; (with_reducible refine (P5.out _ hB6).mono ?_); rintro e w7 ⟨rfl, hb7⟩; have hB7 : Below w.heap.size w w7 := hB6.trans (hb7.mono (Nat.le_of_lt hz6)); have hz7 : w.heap.size < w7.heap.size := Nat.lt_of_lt_of_le hz6 hb7.size; have r7 := Lib.hid ((hb7.block w.heap.size hz6).trans r6.out))
        refine hK.out _ _ ?_ (fun hHeldN => ?_)
        · (try dsimp only); exact cells7' r7.out
        clear hK K hHeld
        have hHeld := hHeldN
        clear hHeldN
        clear hb7
        refine wpAnyH_ready (rs := [24]) (by kernel_rfl) (by simp) ?_
        refine AllReadyH.cons rfl (fun K hK => ?_) AllReadyH.nil
        go_simp
        go_wp2_with (go_at_call 16; (with_reducible refine (P6.out _ hB7).mono ?_); rintro e w8 ⟨rfl, hb8⟩; have hB8 : Below w.heap.size w w8 := hB7.trans (hb8.mono (Nat.le_of_lt hz7)); have hz8 : w.heap.size < w8.heap.size := Nat.lt_of_lt_of_le hz7 hb8.size; have r8 := Lib.hid ((hb8.block w.heap.size hz7).trans r7.out))
        refine hK.out _ _ ?_ (fun hHeldN => ?_)
        · (try dsimp only); exact cells7' r8.out
        clear hK K hHeld
        have hHeld := hHeldN
        clear hHeldN
        clear hb8
        refine wpAnyH_take (i := 25) (oi := { dst := some 52, op := Op.binOp BinOp.eql 4 (Operand.tmp 47) (Operand.tmp 51) 4, type := 4, pos := "law.go:47", after := #[{ on := 20, ground := Ground.data }, { on := 24, ground := Ground.data }, { on := 16, ground := Ground.guard }], guard := some (16, true) }) (v := ?v25) rfl (by kernel_rfl) (by kernel_rfl) (by kernel_rfl) (fun _ _ _ h => h) (Or.inl ⟨by rfl, ?hy25⟩) (by assumption) ?rest25
        case hy25 => (intro wq hSq; (try dsimp only at hSq); go_simp; try with_reducible rfl)
        try simp only [Act.put, List.setIfInBounds_toArray, List.set_cons_zero, List.set_cons_succ]
        refine wpAnyH_take (i := 26) (oi := { dst := some 53, op := Op.pick (Operand.tmp 43) (Operand.tmp 52) (Operand.const (Value.bool false)), type := 4, pos := "law.go:47", after := #[{ on := 16, ground := Ground.data }, { on := 25, ground := Ground.data }], guard := none }) (v := ?v26) rfl (by kernel_rfl) (by kernel_rfl) (by kernel_rfl) (fun _ _ _ h => h) (Or.inl ⟨by rfl, ?hy26⟩) (by assumption) ?rest26
        case hy26 => (intro wq hSq; (try dsimp only at hSq); go_simp; try with_reducible rfl)
        try simp only [Act.put, List.setIfInBounds_toArray, List.set_cons_zero, List.set_cons_succ]
        refine wpAnyH_take (i := 27) (oi := { dst := some 54, op := Op.move (Operand.tmp 53), type := 4, pos := "law.go:47", after := #[{ on := 26, ground := Ground.data }, { on := 24, ground := Ground.chain }], guard := none }) (v := ?v27) rfl (by kernel_rfl) (by kernel_rfl) (by kernel_rfl) (fun _ _ _ h => h) (Or.inl ⟨by rfl, ?hy27⟩) (by assumption) ?rest27
        case hy27 => (intro wq hSq; (try dsimp only at hSq); go_simp; try with_reducible rfl)
        try simp only [Act.put, List.setIfInBounds_toArray, List.set_cons_zero, List.set_cons_succ]
        refine wpAnyH_take (i := 28) (oi := { dst := some 55, op := Op.move (Operand.tmp 3), type := 9, pos := "law.go:47", after := #[{ on := 27, ground := Ground.guard }], guard := some (27, true) }) (v := ?v28) rfl (by kernel_rfl) (by kernel_rfl) (by kernel_rfl) (fun _ _ _ h => h) (Or.inl ⟨by rfl, ?hy28⟩) (by assumption) ?rest28
        case hy28 => (intro wq hSq; (try dsimp only at hSq); go_simp; try with_reducible rfl)
        try simp only [Act.put, List.setIfInBounds_toArray, List.set_cons_zero, List.set_cons_succ]
        refine wpAnyH_take (i := 30) (oi := { dst := some 57, op := Op.move (Operand.tmp 3), type := 9, pos := "law.go:47", after := #[{ on := 27, ground := Ground.guard }], guard := some (27, true) }) (v := ?v30) rfl (by kernel_rfl) (by kernel_rfl) (by kernel_rfl) (fun _ _ _ h => h) (Or.inl ⟨by rfl, ?hy30⟩) (by assumption) ?rest30
        case hy30 => (intro wq hSq; (try dsimp only at hSq); go_simp; try with_reducible rfl)
        try simp only [Act.put, List.setIfInBounds_toArray, List.set_cons_zero, List.set_cons_succ]
        refine wpAnyH_ready (rs := [29]) (by kernel_rfl) (by simp) ?_
        refine AllReadyH.cons rfl (fun K hK => ?_) AllReadyH.nil
        go_simp
        go_wp2_with (go_at_call 17; (with_reducible refine (P7.out _).mono ?_); rintro e wz ⟨rfl, rfl⟩)
        refine hK.out _ _ ?_ (fun hHeldN => ?_)
        · (try dsimp only); exact cells7' r8.out
        clear hK K hHeld
        have hHeld := hHeldN
        clear hHeldN
        refine wpAnyH_ready (rs := [31]) (by kernel_rfl) (by simp) ?_
        refine AllReadyH.cons rfl (fun K hK => ?_) AllReadyH.nil
        go_simp
        go_wp2_with (go_at_call 18; (with_reducible refine (P8.out _).mono ?_); rintro e wz ⟨rfl, rfl⟩)
        refine hK.out _ _ ?_ (fun hHeldN => ?_)
        · (try dsimp only); exact cells7' r8.out
        clear hK K hHeld
        have hHeld := hHeldN
        clear hHeldN
        refine wpAnyH_take (i := 32) (oi := { dst := some 59, op := Op.binOp BinOp.eql 4 (Operand.tmp 56) (Operand.tmp 58) 4, type := 4, pos := "law.go:47", after := #[{ on := 29, ground := Ground.data }, { on := 31, ground := Ground.data }, { on := 27, ground := Ground.guard }], guard := some (27, true) }) (v := ?v32) rfl (by kernel_rfl) (by kernel_rfl) (by kernel_rfl) (fun _ _ _ h => h) (Or.inl ⟨by rfl, ?hy32⟩) (by assumption) ?rest32
        case hy32 => (intro wq hSq; (try dsimp only at hSq); go_simp; try with_reducible rfl)
        try simp only [Act.put, List.setIfInBounds_toArray, List.set_cons_zero, List.set_cons_succ]
        refine wpAnyH_take (i := 33) (oi := { dst := some 60, op := Op.pick (Operand.tmp 54) (Operand.tmp 59) (Operand.const (Value.bool false)), type := 4, pos := "law.go:47", after := #[{ on := 27, ground := Ground.data }, { on := 32, ground := Ground.data }], guard := none }) (v := ?v33) rfl (by kernel_rfl) (by kernel_rfl) (by kernel_rfl) (fun _ _ _ h => h) (Or.inl ⟨by rfl, ?hy33⟩) (by assumption) ?rest33
        case hy33 => (intro wq hSq; (try dsimp only at hSq); go_simp; try with_reducible rfl)
        try simp only [Act.put, List.setIfInBounds_toArray, List.set_cons_zero, List.set_cons_succ]
        refine wpAnyH_take (i := 34) (oi := { dst := some 61, op := Op.move (Operand.tmp 60), type := 4, pos := "law.go:47", after := #[{ on := 33, ground := Ground.data }, { on := 31, ground := Ground.chain }], guard := none }) (v := ?v34) rfl (by kernel_rfl) (by kernel_rfl) (by kernel_rfl) (fun _ _ _ h => h) (Or.inl ⟨by rfl, ?hy34⟩) (by assumption) ?rest34
        case hy34 => (intro wq hSq; (try dsimp only at hSq); go_simp; try with_reducible rfl)
        try simp only [Act.put, List.setIfInBounds_toArray, List.set_cons_zero, List.set_cons_succ]
        refine wpAnyH_ready (rs := [35]) (by kernel_rfl) (by simp) ?_
        refine AllReadyH.cons rfl (fun K hK => ?_) AllReadyH.nil
        go_simp
        go_wp2_with (go_at_call 10; (with_reducible refine (HA.out _).mono ?_); rintro e w9 ⟨rfl, hb9⟩; have hB9 : Below w.heap.size w w9 := hB8.trans (hb9.mono (Nat.le_of_lt hz8)); have hz9 : w.heap.size < w9.heap.size := Nat.lt_of_lt_of_le hz8 hb9.size; have r9 := Lib.hid ((hb9.block w.heap.size hz8).trans r8.out))
        refine hK.out _ _ ?_ (fun hHeldN => ?_)
        · (try dsimp only); exact cells7' r9.out
        clear hK K hHeld
        have hHeld := hHeldN
        clear hHeldN
        refine wpAnyH_take (i := 36) (oi := { dst := some 63, op := Op.pick (Operand.tmp 61) (Operand.tmp 62) (Operand.const (Value.bool false)), type := 4, pos := "law.go:47", after := #[{ on := 34, ground := Ground.data }, { on := 35, ground := Ground.data }], guard := none }) (v := ?v36) rfl (by kernel_rfl) (by kernel_rfl) (by kernel_rfl) (fun _ _ _ h => h) (Or.inl ⟨by rfl, ?hy36⟩) (by assumption) ?rest36
        case hy36 => (intro wq hSq; (try dsimp only at hSq); go_simp; try with_reducible rfl)
        try simp only [Act.put, List.setIfInBounds_toArray, List.set_cons_zero, List.set_cons_succ]
        refine wpAnyH_take (i := 37) (oi := { dst := some 10, op := Op.assign (Operand.tmp 63), type := 4, pos := "law.go:47", after := #[{ on := 36, ground := Ground.data }, { on := 35, ground := Ground.chain }, { on := 0, ground := Ground.phase }, { on := 1, ground := Ground.phase }, { on := 2, ground := Ground.phase }, { on := 3, ground := Ground.phase }, { on := 4, ground := Ground.phase }, { on := 5, ground := Ground.phase }, { on := 6, ground := Ground.phase }, { on := 7, ground := Ground.phase }, { on := 8, ground := Ground.phase }, { on := 9, ground := Ground.phase }, { on := 10, ground := Ground.phase }, { on := 11, ground := Ground.phase }, { on := 12, ground := Ground.phase }, { on := 13, ground := Ground.phase }, { on := 14, ground := Ground.phase }, { on := 15, ground := Ground.phase }, { on := 16, ground := Ground.phase }, { on := 17, ground := Ground.phase }, { on := 18, ground := Ground.phase }, { on := 19, ground := Ground.phase }, { on := 20, ground := Ground.phase }, { on := 21, ground := Ground.phase }, { on := 22, ground := Ground.phase }, { on := 23, ground := Ground.phase }, { on := 24, ground := Ground.phase }, { on := 25, ground := Ground.phase }, { on := 26, ground := Ground.phase }, { on := 27, ground := Ground.phase }, { on := 28, ground := Ground.phase }, { on := 29, ground := Ground.phase }, { on := 30, ground := Ground.phase }, { on := 31, ground := Ground.phase }, { on := 32, ground := Ground.phase }, { on := 33, ground := Ground.phase }, { on := 34, ground := Ground.phase }, { on := 35, ground := Ground.phase }, { on := 36, ground := Ground.phase }], guard := none }) (v := ?v37) rfl (by kernel_rfl) (by kernel_rfl) (by kernel_rfl) (fun _ _ _ h => h) (Or.inl ⟨by rfl, ?hy37⟩) (by assumption) ?rest37
        case hy37 => (intro wq hSq; (try dsimp only at hSq); go_simp; try with_reducible rfl)
        try simp only [Act.put, List.setIfInBounds_toArray, List.set_cons_zero, List.set_cons_succ]
        refine wpAnyH_done (by kernel_rfl) ?_ _
        go_wp2_with fail
        go_ret
        exact ⟨rfl, hB9⟩
end Go.Proofs.Ytehnikgdjnmfcaa

