/- The law of narrower sorts. -/
import Derived.Test.YtehnikgdjnmfcaaMB30
import Derived.Test.YtehnikgdjnmfcaaMB31
import Derived.Test.YtehnikgdjnmfcaaMB34
import Derived.Deep.RegionHeld3
namespace Go.Proofs.Ytehnikgdjnmfcaa
open Go.RowKit Go.WideMaps Go.Shelf
attribute [local go_sem] Oper.semAt_some

theorem SlSs.at {w : World} {a : Option Addr} {n c : Nat} {l : List (List Nm)} (h : SlSs w (.slice a n c) l) {k : Nat} (hk : k < l.length) :
    ∃ b off p q, a = some ⟨b, off, none⟩ ∧ b < w.heap.size ∧ w.cell? ⟨b, off + k, none⟩ = some (.slice p (l.getD k []).length q) ∧ SlS w (.slice p (l.getD k []).length q) (l.getD k []) := by
  obtain ⟨_, a', c', e, hx⟩ := h
  injection e with e1 _ e2
  subst e1
  obtain ⟨b, off, e, hb, hc⟩ := hx (by omega)
  obtain ⟨p, q, g1, g2⟩ := hc k hk
  exact ⟨b, off, p, q, e, hb, g1, g2⟩

theorem groundB_mono {cs : List (Nm × List Nm)} {abl : List (List Nat)} {ds : List (Nm × Int)} {rs : List Ar} {d : Nat} {ss : List Nm} (h : groundB cs abl ds rs d ss = true) : groundB cs abl ds rs (d + 1) ss = true := by
  unfold groundB at h ⊢
  rw [Bool.and_eq_true] at h ⊢
  exact ⟨h.1, gB_mono _ _ h.2⟩

set_option maxRecDepth 100000 in
set_option maxHeartbeats 8000000 in
theorem sortNarrower_any (t u v : Value) (x : Nm) (dp : Int) (cs : List (Nm × List Nm)) (ds : List (Nm × Int)) (rs : List Ar) (ss ts : List Nm) (w : World) (ht : ThG w t cs ds rs) (hs : SlS w u ss) (hs2 : SlS w v ts) (hx : x.length ≤ maxLen) (hd0 : 0 ≤ dp) (hd1 : dp < 256) :
    Calls Try.prog 7 #[t, .string (bs x), u, v, .int .u8 dp] w fun e w' => e = .returned (.bool true) ∧ Below w.heap.size w w' := by
  have HT := Lib.hid ht.thF
  have HS := Lib.hid hs
  have HS2 := Lib.hid hs2
  obtain ⟨_, sa, scap, rfl, _⟩ := hs
  obtain ⟨_, ta, tcap, rfl, _⟩ := hs2
  obtain ⟨n, c, t2, t3, t4, t5, t6, rfl, hcc, hdd, haa⟩ := ht
  have HCC := Lib.hid hcc
  have HDD := Lib.hid hdd
  have HAA := Lib.hid haa
  have HXL := Lib.hid hx
  clear hcc hdd haa hx
  have HA := Lib.hid awake_any
  obtain ⟨ab, hab⟩ : ∃ ab, clsErr cs = 0 → ∃ sp, Built cs sp ab := by
    by_cases h : clsErr cs = 0
    · obtain ⟨sp, ab, hb⟩ := built_of h
      exact ⟨ab, fun _ => ⟨sp, hb⟩⟩
    · exact ⟨[], fun h' => absurd h' h⟩
  have HAB := Lib.hid hab
  clear hab
  obtain ⟨E1, hE1⟩ : ∃ E, E = argsErr2 cs ab ds rs x ss := ⟨_, rfl⟩
  obtain ⟨E2, hE2⟩ : ∃ E, E = argsErr2 cs ab ds rs x ts := ⟨_, rfl⟩
  obtain ⟨G, hG⟩ : ∃ E, E = mErr cs ab ss ts := ⟨_, rfl⟩
  obtain ⟨X, hX⟩ : ∃ X, X = wantC cs ab ds rs x ss := ⟨_, rfl⟩
  obtain ⟨Y, hY⟩ : ∃ X, X = wantC cs ab ds rs x ts := ⟨_, rfl⟩
  obtain ⟨M, hM⟩ : ∃ M, M = leastB (cs.map Prod.fst) (fun i => ab.getD i []) (ss ++ ts) := ⟨_, rfl⟩
  obtain ⟨XL, hXL⟩ : ∃ X', X' = (if E1 = 0 then X else []) := ⟨_, rfl⟩
  obtain ⟨YL, hYL⟩ : ∃ X', X' = (if E2 = 0 then Y else []) := ⟨_, rfl⟩
  obtain ⟨ML, hML⟩ : ∃ X', X' = (if G = 0 then M else []) := ⟨_, rfl⟩
  obtain ⟨GE, hGE⟩ : ∃ E, E = groundErr cs ab ds rs ss := ⟨_, rfl⟩
  obtain ⟨dn, hdn⟩ : ∃ dn : Nat, dn = dp.toNat % 3 := ⟨_, rfl⟩
  obtain ⟨k1, hk1⟩ : ∃ k, k = groundB cs ab ds rs dn ss := ⟨_, rfl⟩
  obtain ⟨k2, hk2⟩ : ∃ k, k = groundB cs ab ds rs (dn + 1) ss := ⟨_, rfl⟩
  have HMO : Hid (k1 = true → k2 = true) := by
    intro h; rw [hk2]; rw [hk1] at h; exact groundB_mono h
  have P1 : Hid (∀ W, Below w.heap.size w W → Calls Try.prog 26 #[.agg #[n, c, t2, t3, t4, t5, t6], .string (bs x), .slice sa ss.length scap] W fun e w' => ∃ v, e = .returned (.tuple #[v, .int .i64 E1]) ∧ Below W.heap.size W w' ∧ SlSs w' v XL) := by
    intro W hB; rw [hXL, hE1, hX]
    exact args_any _ _ cs ab ds rs x ss W n c t2 t3 t4 t5 t6 rfl (HCC.out.below hB (Nat.le_refl _)) (HDD.out.below hB (Nat.le_refl _)) (HAA.out.below hB (Nat.le_refl _)) HAB.out HXL.out (HS.out.below hB (Nat.le_refl _))
  have P2 : Hid (∀ W, Below w.heap.size w W → Calls Try.prog 26 #[.agg #[n, c, t2, t3, t4, t5, t6], .string (bs x), .slice ta ts.length tcap] W fun e w' => ∃ v, e = .returned (.tuple #[v, .int .i64 E2]) ∧ Below W.heap.size W w' ∧ SlSs w' v YL) := by
    intro W hB; rw [hYL, hE2, hY]
    exact args_any _ _ cs ab ds rs x ts W n c t2 t3 t4 t5 t6 rfl (HCC.out.below hB (Nat.le_refl _)) (HDD.out.below hB (Nat.le_refl _)) (HAA.out.below hB (Nat.le_refl _)) HAB.out HXL.out (HS2.out.below hB (Nat.le_refl _))
  have P3 : Hid (∀ W, Below w.heap.size w W → Calls Try.prog 21 #[.agg #[n, c, t2, t3, t4, t5, t6], .slice sa ss.length scap, .slice ta ts.length tcap] W fun e w' => ∃ v, e = .returned (.tuple #[v, .int .i64 G]) ∧ Below W.heap.size W w' ∧ SlS w' v ML) := by
    intro W hB; rw [hML, hG, hM]
    exact meet_p _ _ _ cs ab ss ts W ((HT.out.below hB (Nat.le_refl _)).th) (HS.out.below hB (Nat.le_refl _)) (HS2.out.below hB (Nat.le_refl _)) HAB.out
  obtain ⟨LB, hLB⟩ : ∃ b, b = lB cs ab ss ts := ⟨_, rfl⟩
  have HLB := Lib.hid hLB
  have PL : Hid (∀ W, Below w.heap.size w W → Calls Try.prog 15 #[.agg #[n, c, t2, t3, t4, t5, t6], .slice sa ss.length scap, .slice ta ts.length tcap] W fun e w' => e = .returned (.bool LB) ∧ Below W.heap.size W w') := by
    intro W hB; rw [hLB]
    exact less_p _ _ _ cs ab ss ts W ((HT.out.below hB (Nat.le_refl _)).th) (HS.out.below hB (Nat.le_refl _)) (HS2.out.below hB (Nat.le_refl _)) HAB.out
  clear hLB
  have P4 : Hid (∀ W v, Below w.heap.size w W → SlS W v M → Calls Try.prog 26 #[.agg #[n, c, t2, t3, t4, t5, t6], .string (bs x), v] W (APost W (argsErr2 cs ab ds rs x M) (wantC cs ab ds rs x M))) := by
    intro W v hB hv
    exact args_any _ _ cs ab ds rs x M W n c t2 t3 t4 t5 t6 rfl (HCC.out.below hB (Nat.le_refl _)) (HDD.out.below hB (Nat.le_refl _)) (HAA.out.below hB (Nat.le_refl _)) HAB.out HXL.out hv
  have P5 : Hid (∀ W, Below w.heap.size w W → Calls Try.prog 27 #[.agg #[n, c, t2, t3, t4, t5, t6], .slice sa ss.length scap, .int .i64 dn] W (GdPost W GE k1)) := by
    intro W hB; rw [hGE, hk1]
    exact ground_any _ _ cs ab ds rs ss dn W n c t2 t3 t4 t5 t6 rfl (HCC.out.below hB (Nat.le_refl _)) (HDD.out.below hB (Nat.le_refl _)) (HAA.out.below hB (Nat.le_refl _)) HAB.out (HS.out.below hB (Nat.le_refl _)) (by omega)
  have P6 : Hid (∀ W, Below w.heap.size w W → Calls Try.prog 27 #[.agg #[n, c, t2, t3, t4, t5, t6], .slice sa ss.length scap, .int .i64 ((dn : Int) + 1)] W (GdPost W GE k2)) := by
    intro W hB; rw [hGE, hk2]
    have e : ((dn : Int) + 1) = (((dn + 1 : Nat)) : Int) := by omega
    rw [e]
    exact ground_any _ _ cs ab ds rs ss (dn + 1) W n c t2 t3 t4 t5 t6 rfl (HCC.out.below hB (Nat.le_refl _)) (HDD.out.below hB (Nat.le_refl _)) (HAA.out.below hB (Nat.le_refl _)) HAB.out (HS.out.below hB (Nat.le_refl _)) (by omega)
  have HE1 := Lib.hid hE1
  have HE2 := Lib.hid hE2
  have HG := Lib.hid hG
  have HX := Lib.hid hX
  have HY := Lib.hid hY
  have HM := Lib.hid hM
  have HXE := Lib.hid hXL
  have HYE := Lib.hid hYL
  have HME := Lib.hid hML
  have hdp : dp.tmod 3 = (dn : Int) := by rw [hdn, Int.tmod_eq_emod_of_nonneg hd0]; omega
  have hdn3 : dn < 3 := by omega
  clear hE1 hE2 hG hX hY hM hGE hk1 hk2 hdn hXL hYL hML
  unfold GdPost at P5 P6
  go_enter Try.func7, Try.ntmps7
  have hb0 := below_alloc w (Obj.cells #[n, c, t2, t3, t4, t5, t6] 29)
  have r0 := Lib.hid (heap_alloc_new w (Obj.cells #[n, c, t2, t3, t4, t5, t6] 29))
  have C0 := Lib.hid (fewT (HT.out.below hb0 (Nat.le_refl _)))
  have hz0 : w.heap.size < (w.alloc (Obj.cells #[n, c, t2, t3, t4, t5, t6] 29)).heap.size := by simp
  go_wp2_with (first | (go_at_call 8; refine C0.out.mono ?_; rintro e w1 ⟨r, rfl, hb1⟩; cases r) | fail)
  · refine (HA.out _).mono ?_
    rintro e w2 ⟨rfl, hb2⟩
    go_wp2_with fail
    go_ret
    exact ⟨rfl, (hb0.trans (hb1.mono (by omega))).trans (hb2.mono (by have := hb1.size; omega))⟩
  · have hB1 : Below w.heap.size w w1 := hb0.trans (hb1.mono (by omega))
    have hz1 : w.heap.size < w1.heap.size := by have := hb1.size; omega
    have r1 := Lib.hid ((hb1.block w.heap.size hz0).trans r0.out)
    clear C0 r0 hb1 hb0 hz0
    have hb2 := below_alloc w1 (Obj.cells #[.slice sa ss.length scap, .slice ta ts.length tcap] 27)
    refine (fewSorts_any _ _ (slSS2 (heap_alloc_new w1 _))).mono ?_
    rintro e w2 ⟨r, rfl, hb3⟩
    have hB2 : Below w.heap.size w w2 := hB1.trans ((hb2.mono (by omega)).trans (hb3.mono (by simp; omega)))
    have hz2 : w.heap.size < w2.heap.size := by have := hb3.size; simp at this; omega
    have r2 := Lib.hid ((hb3.block w.heap.size (by simp; omega)).trans ((hb2.block w.heap.size hz1).trans r1.out))
    clear r1 hb2 hb3 hz1 hB1
    cases r
    · go_wp2_with fail
      refine (HA.out _).mono ?_
      rintro e w3 ⟨rfl, hb4⟩
      go_wp2_with fail
      go_ret
      exact ⟨rfl, hB2.trans (hb4.mono (by omega))⟩
    · obtain ⟨p0, p1, p2, p3, p4, p5, p6⟩ := cells7' r2.out
      go_wp2_with fail
      refine (P1.out _ hB2).mono ?_
      rintro e w3 ⟨v1, rfl, hb3, hx1⟩
      have HX1 := Lib.hid hx1
      obtain ⟨_, xa, xc, rfl, _⟩ := hx1
      have hB3 : Below w.heap.size w w3 := hB2.trans (hb3.mono (Nat.le_of_lt hz2))
      have hz3 : w.heap.size < w3.heap.size := Nat.lt_of_lt_of_le hz2 hb3.size
      have r3 := Lib.hid ((hb3.block w.heap.size hz2).trans r2.out)
      clear p0 p1 p2 p3 p4 p5 p6
      obtain ⟨p0, p1, p2, p3, p4, p5, p6⟩ := cells7' r3.out
      go_wp2_with fail
      refine (P2.out _ hB3).mono ?_
      rintro e w4 ⟨v2, rfl, hb4, hx2⟩
      have HX2 := Lib.hid hx2
      obtain ⟨_, ya, yc, rfl, _⟩ := hx2
      have hB4 : Below w.heap.size w w4 := hB3.trans (hb4.mono (Nat.le_of_lt hz3))
      have hz4 : w.heap.size < w4.heap.size := Nat.lt_of_lt_of_le hz3 hb4.size
      have r4 := Lib.hid ((hb4.block w.heap.size hz3).trans r3.out)
      clear p0 p1 p2 p3 p4 p5 p6
      obtain ⟨p0, p1, p2, p3, p4, p5, p6⟩ := cells7' r4.out
      go_wp2_with fail
      refine (P3.out _ hB4).mono ?_
      rintro e w5 ⟨v3, rfl, hb5, hx3⟩
      have HX3 := Lib.hid hx3
      obtain ⟨_, ma, mc, rfl, _⟩ := hx3
      have hB5 : Below w.heap.size w w5 := hB4.trans (hb5.mono (Nat.le_of_lt hz4))
      have hz5 : w.heap.size < w5.heap.size := Nat.lt_of_lt_of_le hz4 hb5.size
      have r5 := Lib.hid ((hb5.block w.heap.size hz4).trans r4.out)
      clear p0 p1 p2 p3 p4 p5 p6
      obtain ⟨p0, p1, p2, p3, p4, p5, p6⟩ := cells7' r5.out
      by_cases hg0 : G = 0
      · have hgb : (G == 0) = true := by simpa using hg0
        by_cases he0 : E1 = 0
        · have heb : (E1 == 0) = true := by simpa using he0
          by_cases hf0 : E2 = 0
          · have hfb : (E2 == 0) = true := by simpa using hf0
            obtain ⟨f1, f2, f3, f4, f5, f6⟩ := narrow_facts HAB.out (HG.out.symm.trans hg0) (HE1.out.symm.trans he0) (HE2.out.symm.trans hf0)
            rw [← HX.out, ← HY.out] at f1
            rw [← HX.out, ← HM.out] at f2
            rw [← HX.out] at f3
            rw [← HM.out] at f4
            rw [← HX.out, ← HY.out, ← HM.out] at f5
            rw [← HX.out, ← HY.out] at f6
            have P4' := P4.out
            have hXX := HXE.out
            rw [if_pos he0] at hXX
            have hYY := HYE.out
            rw [if_pos hf0] at hYY
            have hMM := HME.out
            rw [if_pos hg0] at hMM
            have hx6 := (HX1.out.below hb4 (Nat.le_refl _)).below hb5 (Nat.le_refl _)
            have hy6 := HX2.out.below hb5 (Nat.le_refl _)
            rw [hXX] at hx6
            rw [hYY] at hy6
            have hm5 := HX3.out
            rw [hMM] at hm5
            have C4 := Lib.hid (P4' w5 _ hB5 hm5)
            obtain ⟨E3, hE3⟩ : ∃ E, E = argsErr2 cs ab ds rs x M := ⟨_, rfl⟩
            obtain ⟨Z, hZ⟩ : ∃ E, E = wantC cs ab ds rs x M := ⟨_, rfl⟩
            rw [← hE3] at f4 f5 C4
            rw [← hZ] at f2 f5 C4
            have HF5 := Lib.hid f5
            have HF6 := Lib.hid f6
            have HF3 := Lib.hid f3
            obtain ⟨ZL, hZL⟩ : ∃ Z', Z' = (if E3 = 0 then Z else []) := ⟨_, rfl⟩
            unfold APost at C4
            rw [← hZL] at C4
            have HZL := Lib.hid hZL
            have hq1 : (((X.length : Nat) : Int) != ((Y.length : Nat) : Int)) = false := by rw [f1]; simp
            have hlXX : XL.length = X.length := by rw [hXX]
            have hlYY : YL.length = Y.length := by rw [hYY]
            have hlMM : ML.length = M.length := by rw [hMM]
            rw [hlXX, hlYY, hlMM]
            have HX6 := Lib.hid hx6
            have HY6 := Lib.hid hy6
            clear hE3 hZ f5 f6 f3 P4' hXX hYY hMM hx6 hy6 hm5 hlXX hlYY hlMM hg0 he0 hf0 hZL
            go_wp2_with fail
            refine C4.out.mono ?_
            rintro e w6 ⟨v6, rfl, hb6, hz6'⟩
            have HZ6 := Lib.hid hz6'
            obtain ⟨_, za, zc, rfl, _⟩ := hz6'
            have hB6 : Below w.heap.size w w6 := hB5.trans (hb6.mono (Nat.le_of_lt hz5))
            have hz6 : w.heap.size < w6.heap.size := Nat.lt_of_lt_of_le hz5 hb6.size
            have r6 := Lib.hid ((hb6.block w.heap.size hz5).trans r5.out)
            have HX7 := Lib.hid (HX6.out.below hb6 (Nat.le_refl _))
            have HY7 := Lib.hid (HY6.out.below hb6 (Nat.le_refl _))
            clear p0 p1 p2 p3 p4 p5 p6 C4 HX6 HY6
            obtain ⟨p0, p1, p2, p3, p4, p5, p6⟩ := cells7' r6.out
            rcases f4 with h3 | h3
            · have hzz : ZL = Z := by rw [HZL.out, if_pos h3]
              have hl2 : (((ZL.length : Nat) : Int) != ((X.length : Nat) : Int)) = false := by rw [hzz, f2]; simp
              subst h3
              clear hb3 hb4 hb5
              go_wp2_with fail
              have HZ7 := HZ6.out
              rw [hzz] at HZ7
              have HZ8 := Lib.hid HZ7
              have hLZ : Z.length = Y.length := f2.trans f1
              have hY10 : Y.length ≤ 10 := by have := HF3.out; omega
              clear HZ7 p0 p1 p2 p3 p4 p5 p6 hl2 hq1
              go_loopw [102] (fun i wr => ∃ k : Nat, k ≤ Y.length ∧ i = .int .i64 k ∧ Below w6.heap.size w6 wr) (fun i _ => Y.length - (intOf i).toNat)
              case atStart => exact ⟨0, by omega, rfl, Below.refl _ _⟩
              case round =>
                obtain ⟨k, hk, rfl, hB⟩ := hrel
                have hzr := hB.size
                have hBr : Below w.heap.size w wr := hB6.trans (hB.mono (Nat.le_of_lt hz6))
                have hzw : w.heap.size < wr.heap.size := by omega
                have rr := Lib.hid ((hB.block w.heap.size hz6).trans r6.out)
                by_cases hlt : k < Y.length
                · obtain ⟨bx, ox, px, qx, rfl, hbx, gx, sx⟩ := HX7.out.at (k := k) (by omega)
                  obtain ⟨bz, oz, py, qy, rfl, hby, gy, sy⟩ := HY7.out.at (k := k) (by omega)
                  obtain ⟨bw, ow, pz, qz, rfl, hbz, gz, sz⟩ := HZ8.out.at (k := k) (by omega)
                  obtain ⟨hm0, hZk⟩ := HF5.out trivial k (by omega)
                  have hlk := HF6.out
                  have hlk := fun h => hlk h k (by omega)
                  have gxr := (hB.cell (p := ⟨bx, ox + k, none⟩) hbx).trans gx
                  have gyr := (hB.cell (p := ⟨bz, oz + k, none⟩) hby).trans gy
                  have gzr := (hB.cell (p := ⟨bw, ow + k, none⟩) hbz).trans gz
                  have sxr := sx.below hB (Nat.le_refl _)
                  have syr := sy.below hB (Nat.le_refl _)
                  have szr := sz.below hB (Nat.le_refl _)
                  generalize X.getD k [] = Xk at *
                  generalize Y.getD k [] = Yk at *
                  generalize Z.getD k [] = Zk at *
                  have MC := Lib.hid (meet_p _ _ _ cs ab Xk Yk wr.drew ((HT.out.below hBr.drew (Nat.le_refl _)).th) (sxr.below (Below.refl _ wr).drew (Nat.le_refl _)) (syr.below (Below.refl _ wr).drew (Nat.le_refl _)) HAB.out)
                  rw [hm0, hZk] at MC
                  unfold NPost at MC
                  rw [if_pos rfl] at MC
                  have GX := Lib.hid gxr
                  have GY := Lib.hid gyr
                  have GZ := Lib.hid gzr
                  have SX := Lib.hid sxr
                  have SY := Lib.hid syr
                  have SZ := Lib.hid szr
                  have HLK := Lib.hid hlk
                  have rd := Lib.hid (show wr.drew.heap[w.heap.size]? = _ from rr.out)
                  clear gx gy gz sx sy sz gxr gyr gzr sxr syr szr hm0 hZk hlk
                  go_wp2_with fail
                  go_region_held3 (fun w' => w'.cell? ⟨w.heap.size, 0, none⟩ = some n ∧ w'.cell? ⟨w.heap.size, 1, none⟩ = some c ∧ w'.cell? ⟨w.heap.size, 2, none⟩ = some t2 ∧ w'.cell? ⟨w.heap.size, 3, none⟩ = some t3 ∧ w'.cell? ⟨w.heap.size, 4, none⟩ = some t4 ∧ w'.cell? ⟨w.heap.size, 5, none⟩ = some t5 ∧ w'.cell? ⟨w.heap.size, 6, none⟩ = some t6 ∧ (w'.cell? ⟨bx, ox + k, none⟩ = some (.slice px Xk.length qx) ∧ w'.cell? ⟨bz, oz + k, none⟩ = some (.slice py Yk.length qy)))
                    (first | exact cells7and rd.out ⟨GX.out, GY.out⟩ | exact cells7and r7.out ⟨GX7.out, GY7.out⟩)
                    ((go_at_call 21; refine MC.out.mono ?_; rintro e w7 ⟨v7, rfl, hb7, hs7⟩; have r7 := Lib.hid ((hb7.block w.heap.size hzw).trans rd.out); have GX7 := Lib.hid ((hb7.cell (p := ⟨bx, ox + k, none⟩) (Nat.lt_of_lt_of_le hbx hzr)).trans GX.out); have GY7 := Lib.hid ((hb7.cell (p := ⟨bz, oz + k, none⟩) (Nat.lt_of_lt_of_le hby hzr)).trans GY.out)))
                  have HS7 := Lib.hid hs7
                  obtain ⟨_, pb, qb, rfl, _⟩ := hs7
                  go_wp2_with fail
                  have re := Lib.hid (show w7.drew.heap[w.heap.size]? = _ from r7.out)
                  have hBe : Below w6.heap.size w6 w7.drew := (hB.drew.trans (hb7.mono hzr)).drew
                  have hBWe : Below w.heap.size w w7.drew := hB6.trans (hBe.mono (Nat.le_of_lt hz6))
                  have hze : w.heap.size < w7.drew.heap.size := Nat.lt_of_lt_of_le hzw hb7.size
                  have hzze : w6.heap.size ≤ w7.drew.heap.size := hBe.size
                  have hbxe : bx < w7.drew.heap.size := Nat.lt_of_lt_of_le hbx hzze
                  have hbye : bz < w7.drew.heap.size := Nat.lt_of_lt_of_le hby hzze
                  have hbze : bw < w7.drew.heap.size := Nat.lt_of_lt_of_le hbz hzze
                  have GXe := Lib.hid (show w7.drew.cell? ⟨bx, ox + k, none⟩ = _ from GX7.out)
                  have GYe := Lib.hid (show w7.drew.cell? ⟨bz, oz + k, none⟩ = _ from GY7.out)
                  have GZe := Lib.hid (show w7.drew.cell? ⟨bw, ow + k, none⟩ = _ from (hb7.cell (p := ⟨bw, ow + k, none⟩) (Nat.lt_of_lt_of_le hbz hzr)).trans GZ.out)
                  have hb7e : Below wr.heap.size wr w7.drew := (Below.refl _ wr).drew.trans hb7.drew
                  have SX7 := Lib.hid (SX.out.below hb7e (Nat.le_refl _))
                  have SY7 := Lib.hid (SY.out.below hb7e (Nat.le_refl _))
                  have EQ := Lib.hid (equal_any _ _ Zk Zk w7.drew (HS7.out.below (Below.refl _ w7).drew (Nat.le_refl _)) (SZ.out.below hb7e (Nat.le_refl _)))
                  rw [decide_eq_true rfl] at EQ
                  clear hb7e
                  cases LB
                  · skip
                    refine wp_region_held_drew (S := (fun w' => w'.cell? ⟨w.heap.size, 0, none⟩ = some n ∧ w'.cell? ⟨w.heap.size, 1, none⟩ = some c ∧ w'.cell? ⟨w.heap.size, 2, none⟩ = some t2 ∧ w'.cell? ⟨w.heap.size, 3, none⟩ = some t3 ∧ w'.cell? ⟨w.heap.size, 4, none⟩ = some t4 ∧ w'.cell? ⟨w.heap.size, 5, none⟩ = some t5 ∧ w'.cell? ⟨w.heap.size, 6, none⟩ = some t6 ∧ (w'.cell? ⟨bx, ox + k, none⟩ = some (.slice px Xk.length qx) ∧ w'.cell? ⟨bz, oz + k, none⟩ = some (.slice py Yk.length qy) ∧ w'.cell? ⟨bw, ow + k, none⟩ = some (.slice pz Zk.length qz)))) (by kernel_rfl) ?_ (fun hHeld => ?_)
                    · exact cells7and re.out ⟨GXe.out, GYe.out, GZe.out⟩
                    refine wpAnyH_take (i := 0) (oi := { dst := some 118, op := Op.move (Operand.tmp 21), type := 33, pos := "law.go:144", after := #[], guard := none }) (v := ?v0f) rfl (by kernel_rfl) (by kernel_rfl) (by kernel_rfl) (fun _ _ _ h => h) (Or.inl ⟨by rfl, ?hy0f⟩) (by assumption) ?rest0f
                    case hy0f => (intro wq hSq; (try dsimp only at hSq); go_simp; try with_reducible rfl)
                    try simp only [Act.put, List.setIfInBounds_toArray, List.set_cons_zero, List.set_cons_succ]
                    refine wpAnyH_take (i := 1) (oi := { dst := some 119, op := Op.binOp BinOp.neq 33 (Operand.tmp 118) (Operand.const (Value.int IntKind.i64 0)) 33, type := 4, pos := "law.go:144", after := #[{ on := 0, ground := Ground.data }], guard := none }) (v := ?v1f) rfl (by kernel_rfl) (by kernel_rfl) (by kernel_rfl) (fun _ _ _ h => h) (Or.inl ⟨by rfl, ?hy1f⟩) (by assumption) ?rest1f
                    case hy1f => (intro wq hSq; (try dsimp only at hSq); go_simp; try with_reducible rfl)
                    try simp only [Act.put, List.setIfInBounds_toArray, List.set_cons_zero, List.set_cons_succ]
                    refine wpAnyH_take (i := 2) (oi := { dst := some 120, op := Op.move (Operand.tmp 119), type := 4, pos := "law.go:144", after := #[{ on := 1, ground := Ground.data }], guard := none }) (v := ?v2f) rfl (by kernel_rfl) (by kernel_rfl) (by kernel_rfl) (fun _ _ _ h => h) (Or.inl ⟨by rfl, ?hy2f⟩) (by assumption) ?rest2f
                    case hy2f => (intro wq hSq; (try dsimp only at hSq); go_simp; try with_reducible rfl)
                    try simp only [Act.put, List.setIfInBounds_toArray, List.set_cons_zero, List.set_cons_succ]
                    refine wpAnyH_take (i := 3) (oi := { dst := some 121, op := Op.move (Operand.tmp 20), type := 27, pos := "law.go:144", after := #[{ on := 2, ground := Ground.guard }], guard := some (2, false) }) (v := ?v3f) rfl (by kernel_rfl) (by kernel_rfl) (by kernel_rfl) (fun _ _ _ h => h) (Or.inl ⟨by rfl, ?hy3f⟩) (by assumption) ?rest3f
                    case hy3f => (intro wq hSq; (try dsimp only at hSq); go_simp; try with_reducible rfl)
                    try simp only [Act.put, List.setIfInBounds_toArray, List.set_cons_zero, List.set_cons_succ]
                    refine wpAnyH_take (i := 4) (oi := { dst := some 122, op := Op.move (Operand.tmp 17), type := 46, pos := "law.go:144", after := #[{ on := 2, ground := Ground.guard }], guard := some (2, false) }) (v := ?v4f) rfl (by kernel_rfl) (by kernel_rfl) (by kernel_rfl) (fun _ _ _ h => h) (Or.inl ⟨by rfl, ?hy4f⟩) (by assumption) ?rest4f
                    case hy4f => (intro wq hSq; (try dsimp only at hSq); go_simp; try with_reducible rfl)
                    try simp only [Act.put, List.setIfInBounds_toArray, List.set_cons_zero, List.set_cons_succ]
                    refine wpAnyH_take (i := 5) (oi := { dst := some 123, op := Op.move (Operand.tmp 19), type := 3, pos := "law.go:144", after := #[{ on := 2, ground := Ground.guard }], guard := some (2, false) }) (v := ?v5f) rfl (by kernel_rfl) (by kernel_rfl) (by kernel_rfl) (fun _ _ _ h => h) (Or.inl ⟨by rfl, ?hy5f⟩) (by assumption) ?rest5f
                    case hy5f => (intro wq hSq; (try dsimp only at hSq); go_simp; try with_reducible rfl)
                    try simp only [Act.put, List.setIfInBounds_toArray, List.set_cons_zero, List.set_cons_succ]
                    refine wpAnyH_take (i := 6) (oi := { dst := some 124, op := Op.indexAddr 46 (Operand.tmp 122) (Operand.tmp 123), type := 0, pos := "law.go:144", after := #[{ on := 4, ground := Ground.data }, { on := 5, ground := Ground.data }, { on := 2, ground := Ground.guard }], guard := some (2, false) }) (v := ?v6f) rfl (by kernel_rfl) (by kernel_rfl) (by kernel_rfl) (fun _ _ _ h => h) (Or.inl ⟨by rfl, ?hy6f⟩) (by assumption) ?rest6f
                    case hy6f => (intro wq hSq; (try dsimp only at hSq); go_simp; try with_reducible rfl)
                    try simp only [Act.put, List.setIfInBounds_toArray, List.set_cons_zero, List.set_cons_succ]
                    refine wpAnyH_take (i := 7) (oi := { dst := some 125, op := Op.load 27 (Operand.tmp 124), type := 27, pos := "law.go:144", after := #[{ on := 6, ground := Ground.data }, { on := 2, ground := Ground.guard }], guard := some (2, false) }) (v := ?v7f) rfl (by kernel_rfl) (by kernel_rfl) (by kernel_rfl) (fun _ _ _ h => h) (Or.inl ⟨by rfl, ?hy7f⟩) (by assumption) ?rest7f
                    case hy7f => (intro wq hSq; (try dsimp only at hSq); go_simp; try with_reducible rfl)
                    try simp only [Act.put, List.setIfInBounds_toArray, List.set_cons_zero, List.set_cons_succ]
                    refine wpAnyH_ready (rs := [8]) (by kernel_rfl) (by simp) ?_
                    refine AllReadyH.cons rfl (fun K hK => ?_) AllReadyH.nil
                    go_simp
                    go_wp2_with (go_at_call 23; (with_reducible refine EQ.out.mono ?_); rintro e wq ⟨rfl, hbq⟩; have rq := Lib.hid ((hbq.block w.heap.size hze).trans re.out); have GXq := Lib.hid ((hbq.cell (p := ⟨bx, ox + k, none⟩) hbxe).trans GXe.out); have GYq := Lib.hid ((hbq.cell (p := ⟨bz, oz + k, none⟩) hbye).trans GYe.out); have GZq := Lib.hid ((hbq.cell (p := ⟨bw, ow + k, none⟩) hbze).trans GZe.out); have hBq : Below w6.heap.size w6 wq := hBe.trans (hbq.mono hzze); have hBWq : Below w.heap.size w wq := hBWe.trans (hbq.mono (Nat.le_of_lt hze)); have hzq : w.heap.size < wq.heap.size := Nat.lt_of_lt_of_le hze hbq.size; have hzzq : w6.heap.size ≤ wq.heap.size := Nat.le_trans hzze hbq.size; have hbxq : bx < wq.heap.size := Nat.lt_of_lt_of_le hbxe hbq.size; have hbyq : bz < wq.heap.size := Nat.lt_of_lt_of_le hbye hbq.size; have hbzq : bw < wq.heap.size := Nat.lt_of_lt_of_le hbze hbq.size)
                    refine hK.out _ _ ?_ (fun hHeldN => ?_)
                    · (try dsimp only); exact cells7and rq.out ⟨GXq.out, GYq.out, GZq.out⟩
                    clear hK K hHeld
                    have hHeld := hHeldN
                    clear hHeldN
                    refine wpAnyH_take (i := 9) (oi := { dst := some 127, op := Op.unOp UnOp.not 4 (Operand.tmp 126), type := 4, pos := "law.go:144", after := #[{ on := 8, ground := Ground.data }, { on := 2, ground := Ground.guard }], guard := some (2, false) }) (v := ?v9f) rfl (by kernel_rfl) (by kernel_rfl) (by kernel_rfl) (fun _ _ _ h => h) (Or.inl ⟨by rfl, ?hy9f⟩) (by assumption) ?rest9f
                    case hy9f => (intro wq hSq; (try dsimp only at hSq); go_simp; try with_reducible rfl)
                    try simp only [Act.put, List.setIfInBounds_toArray, List.set_cons_zero, List.set_cons_succ]
                    refine wpAnyH_take (i := 10) (oi := { dst := some 128, op := Op.pick (Operand.tmp 120) (Operand.const (Value.bool true)) (Operand.tmp 127), type := 4, pos := "law.go:144", after := #[{ on := 2, ground := Ground.data }, { on := 9, ground := Ground.data }], guard := none }) (v := ?v10f) rfl (by kernel_rfl) (by kernel_rfl) (by kernel_rfl) (fun _ _ _ h => h) (Or.inl ⟨by rfl, ?hy10f⟩) (by assumption) ?rest10f
                    case hy10f => (intro wq hSq; (try dsimp only at hSq); go_simp; try with_reducible rfl)
                    try simp only [Act.put, List.setIfInBounds_toArray, List.set_cons_zero, List.set_cons_succ]
                    refine wpAnyH_take (i := 11) (oi := { dst := some 129, op := Op.move (Operand.tmp 128), type := 4, pos := "law.go:144", after := #[{ on := 10, ground := Ground.data }, { on := 8, ground := Ground.chain }], guard := none }) (v := ?v11f) rfl (by kernel_rfl) (by kernel_rfl) (by kernel_rfl) (fun _ _ _ h => h) (Or.inl ⟨by rfl, ?hy11f⟩) (by assumption) ?rest11f
                    case hy11f => (intro wq hSq; (try dsimp only at hSq); go_simp; try with_reducible rfl)
                    try simp only [Act.put, List.setIfInBounds_toArray, List.set_cons_zero, List.set_cons_succ]
                    refine wpAnyH_take (i := 12) (oi := { dst := some 130, op := Op.load 29 (Operand.tmp 5), type := 29, pos := "law.go:144", after := #[{ on := 11, ground := Ground.guard }], guard := some (11, false) }) (v := ?v12f) rfl (by kernel_rfl) (by kernel_rfl) (by kernel_rfl) (fun _ _ _ h => h) (Or.inl ⟨by rfl, ?hy12f⟩) (by assumption) ?rest12f
                    case hy12f => (intro wq hSq; (try dsimp only at hSq); go_simp; try with_reducible rfl)
                    try simp only [Act.put, List.setIfInBounds_toArray, List.set_cons_zero, List.set_cons_succ]
                    refine wpAnyH_take (i := 13) (oi := { dst := some 131, op := Op.move (Operand.tmp 2), type := 27, pos := "law.go:144", after := #[{ on := 11, ground := Ground.guard }], guard := some (11, false) }) (v := ?v13f) rfl (by kernel_rfl) (by kernel_rfl) (by kernel_rfl) (fun _ _ _ h => h) (Or.inl ⟨by rfl, ?hy13f⟩) (by assumption) ?rest13f
                    case hy13f => (intro wq hSq; (try dsimp only at hSq); go_simp; try with_reducible rfl)
                    try simp only [Act.put, List.setIfInBounds_toArray, List.set_cons_zero, List.set_cons_succ]
                    refine wpAnyH_take (i := 14) (oi := { dst := some 132, op := Op.move (Operand.tmp 3), type := 27, pos := "law.go:144", after := #[{ on := 11, ground := Ground.guard }], guard := some (11, false) }) (v := ?v14f) rfl (by kernel_rfl) (by kernel_rfl) (by kernel_rfl) (fun _ _ _ h => h) (Or.inl ⟨by rfl, ?hy14f⟩) (by assumption) ?rest14f
                    case hy14f => (intro wq hSq; (try dsimp only at hSq); go_simp; try with_reducible rfl)
                    try simp only [Act.put, List.setIfInBounds_toArray, List.set_cons_zero, List.set_cons_succ]
                    refine wpAnyH_ready (rs := [15]) (by kernel_rfl) (by simp) ?_
                    refine AllReadyH.cons rfl (fun K hK => ?_) AllReadyH.nil
                    go_simp
                    go_wp2_with (go_at_call 15; (with_reducible refine (PL.out _ hBWq).mono ?_); rintro e w8 ⟨rfl, hb8⟩; have r8 := Lib.hid ((hb8.block w.heap.size hzq).trans rq.out); have GX8 := Lib.hid ((hb8.cell (p := ⟨bx, ox + k, none⟩) hbxq).trans GXq.out); have GY8 := Lib.hid ((hb8.cell (p := ⟨bz, oz + k, none⟩) hbyq).trans GYq.out); have GZ8 := Lib.hid ((hb8.cell (p := ⟨bw, ow + k, none⟩) hbzq).trans GZq.out); have hB8 : Below w6.heap.size w6 w8 := hBq.trans (hb8.mono hzzq); have hBW8 : Below w.heap.size w w8 := hBWq.trans (hb8.mono (Nat.le_of_lt hzq)); have hz8 : w.heap.size < w8.heap.size := Nat.lt_of_lt_of_le hzq hb8.size; have hzz8 : w6.heap.size ≤ w8.heap.size := Nat.le_trans hzzq hb8.size; have hbx8 : bx < w8.heap.size := Nat.lt_of_lt_of_le hbxq hb8.size; have hby8 : bz < w8.heap.size := Nat.lt_of_lt_of_le hbyq hb8.size; have hbz8 : bw < w8.heap.size := Nat.lt_of_lt_of_le hbzq hb8.size)
                    refine hK.out _ _ ?_ (fun hHeldN => ?_)
                    · (try dsimp only); exact cells7and r8.out ⟨GX8.out, GY8.out, GZ8.out⟩
                    clear hK K hHeld
                    have hHeld := hHeldN
                    clear hHeldN
                    refine wpAnyH_take (i := 16) (oi := { dst := some 134, op := Op.move (Operand.tmp 133), type := 4, pos := "law.go:144", after := #[{ on := 15, ground := Ground.data }, { on := 15, ground := Ground.chain }, { on := 11, ground := Ground.guard }], guard := some (11, false) }) (v := ?v16f) rfl (by kernel_rfl) (by kernel_rfl) (by kernel_rfl) (fun _ _ _ h => h) (Or.inl ⟨by rfl, ?hy16f⟩) (by assumption) ?rest16f
                    case hy16f => (intro wq hSq; (try dsimp only at hSq); go_simp; try with_reducible rfl)
                    try simp only [Act.put, List.setIfInBounds_toArray, List.set_cons_zero, List.set_cons_succ]
                    refine wpAnyH_take (i := 17) (oi := { dst := some 135, op := Op.load 29 (Operand.tmp 5), type := 29, pos := "law.go:144", after := #[{ on := 16, ground := Ground.guard }], guard := some (16, true) }) (v := undef) rfl (by kernel_rfl) (by kernel_rfl) (by kernel_rfl) (fun _ _ _ h => h) (Or.inr ⟨by rfl, rfl⟩) (by assumption) ?_
                    try simp only [Act.put, List.setIfInBounds_toArray, List.set_cons_zero, List.set_cons_succ]
                    refine wpAnyH_take (i := 18) (oi := { dst := some 136, op := Op.move (Operand.tmp 11), type := 46, pos := "law.go:144", after := #[{ on := 16, ground := Ground.guard }], guard := some (16, true) }) (v := undef) rfl (by kernel_rfl) (by kernel_rfl) (by kernel_rfl) (fun _ _ _ h => h) (Or.inr ⟨by rfl, rfl⟩) (by assumption) ?_
                    try simp only [Act.put, List.setIfInBounds_toArray, List.set_cons_zero, List.set_cons_succ]
                    refine wpAnyH_take (i := 19) (oi := { dst := some 137, op := Op.move (Operand.tmp 19), type := 3, pos := "law.go:144", after := #[{ on := 16, ground := Ground.guard }], guard := some (16, true) }) (v := undef) rfl (by kernel_rfl) (by kernel_rfl) (by kernel_rfl) (fun _ _ _ h => h) (Or.inr ⟨by rfl, rfl⟩) (by assumption) ?_
                    try simp only [Act.put, List.setIfInBounds_toArray, List.set_cons_zero, List.set_cons_succ]
                    refine wpAnyH_take (i := 20) (oi := { dst := some 138, op := Op.indexAddr 46 (Operand.tmp 136) (Operand.tmp 137), type := 0, pos := "law.go:144", after := #[{ on := 18, ground := Ground.data }, { on := 19, ground := Ground.data }, { on := 16, ground := Ground.guard }], guard := some (16, true) }) (v := undef) rfl (by kernel_rfl) (by kernel_rfl) (by kernel_rfl) (fun _ _ _ h => h) (Or.inr ⟨by rfl, rfl⟩) (by assumption) ?_
                    try simp only [Act.put, List.setIfInBounds_toArray, List.set_cons_zero, List.set_cons_succ]
                    refine wpAnyH_take (i := 21) (oi := { dst := some 139, op := Op.load 27 (Operand.tmp 138), type := 27, pos := "law.go:144", after := #[{ on := 20, ground := Ground.data }, { on := 16, ground := Ground.guard }], guard := some (16, true) }) (v := undef) rfl (by kernel_rfl) (by kernel_rfl) (by kernel_rfl) (fun _ _ _ h => h) (Or.inr ⟨by rfl, rfl⟩) (by assumption) ?_
                    try simp only [Act.put, List.setIfInBounds_toArray, List.set_cons_zero, List.set_cons_succ]
                    refine wpAnyH_take (i := 22) (oi := { dst := some 140, op := Op.move (Operand.tmp 13), type := 46, pos := "law.go:144", after := #[{ on := 16, ground := Ground.guard }], guard := some (16, true) }) (v := undef) rfl (by kernel_rfl) (by kernel_rfl) (by kernel_rfl) (fun _ _ _ h => h) (Or.inr ⟨by rfl, rfl⟩) (by assumption) ?_
                    try simp only [Act.put, List.setIfInBounds_toArray, List.set_cons_zero, List.set_cons_succ]
                    refine wpAnyH_take (i := 23) (oi := { dst := some 141, op := Op.move (Operand.tmp 19), type := 3, pos := "law.go:144", after := #[{ on := 16, ground := Ground.guard }], guard := some (16, true) }) (v := undef) rfl (by kernel_rfl) (by kernel_rfl) (by kernel_rfl) (fun _ _ _ h => h) (Or.inr ⟨by rfl, rfl⟩) (by assumption) ?_
                    try simp only [Act.put, List.setIfInBounds_toArray, List.set_cons_zero, List.set_cons_succ]
                    refine wpAnyH_take (i := 24) (oi := { dst := some 142, op := Op.indexAddr 46 (Operand.tmp 140) (Operand.tmp 141), type := 0, pos := "law.go:144", after := #[{ on := 22, ground := Ground.data }, { on := 23, ground := Ground.data }, { on := 16, ground := Ground.guard }], guard := some (16, true) }) (v := undef) rfl (by kernel_rfl) (by kernel_rfl) (by kernel_rfl) (fun _ _ _ h => h) (Or.inr ⟨by rfl, rfl⟩) (by assumption) ?_
                    try simp only [Act.put, List.setIfInBounds_toArray, List.set_cons_zero, List.set_cons_succ]
                    refine wpAnyH_take (i := 25) (oi := { dst := some 143, op := Op.load 27 (Operand.tmp 142), type := 27, pos := "law.go:144", after := #[{ on := 24, ground := Ground.data }, { on := 16, ground := Ground.guard }], guard := some (16, true) }) (v := undef) rfl (by kernel_rfl) (by kernel_rfl) (by kernel_rfl) (fun _ _ _ h => h) (Or.inr ⟨by rfl, rfl⟩) (by assumption) ?_
                    try simp only [Act.put, List.setIfInBounds_toArray, List.set_cons_zero, List.set_cons_succ]
                    refine wpAnyH_take (i := 26) (oi := { dst := some 144, op := Op.call { callee := Callee.value (Operand.func 15), args := #[Operand.tmp 135, Operand.tmp 139, Operand.tmp 143], argTypes := #[29, 27, 27] }, type := 4, pos := "law.go:144", after := #[{ on := 17, ground := Ground.data }, { on := 21, ground := Ground.data }, { on := 25, ground := Ground.data }, { on := 16, ground := Ground.chain }, { on := 16, ground := Ground.guard }], guard := some (16, true) }) (v := undef) rfl (by kernel_rfl) (by kernel_rfl) (by kernel_rfl) (fun _ _ _ h => h) (Or.inr ⟨by rfl, rfl⟩) (by assumption) ?_
                    try simp only [Act.put, List.setIfInBounds_toArray, List.set_cons_zero, List.set_cons_succ]
                    refine wpAnyH_take (i := 27) (oi := { dst := some 145, op := Op.unOp UnOp.not 4 (Operand.tmp 144), type := 4, pos := "law.go:144", after := #[{ on := 26, ground := Ground.data }, { on := 16, ground := Ground.guard }], guard := some (16, true) }) (v := undef) rfl (by kernel_rfl) (by kernel_rfl) (by kernel_rfl) (fun _ _ _ h => h) (Or.inr ⟨by rfl, rfl⟩) (by assumption) ?_
                    try simp only [Act.put, List.setIfInBounds_toArray, List.set_cons_zero, List.set_cons_succ]
                    refine wpAnyH_take (i := 28) (oi := { dst := some 146, op := Op.pick (Operand.tmp 134) (Operand.tmp 145) (Operand.const (Value.bool false)), type := 4, pos := "law.go:144", after := #[{ on := 16, ground := Ground.data }, { on := 27, ground := Ground.data }, { on := 11, ground := Ground.guard }], guard := some (11, false) }) (v := ?v28f) rfl (by kernel_rfl) (by kernel_rfl) (by kernel_rfl) (fun _ _ _ h => h) (Or.inl ⟨by rfl, ?hy28f⟩) (by assumption) ?rest28f
                    case hy28f => (intro wq hSq; (try dsimp only at hSq); go_simp; try with_reducible rfl)
                    try simp only [Act.put, List.setIfInBounds_toArray, List.set_cons_zero, List.set_cons_succ]
                    refine wpAnyH_take (i := 29) (oi := { dst := some 147, op := Op.pick (Operand.tmp 129) (Operand.const (Value.bool true)) (Operand.tmp 146), type := 4, pos := "law.go:144", after := #[{ on := 11, ground := Ground.data }, { on := 28, ground := Ground.data }], guard := none }) (v := ?v29f) rfl (by kernel_rfl) (by kernel_rfl) (by kernel_rfl) (fun _ _ _ h => h) (Or.inl ⟨by rfl, ?hy29f⟩) (by assumption) ?rest29f
                    case hy29f => (intro wq hSq; (try dsimp only at hSq); go_simp; try with_reducible rfl)
                    try simp only [Act.put, List.setIfInBounds_toArray, List.set_cons_zero, List.set_cons_succ]
                    refine wpAnyH_done (by kernel_rfl) ?_ _
                    clear hHeld
                    go_wp2_with fail
                    go_roundw
                    case rel => exact ⟨k + 1, by omega, by go_num, hB8⟩
                    case measure => simp [intOf]; omega
                  · have PK : Hid (∀ W, Below w.heap.size w W → SlS W (.slice px Xk.length qx) Xk → SlS W (.slice py Yk.length qy) Yk → Calls Try.prog 15 #[.agg #[n, c, t2, t3, t4, t5, t6], .slice px Xk.length qx, .slice py Yk.length qy] W fun e w' => e = .returned (.bool true) ∧ Below W.heap.size W w') := by
                      intro W hB h1 h2
                      have h3 := less_p _ _ _ cs ab Xk Yk W ((HT.out.below hB (Nat.le_refl _)).th) h1 h2 HAB.out
                      rw [HLK.out HLB.out.symm] at h3
                      exact h3
                    refine wp_region_held_drew (S := (fun w' => w'.cell? ⟨w.heap.size, 0, none⟩ = some n ∧ w'.cell? ⟨w.heap.size, 1, none⟩ = some c ∧ w'.cell? ⟨w.heap.size, 2, none⟩ = some t2 ∧ w'.cell? ⟨w.heap.size, 3, none⟩ = some t3 ∧ w'.cell? ⟨w.heap.size, 4, none⟩ = some t4 ∧ w'.cell? ⟨w.heap.size, 5, none⟩ = some t5 ∧ w'.cell? ⟨w.heap.size, 6, none⟩ = some t6 ∧ (w'.cell? ⟨bx, ox + k, none⟩ = some (.slice px Xk.length qx) ∧ w'.cell? ⟨bz, oz + k, none⟩ = some (.slice py Yk.length qy) ∧ w'.cell? ⟨bw, ow + k, none⟩ = some (.slice pz Zk.length qz)))) (by kernel_rfl) ?_ (fun hHeld => ?_)
                    · exact cells7and re.out ⟨GXe.out, GYe.out, GZe.out⟩
                    refine wpAnyH_take (i := 0) (oi := { dst := some 118, op := Op.move (Operand.tmp 21), type := 33, pos := "law.go:144", after := #[], guard := none }) (v := ?v0t) rfl (by kernel_rfl) (by kernel_rfl) (by kernel_rfl) (fun _ _ _ h => h) (Or.inl ⟨by rfl, ?hy0t⟩) (by assumption) ?rest0t
                    case hy0t => (intro wq hSq; (try dsimp only at hSq); go_simp; try with_reducible rfl)
                    try simp only [Act.put, List.setIfInBounds_toArray, List.set_cons_zero, List.set_cons_succ]
                    refine wpAnyH_take (i := 1) (oi := { dst := some 119, op := Op.binOp BinOp.neq 33 (Operand.tmp 118) (Operand.const (Value.int IntKind.i64 0)) 33, type := 4, pos := "law.go:144", after := #[{ on := 0, ground := Ground.data }], guard := none }) (v := ?v1t) rfl (by kernel_rfl) (by kernel_rfl) (by kernel_rfl) (fun _ _ _ h => h) (Or.inl ⟨by rfl, ?hy1t⟩) (by assumption) ?rest1t
                    case hy1t => (intro wq hSq; (try dsimp only at hSq); go_simp; try with_reducible rfl)
                    try simp only [Act.put, List.setIfInBounds_toArray, List.set_cons_zero, List.set_cons_succ]
                    refine wpAnyH_take (i := 2) (oi := { dst := some 120, op := Op.move (Operand.tmp 119), type := 4, pos := "law.go:144", after := #[{ on := 1, ground := Ground.data }], guard := none }) (v := ?v2t) rfl (by kernel_rfl) (by kernel_rfl) (by kernel_rfl) (fun _ _ _ h => h) (Or.inl ⟨by rfl, ?hy2t⟩) (by assumption) ?rest2t
                    case hy2t => (intro wq hSq; (try dsimp only at hSq); go_simp; try with_reducible rfl)
                    try simp only [Act.put, List.setIfInBounds_toArray, List.set_cons_zero, List.set_cons_succ]
                    refine wpAnyH_take (i := 3) (oi := { dst := some 121, op := Op.move (Operand.tmp 20), type := 27, pos := "law.go:144", after := #[{ on := 2, ground := Ground.guard }], guard := some (2, false) }) (v := ?v3t) rfl (by kernel_rfl) (by kernel_rfl) (by kernel_rfl) (fun _ _ _ h => h) (Or.inl ⟨by rfl, ?hy3t⟩) (by assumption) ?rest3t
                    case hy3t => (intro wq hSq; (try dsimp only at hSq); go_simp; try with_reducible rfl)
                    try simp only [Act.put, List.setIfInBounds_toArray, List.set_cons_zero, List.set_cons_succ]
                    refine wpAnyH_take (i := 4) (oi := { dst := some 122, op := Op.move (Operand.tmp 17), type := 46, pos := "law.go:144", after := #[{ on := 2, ground := Ground.guard }], guard := some (2, false) }) (v := ?v4t) rfl (by kernel_rfl) (by kernel_rfl) (by kernel_rfl) (fun _ _ _ h => h) (Or.inl ⟨by rfl, ?hy4t⟩) (by assumption) ?rest4t
                    case hy4t => (intro wq hSq; (try dsimp only at hSq); go_simp; try with_reducible rfl)
                    try simp only [Act.put, List.setIfInBounds_toArray, List.set_cons_zero, List.set_cons_succ]
                    refine wpAnyH_take (i := 5) (oi := { dst := some 123, op := Op.move (Operand.tmp 19), type := 3, pos := "law.go:144", after := #[{ on := 2, ground := Ground.guard }], guard := some (2, false) }) (v := ?v5t) rfl (by kernel_rfl) (by kernel_rfl) (by kernel_rfl) (fun _ _ _ h => h) (Or.inl ⟨by rfl, ?hy5t⟩) (by assumption) ?rest5t
                    case hy5t => (intro wq hSq; (try dsimp only at hSq); go_simp; try with_reducible rfl)
                    try simp only [Act.put, List.setIfInBounds_toArray, List.set_cons_zero, List.set_cons_succ]
                    refine wpAnyH_take (i := 6) (oi := { dst := some 124, op := Op.indexAddr 46 (Operand.tmp 122) (Operand.tmp 123), type := 0, pos := "law.go:144", after := #[{ on := 4, ground := Ground.data }, { on := 5, ground := Ground.data }, { on := 2, ground := Ground.guard }], guard := some (2, false) }) (v := ?v6t) rfl (by kernel_rfl) (by kernel_rfl) (by kernel_rfl) (fun _ _ _ h => h) (Or.inl ⟨by rfl, ?hy6t⟩) (by assumption) ?rest6t
                    case hy6t => (intro wq hSq; (try dsimp only at hSq); go_simp; try with_reducible rfl)
                    try simp only [Act.put, List.setIfInBounds_toArray, List.set_cons_zero, List.set_cons_succ]
                    refine wpAnyH_take (i := 7) (oi := { dst := some 125, op := Op.load 27 (Operand.tmp 124), type := 27, pos := "law.go:144", after := #[{ on := 6, ground := Ground.data }, { on := 2, ground := Ground.guard }], guard := some (2, false) }) (v := ?v7t) rfl (by kernel_rfl) (by kernel_rfl) (by kernel_rfl) (fun _ _ _ h => h) (Or.inl ⟨by rfl, ?hy7t⟩) (by assumption) ?rest7t
                    case hy7t => (intro wq hSq; (try dsimp only at hSq); go_simp; try with_reducible rfl)
                    try simp only [Act.put, List.setIfInBounds_toArray, List.set_cons_zero, List.set_cons_succ]
                    refine wpAnyH_ready (rs := [8]) (by kernel_rfl) (by simp) ?_
                    refine AllReadyH.cons rfl (fun K hK => ?_) AllReadyH.nil
                    go_simp
                    go_wp2_with (go_at_call 23; (with_reducible refine EQ.out.mono ?_); rintro e wq ⟨rfl, hbq⟩; have rq := Lib.hid ((hbq.block w.heap.size hze).trans re.out); have GXq := Lib.hid ((hbq.cell (p := ⟨bx, ox + k, none⟩) hbxe).trans GXe.out); have GYq := Lib.hid ((hbq.cell (p := ⟨bz, oz + k, none⟩) hbye).trans GYe.out); have GZq := Lib.hid ((hbq.cell (p := ⟨bw, ow + k, none⟩) hbze).trans GZe.out); have hBq : Below w6.heap.size w6 wq := hBe.trans (hbq.mono hzze); have hBWq : Below w.heap.size w wq := hBWe.trans (hbq.mono (Nat.le_of_lt hze)); have hzq : w.heap.size < wq.heap.size := Nat.lt_of_lt_of_le hze hbq.size; have hzzq : w6.heap.size ≤ wq.heap.size := Nat.le_trans hzze hbq.size; have hbxq : bx < wq.heap.size := Nat.lt_of_lt_of_le hbxe hbq.size; have hbyq : bz < wq.heap.size := Nat.lt_of_lt_of_le hbye hbq.size; have hbzq : bw < wq.heap.size := Nat.lt_of_lt_of_le hbze hbq.size)
                    refine hK.out _ _ ?_ (fun hHeldN => ?_)
                    · (try dsimp only); exact cells7and rq.out ⟨GXq.out, GYq.out, GZq.out⟩
                    clear hK K hHeld
                    have hHeld := hHeldN
                    clear hHeldN
                    refine wpAnyH_take (i := 9) (oi := { dst := some 127, op := Op.unOp UnOp.not 4 (Operand.tmp 126), type := 4, pos := "law.go:144", after := #[{ on := 8, ground := Ground.data }, { on := 2, ground := Ground.guard }], guard := some (2, false) }) (v := ?v9t) rfl (by kernel_rfl) (by kernel_rfl) (by kernel_rfl) (fun _ _ _ h => h) (Or.inl ⟨by rfl, ?hy9t⟩) (by assumption) ?rest9t
                    case hy9t => (intro wq hSq; (try dsimp only at hSq); go_simp; try with_reducible rfl)
                    try simp only [Act.put, List.setIfInBounds_toArray, List.set_cons_zero, List.set_cons_succ]
                    refine wpAnyH_take (i := 10) (oi := { dst := some 128, op := Op.pick (Operand.tmp 120) (Operand.const (Value.bool true)) (Operand.tmp 127), type := 4, pos := "law.go:144", after := #[{ on := 2, ground := Ground.data }, { on := 9, ground := Ground.data }], guard := none }) (v := ?v10t) rfl (by kernel_rfl) (by kernel_rfl) (by kernel_rfl) (fun _ _ _ h => h) (Or.inl ⟨by rfl, ?hy10t⟩) (by assumption) ?rest10t
                    case hy10t => (intro wq hSq; (try dsimp only at hSq); go_simp; try with_reducible rfl)
                    try simp only [Act.put, List.setIfInBounds_toArray, List.set_cons_zero, List.set_cons_succ]
                    refine wpAnyH_take (i := 11) (oi := { dst := some 129, op := Op.move (Operand.tmp 128), type := 4, pos := "law.go:144", after := #[{ on := 10, ground := Ground.data }, { on := 8, ground := Ground.chain }], guard := none }) (v := ?v11t) rfl (by kernel_rfl) (by kernel_rfl) (by kernel_rfl) (fun _ _ _ h => h) (Or.inl ⟨by rfl, ?hy11t⟩) (by assumption) ?rest11t
                    case hy11t => (intro wq hSq; (try dsimp only at hSq); go_simp; try with_reducible rfl)
                    try simp only [Act.put, List.setIfInBounds_toArray, List.set_cons_zero, List.set_cons_succ]
                    refine wpAnyH_take (i := 12) (oi := { dst := some 130, op := Op.load 29 (Operand.tmp 5), type := 29, pos := "law.go:144", after := #[{ on := 11, ground := Ground.guard }], guard := some (11, false) }) (v := ?v12t) rfl (by kernel_rfl) (by kernel_rfl) (by kernel_rfl) (fun _ _ _ h => h) (Or.inl ⟨by rfl, ?hy12t⟩) (by assumption) ?rest12t
                    case hy12t => (intro wq hSq; (try dsimp only at hSq); go_simp; try with_reducible rfl)
                    try simp only [Act.put, List.setIfInBounds_toArray, List.set_cons_zero, List.set_cons_succ]
                    refine wpAnyH_take (i := 13) (oi := { dst := some 131, op := Op.move (Operand.tmp 2), type := 27, pos := "law.go:144", after := #[{ on := 11, ground := Ground.guard }], guard := some (11, false) }) (v := ?v13t) rfl (by kernel_rfl) (by kernel_rfl) (by kernel_rfl) (fun _ _ _ h => h) (Or.inl ⟨by rfl, ?hy13t⟩) (by assumption) ?rest13t
                    case hy13t => (intro wq hSq; (try dsimp only at hSq); go_simp; try with_reducible rfl)
                    try simp only [Act.put, List.setIfInBounds_toArray, List.set_cons_zero, List.set_cons_succ]
                    refine wpAnyH_take (i := 14) (oi := { dst := some 132, op := Op.move (Operand.tmp 3), type := 27, pos := "law.go:144", after := #[{ on := 11, ground := Ground.guard }], guard := some (11, false) }) (v := ?v14t) rfl (by kernel_rfl) (by kernel_rfl) (by kernel_rfl) (fun _ _ _ h => h) (Or.inl ⟨by rfl, ?hy14t⟩) (by assumption) ?rest14t
                    case hy14t => (intro wq hSq; (try dsimp only at hSq); go_simp; try with_reducible rfl)
                    try simp only [Act.put, List.setIfInBounds_toArray, List.set_cons_zero, List.set_cons_succ]
                    refine wpAnyH_ready (rs := [15]) (by kernel_rfl) (by simp) ?_
                    refine AllReadyH.cons rfl (fun K hK => ?_) AllReadyH.nil
                    go_simp
                    go_wp2_with (go_at_call 15; (with_reducible refine (PL.out _ hBWq).mono ?_); rintro e w8 ⟨rfl, hb8⟩; have r8 := Lib.hid ((hb8.block w.heap.size hzq).trans rq.out); have GX8 := Lib.hid ((hb8.cell (p := ⟨bx, ox + k, none⟩) hbxq).trans GXq.out); have GY8 := Lib.hid ((hb8.cell (p := ⟨bz, oz + k, none⟩) hbyq).trans GYq.out); have GZ8 := Lib.hid ((hb8.cell (p := ⟨bw, ow + k, none⟩) hbzq).trans GZq.out); have hB8 : Below w6.heap.size w6 w8 := hBq.trans (hb8.mono hzzq); have hBW8 : Below w.heap.size w w8 := hBWq.trans (hb8.mono (Nat.le_of_lt hzq)); have hz8 : w.heap.size < w8.heap.size := Nat.lt_of_lt_of_le hzq hb8.size; have hzz8 : w6.heap.size ≤ w8.heap.size := Nat.le_trans hzzq hb8.size; have hbx8 : bx < w8.heap.size := Nat.lt_of_lt_of_le hbxq hb8.size; have hby8 : bz < w8.heap.size := Nat.lt_of_lt_of_le hbyq hb8.size; have hbz8 : bw < w8.heap.size := Nat.lt_of_lt_of_le hbzq hb8.size)
                    refine hK.out _ _ ?_ (fun hHeldN => ?_)
                    · (try dsimp only); exact cells7and r8.out ⟨GX8.out, GY8.out, GZ8.out⟩
                    clear hK K hHeld
                    have hHeld := hHeldN
                    clear hHeldN
                    refine wpAnyH_take (i := 16) (oi := { dst := some 134, op := Op.move (Operand.tmp 133), type := 4, pos := "law.go:144", after := #[{ on := 15, ground := Ground.data }, { on := 15, ground := Ground.chain }, { on := 11, ground := Ground.guard }], guard := some (11, false) }) (v := ?v16t) rfl (by kernel_rfl) (by kernel_rfl) (by kernel_rfl) (fun _ _ _ h => h) (Or.inl ⟨by rfl, ?hy16t⟩) (by assumption) ?rest16t
                    case hy16t => (intro wq hSq; (try dsimp only at hSq); go_simp; try with_reducible rfl)
                    try simp only [Act.put, List.setIfInBounds_toArray, List.set_cons_zero, List.set_cons_succ]
                    refine wpAnyH_take (i := 17) (oi := { dst := some 135, op := Op.load 29 (Operand.tmp 5), type := 29, pos := "law.go:144", after := #[{ on := 16, ground := Ground.guard }], guard := some (16, true) }) (v := ?v17t) rfl (by kernel_rfl) (by kernel_rfl) (by kernel_rfl) (fun _ _ _ h => h) (Or.inl ⟨by rfl, ?hy17t⟩) (by assumption) ?rest17t
                    case hy17t => (intro wq hSq; (try dsimp only at hSq); go_simp; try with_reducible rfl)
                    try simp only [Act.put, List.setIfInBounds_toArray, List.set_cons_zero, List.set_cons_succ]
                    refine wpAnyH_take (i := 18) (oi := { dst := some 136, op := Op.move (Operand.tmp 11), type := 46, pos := "law.go:144", after := #[{ on := 16, ground := Ground.guard }], guard := some (16, true) }) (v := ?v18t) rfl (by kernel_rfl) (by kernel_rfl) (by kernel_rfl) (fun _ _ _ h => h) (Or.inl ⟨by rfl, ?hy18t⟩) (by assumption) ?rest18t
                    case hy18t => (intro wq hSq; (try dsimp only at hSq); go_simp; try with_reducible rfl)
                    try simp only [Act.put, List.setIfInBounds_toArray, List.set_cons_zero, List.set_cons_succ]
                    refine wpAnyH_take (i := 19) (oi := { dst := some 137, op := Op.move (Operand.tmp 19), type := 3, pos := "law.go:144", after := #[{ on := 16, ground := Ground.guard }], guard := some (16, true) }) (v := ?v19t) rfl (by kernel_rfl) (by kernel_rfl) (by kernel_rfl) (fun _ _ _ h => h) (Or.inl ⟨by rfl, ?hy19t⟩) (by assumption) ?rest19t
                    case hy19t => (intro wq hSq; (try dsimp only at hSq); go_simp; try with_reducible rfl)
                    try simp only [Act.put, List.setIfInBounds_toArray, List.set_cons_zero, List.set_cons_succ]
                    refine wpAnyH_take (i := 20) (oi := { dst := some 138, op := Op.indexAddr 46 (Operand.tmp 136) (Operand.tmp 137), type := 0, pos := "law.go:144", after := #[{ on := 18, ground := Ground.data }, { on := 19, ground := Ground.data }, { on := 16, ground := Ground.guard }], guard := some (16, true) }) (v := ?v20t) rfl (by kernel_rfl) (by kernel_rfl) (by kernel_rfl) (fun _ _ _ h => h) (Or.inl ⟨by rfl, ?hy20t⟩) (by assumption) ?rest20t
                    case hy20t => (intro wq hSq; (try dsimp only at hSq); go_simp; try with_reducible rfl)
                    try simp only [Act.put, List.setIfInBounds_toArray, List.set_cons_zero, List.set_cons_succ]
                    refine wpAnyH_take (i := 21) (oi := { dst := some 139, op := Op.load 27 (Operand.tmp 138), type := 27, pos := "law.go:144", after := #[{ on := 20, ground := Ground.data }, { on := 16, ground := Ground.guard }], guard := some (16, true) }) (v := ?v21t) rfl (by kernel_rfl) (by kernel_rfl) (by kernel_rfl) (fun _ _ _ h => h) (Or.inl ⟨by rfl, ?hy21t⟩) (by assumption) ?rest21t
                    case hy21t => (intro wq hSq; (try dsimp only at hSq); go_simp; try with_reducible rfl)
                    try simp only [Act.put, List.setIfInBounds_toArray, List.set_cons_zero, List.set_cons_succ]
                    refine wpAnyH_take (i := 22) (oi := { dst := some 140, op := Op.move (Operand.tmp 13), type := 46, pos := "law.go:144", after := #[{ on := 16, ground := Ground.guard }], guard := some (16, true) }) (v := ?v22t) rfl (by kernel_rfl) (by kernel_rfl) (by kernel_rfl) (fun _ _ _ h => h) (Or.inl ⟨by rfl, ?hy22t⟩) (by assumption) ?rest22t
                    case hy22t => (intro wq hSq; (try dsimp only at hSq); go_simp; try with_reducible rfl)
                    try simp only [Act.put, List.setIfInBounds_toArray, List.set_cons_zero, List.set_cons_succ]
                    refine wpAnyH_take (i := 23) (oi := { dst := some 141, op := Op.move (Operand.tmp 19), type := 3, pos := "law.go:144", after := #[{ on := 16, ground := Ground.guard }], guard := some (16, true) }) (v := ?v23t) rfl (by kernel_rfl) (by kernel_rfl) (by kernel_rfl) (fun _ _ _ h => h) (Or.inl ⟨by rfl, ?hy23t⟩) (by assumption) ?rest23t
                    case hy23t => (intro wq hSq; (try dsimp only at hSq); go_simp; try with_reducible rfl)
                    try simp only [Act.put, List.setIfInBounds_toArray, List.set_cons_zero, List.set_cons_succ]
                    refine wpAnyH_take (i := 24) (oi := { dst := some 142, op := Op.indexAddr 46 (Operand.tmp 140) (Operand.tmp 141), type := 0, pos := "law.go:144", after := #[{ on := 22, ground := Ground.data }, { on := 23, ground := Ground.data }, { on := 16, ground := Ground.guard }], guard := some (16, true) }) (v := ?v24t) rfl (by kernel_rfl) (by kernel_rfl) (by kernel_rfl) (fun _ _ _ h => h) (Or.inl ⟨by rfl, ?hy24t⟩) (by assumption) ?rest24t
                    case hy24t => (intro wq hSq; (try dsimp only at hSq); go_simp; try with_reducible rfl)
                    try simp only [Act.put, List.setIfInBounds_toArray, List.set_cons_zero, List.set_cons_succ]
                    refine wpAnyH_take (i := 25) (oi := { dst := some 143, op := Op.load 27 (Operand.tmp 142), type := 27, pos := "law.go:144", after := #[{ on := 24, ground := Ground.data }, { on := 16, ground := Ground.guard }], guard := some (16, true) }) (v := ?v25t) rfl (by kernel_rfl) (by kernel_rfl) (by kernel_rfl) (fun _ _ _ h => h) (Or.inl ⟨by rfl, ?hy25t⟩) (by assumption) ?rest25t
                    case hy25t => (intro wq hSq; (try dsimp only at hSq); go_simp; try with_reducible rfl)
                    try simp only [Act.put, List.setIfInBounds_toArray, List.set_cons_zero, List.set_cons_succ]
                    have PLV := Lib.hid (PK.out _ hBW8 (SX7.out.below (hbq.trans (hb8.mono hbq.size)) (Nat.le_refl _)) (SY7.out.below (hbq.trans (hb8.mono hbq.size)) (Nat.le_refl _)))
                    refine wpAnyH_ready (rs := [26]) (by kernel_rfl) (by simp) ?_
                    refine AllReadyH.cons rfl (fun K hK => ?_) AllReadyH.nil
                    go_simp
                    go_wp2_with (go_at_call 15; (with_reducible refine PLV.out.mono ?_); rintro e w9 ⟨rfl, hb9⟩; have r9 := Lib.hid ((hb9.block w.heap.size hz8).trans r8.out); have GX9 := Lib.hid ((hb9.cell (p := ⟨bx, ox + k, none⟩) hbx8).trans GX8.out); have GY9 := Lib.hid ((hb9.cell (p := ⟨bz, oz + k, none⟩) hby8).trans GY8.out); have GZ9 := Lib.hid ((hb9.cell (p := ⟨bw, ow + k, none⟩) hbz8).trans GZ8.out); have hB9 : Below w6.heap.size w6 w9 := hB8.trans (hb9.mono hzz8); have hBW9 : Below w.heap.size w w9 := hBW8.trans (hb9.mono (Nat.le_of_lt hz8)); have hz9 : w.heap.size < w9.heap.size := Nat.lt_of_lt_of_le hz8 hb9.size; have hzz9 : w6.heap.size ≤ w9.heap.size := Nat.le_trans hzz8 hb9.size; have hbx9 : bx < w9.heap.size := Nat.lt_of_lt_of_le hbx8 hb9.size; have hby9 : bz < w9.heap.size := Nat.lt_of_lt_of_le hby8 hb9.size; have hbz9 : bw < w9.heap.size := Nat.lt_of_lt_of_le hbz8 hb9.size)
                    refine hK.out _ _ ?_ (fun hHeldN => ?_)
                    · (try dsimp only); exact cells7and r9.out ⟨GX9.out, GY9.out, GZ9.out⟩
                    clear hK K hHeld
                    have hHeld := hHeldN
                    clear hHeldN
                    refine wpAnyH_take (i := 27) (oi := { dst := some 145, op := Op.unOp UnOp.not 4 (Operand.tmp 144), type := 4, pos := "law.go:144", after := #[{ on := 26, ground := Ground.data }, { on := 16, ground := Ground.guard }], guard := some (16, true) }) (v := ?v27t) rfl (by kernel_rfl) (by kernel_rfl) (by kernel_rfl) (fun _ _ _ h => h) (Or.inl ⟨by rfl, ?hy27t⟩) (by assumption) ?rest27t
                    case hy27t => (intro wq hSq; (try dsimp only at hSq); go_simp; try with_reducible rfl)
                    try simp only [Act.put, List.setIfInBounds_toArray, List.set_cons_zero, List.set_cons_succ]
                    refine wpAnyH_take (i := 28) (oi := { dst := some 146, op := Op.pick (Operand.tmp 134) (Operand.tmp 145) (Operand.const (Value.bool false)), type := 4, pos := "law.go:144", after := #[{ on := 16, ground := Ground.data }, { on := 27, ground := Ground.data }, { on := 11, ground := Ground.guard }], guard := some (11, false) }) (v := ?v28t) rfl (by kernel_rfl) (by kernel_rfl) (by kernel_rfl) (fun _ _ _ h => h) (Or.inl ⟨by rfl, ?hy28t⟩) (by assumption) ?rest28t
                    case hy28t => (intro wq hSq; (try dsimp only at hSq); go_simp; try with_reducible rfl)
                    try simp only [Act.put, List.setIfInBounds_toArray, List.set_cons_zero, List.set_cons_succ]
                    refine wpAnyH_take (i := 29) (oi := { dst := some 147, op := Op.pick (Operand.tmp 129) (Operand.const (Value.bool true)) (Operand.tmp 146), type := 4, pos := "law.go:144", after := #[{ on := 11, ground := Ground.data }, { on := 28, ground := Ground.data }], guard := none }) (v := ?v29t) rfl (by kernel_rfl) (by kernel_rfl) (by kernel_rfl) (fun _ _ _ h => h) (Or.inl ⟨by rfl, ?hy29t⟩) (by assumption) ?rest29t
                    case hy29t => (intro wq hSq; (try dsimp only at hSq); go_simp; try with_reducible rfl)
                    try simp only [Act.put, List.setIfInBounds_toArray, List.set_cons_zero, List.set_cons_succ]
                    refine wpAnyH_done (by kernel_rfl) ?_ _
                    clear hHeld
                    go_wp2_with fail
                    go_roundw
                    case rel => exact ⟨k + 1, by omega, by go_num, hB9⟩
                    case measure => simp [intOf]; omega
                · clear hzr
                  have hzr := hzw
                  obtain ⟨p0, p1, p2, p3, p4, p5, p6⟩ := cells7' rr.out
                  go_wp2_with fail
                  refine (P5.out _ hBr).mono ?_
                  rintro e u1 ⟨o1, x1, y1, q1, d1, rfl, hbu⟩
                  have hCu : Below w.heap.size w u1 := hBr.trans (hbu.mono (Nat.le_of_lt hzr))
                  have hzu : w.heap.size < u1.heap.size := Nat.lt_of_lt_of_le hzr hbu.size
                  have hbx := below_alloc u1 (Obj.cells #[.int .i64 o1, .string x1, .int .i64 0, .slice none 0 0, .slice y1 q1 d1] 51)
                  have ru := Lib.hid ((hbx.block w.heap.size hzu).trans ((hbu.block w.heap.size hzr).trans rr.out))
                  have hCx : Below w.heap.size w (u1.alloc (Obj.cells #[.int .i64 o1, .string x1, .int .i64 0, .slice none 0 0, .slice y1 q1 d1] 51)) := hCu.trans (hbx.mono (Nat.le_of_lt hzu))
                  have hzx : w.heap.size < (u1.alloc (Obj.cells #[.int .i64 o1, .string x1, .int .i64 0, .slice none 0 0, .slice y1 q1 d1] 51)).heap.size := Nat.lt_of_lt_of_le hzu hbx.size
                  clear p0 p1 p2 p3 p4 p5 p6
                  obtain ⟨p0, p1, p2, p3, p4, p5, p6⟩ := cells7' ru.out
                  go_wp2_with fail
                  refine (P6.out _ hCx).mono ?_
                  rintro e u2 ⟨o2, x2, y2, q2, d2, rfl, hbv⟩
                  have hCv : Below w.heap.size w u2 := hCx.trans (hbv.mono (Nat.le_of_lt hzx))
                  have hzv : w.heap.size < u2.heap.size := Nat.lt_of_lt_of_le hzx hbv.size
                  have hEE : (GE == GE) = true := by simp
                  cases k1
                  · go_wp2_with fail
                    refine (HA.out _).mono ?_
                    rintro e u3 ⟨rfl, hbw⟩
                    go_wp2_with fail
                    go_ret
                    exact ⟨rfl, (hCv.trans ((below_alloc u2 _).mono (Nat.le_of_lt hzv))).trans (hbw.mono (by simp; omega))⟩
                  · obtain rfl := HMO.out rfl
                    go_wp2_with fail
                    refine (HA.out _).mono ?_
                    rintro e u3 ⟨rfl, hbw⟩
                    go_wp2_with fail
                    go_ret
                    exact ⟨rfl, (hCv.trans ((below_alloc u2 _).mono (Nat.le_of_lt hzv))).trans (hbw.mono (by simp; omega))⟩
            · have hzz : ZL = [] := by rw [HZL.out, if_neg (by rw [h3]; decide)]
              have hl0 : ZL.length = 0 := by rw [hzz]; rfl
              subst h3
              clear hb3 hb4 hb5
              go_wp2_with fail
              go_loopw [102] (fun i wr => i = .int .i64 0 ∧ wr = w6) (fun _ _ => 0)
              case atStart => exact ⟨rfl, rfl⟩
              case round =>
                obtain ⟨rfl, hwr⟩ := hrel
                subst hwr
                go_wp2_with fail
                refine (P5.out _ hB6).mono ?_
                rintro e u1 ⟨o1, x1, y1, q1, d1, rfl, hbu⟩
                have hCu : Below w.heap.size w u1 := hB6.trans (hbu.mono (Nat.le_of_lt hz6))
                have hzu : w.heap.size < u1.heap.size := Nat.lt_of_lt_of_le hz6 hbu.size
                have hbx := below_alloc u1 (Obj.cells #[.int .i64 o1, .string x1, .int .i64 0, .slice none 0 0, .slice y1 q1 d1] 51)
                have ru := Lib.hid ((hbx.block w.heap.size hzu).trans ((hbu.block w.heap.size hz6).trans r6.out))
                have hCx : Below w.heap.size w (u1.alloc (Obj.cells #[.int .i64 o1, .string x1, .int .i64 0, .slice none 0 0, .slice y1 q1 d1] 51)) := hCu.trans (hbx.mono (Nat.le_of_lt hzu))
                have hzx : w.heap.size < (u1.alloc (Obj.cells #[.int .i64 o1, .string x1, .int .i64 0, .slice none 0 0, .slice y1 q1 d1] 51)).heap.size := Nat.lt_of_lt_of_le hzu hbx.size
                clear p0 p1 p2 p3 p4 p5 p6
                obtain ⟨p0, p1, p2, p3, p4, p5, p6⟩ := cells7' ru.out
                go_wp2_with fail
                refine (P6.out _ hCx).mono ?_
                rintro e u2 ⟨o2, x2, y2, q2, d2, rfl, hbv⟩
                have hCv : Below w.heap.size w u2 := hCx.trans (hbv.mono (Nat.le_of_lt hzx))
                have hzv : w.heap.size < u2.heap.size := Nat.lt_of_lt_of_le hzx hbv.size
                have hEE : (GE == GE) = true := by simp
                cases k1
                · go_wp2_with fail
                  refine (HA.out _).mono ?_
                  rintro e u3 ⟨rfl, hbw⟩
                  go_wp2_with fail
                  go_ret
                  exact ⟨rfl, (hCv.trans ((below_alloc u2 _).mono (Nat.le_of_lt hzv))).trans (hbw.mono (by simp; omega))⟩
                · obtain rfl := HMO.out rfl
                  go_wp2_with fail
                  refine (HA.out _).mono ?_
                  rintro e u3 ⟨rfl, hbw⟩
                  go_wp2_with fail
                  go_ret
                  exact ⟨rfl, (hCv.trans ((below_alloc u2 _).mono (Nat.le_of_lt hzv))).trans (hbw.mono (by simp; omega))⟩
          · have hfb : (E2 == 0) = false := by simpa using hf0
            clear hg0 he0 hf0
            go_wp2_with fail
            refine (P5.out _ hB5).mono ?_
            rintro e u1 ⟨o1, x1, y1, q1, d1, rfl, hbu⟩
            have hCu : Below w.heap.size w u1 := hB5.trans (hbu.mono (Nat.le_of_lt hz5))
            have hzu : w.heap.size < u1.heap.size := Nat.lt_of_lt_of_le hz5 hbu.size
            have hbx := below_alloc u1 (Obj.cells #[.int .i64 o1, .string x1, .int .i64 0, .slice none 0 0, .slice y1 q1 d1] 51)
            have ru := Lib.hid ((hbx.block w.heap.size hzu).trans ((hbu.block w.heap.size hz5).trans r5.out))
            have hCx : Below w.heap.size w (u1.alloc (Obj.cells #[.int .i64 o1, .string x1, .int .i64 0, .slice none 0 0, .slice y1 q1 d1] 51)) := hCu.trans (hbx.mono (Nat.le_of_lt hzu))
            have hzx : w.heap.size < (u1.alloc (Obj.cells #[.int .i64 o1, .string x1, .int .i64 0, .slice none 0 0, .slice y1 q1 d1] 51)).heap.size := Nat.lt_of_lt_of_le hzu hbx.size
            clear p0 p1 p2 p3 p4 p5 p6
            obtain ⟨p0, p1, p2, p3, p4, p5, p6⟩ := cells7' ru.out
            go_wp2_with fail
            refine (P6.out _ hCx).mono ?_
            rintro e u2 ⟨o2, x2, y2, q2, d2, rfl, hbv⟩
            have hCv : Below w.heap.size w u2 := hCx.trans (hbv.mono (Nat.le_of_lt hzx))
            have hzv : w.heap.size < u2.heap.size := Nat.lt_of_lt_of_le hzx hbv.size
            have hEE : (GE == GE) = true := by simp
            cases k1
            · go_wp2_with fail
              refine (HA.out _).mono ?_
              rintro e u3 ⟨rfl, hbw⟩
              go_wp2_with fail
              go_ret
              exact ⟨rfl, (hCv.trans ((below_alloc u2 _).mono (Nat.le_of_lt hzv))).trans (hbw.mono (by simp; omega))⟩
            · obtain rfl := HMO.out rfl
              go_wp2_with fail
              refine (HA.out _).mono ?_
              rintro e u3 ⟨rfl, hbw⟩
              go_wp2_with fail
              go_ret
              exact ⟨rfl, (hCv.trans ((below_alloc u2 _).mono (Nat.le_of_lt hzv))).trans (hbw.mono (by simp; omega))⟩
        · have heb : (E1 == 0) = false := by simpa using he0
          clear hg0 he0
          go_wp2_with fail
          refine (P5.out _ hB5).mono ?_
          rintro e u1 ⟨o1, x1, y1, q1, d1, rfl, hbu⟩
          have hCu : Below w.heap.size w u1 := hB5.trans (hbu.mono (Nat.le_of_lt hz5))
          have hzu : w.heap.size < u1.heap.size := Nat.lt_of_lt_of_le hz5 hbu.size
          have hbx := below_alloc u1 (Obj.cells #[.int .i64 o1, .string x1, .int .i64 0, .slice none 0 0, .slice y1 q1 d1] 51)
          have ru := Lib.hid ((hbx.block w.heap.size hzu).trans ((hbu.block w.heap.size hz5).trans r5.out))
          have hCx : Below w.heap.size w (u1.alloc (Obj.cells #[.int .i64 o1, .string x1, .int .i64 0, .slice none 0 0, .slice y1 q1 d1] 51)) := hCu.trans (hbx.mono (Nat.le_of_lt hzu))
          have hzx : w.heap.size < (u1.alloc (Obj.cells #[.int .i64 o1, .string x1, .int .i64 0, .slice none 0 0, .slice y1 q1 d1] 51)).heap.size := Nat.lt_of_lt_of_le hzu hbx.size
          clear p0 p1 p2 p3 p4 p5 p6
          obtain ⟨p0, p1, p2, p3, p4, p5, p6⟩ := cells7' ru.out
          go_wp2_with fail
          refine (P6.out _ hCx).mono ?_
          rintro e u2 ⟨o2, x2, y2, q2, d2, rfl, hbv⟩
          have hCv : Below w.heap.size w u2 := hCx.trans (hbv.mono (Nat.le_of_lt hzx))
          have hzv : w.heap.size < u2.heap.size := Nat.lt_of_lt_of_le hzx hbv.size
          have hEE : (GE == GE) = true := by simp
          cases k1
          · go_wp2_with fail
            refine (HA.out _).mono ?_
            rintro e u3 ⟨rfl, hbw⟩
            go_wp2_with fail
            go_ret
            exact ⟨rfl, (hCv.trans ((below_alloc u2 _).mono (Nat.le_of_lt hzv))).trans (hbw.mono (by simp; omega))⟩
          · obtain rfl := HMO.out rfl
            go_wp2_with fail
            refine (HA.out _).mono ?_
            rintro e u3 ⟨rfl, hbw⟩
            go_wp2_with fail
            go_ret
            exact ⟨rfl, (hCv.trans ((below_alloc u2 _).mono (Nat.le_of_lt hzv))).trans (hbw.mono (by simp; omega))⟩
      · have hgb : (G == 0) = false := by simpa using hg0
        clear hg0
        go_wp2_with fail
        refine (P5.out _ hB5).mono ?_
        rintro e u1 ⟨o1, x1, y1, q1, d1, rfl, hbu⟩
        have hCu : Below w.heap.size w u1 := hB5.trans (hbu.mono (Nat.le_of_lt hz5))
        have hzu : w.heap.size < u1.heap.size := Nat.lt_of_lt_of_le hz5 hbu.size
        have hbx := below_alloc u1 (Obj.cells #[.int .i64 o1, .string x1, .int .i64 0, .slice none 0 0, .slice y1 q1 d1] 51)
        have ru := Lib.hid ((hbx.block w.heap.size hzu).trans ((hbu.block w.heap.size hz5).trans r5.out))
        have hCx : Below w.heap.size w (u1.alloc (Obj.cells #[.int .i64 o1, .string x1, .int .i64 0, .slice none 0 0, .slice y1 q1 d1] 51)) := hCu.trans (hbx.mono (Nat.le_of_lt hzu))
        have hzx : w.heap.size < (u1.alloc (Obj.cells #[.int .i64 o1, .string x1, .int .i64 0, .slice none 0 0, .slice y1 q1 d1] 51)).heap.size := Nat.lt_of_lt_of_le hzu hbx.size
        clear p0 p1 p2 p3 p4 p5 p6
        obtain ⟨p0, p1, p2, p3, p4, p5, p6⟩ := cells7' ru.out
        go_wp2_with fail
        refine (P6.out _ hCx).mono ?_
        rintro e u2 ⟨o2, x2, y2, q2, d2, rfl, hbv⟩
        have hCv : Below w.heap.size w u2 := hCx.trans (hbv.mono (Nat.le_of_lt hzx))
        have hzv : w.heap.size < u2.heap.size := Nat.lt_of_lt_of_le hzx hbv.size
        have hEE : (GE == GE) = true := by simp
        cases k1
        · go_wp2_with fail
          refine (HA.out _).mono ?_
          rintro e u3 ⟨rfl, hbw⟩
          go_wp2_with fail
          go_ret
          exact ⟨rfl, (hCv.trans ((below_alloc u2 _).mono (Nat.le_of_lt hzv))).trans (hbw.mono (by simp; omega))⟩
        · obtain rfl := HMO.out rfl
          go_wp2_with fail
          refine (HA.out _).mono ?_
          rintro e u3 ⟨rfl, hbw⟩
          go_wp2_with fail
          go_ret
          exact ⟨rfl, (hCv.trans ((below_alloc u2 _).mono (Nat.le_of_lt hzv))).trans (hbw.mono (by simp; omega))⟩
end Go.Proofs.Ytehnikgdjnmfcaa

