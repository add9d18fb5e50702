/- The reference's Ground 13. -/
import Derived.Test.YtehnikgdjnmfcaaGreatMZ32
import Derived.Test.YtehnikgdjnmfcaaGreatMZ27
import Derived.Test.YtehnikgdjnmfcaaGreatMZ31
import Derived.Test.YtehnikgdjnmfcaaGreatMZ33
namespace Go.Proofs.YtehnikgdjnmfcaaGreat
open Go.RowKit Go.WideMaps Go.Shelf Go.Sort Go.Lib
attribute [local go_sem] Oper.semAt_some

theorem gd_fail {w w' : World} {er x : Int} {d : Nat} {t : GT} {ok : Bool} (h1 : er = x) (h2 : ok = false) (h3 : t = .zero) (hb : Below w.heap.size w w') :
    GdPost w er d t ok (.returned (.tuple #[.agg #[.int .i64 0, .string ByteArray.empty, .int .i64 0, .slice none 0 0, .slice none 0 0], .bool false, .int .i64 x])) w' := by
  subst h1 h2 h3
  exact ⟨0, ByteArray.empty, none, 0, 0, rfl, hb, tyIs_zero _ _ _ _⟩

set_option maxRecDepth 100000 in
set_option maxHeartbeats 2000000 in
theorem ground_r (n c t2 t3 t4 t5 t6 v : Value) (cs : List (Nm × List Nm)) (ab0 : List (List Nat)) (ds : List (Nm × Int)) (rs : List Ar) (ss : List Nm) (dp : Int) (er : Int) (d : Nat) (t : GT) (ok : Bool) (w : World) (hc : SlC w c cs) (hd : SlT w t2 ds) (ha : SlAr w t3 rs)
    (hab : clsErr cs = 0 → ∃ sp, Built cs sp ab0) (hs : SlS w v ss)
    (H1 : groundErr cs ab0 ds rs ss ≠ 0 → er = groundErr cs ab0 ds rs ss ∧ t = .zero ∧ ok = false)
    (H2 : groundErr cs ab0 ds rs ss = 0 → dp < 0 ∨ 5 < dp → er = 4 ∧ t = .zero ∧ ok = false)
    (H3 : groundErr cs ab0 ds rs ss = 0 → ¬ (dp < 0 ∨ 5 < dp) → er = 0 ∧ dp = d ∧ t = gT cs ab0 ds rs d ss ∧ ok = gB cs ab0 ds rs d ss) :
    Calls Tryz.prog 13 #[.agg #[n, c, t2, t3, t4, t5, t6], v, .int .i64 dp] w (GdPost w er d t ok) := by
  have hb0 := below_alloc w (Obj.cells #[n, c, t2, t3, t4, t5, t6] 29)
  have r0 := heap_alloc_new w (Obj.cells #[n, c, t2, t3, t4, t5, t6] 29)
  have hz0 : (w.alloc (Obj.cells #[n, c, t2, t3, t4, t5, t6] 29)).heap.size = w.heap.size + 1 := by simp
  have hb1 := below_alloc (w.alloc (Obj.cells #[n, c, t2, t3, t4, t5, t6] 29)) (Obj.cells noT5 42)
  have r1 := heap_alloc_new (w.alloc (Obj.cells #[n, c, t2, t3, t4, t5, t6] 29)) (Obj.cells noT5 42)
  rw [hz0] at r1
  have hB1 := hb0.trans (hb1.mono (by omega))
  have R0 := Lib.hid ((hb1.block w.heap.size (by omega)).trans r0)
  have R1 := Lib.hid r1
  have hz1 : ((w.alloc (Obj.cells #[n, c, t2, t3, t4, t5, t6] 29)).alloc (Obj.cells noT5 42)).heap.size = w.heap.size + 2 := by simp
  have HC := Lib.hid hc
  have HD := Lib.hid hd
  have HA := Lib.hid ha
  have HS := Lib.hid hs
  have HAB := Lib.hid hab
  have HH1 := Lib.hid H1
  have HH2 := Lib.hid H2
  have HH3 := Lib.hid H3
  have CK := Lib.hid (check_r n c t2 t3 t4 t5 t6 cs ab0 ds rs _ (hc.below hB1 (Nat.le_refl _)) (hd.below hB1 (Nat.le_refl _)) (ha.below hB1 (Nat.le_refl _)) hab)
  obtain ⟨_, ca, ccap, rfl, _⟩ := hc
  obtain ⟨_, da, dcap, rfl, _⟩ := hd
  obtain ⟨_, aa, acap, rfl, _⟩ := ha
  obtain ⟨_, sa, scap, rfl, _⟩ := hs
  have HB1 := Lib.hid hB1
  have HZ1 := Lib.hid hz1
  clear hab H1 H2 H3 hb0 hb1 r0 r1 hB1 hz0 hz1
  go_enter Tryz.func13, Tryz.ntmps13
  go_wp2_with fail
  refine CK.out.mono ?_
  rintro e w1 ⟨rfl, hb1⟩
  have hz1 : w.heap.size + 2 ≤ w1.heap.size := by have := hb1.size; rw [HZ1.out] at this; exact this
  have hB1 : Below w.heap.size w w1 := HB1.out.trans (hb1.mono (by rw [HZ1.out]; omega))
  have Q0 := Lib.hid ((hb1.block w.heap.size (by rw [HZ1.out]; omega)).trans R0.out)
  have Q1 := Lib.hid ((hb1.block (w.heap.size + 1) (by rw [HZ1.out]; omega)).trans R1.out)
  clear CK R0 R1 HB1 HZ1 hb1
  by_cases h0 : chkErr cs ab0 ds rs = 0
  · obtain ⟨k1, k2, k3, k4⟩ := chk_zero h0
    obtain ⟨sp, hbu⟩ := HAB.out k1
    have HBU := Lib.hid hbu
    have HK1 := Lib.hid k1
    have HK2 := Lib.hid k2
    have HK3 := Lib.hid k3
    have hG : Hid (groundErr cs ab0 ds rs ss = normErr (cs.map Prod.fst) ss) := by unfold Hid groundErr; rw [if_pos h0]
    rw [h0]
    clear k1 k2 k3 k4 hbu h0
    obtain ⟨c0, c1, c2, c3, c4, c5, c6⟩ := cells7' Q0.out
    have hb3 := below_alloc w1 (Obj.cells #[.slice sa ss.length scap] 27)
    have q3 := heap_alloc_new w1 (Obj.cells #[.slice sa ss.length scap] 27)
    have hB3 := hB1.trans (hb3.mono (by omega))
    have hs3 := slSs1 (cap := 1) q3 (HS.out.below hB3 (Nat.le_refl _))
    have S0 := Lib.hid ((hb3.block w.heap.size (by omega)).trans Q0.out)
    have S1 := Lib.hid ((hb3.block (w.heap.size + 1) (by omega)).trans Q1.out)
    have hz3 : w.heap.size + 2 ≤ (w1.alloc (Obj.cells #[.slice sa ss.length scap] 27)).heap.size := Nat.le_trans hz1 hb3.size
    have SO := Lib.hid (sorts_any n _ (.slice da ds.length dcap) (.slice aa rs.length acap) t4 t5 t6 _ cs [ss] _ (HC.out.below hB3 (Nat.le_refl _)) hs3)
    rw [sorts_norm HK1.out] at SO
    clear hb3 q3 hs3 Q0 Q1
    go_wp2_with fail
    refine SO.out.mono ?_
    rintro e w4 ⟨rfl, hb4⟩
    have hB4 : Below w.heap.size w w4 := hB3.trans (hb4.mono (by omega))
    have hz4 : w.heap.size + 2 ≤ w4.heap.size := Nat.le_trans hz3 hb4.size
    have T0 := Lib.hid ((hb4.block w.heap.size (by omega)).trans S0.out)
    have T1 := Lib.hid ((hb4.block (w.heap.size + 1) (by omega)).trans S1.out)
    clear c0 c1 c2 c3 c4 c5 c6 hb4 S0 S1 SO hB3 hz3
    by_cases hne : normErr (cs.map Prod.fst) ss = 0
    · have hG0 := Lib.hid (hG.out.trans hne)
      rw [hne]
      obtain ⟨c0, c1, c2, c3, c4, c5, c6⟩ := cells7' T0.out
      obtain ⟨⟨z0, z1, z2, z3, z4⟩, z5, z6, z7, z8, z9⟩ := five T1.out
      clear hne hG HH1
      by_cases hneg : dp < 0
      · obtain ⟨e1, e2, e3⟩ := HH2.out hG0.out (.inl hneg)
        have E1 := Lib.hid e1
        have E2 := Lib.hid e2
        have E3 := Lib.hid e3
        have hd1 : decide (dp < 0) = true := decide_eq_true hneg
        clear hneg e1 e2 e3 HH2 HH3
        go_wp2_with fail
        refine bodyPost_ret (results_row_tmp2 rfl _ _ (w.heap.size + 1) 42 noT5 (0, 0) _ rfl (row5 T1.out) Tryz.underlying42 rfl Tryz.size42) rfl ?_
        exact gd_fail E1.out E3.out E2.out (below5 hB4 (by omega))
      · have hd1 : decide (dp < 0) = false := decide_eq_false hneg
        by_cases hgt : 5 < dp
        · obtain ⟨e1, e2, e3⟩ := HH2.out hG0.out (.inr hgt)
          have E1 := Lib.hid e1
          have E2 := Lib.hid e2
          have E3 := Lib.hid e3
          have hd2 : decide (5 < dp) = true := decide_eq_true hgt
          clear hneg hgt e1 e2 e3 HH2 HH3
          go_wp2_with fail
          refine bodyPost_ret (results_row_tmp2 rfl _ _ (w.heap.size + 1) 42 noT5 (0, 0) _ rfl (row5 T1.out) Tryz.underlying42 rfl Tryz.size42) rfl ?_
          exact gd_fail E1.out E3.out E2.out (below5 hB4 (by omega))
        · have hd2 : decide (5 < dp) = false := decide_eq_false hgt
          obtain ⟨e1, rfl, e2, e3⟩ := HH3.out hG0.out (fun h => h.elim hneg hgt)
          have E1 := Lib.hid e1
          have E2 := Lib.hid e2
          have E3 := Lib.hid e3
          have hd5 : d ≤ 5 := by omega
          have FR := Lib.hid (firstR_any d n _ _ _ t4 t5 t6 _ cs sp ab0 ds rs ss w4 (HC.out.below hB4 (Nat.le_refl _)) HBU.out (clsErr_len HK1.out) (HD.out.below hB4 (Nat.le_refl _)) (HA.out.below hB4 (Nat.le_refl _)) HK3.out HK2.out (HS.out.below hB4 (Nat.le_refl _)) hd5)
          rw [← E2.out, ← E3.out] at FR
          unfold FrPost at FR
          clear hneg hgt e1 e2 e3 HH2 HH3 hd5
          go_wp2_with fail
          refine FR.out.mono ?_
          rintro e w5 ⟨o, x, a, k, q, rfl, hb5, ht5⟩
          have hB5 : Below w.heap.size w w5 := hB4.trans (hb5.mono (by omega))
          have hz5 := hb5.size
          have hb6 := below_alloc w5 (Obj.cells #[.int .i64 o, .string x, .int .i64 0, .slice none 0 0, .slice a k q] 42)
          have r6 := heap_alloc_new w5 (Obj.cells #[.int .i64 o, .string x, .int .i64 0, .slice none 0 0, .slice a k q] 42)
          have U1 := Lib.hid ((hb6.block (w.heap.size + 1) (by omega)).trans ((hb5.block (w.heap.size + 1) (by omega)).trans T1.out))
          have HT6 := Lib.hid (ht5.below hb6)
          have hB6 := hB5.trans (hb6.mono (by omega))
          clear z0 z1 z2 z3 z4 z5 z6 z7 z8 z9 c0 c1 c2 c3 c4 c5 c6 ht5 hb5 FR T0 T1 hb6
          obtain ⟨⟨z0, z1, z2, z3, z4⟩, z5, z6, z7, z8, z9⟩ := five U1.out
          obtain ⟨⟨v0, v1, v2, v3, v4⟩, _⟩ := five r6
          clear r6
          go_wp2_with fail
          refine bodyPost_ret (results_row_tmp2 rfl _ _ (w.heap.size + 1) 42 #[.int .i64 o, .string x, .int .i64 0, .slice none 0 0, .slice a k q] (0, 0) _ rfl (row5 U1.out) Tryz.underlying42 rfl Tryz.size42) rfl ?_
          exact ⟨o, x, a, k, q, by rw [E1.out]; rfl, below5 hB6 (by omega), HT6.out.turn (by simp) (fun b i u hh hc => (World.cell?_of_block (a := ⟨b, i, none⟩) (block5 fun e => hh (by have e' : b = w.heap.size + 1 := e; show b < w4.heap.size; omega))).trans hc) (fun b _ hx => by show b < w4.heap.size; have hx : b < w.heap.size := hx; omega)⟩
    · have HNZ := Lib.hid hne
      obtain ⟨e1, e2, e3⟩ := HH1.out (by rw [hG.out]; exact hne)
      rw [hG.out] at e1
      have E1 := Lib.hid e1
      have E2 := Lib.hid e2
      have E3 := Lib.hid e3
      clear e1 e2 e3 hG HH1 HH2 HH3
      generalize normErr (cs.map Prod.fst) ss = ne at *
      have hd : (ne != 0) = true := by simpa using HNZ.out
      obtain ⟨⟨z0, z1, z2, z3, z4⟩, z5, z6, z7, z8, z9⟩ := five T1.out
      clear hne
      go_wp2_with fail
      refine bodyPost_ret (results_row_tmp2 rfl _ _ (w.heap.size + 1) 42 noT5 (0, 0) _ rfl (row5 T1.out) Tryz.underlying42 rfl Tryz.size42) rfl ?_
      exact gd_fail E1.out E3.out E2.out (below5 hB4 (by omega))
  · have HNZ := Lib.hid h0
    have hG : groundErr cs ab0 ds rs ss = chkErr cs ab0 ds rs := by unfold groundErr; rw [if_neg h0]
    obtain ⟨e1, e2, e3⟩ := HH1.out (by rw [hG]; exact h0)
    rw [hG] at e1
    have E1 := Lib.hid e1
    have E2 := Lib.hid e2
    have E3 := Lib.hid e3
    clear e1 e2 e3 hG HH1 HH2 HH3
    generalize chkErr cs ab0 ds rs = ce at *
    have hd : (ce != 0) = true := by simpa using HNZ.out
    obtain ⟨⟨z0, z1, z2, z3, z4⟩, z5, z6, z7, z8, z9⟩ := five Q1.out
    clear h0
    go_wp2_with fail
    refine bodyPost_ret (results_row_tmp2 rfl _ _ (w.heap.size + 1) 42 noT5 (0, 0) _ rfl (row5 Q1.out) Tryz.underlying42 rfl Tryz.size42) rfl ?_
    exact gd_fail E1.out E3.out E2.out (below5 hB1 (by omega))
end Go.Proofs.YtehnikgdjnmfcaaGreat

