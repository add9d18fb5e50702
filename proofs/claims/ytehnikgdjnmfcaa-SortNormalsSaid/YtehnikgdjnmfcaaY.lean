/- The law of least sorts. -/
import Derived.Test.YtehnikgdjnmfcaaX
namespace Go.Proofs.Ytehnikgdjnmfcaa
open Go.RowKit Go.WideMaps Go.Shelf

/-- a theory in memory, as far as the law looks at it -/
def ThF (w : World) (t : Value) (cs : List (Nm × List Nm)) : Prop :=
  ∃ n c p2 n2 k2 t3 t4 t5 t6, t = .agg #[n, c, .slice p2 n2 k2, t3, t4, t5, t6] ∧ SlC w c cs ∧ SlA w t3

theorem ThF.below {w w' : World} {B : Nat} {t : Value} {cs : List (Nm × List Nm)} (h : ThF w t cs) (hb : Below B w w') (hB : w.heap.size ≤ B) : ThF w' t cs := by
  obtain ⟨n, c, p2, n2, k2, t3, t4, t5, t6, e, h1, h2⟩ := h
  exact ⟨n, c, p2, n2, k2, t3, t4, t5, t6, e, h1.below hb hB, h2.below hb hB⟩

theorem ThF.th {w : World} {t : Value} {cs : List (Nm × List Nm)} (h : ThF w t cs) : ThAt w t cs := by
  obtain ⟨n, c, p2, n2, k2, t3, t4, t5, t6, e, h1, h2⟩ := h
  exact ⟨n, c, _, t3, t4, t5, t6, e, h1⟩

theorem fewT {w : World} {t : Value} {cs : List (Nm × List Nm)} (h : ThF w t cs) : Calls Try.prog 8 #[t] w (AB w) := by
  obtain ⟨n, c, p2, n2, k2, t3, t4, t5, t6, rfl, h1, h2⟩ := h
  exact few_any n c _ t3 t4 t5 t6 p2 n2 k2 cs w h1 rfl h2

theorem normErr_zero {ns ss : List Nm} (h : normErr ns ss = 0) : ss.length ≤ 20 ∧ ss.all (inNs ns) = true := by
  unfold normErr at h
  by_cases h1 : 20 < ss.length
  · rw [if_pos h1] at h; exact absurd h (by decide)
  · rw [if_neg h1] at h
    by_cases h2 : ss.all (inNs ns) = true
    · exact ⟨by omega, h2⟩
    · rw [if_neg h2] at h; exact absurd h (by decide)

theorem cells7 {w : World} {k : Nat} {a0 a1 a2 a3 a4 a5 a6 : Value} {t : TypeId} {fr : Nat × Nat} (h : w.heap[k]? = some (.cells #[a0, a1, a2, a3, a4, a5, a6] t fr)) :
    w.cell? ⟨k, 0, none⟩ = some a0 ∧ w.cell? ⟨k, 1, none⟩ = some a1 ∧ w.cell? ⟨k, 2, none⟩ = some a2 ∧ w.cell? ⟨k, 3, none⟩ = some a3 ∧ w.cell? ⟨k, 4, none⟩ = some a4 ∧ w.cell? ⟨k, 5, none⟩ = some a5 ∧ w.cell? ⟨k, 6, none⟩ = some a6 :=
  ⟨by rw [cell_of_row w _ 0 _ _ _ h]; rfl, by rw [cell_of_row w _ 1 _ _ _ h]; rfl, by rw [cell_of_row w _ 2 _ _ _ h]; rfl, by rw [cell_of_row w _ 3 _ _ _ h]; rfl, by rw [cell_of_row w _ 4 _ _ _ h]; rfl, by rw [cell_of_row w _ 5 _ _ _ h]; rfl, by rw [cell_of_row w _ 6 _ _ _ h]; rfl⟩

theorem slSS2 {w : World} {k c : Nat} {p1 p2 : Option Addr} {n1 c1 n2 c2 : Nat} {fr : Nat × Nat} (h : w.heap[k]? = some (.cells #[.slice p1 n1 c1, .slice p2 n2 c2] 27 fr)) : SlSS w (.slice (some ⟨k, 0, none⟩) 2 c) := by
  refine ⟨_, 2, c, rfl, by decide, fun _ => ⟨k, 0, rfl, (Array.getElem?_eq_some_iff.1 h).1, fun j hj => ?_⟩⟩
  rw [cell_of_row w _ _ _ _ _ h]
  have : j = 0 ∨ j = 1 := by omega
  rcases this with rfl | rfl
  · exact ⟨_, _, _, rfl⟩
  · exact ⟨_, _, _, rfl⟩

set_option maxRecDepth 100000 in
set_option maxHeartbeats 4000000 in
theorem sortLeast_any (t u v : Value) (cs : List (Nm × List Nm)) (ss ts : List Nm) (w : World) (ht : ThF w t cs) (hs : SlS w u ss) (hs2 : SlS w v ts) :
    Calls Try.prog 6 #[t, u, v] w fun e w' => e = .returned (.bool true) ∧ Below w.heap.size w w' := by
  have HT := Lib.hid ht
  have HS := Lib.hid hs
  have HS2 := Lib.hid hs2
  obtain ⟨_, sa, scap, rfl, _⟩ := hs
  obtain ⟨_, ta, tcap, rfl, _⟩ := hs2
  obtain ⟨n, c, p2, n2, k2, t3, t4, t5, t6, rfl, _, _⟩ := ht
  have HA := Lib.hid awake_any
  go_enter Try.func6, Try.ntmps6
  have hb0 := below_alloc w (Obj.cells #[n, c, .slice p2 n2 k2, t3, t4, t5, t6] 29)
  have r0 := Lib.hid (heap_alloc_new w (Obj.cells #[n, c, .slice p2 n2 k2, t3, t4, t5, t6] 29))
  have C0 := Lib.hid (fewT (HT.out.below hb0 (Nat.le_refl _)))
  have hz0 : w.heap.size < (w.alloc (Obj.cells #[n, c, .slice p2 n2 k2, t3, t4, t5, t6] 29)).heap.size := by simp
  go_wp2_with (first | (go_at_call 8; refine C0.out.mono ?_; rintro e w1 ⟨r, rfl, hb1⟩; cases r) | fail)
  · refine (HA.out _).mono ?_
    rintro e w2 ⟨rfl, hb2⟩
    go_wp2_with fail
    go_ret
    exact ⟨rfl, (hb0.trans (hb1.mono (by omega))).trans (hb2.mono (by have := hb1.size; omega))⟩
  · have hB1 : Below w.heap.size w w1 := hb0.trans (hb1.mono (by omega))
    have hz1 : w.heap.size < w1.heap.size := by have := hb1.size; omega
    have r1 := Lib.hid ((hb1.block w.heap.size hz0).trans r0.out)
    clear C0 r0 hb1 hb0 hz0
    have hb2 := below_alloc w1 (Obj.cells #[.slice sa ss.length scap, .slice ta ts.length tcap] 27)
    refine (fewSorts_any _ _ (slSS2 (heap_alloc_new w1 _))).mono ?_
    rintro e w2 ⟨r, rfl, hb3⟩
    have hB2 : Below w.heap.size w w2 := hB1.trans ((hb2.mono (by omega)).trans (hb3.mono (by simp; omega)))
    have hz2 : w.heap.size < w2.heap.size := by have := hb3.size; simp at this; omega
    have r2 := Lib.hid ((hb3.block w.heap.size (by simp; omega)).trans ((hb2.block w.heap.size hz1).trans r1.out))
    clear r1 hb2 hb3 hz1 hB1
    cases r
    · go_wp2_with fail
      refine (HA.out _).mono ?_
      rintro e w3 ⟨rfl, hb4⟩
      go_wp2_with fail
      go_ret
      exact ⟨rfl, hB2.trans (hb4.mono (by omega))⟩
    · obtain ⟨c0, c1, c2, c3, c4, c5, c6⟩ := cells7 r2.out
      go_wp2_with fail
      refine (normal_any _ _ cs ss w2 (HT.out.below hB2 (Nat.le_refl _)).th (HS.out.below hB2 (Nat.le_refl _))).mono ?_
      rintro e w3 ⟨v1, e1, rfl, hb3, hn1, hn2⟩
      have hB3 := hB2.trans (hb3.mono (Nat.le_of_lt hz2))
      have hz3 : w.heap.size < w3.heap.size := by have := hb3.size; omega
      have r3 := Lib.hid ((hb3.block w.heap.size hz2).trans r2.out)
      clear c0 c1 c2 c3 c4 c5 c6 r2
      obtain ⟨c0, c1, c2, c3, c4, c5, c6⟩ := cells7 r3.out
      have HN1 := Lib.hid hn1
      have HN2 := Lib.hid hn2
      clear hn1 hn2 hb3
      go_wp2_with fail
      refine (normal_any _ _ cs ts w3 (HT.out.below hB3 (Nat.le_refl _)).th (HS2.out.below hB3 (Nat.le_refl _))).mono ?_
      rintro e w4 ⟨v2, e2, rfl, hb4, hm1, hm2⟩
      have hB4 := hB3.trans (hb4.mono (Nat.le_of_lt hz3))
      have hz4 : w.heap.size < w4.heap.size := by have := hb4.size; omega
      have r4 := Lib.hid ((hb4.block w.heap.size hz3).trans r3.out)
      clear c0 c1 c2 c3 c4 c5 c6 r3
      by_cases h1 : e1 = 0
      · subst h1
        by_cases h2 : e2 = 0
        · subst h2
          have hcls : clsErr cs = 0 := Classical.byContradiction fun h => h (HN1.out h).symm
          obtain ⟨sp1, ab1, hu1, hq1, ho1⟩ := HN2.out hcls
          obtain ⟨sp2, ab2, hu2, hq2, ho2⟩ := hm2 hcls
          have ho1 := ho1 rfl
          have ho2 := ho2 rfl
          obtain ⟨l1, k1⟩ := normErr_zero hq1.symm
          obtain ⟨l2, k2'⟩ := normErr_zero hq2.symm
          have hk1 := List.all_eq_true.1 k1
          have hk2 := List.all_eq_true.1 k2'
          have E4 : Hid (∀ sp ab, Built cs sp ab → leastB (cs.map Prod.fst) (fun i => ab.getD i []) ss.reverse = leastB (cs.map Prod.fst) (fun i => ab1.getD i []) ss) :=
            fun sp ab hb => least_eq hb hu1 (fun x hx => hk1 x (List.mem_reverse.1 hx)) (fun x => List.mem_reverse)
          have E5 : Hid (∀ sp ab, Built cs sp ab → leastB (cs.map Prod.fst) (fun i => ab.getD i []) (leastB (cs.map Prod.fst) (fun i => ab1.getD i []) ss) = leastB (cs.map Prod.fst) (fun i => ab1.getD i []) ss) :=
            fun sp ab hb => least_least hu1 hb hk1
          have E6 : Hid (∀ sp ab sp' ab', Built cs sp ab → Built cs sp' ab' → (lessB (cs.map Prod.fst) (fun i => ab.getD i []) ss ts && lessB (cs.map Prod.fst) (fun i => ab'.getD i []) ts ss) = decide (leastB (cs.map Prod.fst) (fun i => ab1.getD i []) ss = leastB (cs.map Prod.fst) (fun i => ab2.getD i []) ts)) :=
            fun sp ab sp' ab' hb hb' => less_both hb hb' hu1 hu2 hk1 hk2
          have NR : Hid (normErr (cs.map Prod.fst) ss.reverse = 0) := by
            unfold Hid normErr
            rw [List.length_reverse, if_neg (by omega), if_pos (List.all_eq_true.2 fun x hx => hk1 x (List.mem_reverse.1 hx))]
          have NL : Hid (normErr (cs.map Prod.fst) (leastB (cs.map Prod.fst) (fun i => ab1.getD i []) ss) = 0) := by
            have h := List.length_filter_le (fun c => !(onceB ss).any (dropB (cs.map Prod.fst) (fun i => ab1.getD i []) c)) (onceB ss)
            have h' := onceB_len ss
            have hl : (leastB (cs.map Prod.fst) (fun i => ab1.getD i []) ss).length ≤ 20 := by
              show (List.filter _ (onceB ss)).length ≤ 20
              omega
            unfold Hid normErr
            rw [if_neg (by omega), if_pos (List.all_eq_true.2 fun x hx => hk1 x (least_sub hu1 x hx))]
          have ho1' := (ho1.below hb4 (Nat.le_refl _)).sl
          have ho2' := ho2.sl
          clear hk1 hk2 k1 k2' hu1 hu2 hq1 hq2
          generalize leastB (cs.map Prod.fst) (fun i => ab1.getD i []) ss = L at *
          generalize leastB (cs.map Prod.fst) (fun i => ab2.getD i []) ts = M at *
          have HL := Lib.hid ho1'
          have HMM := Lib.hid ho2'
          obtain ⟨_, _, a1, q1, hv1, _⟩ := ho1
          obtain ⟨_, _, a2, q2, hv2, _⟩ := ho2
          subst hv1
          subst hv2
          have HCLS := Lib.hid hcls
          clear HN1 HN2 hm1 hm2 hb4 hcls ho1' ho2'
          have hs4 := HS.out.below hB4 (Nat.le_refl _)
          go_wp2_with fail
          refine (clone_any _ ss w4 hs4 (by omega)).mono ?_
          rintro e w5 ⟨v3, rfl, ho3, hb5⟩
          have hB5 := hB4.trans (hb5.mono (Nat.le_of_lt hz4))
          have hz5 : w4.heap.size ≤ w5.heap.size := hb5.size
          have HO3 := Lib.hid ho3
          obtain ⟨_, _, a3, q3, rfl, _⟩ := ho3
          go_wp2_with fail
          refine (reverse_any w4.heap.size _ ss w5 HO3.out).mono ?_
          rintro e w6 ⟨rfl, ho4, hb6⟩
          have hB6 := hB5.trans (hb6.mono (Nat.le_of_lt hz4))
          have hz6 : w5.heap.size ≤ w6.heap.size := hb6.size
          have hlt6 : w.heap.size < w6.heap.size := by omega
          have r6 := Lib.hid ((hb6.block w.heap.size hz4).trans ((hb5.block w.heap.size hz4).trans r4.out))
          have HL6 := Lib.hid (HL.out.below (hb5.trans hb6) (Nat.le_refl _))
          have HM6 := Lib.hid (HMM.out.below (hb5.trans hb6) (Nat.le_refl _))
          have HR6 := Lib.hid ho4.sl
          clear HL HMM HO3 ho4 hb5 hb6 r4
          obtain ⟨c0, c1, c2, c3, c4, c5, c6⟩ := cells7 r6.out
          go_wp2_with fail
          refine (normal_any _ _ cs ss.reverse w6 (HT.out.below hB6 (Nat.le_refl _)).th HR6.out).mono ?_
          rintro e w7 ⟨v4, e4, rfl, hb7, hx, h7⟩
          clear hx
          obtain ⟨sp4, ab4, hu4, he4, ho7⟩ := h7 HCLS.out
          rw [NR.out] at he4
          subst he4
          have ho7 := ho7 rfl
          rw [E4.out sp4 ab4 hu4] at ho7
          have HX7 := Lib.hid ho7.sl
          obtain ⟨_, _, a4, q4, rfl, _⟩ := ho7
          have hB7 := hB6.trans (hb7.mono (Nat.le_of_lt hlt6))
          have hlt7 : w.heap.size < w7.heap.size := by have := hb7.size; omega
          have r7 := Lib.hid ((hb7.block w.heap.size hlt6).trans r6.out)
          have HL7 := Lib.hid (HL6.out.below hb7 (Nat.le_refl _))
          have HM7 := Lib.hid (HM6.out.below hb7 (Nat.le_refl _))
          clear h7 hu4 HL6 HM6 HR6 r6 hb7 c0 c1 c2 c3 c4 c5 c6
          obtain ⟨c0, c1, c2, c3, c4, c5, c6⟩ := cells7 r7.out
          go_wp2_with fail
          refine (normal_any _ _ cs L w7 (HT.out.below hB7 (Nat.le_refl _)).th HL7.out).mono ?_
          rintro e w8 ⟨v5, e5, rfl, hb8, hx, h8⟩
          clear hx
          obtain ⟨sp5, ab5, hu5, he5, ho8⟩ := h8 HCLS.out
          rw [NL.out] at he5
          subst he5
          have ho8 := ho8 rfl
          rw [E5.out sp5 ab5 hu5] at ho8
          have HY8 := Lib.hid ho8.sl
          obtain ⟨_, _, a5, q5, rfl, _⟩ := ho8
          have hB8 := hB7.trans (hb8.mono (Nat.le_of_lt hlt7))
          have hlt8 : w.heap.size < w8.heap.size := by have := hb8.size; omega
          have r8 := Lib.hid ((hb8.block w.heap.size hlt7).trans r7.out)
          have HL8 := Lib.hid (HL7.out.below hb8 (Nat.le_refl _))
          have HM8 := Lib.hid (HM7.out.below hb8 (Nat.le_refl _))
          have HX8 := Lib.hid (HX7.out.below hb8 (Nat.le_refl _))
          clear h8 hu5 HL7 HM7 HX7 r7 hb8 c0 c1 c2 c3 c4 c5 c6
          go_wp2_with fail
          refine (equal_any _ _ L L w8 HX8.out HL8.out).mono ?_
          rw [decide_eq_true rfl]
          rintro e w9 ⟨rfl, hb9⟩
          have hB9 := hB8.trans (hb9.mono (Nat.le_of_lt hlt8))
          have hlt9 : w.heap.size < w9.heap.size := by have := hb9.size; omega
          have r9 := Lib.hid ((hb9.block w.heap.size hlt8).trans r8.out)
          have HL9 := Lib.hid (HL8.out.below hb9 (Nat.le_refl _))
          have HM9 := Lib.hid (HM8.out.below hb9 (Nat.le_refl _))
          have HY9 := Lib.hid (HY8.out.below hb9 (Nat.le_refl _))
          clear HL8 HM8 HX8 HY8 r8 hb9
          go_wp2_with fail
          refine (equal_any _ _ L L w9 HY9.out HL9.out).mono ?_
          rw [decide_eq_true rfl]
          rintro e w10 ⟨rfl, hb10⟩
          have hB10 := hB9.trans (hb10.mono (Nat.le_of_lt hlt9))
          have hlt10 : w.heap.size < w10.heap.size := by have := hb10.size; omega
          have r10 := Lib.hid ((hb10.block w.heap.size hlt9).trans r9.out)
          have HL10 := Lib.hid (HL9.out.below hb10 (Nat.le_refl _))
          have HM10 := Lib.hid (HM9.out.below hb10 (Nat.le_refl _))
          clear HL9 HM9 HY9 r9 hb10
          obtain ⟨c0, c1, c2, c3, c4, c5, c6⟩ := cells7 r10.out
          go_wp2_with fail
          refine (lessT_any _ _ _ cs ss ts w10 (HT.out.below hB10 (Nat.le_refl _)).th (HS.out.below hB10 (Nat.le_refl _)) (HS2.out.below hB10 (Nat.le_refl _))).mono ?_
          rintro e w11 ⟨r, rfl, hb11, hx, h11⟩
          clear hx
          obtain ⟨sp6, ab6, hu6, hr⟩ := h11 HCLS.out
          have hB11 := hB10.trans (hb11.mono (Nat.le_of_lt hlt10))
          have hlt11 : w.heap.size < w11.heap.size := by have := hb11.size; omega
          have r11 := Lib.hid ((hb11.block w.heap.size hlt10).trans r10.out)
          have HL11 := Lib.hid (HL10.out.below hb11 (Nat.le_refl _))
          have HM11 := Lib.hid (HM10.out.below hb11 (Nat.le_refl _))
          clear h11 HL10 HM10 r10 hb11 c0 c1 c2 c3 c4 c5 c6
          cases r
          · have hE : Hid (decide (L = M) = false) := by
              unfold Hid
              rw [← E6.out _ _ _ _ hu6 hu6, ← hr]; rfl
            clear hu6 hr
            go_wp2_with fail
            refine (equal_any _ _ L M w11 HL11.out HM11.out).mono ?_
            rw [hE.out]
            rintro e w12 ⟨rfl, hb12⟩
            go_wp2_with fail
            refine (HA.out _).mono ?_
            rintro e w13 ⟨rfl, hb13⟩
            go_wp2_with fail
            go_ret
            exact ⟨rfl, (hB11.trans (hb12.mono (Nat.le_of_lt hlt11))).trans (hb13.mono (by have := hb12.size; omega))⟩
          · obtain ⟨c0, c1, c2, c3, c4, c5, c6⟩ := cells7 r11.out
            have HR := Lib.hid hr
            clear hr
            go_wp2_with fail
            refine (lessT_any _ _ _ cs ts ss w11 (HT.out.below hB11 (Nat.le_refl _)).th (HS2.out.below hB11 (Nat.le_refl _)) (HS.out.below hB11 (Nat.le_refl _))).mono ?_
            rintro e w12 ⟨r2, rfl, hb12, hx, h12⟩
            clear hx
            obtain ⟨sp7, ab7, hu7, hr2⟩ := h12 HCLS.out
            have hE : Hid (decide (L = M) = r2) := by
              unfold Hid
              rw [← E6.out _ _ _ _ hu6 hu7, ← HR.out, ← hr2]; rfl
            have hB12 := hB11.trans (hb12.mono (Nat.le_of_lt hlt11))
            have hlt12 : w.heap.size < w12.heap.size := by have := hb12.size; omega
            have HL12 := Lib.hid (HL11.out.below hb12 (Nat.le_refl _))
            have HM12 := Lib.hid (HM11.out.below hb12 (Nat.le_refl _))
            clear hu6 HR hu7 hr2 h12 HL11 HM11 hb12 c0 c1 c2 c3 c4 c5 c6
            cases r2
            · go_wp2_with fail
              refine (equal_any _ _ L M w12 HL12.out HM12.out).mono ?_
              rw [hE.out]
              rintro e w13 ⟨rfl, hb13⟩
              go_wp2_with fail
              refine (HA.out _).mono ?_
              rintro e w14 ⟨rfl, hb14⟩
              go_wp2_with fail
              go_ret
              exact ⟨rfl, (hB12.trans (hb13.mono (Nat.le_of_lt hlt12))).trans (hb14.mono (by have := hb13.size; omega))⟩
            · go_wp2_with fail
              refine (equal_any _ _ L M w12 HL12.out HM12.out).mono ?_
              rw [hE.out]
              rintro e w13 ⟨rfl, hb13⟩
              go_wp2_with fail
              refine (HA.out _).mono ?_
              rintro e w14 ⟨rfl, hb14⟩
              go_wp2_with fail
              go_ret
              exact ⟨rfl, (hB12.trans (hb13.mono (Nat.le_of_lt hlt12))).trans (hb14.mono (by have := hb13.size; omega))⟩
        · have hd : decide (e2 = 0) = false := by simpa using h2
          go_wp2_with fail
          refine (HA.out _).mono ?_
          rintro e w5 ⟨rfl, hb5⟩
          go_wp2_with fail
          go_ret
          exact ⟨rfl, hB4.trans (hb5.mono (Nat.le_of_lt hz4))⟩
      · have hd : decide (e1 = 0) = false := by simpa using h1
        go_wp2_with fail
        refine (HA.out _).mono ?_
        rintro e w5 ⟨rfl, hb5⟩
        go_wp2_with fail
        go_ret
        exact ⟨rfl, hB4.trans (hb5.mono (Nat.le_of_lt hz4))⟩
end Go.Proofs.Ytehnikgdjnmfcaa
