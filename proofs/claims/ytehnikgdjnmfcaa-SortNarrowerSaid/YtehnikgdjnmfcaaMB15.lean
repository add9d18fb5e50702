/- slices.Concat of two slices of strings. -/
import Derived.Test.YtehnikgdjnmfcaaMB13
import Derived.Test.YtehnikgdjnmfcaaMB11
import Derived.Test.YtehnikgdjnmfcaaMB14
import Derived.Deep.AppendSrc
import Derived.Deep.Upon
import Derived.Deep.RegionHeld3
namespace Go.Proofs.Ytehnikgdjnmfcaa
open Go.RowKit Go.WideMaps Go.Shelf Go.Sort Go.Lib Go.Deep

theorem wpList_append_sls (w : World) {ops : Array Oper} {rest : List Oper} {o : Oper} {a : Act} {Q : Exit → Act → World → Prop} (hgd : o.guard = none) (s x : Operand)
    (ho : o.op = .call { callee := .builtin .append, args := #[s, x], argTypes := #[27, 27] }) (base : Nat) (v vx : Value) (n : Nat) (xs : List Value) (ss : List Nm) (hs : a.eval s = v) (hown : w.ownsRow base 9 1 v n xs) (hx : a.eval x = vx) (hsl : SlS w vx ss)
    (hb : (n + ss.length) * 16 ≤ 140737488355328) (hbase : base ≤ w.heap.size)
    (h : ∀ v' w', w'.ownsRow base 9 1 v' (n + ss.length) (xs ++ ss.map encStr) → w.grownBy w' v.ownBlock → wpList Try.prog ops Q rest (a.put o.dst v') w') :
    wpList Try.prog ops Q (o :: rest) a w := by
  obtain ⟨i0, hi, hq0, hq1, hq2⟩ := info_parts Try.info9
  obtain ⟨hl, sa, cap, rfl, hsx⟩ := hsl
  by_cases hn : 0 < ss.length
  · obtain ⟨b, off, rfl, hlt, hc, hw⟩ := hsx hn
    refine wpList_append_own w hgd s x 27 ho base 9 i0 (.string ByteArray.empty) 1 16 Try.underlying27 hi hq0 hq1 hq2 rfl (by decide) v n xs hs hown ⟨b, off, none⟩ ss.length cap (ss.map encStr) hx (by simp) (fun j u hj => ?_) (fun u hu => ?_) (by unfold maxLen; omega) hb hbase (fun v' w' h1 h2 _ => h v' w' h1 h2)
    · rw [List.getElem?_map] at hj
      obtain ⟨y, hy, rfl⟩ := Option.map_eq_some_iff.1 hj
      have hjl := (List.getElem?_eq_some_iff.1 hy).1
      have e : (Addr.add ⟨b, off, none⟩ j) = ⟨b, off + j, none⟩ := by
        unfold Addr.add
        by_cases h : j = 0
        · subst h; simp
        · simp [h]
      rw [e, hc j hjl, List.getD_eq_getElem?_getD, hy]; rfl
    · obtain ⟨y, _, rfl⟩ := List.mem_map.1 hu
      rfl
  · have h0 : ss = [] := List.eq_nil_of_length_eq_zero (by omega)
    subst h0
    have hform : ∃ p l c, v = .slice p l c ∧ l ≤ c ∧ l = n := by
      rcases hown.2 with ⟨e1, e2⟩ | ⟨g, cap', cur, e1, _, _, hle, _⟩
      · exact ⟨none, 0, 0, e1, Nat.le_refl _, e2.symm⟩
      · exact ⟨_, n, cap', e1, hle, rfl⟩
    obtain ⟨p, l, c, rfl, hle, rfl⟩ := hform
    have hsrc : Src Try.prog i0.size 27 (.slice sa 0 cap) 0 [] w := by
      cases sa with
      | none => exact Src.ofNil _ Try.underlying27 cap
      | some ad => exact Src.ofSlice _ Try.underlying27 ad 0 cap [] (by simp) (fun j u hj => by simp at hj) (fun u hu => by simp at hu)
    have hr := run_append_nothing w 27 27 o.type 9 i0 Try.underlying27 hi p l c hle (.slice sa 0 cap) hsrc
    refine wpList_plain hgd fun K hK => ?_
    unfold Oper.wp execOp
    have hx' : a.eval x = .slice sa 0 cap := hx
    simp only [ho, resolve, invoke, builtin, Sem.run_bind, Sem.run_pure, Result.andThen_ok, List.map_toArray, List.map_cons, List.map_nil, hs, hx', hr]
    exact hK _ _ (h _ _ (by simpa using hown) (World.grownBy.refl _ _))

theorem grow_any (n : Nat) (w : World) (hn : n * 16 ≤ 140737488355328) :
    Calls Try.prog 79 #[.slice none 0 0, .int .i64 (n : Int)] w fun e w' => ∃ v', e = .returned v' ∧ w'.ownsRow w.heap.size 9 1 v' 0 [] ∧ Below w.heap.size w w' := by
  by_cases h0 : n = 0
  · subst h0
    refine (show Calls Try.prog 79 #[.slice none 0 0, .int .i64 ((0 : Nat) : Int)] w _ from Any8.slices_Grow_room Try.growL none 0 0 0 w (by omega) (by omega) (by omega) (by omega)).mono ?_
    rintro e w' ⟨rfl, rfl⟩
    exact ⟨_, rfl, World.ownsRow_nil _ _ _ _, RowKit.Below.refl _ _⟩
  · obtain ⟨i0, hi, hq0, hq1, hq2⟩ := info_parts Try.info9
    refine (show Calls Try.prog 79 #[.slice none 0 0, .int .i64 (n : Int)] w _ from Any8.slices_Grow_grow Try.growL i0 (.string ByteArray.empty) hi hq0 (by omega) none 0 0 n [] w (by omega) (by omega) (by rw [hq2]; omega) (by omega) (by simp) (fun _ => rfl) (fun a h => by cases h)).mono ?_
    rintro e w' ⟨rfl, rfl⟩
    have hb : RowKit.Below w.heap.size w (w.drew) := (RowKit.Below.refl _ w).drew
    refine ⟨_, rfl, ⟨by simp, .inr ⟨w.heap.size, _, _, rfl, Nat.le_refl _, heap_alloc_new w.drew _, Nat.zero_le _, ?_, ?_, by simp⟩⟩, hb.alloc (Nat.le_refl _) _⟩
    · exact grownCap_le_maxLen w _ _ _ (by unfold maxLen; omega)
    · have hg := grownCap_ge w (0 + n) 0 (Try.growL_ren.t 25)
      have hv : (Value.string ByteArray.empty).cells.size = 1 := rfl
      rw [Array.size_append, Array.size_append, size_zeroCells, size_zeroCells, hv]
      simp
      simp at hg
      omega

def rowA (ss ts : List Nm) (k : Nat) : List Nm := if k = 0 then [] else if k = 1 then ss else ss ++ ts

def szA (ss ts : List Nm) (k : Nat) : Nat := if k = 0 then 0 else if k = 1 then ss.length else ss.length + ts.length

set_option maxRecDepth 100000 in
set_option maxHeartbeats 4000000 in
theorem concat2 (k c2 : Nat) (va vb : Value) (ss ts : List Nm) (w : World) (hk : w.heap[k]? = some (.cells #[va, vb] 27 (0, 0))) (ha : SlS w va ss) (hb : SlS w vb ts) (h1 : (ss.length + ts.length) * 16 ≤ 140737488355328) :
    Calls Try.prog 65 #[.slice (some ⟨k, 0, none⟩) 2 c2] w fun e w' => ∃ v', e = .returned v' ∧ SlO w' w.heap.size v' (ss ++ ts) ∧ Below w.heap.size w w' := by
  have HA := Lib.hid ha
  have HB := Lib.hid hb
  obtain ⟨_, sa, scap, rfl, _⟩ := ha
  obtain ⟨_, ta, tcap, rfl, _⟩ := hb
  obtain ⟨c0, c1⟩ := cells2 hk
  have HR := Lib.hid hk
  clear hk
  go_enter Try.func65, Try.ntmps65
  go_wp2_with fail
  have hsz : ∀ k : Nat, k < 3 → ((szA ss ts k : Nat) : Int) ≤ 8796093022208 := fun k hk => by unfold szA; split <;> (try split) <;> omega
  go_loop [3, 11] (fun s i => ∃ k : Nat, k ≤ 2 ∧ i = .int .i64 k ∧ s = .int .i64 (szA ss ts k : Nat)) (fun _ i => 2 - (intOf i).toNat)
  case atStart => exact ⟨0, by omega, rfl, rfl⟩
  case round =>
    obtain ⟨k, hk, rfl, rfl⟩ := hrel
    by_cases hlt : k < 2
    · have h01 : k = 0 ∨ k = 1 := by omega
      rcases h01 with rfl | rfl
      · have hd : decide (((ss.length : Nat) : Int) < 0) = false := by simp
        have e0 : szA ss ts 0 = 0 := rfl
        rw [e0]
        go_wp2_with fail
        exact ⟨⟨1, by omega, rfl, rfl⟩, by decide⟩
      · have hd : decide (((ss.length : Nat) : Int) + ((ts.length : Nat) : Int) < 0) = false := by simp; omega
        have e1 : szA ss ts 1 = ss.length := rfl
        rw [e1]
        go_wp2_with fail
        refine ⟨⟨2, by omega, rfl, ?_⟩, by decide⟩
        show _ = Value.int .i64 ((szA ss ts 2 : Nat) : Int)
        have e2 : szA ss ts 2 = ss.length + ts.length := rfl
        rw [e2]; simp
    · have hkk : k = 2 := by omega
      subst hkk
      have e2 : szA ss ts 2 = ss.length + ts.length := rfl
      rw [e2]
      go_wp2_with fail
      have eA : (((ss.length : Nat) : Int) + ((ts.length : Nat) : Int)) = ((ss.length + ts.length : Nat) : Int) := by simp
      rw [eA]
      clear eA
      refine (grow_any _ w (by omega)).mono ?_
      rintro e w1 ⟨v1, rfl, hown1, hb1⟩
      have HO := Lib.hid hown1
      obtain ⟨p1, q1, rfl⟩ := ownsRow_form hown1
      have hz1 := hb1.size
      have r1 := Lib.hid ((hb1.block k (Array.getElem?_eq_some_iff.1 HR.out).1).trans HR.out)
      have hklt : k < w.heap.size := (Array.getElem?_eq_some_iff.1 HR.out).1
      clear hown1 c0 c1
      go_wp2_with fail
      go_loopw [6, 27] (fun v i wr => ∃ j : Nat, j ≤ 2 ∧ i = .int .i64 j ∧ wr.ownsRow w.heap.size 9 1 v (rowA ss ts j).length ((rowA ss ts j).map encStr) ∧ RowKit.Below w.heap.size w wr) (fun _ i _ => 2 - (intOf i).toNat)
      case atStart => exact ⟨0, by omega, rfl, HO.out, hb1⟩
      case round =>
        obtain ⟨j, hj, rfl, hown, hB⟩ := hrel
        have hz := hB.size
        by_cases hlt : j < 2
        · obtain ⟨c0, c1⟩ := cells2 ((hB.block k hklt).trans HR.out)
          have h01 : j = 0 ∨ j = 1 := by omega
          rcases h01 with rfl | rfl
          · go_wp2_with (at_builtin; refine wpList_append_sls _ rfl _ _ rfl w.heap.size _ _ _ _ ss rfl hown rfl (HA.out.below hB (Nat.le_refl _)) (by show (0 + ss.length) * 16 ≤ _; omega) hz ?_; intro v' w5 h5 hg5)
            have hB5 : RowKit.Below w.heap.size w w5 := hB.grown hg5 hz (fun r er => ownBlock_ge hown er)
            have H5 : Hid (w5.ownsRow w.heap.size 9 1 v' (rowA ss ts 1).length ((rowA ss ts 1).map encStr)) := by
              have e : rowA ss ts 0 = [] := rfl
              rw [e] at h5
              simpa [rowA, Hid] using h5
            go_roundw
            case rel => exact ⟨1, by omega, rfl, H5.out, hB5⟩
            case measure => decide
          · go_wp2_with (at_builtin; refine wpList_append_sls _ rfl _ _ rfl w.heap.size _ _ _ _ ts rfl hown rfl (HB.out.below hB (Nat.le_refl _)) (by show (ss.length + ts.length) * 16 ≤ _; omega) hz ?_; intro v' w5 h5 hg5)
            have hB5 : RowKit.Below w.heap.size w w5 := hB.grown hg5 hz (fun r er => ownBlock_ge hown er)
            have H5 : Hid (w5.ownsRow w.heap.size 9 1 v' (rowA ss ts 2).length ((rowA ss ts 2).map encStr)) := by
              have e : rowA ss ts 1 = ss := rfl
              rw [e] at h5
              have e2 : rowA ss ts 2 = ss ++ ts := rfl
              unfold Hid
              rw [e2, List.length_append, List.map_append]; exact h5
            go_roundw
            case rel => exact ⟨2, by omega, rfl, H5.out, hB5⟩
            case measure => decide
        · have hjj : j = 2 := by omega
          subst hjj
          have e2 : rowA ss ts 2 = ss ++ ts := rfl
          rw [e2] at hown
          have hw : ∀ y ∈ ss ++ ts, y.length ≤ maxLen := fun y hy => by
            rcases List.mem_append.1 hy with h | h
            · obtain ⟨_, _, _, _, hx⟩ := HA.out
              obtain ⟨_, _, _, _, _, hw⟩ := hx (List.length_pos_of_mem h)
              exact hw y h
            · obtain ⟨_, _, _, _, hx⟩ := HB.out
              obtain ⟨_, _, _, _, _, hw⟩ := hx (List.length_pos_of_mem h)
              exact hw y h
          have HF : Hid (SlO wr w.heap.size _ (ss ++ ts)) := slO_of_own hown (by rw [List.length_append]; exact h1) hw
          clear hown e2 hw
          go_wp2_with fail
          go_ret
          exact ⟨_, rfl, HF.out, hB⟩
end Go.Proofs.Ytehnikgdjnmfcaa

/- Meet. -/
namespace Go.Proofs.Ytehnikgdjnmfcaa
open Go.RowKit Go.WideMaps Go.Shelf

def meetErr (ns : List Nm) (abv : Nat → List Nat) (ss ts : List Nm) : Int :=
  if normErr ns ss ≠ 0 then normErr ns ss else if normErr ns ts ≠ 0 then normErr ns ts else if 20 < (leastB ns abv (ss ++ ts)).length then 5 else 0

theorem meetErr_zero {ns : List Nm} {abv : Nat → List Nat} {ss ts : List Nm} (h : meetErr ns abv ss ts = 0) : normErr ns ss = 0 ∧ normErr ns ts = 0 ∧ (leastB ns abv (ss ++ ts)).length ≤ 20 := by
  unfold meetErr at h
  by_cases h1 : normErr ns ss = 0
  · rw [if_neg (by simpa using h1)] at h
    by_cases h2 : normErr ns ts = 0
    · rw [if_neg (by simpa using h2)] at h
      by_cases h3 : 20 < (leastB ns abv (ss ++ ts)).length
      · rw [if_pos h3] at h; exact absurd h (by decide)
      · exact ⟨h1, h2, by omega⟩
    · rw [if_pos h2] at h; exact absurd h h2
  · rw [if_pos h1] at h; exact absurd h h1

def MeetPost (w : World) (ns : List Nm) (abv : Nat → List Nat) (ss ts : List Nm) (e : Ending) (w' : World) : Prop :=
  ∃ v', e = .returned (.tuple #[v', .int .i64 (meetErr ns abv ss ts)]) ∧ Below w.heap.size w w' ∧ (meetErr ns abv ss ts = 0 → SlO w' w.heap.size v' (leastB ns abv (ss ++ ts)))

set_option maxRecDepth 100000 in
set_option maxHeartbeats 4000000 in
theorem meet_sig (g u v : Value) (ss ts ns : List Nm) (abv : Nat → List Nat) (w : World) (hg : SigAt w g ns abv) (hs : SlS w u ss) (ht : SlS w v ts) :
    Calls Try.prog 46 #[g, u, v] w (MeetPost w ns abv ss ts) := by
  have HG := Lib.hid hg
  have HS := Lib.hid hs
  have HT := Lib.hid ht
  obtain ⟨_, bm, c1, ga, capa, c3, c4, c5, rfl, _, _⟩ := hg
  obtain ⟨_, sa, scap, rfl, _⟩ := hs
  obtain ⟨_, ta, tcap, rfl, _⟩ := ht
  have hb0 := below_alloc w (Obj.cells #[.map (some bm), c1, .slice ga ns.length capa, c3, c4, c5] 66)
  have N0 := Lib.hid (normal_sig _ _ ss ns abv _ (HG.out.below hb0 (Nat.le_refl _)) (HS.out.below hb0 (Nat.le_refl _)))
  have r0 := Lib.hid (heap_alloc_new w (Obj.cells #[.map (some bm), c1, .slice ga ns.length capa, c3, c4, c5] 66))
  have hz0 : w.heap.size < (w.alloc (Obj.cells #[.map (some bm), c1, .slice ga ns.length capa, c3, c4, c5] 66)).heap.size := by simp
  go_enter Try.func46, Try.ntmps46
  go_wp2_with fail
  refine N0.out.mono ?_
  rintro e w1 ⟨v1, rfl, hb1, hx, hy⟩
  clear hx hy
  have hB1 : Below w.heap.size w w1 := hb0.trans (hb1.mono (by omega))
  have hz1 : w.heap.size < w1.heap.size := by have := hb1.size; omega
  have r1 := Lib.hid ((hb1.block w.heap.size hz0).trans r0.out)
  clear N0 r0 hb1 hb0 hz0
  by_cases h1 : normErr ns ss = 0
  · rw [h1]
    obtain ⟨p0, p1, p2, p3, p4, p5⟩ := cells6 r1.out
    have H1 := Lib.hid h1
    clear h1
    go_wp2_with fail
    refine (normal_sig _ _ ts ns abv w1 (HG.out.below hB1 (Nat.le_refl _)) (HT.out.below hB1 (Nat.le_refl _))).mono ?_
    rintro e w2 ⟨v2, rfl, hb2, hx, hy⟩
    clear hx hy
    have hB2 : Below w.heap.size w w2 := hB1.trans (hb2.mono (Nat.le_of_lt hz1))
    have hz2 : w.heap.size < w2.heap.size := by have := hb2.size; omega
    have r2 := Lib.hid ((hb2.block w.heap.size hz1).trans r1.out)
    clear p0 p1 p2 p3 p4 p5 r1 hb2
    by_cases h2 : normErr ns ts = 0
    · rw [h2]
      obtain ⟨l1, k1⟩ := normErr_zero H1.out
      obtain ⟨l2, k2⟩ := normErr_zero h2
      have H2 := Lib.hid h2
      have HK : Hid ((ss ++ ts).all (inNs ns) = true) := by unfold Hid; rw [List.all_append, k1, k2]; rfl
      clear h2 k1 k2
      obtain ⟨p0, p1, p2, p3, p4, p5⟩ := cells6 r2.out
      go_wp2_with fail
      have hb3 := (below_alloc w2 (Obj.cells #[.slice sa ss.length scap, .slice ta ts.length tcap] 27)).drew
      have rA := Lib.hid ((hb3.block w.heap.size hz2).trans r2.out)
      have hlen : (ss.length + ts.length) * 16 ≤ 140737488355328 := by omega
      have hlen2 : (ss ++ ts).length * 16 ≤ 140737488355328 := by rw [List.length_append]; omega
      have CC := Lib.hid (concat2 w2.heap.size 2 _ _ ss ts _ (show (w2.alloc (Obj.cells #[.slice sa ss.length scap, .slice ta ts.length tcap] 27)).drew.heap[w2.heap.size]? = _ from heap_alloc_new w2 _) ((HS.out.below hB2 (Nat.le_refl _)).below hb3 (Nat.le_refl _)) ((HT.out.below hB2 (Nat.le_refl _)).below hb3 (Nat.le_refl _)) hlen)
      have hBA : Below w.heap.size w (w2.alloc (Obj.cells #[.slice sa ss.length scap, .slice ta ts.length tcap] 27)).drew := hB2.trans (hb3.mono (Nat.le_of_lt hz2))
      have hzA : w.heap.size < (w2.alloc (Obj.cells #[.slice sa ss.length scap, .slice ta ts.length tcap] 27)).drew.heap.size := by have := hb3.size; omega
      generalize hWA : (w2.alloc (Obj.cells #[.slice sa ss.length scap, .slice ta ts.length tcap] 27)).drew = WA at *
      go_region_held3 (fun w' => w'.cell? ⟨w.heap.size, 0, none⟩ = some (.map (some bm)) ∧ w'.cell? ⟨w.heap.size, 1, none⟩ = some c1 ∧ w'.cell? ⟨w.heap.size, 2, none⟩ = some (.slice ga ns.length capa) ∧ w'.cell? ⟨w.heap.size, 3, none⟩ = some c3 ∧ w'.cell? ⟨w.heap.size, 4, none⟩ = some c4 ∧ w'.cell? ⟨w.heap.size, 5, none⟩ = some c5)
        (first | exact cells6 r2.out | exact cells6 rA.out | exact cells6 r4.out | exact cells6 r5.out)
        (first | (go_at_call 65; refine CC.out.mono ?_; rintro e w4 ⟨v4, rfl, ho4, hb4⟩; have r4 := Lib.hid ((hb4.block w.heap.size hzA).trans rA.out); have hB4 := hBA.trans (hb4.mono (Nat.le_of_lt hzA)); have hz4 : w.heap.size < w4.heap.size := Nat.lt_of_lt_of_le hzA hb4.size; have HO4 := Lib.hid ho4.sl; clear ho4 hb4) | (go_at_call 63; refine (least_any _ _ (ss ++ ts) ns abv _ (HG.out.below hB4 (Nat.le_refl _)) HO4.out hlen2 HK.out).mono ?_; rintro e w5 ⟨v5, rfl, ho5, hb5⟩; have r5 := Lib.hid ((hb5.block w.heap.size hz4).trans r4.out)))
      have hB5 := hB4.trans (hb5.mono (Nat.le_of_lt hz4))
      have HO5 := Lib.hid (ho5.base (Nat.le_of_lt hz4))
      obtain ⟨_, _, a5, q5, rfl, _⟩ := ho5
      have hEE : Hid (meetErr ns abv ss ts = if 20 < (leastB ns abv (ss ++ ts)).length then 5 else 0) := by
        unfold Hid meetErr
        rw [if_neg (by simpa using H1.out), if_neg (by simpa using H2.out)]
      clear p0 p1 p2 p3 p4 p5 hWA CC hb5 r4 r5 rA
      generalize hM : leastB ns abv (ss ++ ts) = M at *
      have HM := Lib.hid hM
      clear hM
      by_cases hm : 20 < M.length
      · have hd : decide (20 < ((M.length : Nat) : Int)) = true := by simp; omega
        have hE : Hid (meetErr ns abv ss ts = 5) := by unfold Hid; rw [hEE.out, if_pos hm]
        go_wp2_with fail
        go_ret2
        exact ⟨_, by rw [hE.out]; rfl, hB5, fun h => absurd (hE.out.symm.trans h) (by decide)⟩
      · have hd : decide (20 < ((M.length : Nat) : Int)) = false := by simp; omega
        have hE : Hid (meetErr ns abv ss ts = 0) := by unfold Hid; rw [hEE.out, if_neg hm]
        go_wp2_with fail
        go_ret2
        refine ⟨_, by rw [hE.out]; rfl, hB5, fun _ => ?_⟩
        rw [HM.out]
        exact HO5.out
    · have hd : decide (normErr ns ts = 0) = false := by simpa using h2
      have hE : Hid (meetErr ns abv ss ts = normErr ns ts) := by unfold Hid meetErr; rw [if_neg (by simpa using H1.out), if_pos h2]
      generalize hne : normErr ns ts = ne at *
      have H2 := Lib.hid h2
      go_wp2_with fail
      go_ret2
      exact ⟨_, by rw [hE.out]; rfl, hB2, fun h => absurd (hE.out.symm.trans h) H2.out⟩
  · have hd : decide (normErr ns ss = 0) = false := by simpa using h1
    have hE : Hid (meetErr ns abv ss ts = normErr ns ss) := by unfold Hid meetErr; rw [if_pos h1]
    generalize hne : normErr ns ss = ne at *
    have H1 := Lib.hid h1
    go_wp2_with fail
    go_ret2
    exact ⟨_, by rw [hE.out]; rfl, hB1, fun h => absurd (hE.out.symm.trans h) H1.out⟩
end Go.Proofs.Ytehnikgdjnmfcaa

/- The law of the order of sorts. -/
namespace Go.Proofs.Ytehnikgdjnmfcaa
open Go.RowKit Go.WideMaps Go.Shelf

/-- what Meet returns -/
def MeetTPost (w : World) (cs : List (Nm × List Nm)) (ss ts : List Nm) (e : Ending) (w' : World) : Prop :=
  ∃ v' er, e = .returned (.tuple #[v', .int .i64 er]) ∧ Below w.heap.size w w' ∧ (clsErr cs ≠ 0 → er = clsErr cs) ∧
    (clsErr cs = 0 → ∃ sp ab, Built cs sp ab ∧ er = meetErr (cs.map Prod.fst) (fun i => ab.getD i []) ss ts ∧ (er = 0 → SlO w' w.heap.size v' (leastB (cs.map Prod.fst) (fun i => ab.getD i []) (ss ++ ts))))

set_option maxRecDepth 100000 in
set_option maxHeartbeats 4000000 in
theorem meetT_any (t u v : Value) (cs : List (Nm × List Nm)) (ss ts : List Nm) (w : World) (ht : ThAt w t cs) (hs : SlS w u ss) (hs2 : SlS w v ts) :
    Calls Try.prog 21 #[t, u, v] w (MeetTPost w cs ss ts) := by
  obtain ⟨n, c, t2, t3, t4, t5, t6, rfl, hc⟩ := ht
  have HC := Lib.hid hc
  have HS := Lib.hid hs
  have HT := Lib.hid hs2
  obtain ⟨_, sa, scap, rfl, _⟩ := hs
  obtain ⟨_, ta, tcap, rfl, _⟩ := hs2
  obtain ⟨_, ca, ccap, rfl, _⟩ := hc
  go_enter Try.func21, Try.ntmps21
  go_wp2_with fail
  have hb0 := below_alloc w (Obj.cells #[n, .slice ca cs.length ccap, t2, t3, t4, t5, t6] 29)
  refine (signClasses_any _ cs _ (HC.out.below hb0 (Nat.le_refl _))).mono ?_
  rintro e w1 ⟨mb, a1, n1, k1, a2, n2, k2, rfl, hb1, hsig⟩
  have hB1 : Below w.heap.size w w1 := hb0.trans (hb1.mono (by simp))
  have hz1 := hB1.size
  by_cases h0 : clsErr cs = 0
  · obtain ⟨sp, ab, hbu, hsg⟩ := hsig h0
    have HSG := Lib.hid hsg
    have H0 := Lib.hid h0
    have HBU := Lib.hid hbu
    rw [h0]
    clear hsig h0 hbu
    go_wp2_with fail
    have hb2 := below_alloc w1 (Obj.cells #[.map mb, .slice a1 n1 k1, .slice a2 n2 k2, .slice none 0 0, .map none, .map none] 66)
    refine (meet_sig _ _ _ ss ts (cs.map Prod.fst) (fun i => ab.getD i []) _ (HSG.out.below hb2 (Nat.le_refl _)) ((HS.out.below hB1 (Nat.le_refl _)).below hb2 (Nat.le_refl _)) ((HT.out.below hB1 (Nat.le_refl _)).below hb2 (Nat.le_refl _))).mono ?_
    rintro e w2 ⟨v', rfl, hb3, h4⟩
    have hz2 := hb2.size
    have HE : Hid (MeetTPost w cs ss ts (.returned (.tuple #[v', .int .i64 (meetErr (cs.map Prod.fst) (fun i => ab.getD i []) ss ts)])) w2) :=
      ⟨v', _, rfl, hB1.trans ((hb2.mono hz1).trans (hb3.mono (by omega))), fun h => absurd H0.out h, fun _ => ⟨sp, ab, HBU.out, rfl, fun h => (h4 h).base (by omega)⟩⟩
    clear h4
    generalize meetErr (cs.map Prod.fst) (fun i => ab.getD i []) ss ts = r at *
    go_wp2_with fail
    go_ret2
    exact HE.out
  · have hd : decide (clsErr cs = 0) = false := by simpa using h0
    have H0 := Lib.hid h0
    generalize hce : clsErr cs = ce at *
    clear hsig
    go_wp2_with fail
    go_ret2
    refine ⟨_, ce, rfl, hB1.trans ((below_alloc w1 _).mono hz1), fun _ => hce.symm, fun h => absurd (hce.symm.trans h) H0.out⟩

/-- Less, where the classes are right -/
theorem lessT_fix {t u v : Value} {cs : List (Nm × List Nm)} {sp ab : List (List Nat)} {ss ts : List Nm} {w : World} (hb : Built cs sp ab) (h0 : clsErr cs = 0) (ht : ThAt w t cs) (hs : SlS w u ss) (hs2 : SlS w v ts)
    (k1 : ∀ x ∈ ss, inNs (cs.map Prod.fst) x = true) (k2 : ∀ x ∈ ts, inNs (cs.map Prod.fst) x = true) {r : Bool} (hr : lessB (cs.map Prod.fst) (fun i => ab.getD i []) ss ts = r) :
    Calls Try.prog 15 #[t, u, v] w fun e w' => e = .returned (.bool r) ∧ Below w.heap.size w w' := by
  refine (lessT_any t u v cs ss ts w ht hs hs2).mono ?_
  rintro e w' ⟨r', rfl, hbl, _, h⟩
  obtain ⟨sp', ab', hb', rfl⟩ := h h0
  refine ⟨?_, hbl⟩
  rw [lessB_eq hb hb' k1 k2, hr]

theorem slSS3 {w : World} {k c : Nat} {p1 p2 p3 : Option Addr} {n1 c1 n2 c2 n3 c3 : Nat} {fr : Nat × Nat} (h : w.heap[k]? = some (.cells #[.slice p1 n1 c1, .slice p2 n2 c2, .slice p3 n3 c3] 27 fr)) : SlSS w (.slice (some ⟨k, 0, none⟩) 3 c) := by
  refine ⟨_, 3, c, rfl, by decide, fun _ => ⟨k, 0, rfl, (Array.getElem?_eq_some_iff.1 h).1, fun j hj => ?_⟩⟩
  rw [cell_of_row w _ _ _ _ _ h]
  have : j = 0 ∨ j = 1 ∨ j = 2 := by omega
  rcases this with rfl | rfl | rfl
  · exact ⟨_, _, _, rfl⟩
  · exact ⟨_, _, _, rfl⟩
  · exact ⟨_, _, _, rfl⟩
end Go.Proofs.Ytehnikgdjnmfcaa

/- Normal and Meet, with what they return beside an error. -/
namespace Go.Proofs.Ytehnikgdjnmfcaa
open Go.RowKit Go.WideMaps Go.Shelf

def nErr (cs : List (Nm × List Nm)) (ss : List Nm) : Int := if clsErr cs = 0 then normErr (cs.map Prod.fst) ss else clsErr cs
def mErr (cs : List (Nm × List Nm)) (ab : List (List Nat)) (ss ts : List Nm) : Int := if clsErr cs = 0 then meetErr (cs.map Prod.fst) (fun i => ab.getD i []) ss ts else clsErr cs

/-- what Normal and Meet return: an error, and a sort where it is none -/
def NPost (w : World) (er : Int) (L : List Nm) (e : Ending) (w' : World) : Prop :=
  ∃ v', e = .returned (.tuple #[v', .int .i64 er]) ∧ Below w.heap.size w w' ∧ SlS w' v' (if er = 0 then L else [])

theorem meetErr_known {ns : List Nm} {abv : Nat → List Nat} {ss ts : List Nm} (h : meetErr ns abv ss ts = 0) : ∀ x ∈ ss ++ ts, inNs ns x = true := by
  obtain ⟨h1, h2, _⟩ := meetErr_zero h
  intro x hx
  rcases List.mem_append.1 hx with hx | hx
  · exact List.all_eq_true.1 (normErr_zero h1).2 x hx
  · exact List.all_eq_true.1 (normErr_zero h2).2 x hx

theorem meetErr_eq {cs : List (Nm × List Nm)} {sp ab sp' ab' : List (List Nat)} (hb : Built cs sp ab) (hb' : Built cs sp' ab') {ss ts : List Nm} :
    meetErr (cs.map Prod.fst) (fun i => ab.getD i []) ss ts = meetErr (cs.map Prod.fst) (fun i => ab'.getD i []) ss ts := by
  unfold meetErr
  by_cases h1 : normErr (cs.map Prod.fst) ss = 0
  · have n1 : ¬ (normErr (cs.map Prod.fst) ss ≠ 0) := by simpa using h1
    rw [if_neg n1, if_neg n1]
    by_cases h2 : normErr (cs.map Prod.fst) ts = 0
    · have n2 : ¬ (normErr (cs.map Prod.fst) ts ≠ 0) := by simpa using h2
      rw [if_neg n2, if_neg n2]
      rw [least_eq hb hb' (ss := ss ++ ts) (tt := ss ++ ts) (fun x hx => ?_) (fun _ => Iff.rfl)]
      rcases List.mem_append.1 hx with hx | hx
      · exact List.all_eq_true.1 (normErr_zero h1).2 x hx
      · exact List.all_eq_true.1 (normErr_zero h2).2 x hx
    · rw [if_pos h2, if_pos h2]
  · rw [if_pos h1, if_pos h1]

def MeetPost2 (w : World) (ns : List Nm) (abv : Nat → List Nat) (ss ts : List Nm) (e : Ending) (w' : World) : Prop :=
  ∃ v', e = .returned (.tuple #[v', .int .i64 (meetErr ns abv ss ts)]) ∧ Below w.heap.size w w' ∧ (meetErr ns abv ss ts = 0 → SlO w' w.heap.size v' (leastB ns abv (ss ++ ts))) ∧ (meetErr ns abv ss ts ≠ 0 → v' = .slice none 0 0)

set_option maxRecDepth 100000 in
set_option maxHeartbeats 4000000 in
theorem meet_sig2 (g u v : Value) (ss ts ns : List Nm) (abv : Nat → List Nat) (w : World) (hg : SigAt w g ns abv) (hs : SlS w u ss) (ht : SlS w v ts) :
    Calls Try.prog 46 #[g, u, v] w (MeetPost2 w ns abv ss ts) := by
  have HG := Lib.hid hg
  have HS := Lib.hid hs
  have HT := Lib.hid ht
  obtain ⟨_, bm, c1, ga, capa, c3, c4, c5, rfl, _, _⟩ := hg
  obtain ⟨_, sa, scap, rfl, _⟩ := hs
  obtain ⟨_, ta, tcap, rfl, _⟩ := ht
  have hb0 := below_alloc w (Obj.cells #[.map (some bm), c1, .slice ga ns.length capa, c3, c4, c5] 66)
  have N0 := Lib.hid (normal_sig _ _ ss ns abv _ (HG.out.below hb0 (Nat.le_refl _)) (HS.out.below hb0 (Nat.le_refl _)))
  have r0 := Lib.hid (heap_alloc_new w (Obj.cells #[.map (some bm), c1, .slice ga ns.length capa, c3, c4, c5] 66))
  have hz0 : w.heap.size < (w.alloc (Obj.cells #[.map (some bm), c1, .slice ga ns.length capa, c3, c4, c5] 66)).heap.size := by simp
  go_enter Try.func46, Try.ntmps46
  go_wp2_with fail
  refine N0.out.mono ?_
  rintro e w1 ⟨v1, rfl, hb1, hx, hy⟩
  clear hx hy
  have hB1 : Below w.heap.size w w1 := hb0.trans (hb1.mono (by omega))
  have hz1 : w.heap.size < w1.heap.size := by have := hb1.size; omega
  have r1 := Lib.hid ((hb1.block w.heap.size hz0).trans r0.out)
  clear N0 r0 hb1 hb0 hz0
  by_cases h1 : normErr ns ss = 0
  · rw [h1]
    obtain ⟨p0, p1, p2, p3, p4, p5⟩ := cells6 r1.out
    have H1 := Lib.hid h1
    clear h1
    go_wp2_with fail
    refine (normal_sig _ _ ts ns abv w1 (HG.out.below hB1 (Nat.le_refl _)) (HT.out.below hB1 (Nat.le_refl _))).mono ?_
    rintro e w2 ⟨v2, rfl, hb2, hx, hy⟩
    clear hx hy
    have hB2 : Below w.heap.size w w2 := hB1.trans (hb2.mono (Nat.le_of_lt hz1))
    have hz2 : w.heap.size < w2.heap.size := by have := hb2.size; omega
    have r2 := Lib.hid ((hb2.block w.heap.size hz1).trans r1.out)
    clear p0 p1 p2 p3 p4 p5 r1 hb2
    by_cases h2 : normErr ns ts = 0
    · rw [h2]
      obtain ⟨l1, k1⟩ := normErr_zero H1.out
      obtain ⟨l2, k2⟩ := normErr_zero h2
      have H2 := Lib.hid h2
      have HK : Hid ((ss ++ ts).all (inNs ns) = true) := by unfold Hid; rw [List.all_append, k1, k2]; rfl
      clear h2 k1 k2
      obtain ⟨p0, p1, p2, p3, p4, p5⟩ := cells6 r2.out
      go_wp2_with fail
      have hb3 := (below_alloc w2 (Obj.cells #[.slice sa ss.length scap, .slice ta ts.length tcap] 27)).drew
      have rA := Lib.hid ((hb3.block w.heap.size hz2).trans r2.out)
      have hlen : (ss.length + ts.length) * 16 ≤ 140737488355328 := by omega
      have hlen2 : (ss ++ ts).length * 16 ≤ 140737488355328 := by rw [List.length_append]; omega
      have CC := Lib.hid (concat2 w2.heap.size 2 _ _ ss ts _ (show (w2.alloc (Obj.cells #[.slice sa ss.length scap, .slice ta ts.length tcap] 27)).drew.heap[w2.heap.size]? = _ from heap_alloc_new w2 _) ((HS.out.below hB2 (Nat.le_refl _)).below hb3 (Nat.le_refl _)) ((HT.out.below hB2 (Nat.le_refl _)).below hb3 (Nat.le_refl _)) hlen)
      have hBA : Below w.heap.size w (w2.alloc (Obj.cells #[.slice sa ss.length scap, .slice ta ts.length tcap] 27)).drew := hB2.trans (hb3.mono (Nat.le_of_lt hz2))
      have hzA : w.heap.size < (w2.alloc (Obj.cells #[.slice sa ss.length scap, .slice ta ts.length tcap] 27)).drew.heap.size := by have := hb3.size; omega
      generalize hWA : (w2.alloc (Obj.cells #[.slice sa ss.length scap, .slice ta ts.length tcap] 27)).drew = WA at *
      go_region_held3 (fun w' => w'.cell? ⟨w.heap.size, 0, none⟩ = some (.map (some bm)) ∧ w'.cell? ⟨w.heap.size, 1, none⟩ = some c1 ∧ w'.cell? ⟨w.heap.size, 2, none⟩ = some (.slice ga ns.length capa) ∧ w'.cell? ⟨w.heap.size, 3, none⟩ = some c3 ∧ w'.cell? ⟨w.heap.size, 4, none⟩ = some c4 ∧ w'.cell? ⟨w.heap.size, 5, none⟩ = some c5)
        (first | exact cells6 r2.out | exact cells6 rA.out | exact cells6 r4.out | exact cells6 r5.out)
        (first | (go_at_call 65; refine CC.out.mono ?_; rintro e w4 ⟨v4, rfl, ho4, hb4⟩; have r4 := Lib.hid ((hb4.block w.heap.size hzA).trans rA.out); have hB4 := hBA.trans (hb4.mono (Nat.le_of_lt hzA)); have hz4 : w.heap.size < w4.heap.size := Nat.lt_of_lt_of_le hzA hb4.size; have HO4 := Lib.hid ho4.sl; clear ho4 hb4) | (go_at_call 63; refine (least_any _ _ (ss ++ ts) ns abv _ (HG.out.below hB4 (Nat.le_refl _)) HO4.out hlen2 HK.out).mono ?_; rintro e w5 ⟨v5, rfl, ho5, hb5⟩; have r5 := Lib.hid ((hb5.block w.heap.size hz4).trans r4.out)))
      have hB5 := hB4.trans (hb5.mono (Nat.le_of_lt hz4))
      have HO5 := Lib.hid (ho5.base (Nat.le_of_lt hz4))
      obtain ⟨_, _, a5, q5, rfl, _⟩ := ho5
      have hEE : Hid (meetErr ns abv ss ts = if 20 < (leastB ns abv (ss ++ ts)).length then 5 else 0) := by
        unfold Hid meetErr
        rw [if_neg (by simpa using H1.out), if_neg (by simpa using H2.out)]
      clear p0 p1 p2 p3 p4 p5 hWA CC hb5 r4 r5 rA
      generalize hM : leastB ns abv (ss ++ ts) = M at *
      have HM := Lib.hid hM
      clear hM
      by_cases hm : 20 < M.length
      · have hd : decide (20 < ((M.length : Nat) : Int)) = true := by simp; omega
        have hE : Hid (meetErr ns abv ss ts = 5) := by unfold Hid; rw [hEE.out, if_pos hm]
        go_wp2_with fail
        go_ret2
        exact ⟨_, by rw [hE.out]; rfl, hB5, fun h => absurd (hE.out.symm.trans h) (by decide), fun _ => rfl⟩
      · have hd : decide (20 < ((M.length : Nat) : Int)) = false := by simp; omega
        have hE : Hid (meetErr ns abv ss ts = 0) := by unfold Hid; rw [hEE.out, if_neg hm]
        go_wp2_with fail
        go_ret2
        refine ⟨_, by rw [hE.out]; rfl, hB5, fun _ => ?_, fun h => absurd hE.out h⟩
        rw [HM.out]
        exact HO5.out
    · have hd : decide (normErr ns ts = 0) = false := by simpa using h2
      have hE : Hid (meetErr ns abv ss ts = normErr ns ts) := by unfold Hid meetErr; rw [if_neg (by simpa using H1.out), if_pos h2]
      generalize hne : normErr ns ts = ne at *
      have H2 := Lib.hid h2
      go_wp2_with fail
      go_ret2
      exact ⟨_, by rw [hE.out]; rfl, hB2, fun h => absurd (hE.out.symm.trans h) H2.out, fun _ => rfl⟩
  · have hd : decide (normErr ns ss = 0) = false := by simpa using h1
    have hE : Hid (meetErr ns abv ss ts = normErr ns ss) := by unfold Hid meetErr; rw [if_pos h1]
    generalize hne : normErr ns ss = ne at *
    have H1 := Lib.hid h1
    go_wp2_with fail
    go_ret2
    exact ⟨_, by rw [hE.out]; rfl, hB1, fun h => absurd (hE.out.symm.trans h) H1.out, fun _ => rfl⟩

set_option maxRecDepth 100000 in
set_option maxHeartbeats 4000000 in
theorem normal_p (t v : Value) (cs : List (Nm × List Nm)) (ab0 : List (List Nat)) (ss : List Nm) (w : World) (ht : ThAt w t cs) (hs : SlS w v ss) (hab : clsErr cs = 0 → ∃ sp, Built cs sp ab0) :
    Calls Try.prog 19 #[t, v] w (NPost w (nErr cs ss) (leastB (cs.map Prod.fst) (fun i => ab0.getD i []) ss)) := by
  obtain ⟨n, c, t2, t3, t4, t5, t6, rfl, hc⟩ := ht
  have HC := Lib.hid hc
  have HS := Lib.hid hs
  obtain ⟨_, sa, scap, rfl, _⟩ := hs
  obtain ⟨_, ca, ccap, rfl, _⟩ := hc
  go_enter Try.func19, Try.ntmps19
  go_wp2_with fail
  have hb0 := below_alloc w (Obj.cells #[n, .slice ca cs.length ccap, t2, t3, t4, t5, t6] 29)
  refine (signClasses_any _ cs _ (HC.out.below hb0 (Nat.le_refl _))).mono ?_
  rintro e w1 ⟨mb, a1, n1, k1, a2, n2, k2, rfl, hb1, hsig⟩
  have hB1 : Below w.heap.size w w1 := hb0.trans (hb1.mono (by simp))
  have hz1 := hB1.size
  by_cases h0 : clsErr cs = 0
  · obtain ⟨sp, ab, hbu, hsg⟩ := hsig h0
    have HSG := Lib.hid hsg
    have H0 := Lib.hid h0
    have HBU := Lib.hid hbu
    rw [h0]
    clear hsig h0 hbu
    go_wp2_with fail
    have hb2 := below_alloc w1 (Obj.cells #[.map mb, .slice a1 n1 k1, .slice a2 n2 k2, .slice none 0 0, .map none, .map none] 66)
    refine (normal_sig _ _ ss (cs.map Prod.fst) (fun i => ab.getD i []) _ (HSG.out.below hb2 (Nat.le_refl _)) ((HS.out.below hB1 (Nat.le_refl _)).below hb2 (Nat.le_refl _))).mono ?_
    rintro e w2 ⟨v', rfl, hb3, h4, h5⟩
    have hz2 := hb2.size
    have HE : Hid (NPost w (nErr cs ss) (leastB (cs.map Prod.fst) (fun i => ab0.getD i []) ss) (.returned (.tuple #[v', .int .i64 (normErr (cs.map Prod.fst) ss)])) w2) := by
      have e1 : nErr cs ss = normErr (cs.map Prod.fst) ss := by unfold nErr; rw [if_pos H0.out]
      refine ⟨v', by rw [e1], hB1.trans ((hb2.mono hz1).trans (hb3.mono (by omega))), ?_⟩
      rw [e1]
      by_cases hn : normErr (cs.map Prod.fst) ss = 0
      · rw [if_pos hn]
        obtain ⟨sp0, hb0'⟩ := hab H0.out
        rw [← least_eq HBU.out hb0' (List.all_eq_true.1 (normErr_zero hn).2) (fun _ => Iff.rfl)]
        exact (h4 hn).sl
      · rw [if_neg hn, h5 hn]; exact slS0
    clear h4 h5
    generalize normErr (cs.map Prod.fst) ss = r at *
    go_wp2_with fail
    go_ret2
    exact HE.out
  · have hd : decide (clsErr cs = 0) = false := by simpa using h0
    have H0 := Lib.hid h0
    have HER : Hid (nErr cs ss = clsErr cs) := by unfold Hid nErr; rw [if_neg h0]
    generalize hce : clsErr cs = ce at *
    clear hsig
    go_wp2_with fail
    go_ret2
    refine ⟨_, by rw [HER.out]; rfl, hB1.trans ((below_alloc w1 _).mono hz1), ?_⟩
    rw [HER.out, if_neg H0.out]
    exact slS0

set_option maxRecDepth 100000 in
set_option maxHeartbeats 4000000 in
theorem meet_p (t u v : Value) (cs : List (Nm × List Nm)) (ab0 : List (List Nat)) (ss ts : List Nm) (w : World) (ht : ThAt w t cs) (hs : SlS w u ss) (hs2 : SlS w v ts) (hab : clsErr cs = 0 → ∃ sp, Built cs sp ab0) :
    Calls Try.prog 21 #[t, u, v] w (NPost w (mErr cs ab0 ss ts) (leastB (cs.map Prod.fst) (fun i => ab0.getD i []) (ss ++ ts))) := by
  obtain ⟨n, c, t2, t3, t4, t5, t6, rfl, hc⟩ := ht
  have HC := Lib.hid hc
  have HS := Lib.hid hs
  have HT := Lib.hid hs2
  obtain ⟨_, sa, scap, rfl, _⟩ := hs
  obtain ⟨_, ta, tcap, rfl, _⟩ := hs2
  obtain ⟨_, ca, ccap, rfl, _⟩ := hc
  go_enter Try.func21, Try.ntmps21
  go_wp2_with fail
  have hb0 := below_alloc w (Obj.cells #[n, .slice ca cs.length ccap, t2, t3, t4, t5, t6] 29)
  refine (signClasses_any _ cs _ (HC.out.below hb0 (Nat.le_refl _))).mono ?_
  rintro e w1 ⟨mb, a1, n1, k1, a2, n2, k2, rfl, hb1, hsig⟩
  have hB1 : Below w.heap.size w w1 := hb0.trans (hb1.mono (by simp))
  have hz1 := hB1.size
  by_cases h0 : clsErr cs = 0
  · obtain ⟨sp, ab, hbu, hsg⟩ := hsig h0
    have HSG := Lib.hid hsg
    have H0 := Lib.hid h0
    have HBU := Lib.hid hbu
    rw [h0]
    clear hsig h0 hbu
    go_wp2_with fail
    have hb2 := below_alloc w1 (Obj.cells #[.map mb, .slice a1 n1 k1, .slice a2 n2 k2, .slice none 0 0, .map none, .map none] 66)
    refine (meet_sig2 _ _ _ ss ts (cs.map Prod.fst) (fun i => ab.getD i []) _ (HSG.out.below hb2 (Nat.le_refl _)) ((HS.out.below hB1 (Nat.le_refl _)).below hb2 (Nat.le_refl _)) ((HT.out.below hB1 (Nat.le_refl _)).below hb2 (Nat.le_refl _))).mono ?_
    rintro e w2 ⟨v', rfl, hb3, h4, h5⟩
    have hz2 := hb2.size
    have HE : Hid (NPost w (mErr cs ab0 ss ts) (leastB (cs.map Prod.fst) (fun i => ab0.getD i []) (ss ++ ts)) (.returned (.tuple #[v', .int .i64 (meetErr (cs.map Prod.fst) (fun i => ab.getD i []) ss ts)])) w2) := by
      obtain ⟨sp0, hb0'⟩ := hab H0.out
      have e1 : mErr cs ab0 ss ts = meetErr (cs.map Prod.fst) (fun i => ab.getD i []) ss ts := by unfold mErr; rw [if_pos H0.out]; exact meetErr_eq hb0' HBU.out
      refine ⟨v', by rw [e1], hB1.trans ((hb2.mono hz1).trans (hb3.mono (by omega))), ?_⟩
      rw [e1]
      by_cases hn : meetErr (cs.map Prod.fst) (fun i => ab.getD i []) ss ts = 0
      · rw [if_pos hn]
        rw [← least_eq HBU.out hb0' (meetErr_known hn) (fun _ => Iff.rfl)]
        exact (h4 hn).sl
      · rw [if_neg hn, h5 hn]; exact slS0
    clear h4 h5
    generalize meetErr (cs.map Prod.fst) (fun i => ab.getD i []) ss ts = r at *
    go_wp2_with fail
    go_ret2
    exact HE.out
  · have hd : decide (clsErr cs = 0) = false := by simpa using h0
    have H0 := Lib.hid h0
    have HER : Hid (mErr cs ab0 ss ts = clsErr cs) := by unfold Hid mErr; rw [if_neg h0]
    generalize hce : clsErr cs = ce at *
    clear hsig
    go_wp2_with fail
    go_ret2
    refine ⟨_, by rw [HER.out]; rfl, hB1.trans ((below_alloc w1 _).mono hz1), ?_⟩
    rw [HER.out, if_neg H0.out]
    exact slS0
end Go.Proofs.Ytehnikgdjnmfcaa
