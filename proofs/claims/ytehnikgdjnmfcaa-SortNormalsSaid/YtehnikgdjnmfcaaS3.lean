/- The reference: Meet. -/
import Derived.Test.YtehnikgdjnmfcaaR9
namespace Go.Proofs.Ytehnikgdjnmfcaa
open Go.RowKit Go.WideMaps Go.Shelf Go.Sort Go.Lib

theorem run_append_nothing {w : World} {B n c : Nat} {v : Value} {xs : List Value} (t : TypeId) (i0 : TypeInfo) (hi : Try.prog.info? 9 = some i0) (hown : w.ownsRow B 9 1 v n xs) :
    (Builtin.append_ #[27, 27] t #[v, .slice none 0 c]).run Try.prog w = .ok v w := by
  rcases hown.2 with ⟨rfl, rfl⟩ | ⟨g, cap, cur, rfl, _, _, hle, _⟩
  · simp [Builtin.append_, run_underlying Try.underlying27, sizeOf, typeInfo, hi, Builtin.lenOf, Builtin.firstCells]
  · simp [Builtin.append_, run_underlying Try.underlying27, sizeOf, typeInfo, hi, Builtin.lenOf, Builtin.firstCells, hle, storeCells]

set_option maxRecDepth 100000 in
/-- append of a slice of strings onto one's own, in a region -/
theorem op_append_strs {w : World} {o : Oper} {a : Act} {K : Act → World → Prop} {Q : Exit → Act → World → Prop} (s x : Operand) (ho : o.op = .call { callee := .builtin .append, args := #[s, x], argTypes := #[27, 27] })
    (B n : Nat) (u v : Value) (xs : List Value) (ss : List Nm) (hs : a.eval s = v) (hown : w.ownsRow B 9 1 v n xs) (hx : a.eval x = u) (hu : SlS w u ss) (hn : n + ss.length ≤ 8000000000) (hB : B ≤ w.heap.size)
    (h : ∀ v' w', w'.ownsRow B 9 1 v' (n + ss.length) (xs ++ ss.map encStr) → w.grownBy w' v.ownBlock → K (a.put o.dst v') w') : o.wp Try.prog a w K Q := by
  obtain ⟨i0, hi, hq0, hq1, hq2⟩ := info_parts Try.info9
  obtain ⟨_, sa, c, rfl, hsx⟩ := hu
  cases sa with
  | none =>
    have h0 : ss = [] := by
      by_cases hp : 0 < ss.length
      · obtain ⟨b, off, e, _⟩ := hsx hp; cases e
      · exact List.eq_nil_of_length_eq_zero (by omega)
    subst h0
    have hrun := run_append_nothing (c := c) o.type i0 hi hown
    unfold Oper.wp
    simp only [List.length_nil] at hx
    simp [execOp, ho, resolve, invoke, builtin, hs, hx, hrun, Result.andThen]
    exact h v w (by simpa using hown) (World.grownBy.refl w _)
  | some ad =>
    refine wp_append_own w s x 27 ho B 9 i0 (.string ByteArray.empty) 1 16 Try.underlying27 hi hq0 hq1 hq2 rfl (by decide) v n xs hs hown ad ss.length c (ss.map encStr) hx (by simp) (fun j u hj => ?_) (fun u hu => ?_) (by unfold maxLen; omega) (by omega) hB (fun v' w' h1 h2 _ => h v' w' h1 h2)
    · have hjl : j < ss.length := by
        have := (List.getElem?_eq_some_iff.1 hj).1
        simpa using this
      obtain ⟨b, off, e, _, hc, _⟩ := hsx (by omega)
      injection e with e
      subst e
      have e1 : (Addr.add ⟨b, off, none⟩ j) = ⟨b, off + j, none⟩ := by
        unfold Addr.add
        by_cases h : j = 0
        · subst h; simp
        · simp [h]
      have e2 : encStr (ss.getD j []) = u := by
        rw [List.getElem?_map, List.getElem?_eq_getElem hjl] at hj
        injection hj with hj
        rw [← hj, List.getD_eq_getElem?_getD, List.getElem?_eq_getElem hjl, Option.getD_some]
      rw [e1, hc j hjl]
      exact congrArg some e2
    · obtain ⟨y, _, rfl⟩ := List.mem_map.1 hu
      rfl

theorem SlS.words {w : World} {v : Value} {ss : List Nm} (h : SlS w v ss) : ∀ x ∈ ss, x.length ≤ maxLen := by
  intro x hx
  obtain ⟨_, a, cap, _, h3⟩ := h
  obtain ⟨b, off, _, _, h4⟩ := h3 (List.length_pos_of_mem hx)
  exact h4.2 x hx

theorem mErr_zero {cs : List (Nm × List Nm)} {ab : List (List Nat)} {ss ts : List Nm} (h : sortsErr cs [ss, ts] = 0) : clsErr cs = 0 ∧ normErr (cs.map Prod.fst) ss = 0 ∧ normErr (cs.map Prod.fst) ts = 0 ∧
    mErr cs ab ss ts = if 20 < (leastB (cs.map Prod.fst) (fun i => ab.getD i []) (ss ++ ts)).length then 5 else 0 := by
  unfold sortsErr at h
  by_cases h0 : clsErr cs = 0
  · rw [if_pos h0] at h
    unfold firstErr at h
    by_cases h1 : normErr (cs.map Prod.fst) ss = 0
    · rw [if_pos h1] at h
      unfold firstErr at h
      by_cases h2 : normErr (cs.map Prod.fst) ts = 0
      · refine ⟨h0, h1, h2, ?_⟩
        unfold mErr meetErr
        rw [if_pos h0, if_neg (by simpa using h1), if_neg (by simpa using h2)]
      · rw [if_neg h2] at h; exact absurd h h2
    · rw [if_neg h1] at h; exact absurd h h1
  · rw [if_neg h0] at h; exact absurd h h0

theorem mErr_some {cs : List (Nm × List Nm)} {ab : List (List Nat)} {ss ts : List Nm} (h : sortsErr cs [ss, ts] ≠ 0) : mErr cs ab ss ts = sortsErr cs [ss, ts] := by
  unfold sortsErr mErr at *
  by_cases h0 : clsErr cs = 0
  · rw [if_pos h0] at h ⊢
    rw [if_pos h0]
    unfold meetErr firstErr
    unfold firstErr at h
    by_cases h1 : normErr (cs.map Prod.fst) ss = 0
    · rw [if_pos h1] at h ⊢
      rw [if_neg (by simpa using h1)]
      unfold firstErr
      unfold firstErr at h
      by_cases h2 : normErr (cs.map Prod.fst) ts = 0
      · rw [if_pos h2] at h; exact absurd rfl h
      · rw [if_neg h2, if_pos h2]
    · rw [if_neg h1, if_pos h1]
  · rw [if_neg h0, if_neg h0]

set_option maxRecDepth 100000 in
set_option maxHeartbeats 8000000 in
theorem meet_r (n c t2 t3 t4 t5 t6 u v : Value) (cs : List (Nm × List Nm)) (ab0 : List (List Nat)) (ss ts : List Nm) (w : World) (hc : SlC w c cs) (hs : SlS w u ss) (ht : SlS w v ts) (hab : clsErr cs = 0 → ∃ sp, Built cs sp ab0) :
    Calls Try.prog 22 #[.agg #[n, c, t2, t3, t4, t5, t6], u, v] w (NPost w (mErr cs ab0 ss ts) (leastB (cs.map Prod.fst) (fun i => ab0.getD i []) (ss ++ ts))) := by
  have hb0 := below_alloc w (Obj.cells #[n, c, t2, t3, t4, t5, t6] 29)
  have HC := Lib.hid hc
  have HS := Lib.hid hs
  have HT := Lib.hid ht
  have HAB := Lib.hid hab
  have r0 := Lib.hid (heap_alloc_new w (Obj.cells #[n, c, t2, t3, t4, t5, t6] 29))
  have hz0 : w.heap.size < (w.alloc (Obj.cells #[n, c, t2, t3, t4, t5, t6] 29)).heap.size := by simp
  obtain ⟨_, ca, ccap, rfl, _⟩ := hc
  obtain ⟨_, sa, scap, rfl, _⟩ := hs
  obtain ⟨_, ta, tcap, rfl, _⟩ := ht
  clear hab
  go_enter Try.func22, Try.ntmps22
  go_wp2_with fail
  have hb1 := below_alloc (w.alloc (Obj.cells #[n, .slice ca cs.length ccap, t2, t3, t4, t5, t6] 29)) (Obj.cells #[.slice sa ss.length scap, .slice ta ts.length tcap] 27)
  have q1 := heap_alloc_new (w.alloc (Obj.cells #[n, .slice ca cs.length ccap, t2, t3, t4, t5, t6] 29)) (Obj.cells #[.slice sa ss.length scap, .slice ta ts.length tcap] 27)
  have hB1 := hb0.trans (hb1.mono (Nat.le_of_lt hz0))
  have hs1 := slSs2 (cap := 2) q1 (HS.out.below hB1 (Nat.le_refl _)) (HT.out.below hB1 (Nat.le_refl _))
  rw [show (w.alloc (Obj.cells #[n, .slice ca cs.length ccap, t2, t3, t4, t5, t6] 29)).heap.size = w.heap.size + 1 by simp] at hs1
  have r1 := Lib.hid ((hb1.block w.heap.size hz0).trans r0.out)
  have hz1 : w.heap.size < ((w.alloc (Obj.cells #[n, .slice ca cs.length ccap, t2, t3, t4, t5, t6] 29)).alloc (Obj.cells #[.slice sa ss.length scap, .slice ta ts.length tcap] 27)).heap.size := by simp; omega
  have SO := Lib.hid (sorts_any n _ t2 t3 t4 t5 t6 _ cs [ss, ts] _ (HC.out.below hB1 (Nat.le_refl _)) hs1)
  clear hb0 hb1 q1 hs1 r0 hz0
  refine SO.out.mono ?_
  rintro e w2 ⟨rfl, hb2⟩
  have hB2 : Below w.heap.size w w2 := hB1.trans (hb2.mono (by omega))
  have r2 := Lib.hid ((hb2.block w.heap.size hz1).trans r1.out)
  have hz2 : w.heap.size < w2.heap.size := Nat.lt_of_lt_of_le hz1 hb2.size
  clear SO hb2 r1 hz1 hB1
  by_cases h0 : sortsErr cs [ss, ts] = 0
  · obtain ⟨hcl, hn1, hn2, hme⟩ := mErr_zero (ab := ab0) h0
    obtain ⟨sp, hbu⟩ := HAB.out hcl
    rw [h0]
    go_wp2_with fail
    have hb3 : RowKit.Below w2.heap.size w2 (w2.alloc (Obj.cells #[] 9)).drew := (below_alloc w2 (Obj.cells #[] 9)).drew
    have hB3 : RowKit.Below w.heap.size w (w2.alloc (Obj.cells #[] 9)).drew := hB2.trans (hb3.mono (Nat.le_of_lt hz2))
    have hz3 : w.heap.size < (w2.alloc (Obj.cells #[] 9)).drew.heap.size := Nat.lt_of_lt_of_le hz2 hb3.size
    have r3 := Lib.hid ((hb3.block w.heap.size hz2).trans r2.out)
    have hown3 : (w2.alloc (Obj.cells #[] 9)).drew.ownsRow (w.heap.size + 1) 9 1 (.slice (some ⟨w2.heap.size, 0, none⟩) 0 0) 0 [] := World.ownsRow_made w2 #[] 0 hz2 (by unfold maxLen; omega) rfl
    have HO3 := Lib.hid hown3
    clear hown3 hb3
    have HWS : Hid (∀ x ∈ ss, x.length ≤ maxLen) := SlS.words HS.out
    have HWT : Hid (∀ x ∈ ts, x.length ≤ maxLen) := SlS.words HT.out
    have HKA : Hid ((ss ++ ts).all (inNs (cs.map Prod.fst)) = true) := by unfold Hid; rw [List.all_append, (normErr_zero hn1).2, (normErr_zero hn2).2]; rfl
    have hl1 := (normErr_zero hn1).1
    have hl2 := (normErr_zero hn2).1
    refine wp_region_held_drew (S := (fun w' => w'.cell? ⟨w.heap.size, 0, none⟩ = some n ∧ w'.cell? ⟨w.heap.size, 1, none⟩ = some (.slice ca cs.length ccap) ∧ w'.cell? ⟨w.heap.size, 2, none⟩ = some t2 ∧ w'.cell? ⟨w.heap.size, 3, none⟩ = some t3 ∧ w'.cell? ⟨w.heap.size, 4, none⟩ = some t4 ∧ w'.cell? ⟨w.heap.size, 5, none⟩ = some t5 ∧ w'.cell? ⟨w.heap.size, 6, none⟩ = some t6)) (by kernel_rfl) ?_ (fun hHeld => ?_)
    · exact cells7' r2.out
    refine wpAnyH_take (i := 0) (oi := { dst := some 18, op := Op.load 29 (Operand.tmp 3), type := 29, pos := "ref.go:184", after := #[], guard := none }) (v := ?v0) rfl (by kernel_rfl) (by kernel_rfl) (by kernel_rfl) (fun _ _ _ h => h) (Or.inl ⟨by rfl, ?hy0⟩) (by assumption) ?rest0
    case hy0 => (intro wq hSq; (try dsimp only at hSq); go_simp; try with_reducible rfl)
    try simp only [Act.put, List.setIfInBounds_toArray, List.set_cons_zero, List.set_cons_succ]
    refine wpAnyH_take (i := 2) (oi := { dst := some 20, op := Op.move (Operand.tmp 1), type := 27, pos := "ref.go:184", after := #[], guard := none }) (v := ?v2) rfl (by kernel_rfl) (by kernel_rfl) (by kernel_rfl) (fun _ _ _ h => h) (Or.inl ⟨by rfl, ?hy2⟩) (by assumption) ?rest2
    case hy2 => (intro wq hSq; (try dsimp only at hSq); go_simp; try with_reducible rfl)
    try simp only [Act.put, List.setIfInBounds_toArray, List.set_cons_zero, List.set_cons_succ]
    refine wpAnyH_take (i := 4) (oi := { dst := some 22, op := Op.move (Operand.tmp 2), type := 27, pos := "ref.go:184", after := #[], guard := none }) (v := ?v4) rfl (by kernel_rfl) (by kernel_rfl) (by kernel_rfl) (fun _ _ _ h => h) (Or.inl ⟨by rfl, ?hy4⟩) (by assumption) ?rest4
    case hy4 => (intro wq hSq; (try dsimp only at hSq); go_simp; try with_reducible rfl)
    try simp only [Act.put, List.setIfInBounds_toArray, List.set_cons_zero, List.set_cons_succ]
    refine wpAnyH_ready (rs := [1]) (by kernel_rfl) (by simp) ?_
    refine AllReadyH.cons rfl (fun K hK => ?_) AllReadyH.nil
    go_simp
    refine hK.out _ _ ?_ (fun hHeldN => ?_)
    · (try dsimp only); exact cells7' r3.out
    clear hK K hHeld
    have hHeld := hHeldN
    clear hHeldN
    refine wpAnyH_ready (rs := [3]) (by kernel_rfl) (by simp) ?_
    refine AllReadyH.cons (o := { dst := some 21, op := Op.call { callee := Callee.builtin Builtin.append, args := #[Operand.tmp 19, Operand.tmp 20], argTypes := #[27, 27] }, type := 27, pos := "ref.go:184", after := #[{ on := 1, ground := Ground.data }, { on := 2, ground := Ground.data }], guard := none }) rfl (fun K hK => ?_) AllReadyH.nil
    rw [if_pos (by rfl)]
    refine op_append_strs _ _ rfl (w.heap.size + 1) 0 _ _ [] ss rfl HO3.out rfl (HS.out.below hB3 (Nat.le_refl _)) (by omega) hz3 ?_
    intro v4 w4 hown4 hg4; have hB4 : RowKit.Below w.heap.size w w4 := hB3.grown hg4 (Nat.le_of_lt hz3) (fun r er => Nat.le_of_succ_le (ownBlock_ge HO3.out er)); have hz4 : w.heap.size < w4.heap.size := Nat.lt_of_lt_of_le hz3 hg4.size; have r4 := Lib.hid ((hg4.block w.heap.size hz3 (fun e => absurd (ownBlock_ge HO3.out e.symm) (by omega))).trans r3.out)
    simp only [Act.put, List.setIfInBounds_toArray, List.set_cons_zero, List.set_cons_succ]
    refine hK.out _ _ ?_ (fun hHeldN => ?_)
    · (try dsimp only); exact cells7' r4.out
    clear hK K hHeld
    have hHeld := hHeldN
    clear hHeldN
    refine wpAnyH_ready (rs := [5]) (by kernel_rfl) (by simp) ?_
    refine AllReadyH.cons (o := { dst := some 23, op := Op.call { callee := Callee.builtin Builtin.append, args := #[Operand.tmp 21, Operand.tmp 22], argTypes := #[27, 27] }, type := 27, pos := "ref.go:184", after := #[{ on := 3, ground := Ground.data }, { on := 4, ground := Ground.data }, { on := 3, ground := Ground.chain }], guard := none }) rfl (fun K hK => ?_) AllReadyH.nil
    rw [if_pos (by rfl)]
    refine op_append_strs _ _ rfl (w.heap.size + 1) (0 + ss.length) _ _ ([] ++ ss.map encStr) ts rfl hown4 rfl (HT.out.below hB4 (Nat.le_refl _)) (by omega) hz4 ?_
    intro v5 w5 hown5 hg5; have hB5 : RowKit.Below w.heap.size w w5 := hB4.grown hg5 (Nat.le_of_lt hz4) (fun r er => Nat.le_of_succ_le (ownBlock_ge hown4 er)); have hz5 : w.heap.size < w5.heap.size := Nat.lt_of_lt_of_le hz4 hg5.size; have r5 := Lib.hid ((hg5.block w.heap.size hz4 (fun e => absurd (ownBlock_ge hown4 e.symm) (by omega))).trans r4.out)
    simp only [Act.put, List.setIfInBounds_toArray, List.set_cons_zero, List.set_cons_succ]
    refine hK.out _ _ ?_ (fun hHeldN => ?_)
    · (try dsimp only); exact cells7' r5.out
    clear hK K hHeld
    have hHeld := hHeldN
    clear hHeldN
    have ho5 : SlO w5 (w.heap.size + 1) v5 (ss ++ ts) := slO_of_own (by rw [List.map_append, List.length_append]; rw [Nat.zero_add] at hown5; exact hown5) (by rw [List.length_append]; omega) (fun x hx => (List.mem_append.1 hx).elim (HWS.out x) (HWT.out x))
    have HO5 := Lib.hid ho5.sl
    clear ho5 hown5 hown4
    have LE := Lib.hid (rleast_any n _ t2 t3 t4 t5 t6 _ cs sp ab0 (ss ++ ts) w5 (HC.out.below hB5 (Nat.le_refl _)) hbu (clsErr_len hcl) HO5.out (by rw [List.length_append]; omega) HKA.out)
    obtain ⟨M, hM⟩ : ∃ M, M = leastB (cs.map Prod.fst) (fun i => ab0.getD i []) (ss ++ ts) := ⟨_, rfl⟩
    rw [← hM] at LE hme
    have HM := Lib.hid hM
    clear hM
    refine wpAnyH_ready (rs := [6]) (by kernel_rfl) (by simp) ?_
    refine AllReadyH.cons rfl (fun K hK => ?_) AllReadyH.nil
    go_simp
    go_wp2_with (go_at_call 45; refine LE.out.mono ?_; rintro e w6 ⟨v6, rfl, ho6, hb6⟩; have r6 := Lib.hid ((hb6.block w.heap.size hz5).trans r5.out))
    refine hK.out _ _ ?_ (fun hHeldN => ?_)
    · (try dsimp only); exact cells7' r6.out
    clear hK K hHeld
    have hHeld := hHeldN
    clear hHeldN
    have HO6 := Lib.hid ho6.sl
    obtain ⟨_, _, a6, k6, rfl, _⟩ := ho6
    refine wpAnyH_take (i := 7) (oi := { dst := some 9, op := Op.assign (Operand.tmp 24), type := 27, pos := "ref.go:184", after := #[{ on := 6, ground := Ground.data }, { on := 6, ground := Ground.chain }, { on := 0, ground := Ground.phase }, { on := 1, ground := Ground.phase }, { on := 2, ground := Ground.phase }, { on := 3, ground := Ground.phase }, { on := 4, ground := Ground.phase }, { on := 5, ground := Ground.phase }, { on := 6, ground := Ground.phase }], guard := none }) (v := ?v7) rfl (by kernel_rfl) (by kernel_rfl) (by kernel_rfl) (fun _ _ _ h => h) (Or.inl ⟨by rfl, ?hy7⟩) (by assumption) ?rest7
    case hy7 => (intro wq hSq; (try dsimp only at hSq); go_simp; try with_reducible rfl)
    try simp only [Act.put, List.setIfInBounds_toArray, List.set_cons_zero, List.set_cons_succ]
    refine wpAnyH_done (by kernel_rfl) ?_ _
    have hB6 : RowKit.Below w.heap.size w w6 := hB5.trans (hb6.mono (Nat.le_of_lt hz5))
    have HME := Lib.hid hme
    clear hme h0 hn1 hn2 hcl hbu LE
    by_cases hm : 20 < M.length
    · have hd : decide (20 < ((M.length : Nat) : Int)) = true := by simp; omega
      have hE : Hid (mErr cs ab0 ss ts = 5) := by unfold Hid; rw [HME.out, if_pos hm]
      go_wp2_with fail
      go_ret2
      exact ⟨_, by rw [hE.out]; rfl, hB6, by rw [hE.out]; exact slS0⟩
    · have hd : decide (20 < ((M.length : Nat) : Int)) = false := by simp; omega
      have hE : Hid (mErr cs ab0 ss ts = 0) := by unfold Hid; rw [HME.out, if_neg hm]
      go_wp2_with fail
      go_ret2
      exact ⟨_, by rw [hE.out]; rfl, hB6, by rw [hE.out, if_pos rfl, ← HM.out]; exact HO6.out⟩
  · have hd : decide (sortsErr cs [ss, ts] = 0) = false := by simpa using h0
    have H0 := Lib.hid (mErr_some (ab := ab0) h0)
    have H1 := Lib.hid h0
    generalize sortsErr cs [ss, ts] = ce at *
    go_wp2_with fail
    go_ret2
    exact ⟨_, by rw [H0.out]; rfl, hB2, by rw [H0.out, if_neg H1.out]; exact slS0⟩
end Go.Proofs.Ytehnikgdjnmfcaa
