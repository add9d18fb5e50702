/- The reference: the error of sorts. -/
import Derived.Test.YtehnikgdjnmfcaaGreatMZ12
import Derived.Test.YtehnikgdjnmfcaaGreatMZ16
namespace Go.Proofs.YtehnikgdjnmfcaaGreat
open Go.RowKit Go.WideMaps Go.Shelf

theorem clsErrFrom_zero (cs : List (Nm × List Nm)) : ∀ f k, clsErrFrom cs f k = 0 → ∀ j, k ≤ j → j < k + f → classErr ((cs.take j).map Prod.fst) (cs.getD j ([], [])).1 (cs.getD j ([], [])).2 = 0
  | 0, _, _, j, h1, h2 => absurd h2 (by omega)
  | f + 1, k, h, j, h1, h2 => by
    unfold clsErrFrom at h
    by_cases h0 : classErr ((cs.take k).map Prod.fst) (cs.getD k ([], [])).1 (cs.getD k ([], [])).2 = 0
    · rw [if_pos h0] at h
      by_cases e : j = k
      · subst e; exact h0
      · exact clsErrFrom_zero cs f (k + 1) h j (by omega) (by omega)
    · rw [if_neg h0] at h; exact absurd h h0

theorem clsErr_len {cs : List (Nm × List Nm)} (h : clsErr cs = 0) : cs.length ≤ 300 := by
  unfold clsErr at h
  by_cases h3 : 300 < cs.length
  · rw [if_pos h3] at h; exact absurd h (by decide)
  · omega

open Classical in
theorem built_take {cs : List (Nm × List Nm)} (h : clsErr cs = 0) : ∀ k, k ≤ cs.length → ∃ sp ab, Built (cs.take k) sp ab
  | 0, _ => ⟨[], [], by rw [List.take_zero]; exact .nil⟩
  | k + 1, hk => by
    obtain ⟨sp, ab, hb⟩ := built_take h k (by omega)
    have h3 := clsErr_len h
    have hf : clsErrFrom cs cs.length 0 = 0 := by
      unfold clsErr at h
      rw [if_neg (by omega)] at h; exact h
    have hc := clsErrFrom_zero cs _ _ hf k (by omega) (by omega)
    have hlen : (cs.take k).length = k := by rw [List.length_take]; omega
    generalize hx : cs.getD k ([], []) = x at *
    obtain ⟨nm, sups⟩ := x
    have hlt := Built.lt' hb
    rw [take_snocD cs ([], []) k (by omega), hx]
    refine ⟨_, _, Built.snoc (ys := (List.range (k + 1)).filter fun x => decide (Reach (fun i => (sp ++ [sups.map (ixOf ((cs.take k).map Prod.fst))]).getD i []) (cs.take k).length x)) hb hc fun x => ?_⟩
    rw [List.mem_filter, List.mem_range, decide_eq_true_iff]
    refine ⟨fun h => h.2, fun h => ⟨?_, h⟩⟩
    have hlt2 : ∀ i, ∀ s ∈ (sp ++ [sups.map (ixOf ((cs.take k).map Prod.fst))]).getD i [], s < i := by
      intro i s hs
      have hl := hb.len.1
      by_cases hin : i < sp.length
      · rw [getD_left sp _ i hin] at hs; exact hlt i s hs
      · by_cases he : i = sp.length
        · subst he
          rw [getD_last] at hs
          obtain ⟨t, ht, rfl⟩ := List.mem_map.1 hs
          have h2 := supErr_all _ _ (classErr_zero hc).2.2.2 t ht
          have := ixOf_lt h2
          rw [List.length_map] at this; omega
        · rw [List.getD_eq_getElem?_getD, List.getElem?_eq_none (by simp; omega)] at hs
          simp at hs
    have := Reach.le hlt2 h
    omega

theorem built_of {cs : List (Nm × List Nm)} (h : clsErr cs = 0) : ∃ sp ab, Built cs sp ab := by
  obtain ⟨sp, ab, hb⟩ := built_take h cs.length (Nat.le_refl _)
  rw [List.take_length] at hb
  exact ⟨sp, ab, hb⟩

def firstErr (ns : List Nm) : List (List Nm) → Int
  | [] => 0
  | s :: r => if normErr ns s = 0 then firstErr ns r else normErr ns s

def sortsErr (cs : List (Nm × List Nm)) (ls : List (List Nm)) : Int := if clsErr cs = 0 then firstErr (cs.map Prod.fst) ls else clsErr cs

/-- a slice of sorts -/
def SlSs (w : World) (v : Value) (ls : List (List Nm)) : Prop :=
  ls.length ≤ maxLen ∧ ∃ a cap, v = .slice a ls.length cap ∧ (0 < ls.length → ∃ b off, a = some ⟨b, off, none⟩ ∧ b < w.heap.size ∧
    ∀ k, k < ls.length → ∃ p c, w.cell? ⟨b, off + k, none⟩ = some (.slice p (ls.getD k []).length c) ∧ SlS w (.slice p (ls.getD k []).length c) (ls.getD k []))

set_option maxRecDepth 100000 in
set_option maxHeartbeats 8000000 in
theorem sorts_any (n c t2 t3 t4 t5 t6 v : Value) (cs : List (Nm × List Nm)) (ls : List (List Nm)) (w : World) (hc : SlC w c cs) (hs : SlSs w v ls) :
    Calls Tryz.prog 23 #[.agg #[n, c, t2, t3, t4, t5, t6], v] w fun e w' => e = .returned (.int .i64 (sortsErr cs ls)) ∧ Below w.heap.size w w' := by
  have hb0 := below_alloc w (Obj.cells #[n, c, t2, t3, t4, t5, t6] 29)
  have HC := Lib.hid hc
  have HS := Lib.hid hs
  have r0 := Lib.hid (heap_alloc_new w (Obj.cells #[n, c, t2, t3, t4, t5, t6] 29))
  have hz0 : w.heap.size < (w.alloc (Obj.cells #[n, c, t2, t3, t4, t5, t6] 29)).heap.size := by simp
  obtain ⟨_, ca, ccap, rfl, _⟩ := hc
  obtain ⟨hlm, sa, scap, rfl, _⟩ := hs
  unfold maxLen at hlm
  obtain ⟨c0, c1, c2, c3, c4, c5, c6⟩ := cells7' r0.out
  have CL := Lib.hid (classes_any n _ t2 t3 t4 t5 t6 cs _ (HC.out.below hb0 (Nat.le_refl _)))
  go_enter Tryz.func23, Tryz.ntmps23
  go_wp2_with fail
  refine CL.out.mono ?_
  rintro e w1 ⟨rfl, hb1⟩
  have hB1 : Below w.heap.size w w1 := hb0.trans (hb1.mono (by omega))
  have hz1 : w.heap.size < w1.heap.size := Nat.lt_of_lt_of_le hz0 hb1.size
  have r1 := Lib.hid ((hb1.block w.heap.size hz0).trans r0.out)
  clear c0 c1 c2 c3 c4 c5 c6 hb1 hb0 hz0 CL r0
  by_cases h0 : clsErr cs = 0
  · have HE : Hid (sortsErr cs ls = firstErr (cs.map Prod.fst) (ls.drop 0)) := by unfold Hid sortsErr; rw [if_pos h0]; rfl
    rw [h0]
    clear h0
    go_wp2_with fail
    go_loopw [6] (fun u wr => ∃ k : Nat, k ≤ ls.length ∧ u = .int .i64 k ∧ Hid (sortsErr cs ls = firstErr (cs.map Prod.fst) (ls.drop k)) ∧ Below w1.heap.size w1 wr) (fun u _ => ls.length - (intOf u).toNat)
    case atStart => exact ⟨0, by omega, rfl, HE, Below.refl _ _⟩
    case round =>
      obtain ⟨k, hk, rfl, hI, hB⟩ := hrel
      clear HE
      have hz := hB.size
      have hBw : Below w.heap.size w wr := hB1.trans (hB.mono (by omega))
      by_cases hlt : k < ls.length
      · obtain ⟨_, a', cap', hee, hsx⟩ := HS.out
        injection hee with hee _ hee2
        subst hee hee2
        obtain ⟨b, off, rfl, hb, hcl⟩ := hsx (by omega)
        obtain ⟨sp, sc, g0, hss⟩ := hcl k hlt
        have hstep : Hid (sortsErr cs ls = if normErr (cs.map Prod.fst) (ls.getD k []) = 0 then firstErr (cs.map Prod.fst) (ls.drop (k + 1)) else normErr (cs.map Prod.fst) (ls.getD k [])) := by
          unfold Hid; rw [hI.out, drop_getD ls [] k hlt]; rfl
        generalize ls.getD k [] = x at *
        have hcc := (hBw.cell (p := ⟨b, off + k, none⟩) hb).trans g0
        have hcd := Lib.hid hcc
        have HX := Lib.hid hss
        have r3 := Lib.hid ((hB.block w.heap.size hz1).trans r1.out)
        clear hcl hsx hI g0 hss
        by_cases h20 : 20 < x.length
        · have hd : decide (20 < ((x.length : Nat) : Int)) = true := by simp; omega
          have hE : Hid (sortsErr cs ls = 5) := by
            have e : normErr (cs.map Prod.fst) x = 5 := by unfold normErr; rw [if_pos h20]
            unfold Hid; rw [hstep.out, e]; rfl
          clear hstep h20
          go_wp2_with fail
          go_ret
          exact ⟨by rw [hE.out]; rfl, hBw⟩
        · have hd : decide (20 < ((x.length : Nat) : Int)) = false := by simp; omega
          have CK := Lib.hid (rknown_any n _ t2 t3 t4 t5 t6 _ x cs wr.drew (HC.out.below hBw.drew (Nat.le_refl _)) (HX.out.below hBw.drew (Nat.le_refl _)))
          obtain ⟨c0, c1, c2, c3, c4, c5, c6⟩ := cells7' r3.out
          by_cases hall : x.all (inNs (cs.map Prod.fst)) = true
          · have hst : Hid (sortsErr cs ls = firstErr (cs.map Prod.fst) (ls.drop (k + 1))) := by
              have e : normErr (cs.map Prod.fst) x = 0 := by unfold normErr; rw [if_neg h20, if_pos hall]
              unfold Hid; rw [hstep.out, e]; rfl
            rw [hall] at CK
            clear hstep hall h20
            go_wp2_with fail
            go_region_held3 (fun w' => w'.cell? ⟨w.heap.size, 0, none⟩ = some n ∧ w'.cell? ⟨w.heap.size, 1, none⟩ = some (.slice ca cs.length ccap) ∧ w'.cell? ⟨w.heap.size, 2, none⟩ = some t2 ∧ w'.cell? ⟨w.heap.size, 3, none⟩ = some t3 ∧ w'.cell? ⟨w.heap.size, 4, none⟩ = some t4 ∧ w'.cell? ⟨w.heap.size, 5, none⟩ = some t5 ∧ w'.cell? ⟨w.heap.size, 6, none⟩ = some t6 ∧ w'.cell? ⟨b, off + k, none⟩ = some (.slice sp x.length sc))
              (first | exact cells7and r3.out hcd.out | exact cells7and r4.out k4.out)
              ((go_at_call 43; refine CK.out.mono ?_; rintro e w4 ⟨rfl, hb4⟩; have hb4 : Below wr.heap.size wr w4 := ((Below.refl _ wr).drew).trans hb4; have r4 := Lib.hid ((hb4.block w.heap.size (by omega)).trans r3.out); have k4 := Lib.hid ((hb4.cell (p := ⟨b, off + k, none⟩) (by simp; omega)).trans hcd.out)))
            clear c0 c1 c2 c3 c4 c5 c6 hcc
            go_wp2_with fail
            go_roundw
            case rel => exact ⟨k + 1, by omega, by go_num, hst, hB.trans (hb4.mono (by omega))⟩
            case measure => simp [intOf]; omega
          · have hall' : x.all (inNs (cs.map Prod.fst)) = false := by simpa using hall
            have hE : Hid (sortsErr cs ls = 9) := by
              have e : normErr (cs.map Prod.fst) x = 9 := by unfold normErr; rw [if_neg h20, if_neg hall]
              unfold Hid; rw [hstep.out, e]; rfl
            rw [hall'] at CK
            clear hstep hall hall' h20
            go_wp2_with fail
            go_region_held3 (fun w' => w'.cell? ⟨w.heap.size, 0, none⟩ = some n ∧ w'.cell? ⟨w.heap.size, 1, none⟩ = some (.slice ca cs.length ccap) ∧ w'.cell? ⟨w.heap.size, 2, none⟩ = some t2 ∧ w'.cell? ⟨w.heap.size, 3, none⟩ = some t3 ∧ w'.cell? ⟨w.heap.size, 4, none⟩ = some t4 ∧ w'.cell? ⟨w.heap.size, 5, none⟩ = some t5 ∧ w'.cell? ⟨w.heap.size, 6, none⟩ = some t6 ∧ w'.cell? ⟨b, off + k, none⟩ = some (.slice sp x.length sc))
              (first | exact cells7and r3.out hcd.out | exact cells7and r4.out k4.out)
              ((go_at_call 43; refine CK.out.mono ?_; rintro e w4 ⟨rfl, hb4⟩; have hb4 : Below wr.heap.size wr w4 := ((Below.refl _ wr).drew).trans hb4; have r4 := Lib.hid ((hb4.block w.heap.size (by omega)).trans r3.out); have k4 := Lib.hid ((hb4.cell (p := ⟨b, off + k, none⟩) (by simp; omega)).trans hcd.out)))
            go_wp2_with fail
            go_ret
            exact ⟨by rw [hE.out]; rfl, hBw.trans (hb4.mono (by omega))⟩
      · have hE : Hid (sortsErr cs ls = 0) := by unfold Hid; rw [hI.out, List.drop_eq_nil_of_le (by omega)]; rfl
        clear hI
        go_wp2_with fail
        go_ret
        exact ⟨by rw [hE.out]; rfl, hBw⟩
  · have hd : decide (clsErr cs = 0) = false := by simpa using h0
    have HE : Hid (sortsErr cs ls = clsErr cs) := by unfold Hid sortsErr; rw [if_neg h0]
    generalize clsErr cs = ce at *
    go_wp2_with fail
    go_ret
    exact ⟨by rw [HE.out]; rfl, hB1⟩
end Go.Proofs.YtehnikgdjnmfcaaGreat

/- The reference: Normal. -/
namespace Go.Proofs.YtehnikgdjnmfcaaGreat
open Go.RowKit Go.WideMaps Go.Shelf Go.Sort Go.Lib

theorem slSs1 {w : World} {k c cap : Nat} {p : Option Addr} {ss : List Nm} {fr : Nat × Nat} (h : w.heap[k]? = some (.cells #[.slice p ss.length c] 27 fr)) (hs : SlS w (.slice p ss.length c) ss) : SlSs w (.slice (some ⟨k, 0, none⟩) 1 cap) [ss] := by
  refine ⟨by unfold maxLen; simp, _, cap, rfl, fun _ => ⟨k, 0, rfl, (Array.getElem?_eq_some_iff.1 h).1, fun j hj => ?_⟩⟩
  have : j = 0 := by simp at hj; omega
  subst this
  exact ⟨p, c, by rw [cell_of_row w _ _ _ _ _ h]; rfl, hs⟩

theorem slSs2 {w : World} {k c c2 cap : Nat} {p p2 : Option Addr} {ss ts : List Nm} {fr : Nat × Nat} (h : w.heap[k]? = some (.cells #[.slice p ss.length c, .slice p2 ts.length c2] 27 fr)) (hs : SlS w (.slice p ss.length c) ss) (ht : SlS w (.slice p2 ts.length c2) ts) : SlSs w (.slice (some ⟨k, 0, none⟩) 2 cap) [ss, ts] := by
  refine ⟨by unfold maxLen; simp, _, cap, rfl, fun _ => ⟨k, 0, rfl, (Array.getElem?_eq_some_iff.1 h).1, fun j hj => ?_⟩⟩
  have : j = 0 ∨ j = 1 := by simp at hj; omega
  rcases this with rfl | rfl
  · exact ⟨p, c, by rw [cell_of_row w _ _ _ _ _ h]; rfl, hs⟩
  · exact ⟨p2, c2, by rw [cell_of_row w _ _ _ _ _ h]; rfl, ht⟩

theorem nErr_sorts (cs : List (Nm × List Nm)) (ss : List Nm) : sortsErr cs [ss] = nErr cs ss := by
  unfold sortsErr nErr firstErr
  by_cases h : normErr (cs.map Prod.fst) ss = 0
  · rw [if_pos h, h]; rfl
  · rw [if_neg h]

theorem nErr_zero {cs : List (Nm × List Nm)} {ss : List Nm} (h : nErr cs ss = 0) : clsErr cs = 0 ∧ normErr (cs.map Prod.fst) ss = 0 := by
  unfold nErr at h
  by_cases h0 : clsErr cs = 0
  · rw [if_pos h0] at h; exact ⟨h0, h⟩
  · rw [if_neg h0] at h; exact absurd h h0

end Go.Proofs.YtehnikgdjnmfcaaGreat

/- The reference: Meet. -/
namespace Go.Proofs.YtehnikgdjnmfcaaGreat
open Go.RowKit Go.WideMaps Go.Shelf Go.Sort Go.Lib

theorem run_append_nothing {w : World} {B n c : Nat} {v : Value} {xs : List Value} (t : TypeId) (i0 : TypeInfo) (hi : Tryz.prog.info? 9 = some i0) (hown : w.ownsRow B 9 1 v n xs) :
    (Builtin.append_ #[27, 27] t #[v, .slice none 0 c]).run Tryz.prog w = .ok v w := by
  rcases hown.2 with ⟨rfl, rfl⟩ | ⟨g, cap, cur, rfl, _, _, hle, _⟩
  · simp [Builtin.append_, run_underlying Tryz.underlying27, sizeOf, typeInfo, hi, Builtin.lenOf, Builtin.firstCells]
  · simp [Builtin.append_, run_underlying Tryz.underlying27, sizeOf, typeInfo, hi, Builtin.lenOf, Builtin.firstCells, hle, storeCells]

set_option maxRecDepth 100000 in
/-- append of a slice of strings onto one's own, in a region -/
theorem op_append_strs {w : World} {o : Oper} {a : Act} {K : Act → World → Prop} {Q : Exit → Act → World → Prop} (s x : Operand) (ho : o.op = .call { callee := .builtin .append, args := #[s, x], argTypes := #[27, 27] })
    (B n : Nat) (u v : Value) (xs : List Value) (ss : List Nm) (hs : a.eval s = v) (hown : w.ownsRow B 9 1 v n xs) (hx : a.eval x = u) (hu : SlS w u ss) (hn : n + ss.length ≤ 8000000000) (hB : B ≤ w.heap.size)
    (h : ∀ v' w', w'.ownsRow B 9 1 v' (n + ss.length) (xs ++ ss.map encStr) → w.grownBy w' v.ownBlock → K (a.put o.dst v') w') : o.wp Tryz.prog a w K Q := by
  obtain ⟨i0, hi, hq0, hq1, hq2⟩ := info_parts Tryz.info9
  obtain ⟨_, sa, c, rfl, hsx⟩ := hu
  cases sa with
  | none =>
    have h0 : ss = [] := by
      by_cases hp : 0 < ss.length
      · obtain ⟨b, off, e, _⟩ := hsx hp; cases e
      · exact List.eq_nil_of_length_eq_zero (by omega)
    subst h0
    have hrun := run_append_nothing (c := c) o.type i0 hi hown
    unfold Oper.wp
    simp only [List.length_nil] at hx
    simp [execOp, ho, resolve, invoke, builtin, hs, hx, hrun, Result.andThen]
    exact h v w (by simpa using hown) (World.grownBy.refl w _)
  | some ad =>
    refine wp_append_own w s x 27 ho B 9 i0 (.string ByteArray.empty) 1 16 Tryz.underlying27 hi hq0 hq1 hq2 rfl (by decide) v n xs hs hown ad ss.length c (ss.map encStr) hx (by simp) (fun j u hj => ?_) (fun u hu => ?_) (by unfold maxLen; omega) (by omega) hB (fun v' w' h1 h2 _ => h v' w' h1 h2)
    · have hjl : j < ss.length := by
        have := (List.getElem?_eq_some_iff.1 hj).1
        simpa using this
      obtain ⟨b, off, e, _, hc, _⟩ := hsx (by omega)
      injection e with e
      subst e
      have e1 : (Addr.add ⟨b, off, none⟩ j) = ⟨b, off + j, none⟩ := by
        unfold Addr.add
        by_cases h : j = 0
        · subst h; simp
        · simp [h]
      have e2 : encStr (ss.getD j []) = u := by
        rw [List.getElem?_map, List.getElem?_eq_getElem hjl] at hj
        injection hj with hj
        rw [← hj, List.getD_eq_getElem?_getD, List.getElem?_eq_getElem hjl, Option.getD_some]
      rw [e1, hc j hjl]
      exact congrArg some e2
    · obtain ⟨y, _, rfl⟩ := List.mem_map.1 hu
      rfl

theorem SlS.words {w : World} {v : Value} {ss : List Nm} (h : SlS w v ss) : ∀ x ∈ ss, x.length ≤ maxLen := by
  intro x hx
  obtain ⟨_, a, cap, _, h3⟩ := h
  obtain ⟨b, off, _, _, h4⟩ := h3 (List.length_pos_of_mem hx)
  exact h4.2 x hx

theorem mErr_zero {cs : List (Nm × List Nm)} {ab : List (List Nat)} {ss ts : List Nm} (h : sortsErr cs [ss, ts] = 0) : clsErr cs = 0 ∧ normErr (cs.map Prod.fst) ss = 0 ∧ normErr (cs.map Prod.fst) ts = 0 ∧
    mErr cs ab ss ts = if 20 < (leastB (cs.map Prod.fst) (fun i => ab.getD i []) (ss ++ ts)).length then 5 else 0 := by
  unfold sortsErr at h
  by_cases h0 : clsErr cs = 0
  · rw [if_pos h0] at h
    unfold firstErr at h
    by_cases h1 : normErr (cs.map Prod.fst) ss = 0
    · rw [if_pos h1] at h
      unfold firstErr at h
      by_cases h2 : normErr (cs.map Prod.fst) ts = 0
      · refine ⟨h0, h1, h2, ?_⟩
        unfold mErr meetErr
        rw [if_pos h0, if_neg (by simpa using h1), if_neg (by simpa using h2)]
      · rw [if_neg h2] at h; exact absurd h h2
    · rw [if_neg h1] at h; exact absurd h h1
  · rw [if_neg h0] at h; exact absurd h h0

theorem mErr_some {cs : List (Nm × List Nm)} {ab : List (List Nat)} {ss ts : List Nm} (h : sortsErr cs [ss, ts] ≠ 0) : mErr cs ab ss ts = sortsErr cs [ss, ts] := by
  unfold sortsErr mErr at *
  by_cases h0 : clsErr cs = 0
  · rw [if_pos h0] at h ⊢
    rw [if_pos h0]
    unfold meetErr firstErr
    unfold firstErr at h
    by_cases h1 : normErr (cs.map Prod.fst) ss = 0
    · rw [if_pos h1] at h ⊢
      rw [if_neg (by simpa using h1)]
      unfold firstErr
      unfold firstErr at h
      by_cases h2 : normErr (cs.map Prod.fst) ts = 0
      · rw [if_pos h2] at h; exact absurd rfl h
      · rw [if_neg h2, if_pos h2]
    · rw [if_neg h1, if_pos h1]
  · rw [if_neg h0, if_neg h0]

end Go.Proofs.YtehnikgdjnmfcaaGreat

/- The reference: within, Less. -/
namespace Go.Proofs.YtehnikgdjnmfcaaGreat
open Go.RowKit Go.WideMaps Go.Shelf

def withB (ns : List Nm) (abv : Nat → List Nat) (ss ts : List Nm) : Bool := ts.all fun y => ss.any fun a => belowB ns abv a y

theorem upHas_any (ns : List Nm) (abv : Nat → List Nat) (ss : List Nm) (c : Nm) : upHas ns abv ss c = ss.any fun a => belowB ns abv a c := by
  unfold upHas
  rw [upW_bit]; rfl

theorem lessB_with (ns : List Nm) (abv : Nat → List Nat) (ss ts : List Nm) : lessB ns abv ss ts = (ss.all (inNs ns) && (ts.all (inNs ns) && withB ns abv ss ts)) := by
  unfold lessB withB
  congr 3
  funext y
  exact upHas_any ns abv ss y

/-- what Less returns, where the classes are built -/
def lB (cs : List (Nm × List Nm)) (ab : List (List Nat)) (ss ts : List Nm) : Bool := decide (clsErr cs = 0) && lessB (cs.map Prod.fst) (fun i => ab.getD i []) ss ts

theorem lessB_ab {cs : List (Nm × List Nm)} {sp ab sp' ab' : List (List Nat)} (hb : Built cs sp ab) (hb' : Built cs sp' ab') (ss ts : List Nm) :
    lessB (cs.map Prod.fst) (fun i => ab.getD i []) ss ts = lessB (cs.map Prod.fst) (fun i => ab'.getD i []) ss ts := by
  by_cases h1 : ss.all (inNs (cs.map Prod.fst)) = true
  · by_cases h2 : ts.all (inNs (cs.map Prod.fst)) = true
    · exact (lessB_eq hb hb' (List.all_eq_true.1 h1) (List.all_eq_true.1 h2)).symm
    · have h2' : ts.all (inNs (cs.map Prod.fst)) = false := by simpa using h2
      unfold lessB
      rw [h2', Bool.false_and, Bool.false_and]
  · have h1' : ss.all (inNs (cs.map Prod.fst)) = false := by simpa using h1
    unfold lessB
    rw [h1', Bool.false_and, Bool.false_and]

set_option maxRecDepth 100000 in
set_option maxHeartbeats 8000000 in
theorem within_any (n c t2 t3 t4 t5 t6 u v : Value) (cs : List (Nm × List Nm)) (sp ab : List (List Nat)) (ss ts : List Nm) (w : World) (hc : SlC w c cs) (hbu : Built cs sp ab) (h300 : cs.length ≤ 300) (hs : SlS w u ss) (ht : SlS w v ts)
    (hks : ss.all (inNs (cs.map Prod.fst)) = true) (hkt : ts.all (inNs (cs.map Prod.fst)) = true) :
    Calls Tryz.prog 60 #[.agg #[n, c, t2, t3, t4, t5, t6], u, v] w fun e w' => e = .returned (.bool (withB (cs.map Prod.fst) (fun i => ab.getD i []) ss ts)) ∧ Below w.heap.size w w' := by
  have hb0 := below_alloc w (Obj.cells #[n, c, t2, t3, t4, t5, t6] 29)
  have HC := Lib.hid hc
  have HS := Lib.hid hs
  have HT := Lib.hid ht
  have HR0 := Lib.hid (heap_alloc_new w (Obj.cells #[n, c, t2, t3, t4, t5, t6] 29))
  have hz0 : w.heap.size < (w.alloc (Obj.cells #[n, c, t2, t3, t4, t5, t6] 29)).heap.size := by simp
  have HKS := Lib.hid (List.all_eq_true.1 hks)
  have HKT := Lib.hid (List.all_eq_true.1 hkt)
  have HBU := Lib.hid hbu
  obtain ⟨_, ca, ccap, rfl, _⟩ := hc
  obtain ⟨hsl, sa, scap, rfl, _⟩ := hs
  obtain ⟨htl, ta, tcap, rfl, _⟩ := ht
  unfold maxLen at hsl htl
  clear hks hkt hbu
  have H0 : Hid (withB (cs.map Prod.fst) (fun i => ab.getD i []) ss ts = (ts.drop 0).all fun y => ss.any fun a => belowB (cs.map Prod.fst) (fun i => ab.getD i []) a y) := rfl
  go_enter Tryz.func60, Tryz.ntmps60
  go_wp2_with fail
  generalize (w.alloc (Obj.cells #[n, .slice ca cs.length ccap, t2, t3, t4, t5, t6] 29)) = W1 at *
  go_loopw [7] (fun i wr => ∃ i' : Nat, i' ≤ ts.length ∧ i = .int .i64 i' ∧ Hid (withB (cs.map Prod.fst) (fun i => ab.getD i []) ss ts = (ts.drop i').all fun y => ss.any fun a => belowB (cs.map Prod.fst) (fun i => ab.getD i []) a y) ∧ Below W1.heap.size W1 wr) (fun i _ => ts.length - (intOf i).toNat)
  case atStart => exact ⟨0, by omega, rfl, H0, Below.refl _ _⟩
  case round =>
    obtain ⟨i, hi, rfl, hO, hB⟩ := hrel
    clear H0
    have hz := hB.size
    have hBw : Below w.heap.size w wr := hb0.trans (hB.mono (by omega))
    by_cases hlt : i < ts.length
    · obtain ⟨b, off, x, rfl, hb, hck0, hwk, hx⟩ := HT.out.at hlt
      have hxin := Lib.hid (HKT.out x (by rw [hx]; exact getD_mem ts [] i hlt))
      have HSN : Hid (withB (cs.map Prod.fst) (fun i => ab.getD i []) ss ts = ((ss.any fun a => belowB (cs.map Prod.fst) (fun i => ab.getD i []) a x) && (ts.drop (i + 1)).all fun y => ss.any fun a => belowB (cs.map Prod.fst) (fun i => ab.getD i []) a y)) := by
        unfold Hid; rw [hO.out, all_drop_getD ts [] _ i hlt, ← hx]
      have HK0 := Lib.hid hck0
      have hI0 : Hid (false = (ss.take 0).any fun a => belowB (cs.map Prod.fst) (fun i => ab.getD i []) a x) := rfl
      clear hx hck0 hO
      go_wp2_with fail
      obtain ⟨wo, rfl⟩ : ∃ wo : World, wo = wr := ⟨_, rfl⟩
      go_loopw [8, 9] (fun d k wr => ∃ (k' : Nat) (q : Bool), k' ≤ ss.length ∧ k = .int .i64 k' ∧ d = .bool q ∧ Hid (q = (ss.take k').any fun a => belowB (cs.map Prod.fst) (fun i => ab.getD i []) a x) ∧ Below wo.heap.size wo wr) (fun _ k _ => ss.length - (intOf k).toNat)
      case atStart => exact ⟨0, false, by omega, rfl, rfl, hI0, Below.refl _ _⟩
      case round =>
        obtain ⟨k, q, hk, rfl, rfl, hI, hB3⟩ := hrel
        clear hI0
        have hz3 := hB3.size
        have hBw3 : Below w.heap.size w wr := hBw.trans (hB3.mono (by omega))
        have r3 := Lib.hid ((hB3.block w.heap.size (by omega)).trans ((hB.block w.heap.size hz0).trans HR0.out))
        have hcx := (hBw3.cell (p := ⟨b, off + i, none⟩) hb).trans HK0.out
        by_cases hltk : k < ss.length
        · obtain ⟨b2, off2, d, rfl, hb2, hckd0, hwd, hd⟩ := HS.out.at hltk
          have hcd := (hBw3.cell (p := ⟨b2, off2 + k, none⟩) hb2).trans hckd0
          have HTT := Lib.hid (any_take_succ ss [] (fun a => belowB (cs.map Prod.fst) (fun i => ab.getD i []) a x) k hltk)
          rw [← hd] at HTT
          have hdin := Lib.hid (HKS.out d (by rw [hd]; exact getD_mem ss [] k hltk))
          clear hd hckd0
          cases q
          · have hst : Hid (belowB (cs.map Prod.fst) (fun i => ab.getD i []) d x = (ss.take (k + 1)).any fun a => belowB (cs.map Prod.fst) (fun i => ab.getD i []) a x) := by
              unfold Hid; rw [HTT.out, ← hI.out, Bool.false_or]
            have UN := Lib.hid (under_any n _ t2 t3 t4 t5 t6 cs sp ab d x wr.drew (HC.out.below hBw3.drew (Nat.le_refl _)) HBU.out h300 hdin.out hxin.out)
            have hcxd := Lib.hid hcx
            have hcdd := Lib.hid hcd
            obtain ⟨c0, c1, c2, c3, c4, c5, c6⟩ := cells7' r3.out
            clear HTT hI
            generalize belowB (cs.map Prod.fst) (fun i => ab.getD i []) d x = r at *
            go_wp2_with fail
            go_region_held3 (fun w' => w'.cell? ⟨w.heap.size, 0, none⟩ = some n ∧ w'.cell? ⟨w.heap.size, 1, none⟩ = some (.slice ca cs.length ccap) ∧ w'.cell? ⟨w.heap.size, 2, none⟩ = some t2 ∧ w'.cell? ⟨w.heap.size, 3, none⟩ = some t3 ∧ w'.cell? ⟨w.heap.size, 4, none⟩ = some t4 ∧ w'.cell? ⟨w.heap.size, 5, none⟩ = some t5 ∧ w'.cell? ⟨w.heap.size, 6, none⟩ = some t6 ∧ w'.cell? ⟨b, off + i, none⟩ = some (.string (bs x)) ∧ w'.cell? ⟨b2, off2 + k, none⟩ = some (.string (bs d)))
              (first | exact cells7and r3.out ⟨hcxd.out, hcdd.out⟩ | exact cells7and r4.out ⟨k4.out, k5.out⟩)
              ((go_at_call 61; refine UN.out.mono ?_; rintro e w4 ⟨rfl, hb4⟩; have hb4 : Below wr.heap.size wr w4 := ((Below.refl _ wr).drew).trans hb4; have r4 := Lib.hid ((hb4.block w.heap.size (by omega)).trans r3.out); have k4 := Lib.hid ((hb4.cell (p := ⟨b, off + i, none⟩) (by simp; omega)).trans hcxd.out); have k5 := Lib.hid ((hb4.cell (p := ⟨b2, off2 + k, none⟩) (by simp; omega)).trans hcdd.out)))
            clear c0 c1 c2 c3 c4 c5 c6 hcx hcd
            go_wp2_with fail
            go_roundw
            case rel => exact ⟨k + 1, r, by omega, by go_num, rfl, hst, hB3.trans (hb4.mono (by omega))⟩
            case measure => simp [intOf]; omega
          · have hst : Hid (true = (ss.take (k + 1)).any fun a => belowB (cs.map Prod.fst) (fun i => ab.getD i []) a x) := by
              unfold Hid; rw [HTT.out, ← hI.out]; rfl
            clear HTT hI
            go_wp2_with fail
            go_quiet (fail)
            go_wp2_with fail
            go_roundw
            case rel => exact ⟨k + 1, true, by omega, by go_num, rfl, hst, below_drewN hB3 _⟩
            case measure => simp [intOf]; omega
        · have hd := hI.out
          rw [List.take_of_length_le (by omega)] at hd
          clear hI
          cases q
          · have hst : Hid (withB (cs.map Prod.fst) (fun i => ab.getD i []) ss ts = false) := by
              unfold Hid; rw [HSN.out, ← hd]; rfl
            clear hd HSN
            go_wp2_with fail
            go_ret
            exact ⟨ret_bool hst.out.symm, hBw3⟩
          · have hst : Hid (withB (cs.map Prod.fst) (fun i => ab.getD i []) ss ts = (ts.drop (i + 1)).all fun y => ss.any fun a => belowB (cs.map Prod.fst) (fun i => ab.getD i []) a y) := by
              unfold Hid; rw [HSN.out, ← hd]; rfl
            clear hd HSN
            go_wp2_with fail
            go_roundw
            case rel => exact ⟨i + 1, by omega, by go_num, hst, hB.trans (hB3.mono (by omega))⟩
            case measure => simp [intOf]; omega
    · have hst : Hid (withB (cs.map Prod.fst) (fun i => ab.getD i []) ss ts = true) := by
        unfold Hid; rw [hO.out, List.drop_eq_nil_of_le (by omega)]; rfl
      clear hO
      go_wp2_with fail
      go_ret
      exact ⟨ret_bool hst.out.symm, hBw⟩

theorem lB_zero {cs : List (Nm × List Nm)} {ab : List (List Nat)} {ss ts : List Nm} (h : clsErr cs = 0) : lB cs ab ss ts = (ss.all (inNs (cs.map Prod.fst)) && (ts.all (inNs (cs.map Prod.fst)) && withB (cs.map Prod.fst) (fun i => ab.getD i []) ss ts)) := by
  unfold lB
  rw [decide_eq_true h, Bool.true_and, lessB_with]

end Go.Proofs.YtehnikgdjnmfcaaGreat

/- The reference: arity, IsNormal. -/
namespace Go.Proofs.YtehnikgdjnmfcaaGreat
open Go.RowKit Go.WideMaps Go.Shelf

abbrev Ar := Nm × Nm × List (List Nm)
def ar0 : Ar := ([], [], [])
def arKey (a : Ar) : Nm × Nm := (a.1, a.2.1)

def inP (ks : List (Nm × Nm)) (q : Nm × Nm) : Bool := decide (q ∈ ks)
def ixP (ks : List (Nm × Nm)) (q : Nm × Nm) : Nat := if q ∈ ks then ks.idxOf q else 0
/-- the index of a key, -1 for none -/
def arI (ks : List (Nm × Nm)) (q : Nm × Nm) : Int := if inP ks q = true then ((ixP ks q : Nat) : Int) else -1

theorem arI_in {ks : List (Nm × Nm)} {q : Nm × Nm} (h : inP ks q = true) : arI ks q = ((ixP ks q : Nat) : Int) := by unfold arI; rw [if_pos h]
theorem arI_out {ks : List (Nm × Nm)} {q : Nm × Nm} (h : inP ks q = false) : arI ks q = -1 := by unfold arI; rw [if_neg (by rw [h]; decide)]

theorem inP_snoc (ks : List (Nm × Nm)) (x q : Nm × Nm) : inP (ks ++ [x]) q = (inP ks q || decide (q = x)) := by
  unfold inP
  rw [Bool.eq_iff_iff]; simp

theorem ixP_lt {ks : List (Nm × Nm)} {q : Nm × Nm} (h : inP ks q = true) : ixP ks q < ks.length := by
  have hi := of_decide_eq_true h
  unfold ixP; rw [if_pos hi]; exact List.idxOf_lt_length_of_mem hi

theorem ixP_at {ks : List (Nm × Nm)} {q : Nm × Nm} (h : inP ks q = true) (d : Nm × Nm) : ks.getD (ixP ks q) d = q := by
  have hi := of_decide_eq_true h
  have hl := ixP_lt h
  rw [List.getD_eq_getElem?_getD, List.getElem?_eq_getElem hl, Option.getD_some]
  unfold ixP
  simp only [hi, if_true]
  exact List.getElem_idxOf _

theorem ixP_first {ks : List (Nm × Nm)} {k : Nat} {q : Nm × Nm} (d : Nm × Nm) (hk : k < ks.length) (hn : inP (ks.take k) q = false) (he : ks.getD k d = q) : inP ks q = true ∧ ixP ks q = k := by
  have e : ks = ks.take k ++ q :: ks.drop (k + 1) := by
    conv => lhs; rw [← List.take_append_drop k ks, List.drop_eq_getElem_cons hk]
    have : ks[k] = q := by rw [← he, List.getD_eq_getElem?_getD, List.getElem?_eq_getElem hk]; rfl
    rw [this]
  have hn' : q ∉ ks.take k := of_decide_eq_false hn
  have hm : q ∈ ks := by rw [e]; simp
  refine ⟨decide_eq_true hm, ?_⟩
  unfold ixP
  rw [if_pos hm]
  conv => lhs; rw [e]
  rw [List.idxOf_append, if_neg hn']
  simp; omega

theorem ixP_take {ks : List (Nm × Nm)} {k : Nat} {q : Nm × Nm} (h : inP (ks.take k) q = true) : inP ks q = true ∧ ixP ks q = ixP (ks.take k) q := by
  have h' : q ∈ ks.take k := of_decide_eq_true h
  have hm : q ∈ ks := List.mem_of_mem_take h'
  refine ⟨decide_eq_true hm, ?_⟩
  unfold ixP
  rw [if_pos hm, if_pos h']
  conv => lhs; rw [← List.take_append_drop k ks]
  rw [List.idxOf_append, if_pos h']

/-- arities in memory -/
def SlAr (w : World) (v : Value) (rs : List Ar) : Prop :=
  rs.length ≤ maxLen ∧ ∃ a cap, v = .slice a rs.length cap ∧ (0 < rs.length → ∃ b off, a = some ⟨b, off, none⟩ ∧ b < w.heap.size ∧
    ∀ k, k < rs.length → w.cell? ⟨b, off + k * 3, none⟩ = some (.string (bs (rs.getD k ar0).1)) ∧ (rs.getD k ar0).1.length ≤ maxLen ∧ w.cell? ⟨b, off + k * 3 + 1, none⟩ = some (.string (bs (rs.getD k ar0).2.1)) ∧ (rs.getD k ar0).2.1.length ≤ maxLen ∧
      ∃ p c, w.cell? ⟨b, off + k * 3 + 2, none⟩ = some (.slice p (rs.getD k ar0).2.2.length c) ∧ SlSs w (.slice p (rs.getD k ar0).2.2.length c) (rs.getD k ar0).2.2)

theorem SlSs.below {w w' : World} {B : Nat} {v : Value} {ls : List (List Nm)} (h : SlSs w v ls) (hb : Below B w w') (hB : w.heap.size ≤ B) : SlSs w' v ls := by
  obtain ⟨h1, a, cap, h2, h3⟩ := h
  refine ⟨h1, a, cap, h2, fun h => ?_⟩
  obtain ⟨b, off, h4, h5, h6⟩ := h3 h
  refine ⟨b, off, h4, by have := hb.size; omega, fun k hk => ?_⟩
  obtain ⟨p, c, g1, g2⟩ := h6 k hk
  exact ⟨p, c, (hb.cell (p := ⟨b, _, none⟩) (by simp; omega)).trans g1, g2.below hb hB⟩

theorem SlAr.below {w w' : World} {B : Nat} {v : Value} {rs : List Ar} (h : SlAr w v rs) (hb : Below B w w') (hB : w.heap.size ≤ B) : SlAr w' v rs := by
  obtain ⟨h1, a, cap, h2, h3⟩ := h
  refine ⟨h1, a, cap, h2, fun h => ?_⟩
  obtain ⟨b, off, h4, h5, h6⟩ := h3 h
  refine ⟨b, off, h4, by have := hb.size; omega, fun k hk => ?_⟩
  obtain ⟨g1, g2, g3, g4, p, c, g5, g6⟩ := h6 k hk
  exact ⟨(hb.cell (p := ⟨b, _, none⟩) (by simp; omega)).trans g1, g2, (hb.cell (p := ⟨b, _, none⟩) (by simp; omega)).trans g3, g4, p, c, (hb.cell (p := ⟨b, _, none⟩) (by simp; omega)).trans g5, g6.below hb hB⟩

theorem key_at (rs : List Ar) (k : Nat) (hk : k < rs.length) : (rs.map arKey).getD k ([], []) = arKey (rs.getD k ar0) := by
  rw [List.getD_eq_getElem?_getD, List.getElem?_map, List.getElem?_eq_getElem hk, List.getD_eq_getElem?_getD, List.getElem?_eq_getElem hk]; rfl

theorem keys_take (rs : List Ar) (k : Nat) (hk : k < rs.length) : (rs.map arKey).take (k + 1) = (rs.map arKey).take k ++ [arKey (rs.getD k ar0)] := by
  rw [← List.map_take, ← List.map_take, take_snocD rs ar0 k hk, List.map_append]; rfl

set_option maxHeartbeats 8000000 in
theorem arity_any (n c t2 t3 t4 t5 t6 : Value) (x y : Nm) (rs : List Ar) (w : World) (ha : SlAr w t3 rs) :
    Calls Tryz.prog 44 #[.agg #[n, c, t2, t3, t4, t5, t6], .string (bs x), .string (bs y)] w fun e w' => e = .returned (.int .i64 (arI (rs.map arKey) (x, y))) ∧ Below w.heap.size w w' := by
  have hb0 := below_alloc w (Obj.cells #[n, c, t2, t3, t4, t5, t6] 29)
  have HA := Lib.hid (ha.below hb0 (Nat.le_refl _))
  obtain ⟨hl, aa, acap, rfl, _⟩ := ha
  unfold maxLen at hl
  have H0 : Hid (inP ((rs.map arKey).take 0) (x, y) = false) := by unfold Hid; simp [inP]
  have HB := Lib.hid hb0
  clear hb0
  go_enter Tryz.func44, Tryz.ntmps44
  go_wp2_with fail
  go_loop [7] (fun i => ∃ k : Nat, k ≤ rs.length ∧ i = .int .i64 k ∧ Hid (inP ((rs.map arKey).take k) (x, y) = false)) (fun i => rs.length - (intOf i).toNat)
  case atStart => exact ⟨0, by omega, rfl, H0⟩
  case round =>
    obtain ⟨k, hk, rfl, hI⟩ := hrel
    by_cases hlt : k < rs.length
    · obtain ⟨_, aa', acap', hee, hsx⟩ := HA.out
      injection hee with hee _ hee2
      subst hee hee2
      obtain ⟨b, off, rfl, hb, hcl⟩ := hsx (by omega)
      obtain ⟨g0, _, g1, _⟩ := hcl k hlt
      have htk : Hid ((rs.map arKey).take (k + 1) = (rs.map arKey).take k ++ [((rs.getD k ar0).1, (rs.getD k ar0).2.1)]) := keys_take rs k hlt
      have hfx : Hid (((rs.getD k ar0).1, (rs.getD k ar0).2.1) = (x, y) → inP (rs.map arKey) (x, y) = true ∧ ixP (rs.map arKey) (x, y) = k) := fun he => ixP_first (ks := rs.map arKey) (q := (x, y)) (k := k) ([], []) (by simpa using hlt) hI.out ((key_at rs k hlt).trans he)
      clear hcl hsx H0
      generalize hx : (rs.getD k ar0).1 = a at *
      generalize hy : (rs.getD k ar0).2.1 = d at *
      clear hx hy
      by_cases h1 : a = x
      · have hq1 : ((bs a).toList == (bs x).toList) = true := by rw [bs_eq]; exact decide_eq_true h1
        by_cases h2 : d = y
        · have hq2 : ((bs d).toList == (bs y).toList) = true := by rw [bs_eq]; exact decide_eq_true h2
          obtain ⟨h3, h4⟩ := hfx.out (by rw [h1, h2])
          have HR : Hid (arI (rs.map arKey) (x, y) = ((k : Nat) : Int)) := by unfold Hid; rw [arI_in h3, h4]
          clear h1 h2 h3 h4 hfx htk hI
          go_wp2_with fail
          go_ret
          exact ⟨by rw [HR.out]; rfl, HB.out⟩
        · have hq2 : ((bs d).toList == (bs y).toList) = false := by rw [bs_eq]; exact decide_eq_false h2
          have hst : Hid (inP ((rs.map arKey).take (k + 1)) (x, y) = false) := by
            unfold Hid; rw [htk.out, inP_snoc]
            rw [hI.out, decide_eq_false (fun e => h2 (by injection e with _ e; exact e.symm))]; rfl
          clear h1 h2 hfx htk hI
          go_wp2_with fail
          go_round
          case rel => exact ⟨k + 1, by omega, by go_num, hst⟩
          case measure => simp [intOf]; omega
      · have hq1 : ((bs a).toList == (bs x).toList) = false := by rw [bs_eq]; exact decide_eq_false h1
        have hst : Hid (inP ((rs.map arKey).take (k + 1)) (x, y) = false) := by
          unfold Hid; rw [htk.out, inP_snoc]
          rw [hI.out, decide_eq_false (fun e => h1 (by injection e with e _; exact e.symm))]; rfl
        clear h1 hfx htk hI
        go_wp2_with fail
        go_round
        case rel => exact ⟨k + 1, by omega, by go_num, hst⟩
        case measure => simp [intOf]; omega
    · have HR : Hid (arI (rs.map arKey) (x, y) = -1) := by
        unfold Hid
        refine arI_out ?_
        have := hI.out
        rw [List.take_of_length_le (by simp; omega)] at this; exact this
      clear hI H0
      go_wp2_with fail
      go_ret
      exact ⟨by rw [HR.out]; rfl, HB.out⟩

/-- whether a sort is normal -/
def normB (ns : List Nm) (abv : Nat → List Nat) (ss : List Nm) : Bool := ss.all (inNs ns) && (decide (ss.length ≤ 20) && decide (leastB ns abv ss = ss))

theorem take_ext (l s : List Nm) (k : Nat) (hk : k < l.length) (hs : k < s.length) (h : l.take k = s.take k) : l.take (k + 1) = s.take (k + 1) ↔ l.getD k [] = s.getD k [] := by
  rw [take_snocD l [] k hk, take_snocD s [] k hs, h]
  simp

set_option maxRecDepth 100000 in
set_option maxHeartbeats 8000000 in
theorem isNormal_any (n c t2 t3 t4 t5 t6 v : Value) (cs : List (Nm × List Nm)) (sp ab : List (List Nat)) (ss : List Nm) (w : World) (hc : SlC w c cs) (hbu : Built cs sp ab) (h300 : cs.length ≤ 300) (hs : SlS w v ss) :
    Calls Tryz.prog 58 #[.agg #[n, c, t2, t3, t4, t5, t6], v] w fun e w' => e = .returned (.bool (normB (cs.map Prod.fst) (fun i => ab.getD i []) ss)) ∧ Below w.heap.size w w' := by
  have hb0 := below_alloc w (Obj.cells #[n, c, t2, t3, t4, t5, t6] 29)
  have HC := Lib.hid hc
  have HS := Lib.hid hs
  have r0 := Lib.hid (heap_alloc_new w (Obj.cells #[n, c, t2, t3, t4, t5, t6] 29))
  have hz0 : w.heap.size < (w.alloc (Obj.cells #[n, c, t2, t3, t4, t5, t6] 29)).heap.size := by simp
  have HBU := Lib.hid hbu
  obtain ⟨_, ca, ccap, rfl, _⟩ := hc
  obtain ⟨hsl, sa, scap, rfl, _⟩ := hs
  unfold maxLen at hsl
  clear hbu
  have K1 := Lib.hid (rknown_any n _ t2 t3 t4 t5 t6 _ ss cs _ (HC.out.below hb0 (Nat.le_refl _)) (HS.out.below hb0 (Nat.le_refl _)))
  go_enter Tryz.func58, Tryz.ntmps58
  by_cases h1 : ss.all (inNs (cs.map Prod.fst)) = true
  · rw [h1] at K1
    have H1 := Lib.hid h1
    clear h1
    by_cases h20 : 20 < ss.length
    · have hd : decide (20 < ((ss.length : Nat) : Int)) = true := by simp; omega
      have HR : Hid (normB (cs.map Prod.fst) (fun i => ab.getD i []) ss = false) := by unfold Hid normB; rw [H1.out, decide_eq_false (by omega)]; rfl
      go_wp2_with fail
      refine K1.out.mono ?_
      rintro e w1 ⟨rfl, hb1⟩
      go_wp2_with fail
      go_ret
      exact ⟨ret_bool HR.out.symm, hb0.trans (hb1.mono (by omega))⟩
    · have hd : decide (20 < ((ss.length : Nat) : Int)) = false := by simp; omega
      have HR : Hid (normB (cs.map Prod.fst) (fun i => ab.getD i []) ss = decide (leastB (cs.map Prod.fst) (fun i => ab.getD i []) ss = ss)) := by unfold Hid normB; rw [H1.out, decide_eq_true (show ss.length ≤ 20 by omega)]; rfl
      go_wp2_with fail
      refine K1.out.mono ?_
      rintro e w1 ⟨rfl, hb1⟩
      have hB1 : Below w.heap.size w w1 := hb0.trans (hb1.mono (by omega))
      have hz1 : w.heap.size < w1.heap.size := Nat.lt_of_lt_of_le hz0 hb1.size
      have r1 := Lib.hid ((hb1.block w.heap.size hz0).trans r0.out)
      have LE := Lib.hid (rleast_any n _ t2 t3 t4 t5 t6 _ cs sp ab ss w1 (HC.out.below hB1 (Nat.le_refl _)) HBU.out h300 (HS.out.below hB1 (Nat.le_refl _)) (by omega) H1.out)
      clear hb1 hb0 hz0 r0 K1
      obtain ⟨c0, c1, c2, c3, c4, c5, c6⟩ := cells7' r1.out
      obtain ⟨L, hL⟩ : ∃ L, L = leastB (cs.map Prod.fst) (fun i => ab.getD i []) ss := ⟨_, rfl⟩
      have HR2 := HR.out
      rw [← hL] at LE HR2
      have HRR := Lib.hid HR2
      clear hL HR HR2
      go_wp2_with fail
      refine LE.out.mono ?_
      rintro e w2 ⟨v2, rfl, ho2, hb2⟩
      have hB2 : Below w.heap.size w w2 := hB1.trans (hb2.mono (Nat.le_of_lt hz1))
      have HO2 := Lib.hid ho2.sl
      have HSS := Lib.hid (HS.out.below hB2 (Nat.le_refl _))
      obtain ⟨hll, _, la, lcap, rfl, _⟩ := ho2
      clear c0 c1 c2 c3 c4 c5 c6 hb2 r1 LE
      by_cases hlen : L.length = ss.length
      · have hd2 : (((L.length : Nat) : Int) != ((ss.length : Nat) : Int)) = false := by simp [hlen]
        have H0 : Hid (L.take 0 = ss.take 0) := rfl
        go_wp2_with fail
        go_loopw [6] (fun u wr => ∃ k : Nat, k ≤ L.length ∧ u = .int .i64 k ∧ Hid (L.take k = ss.take k) ∧ Below w2.heap.size w2 wr) (fun u _ => L.length - (intOf u).toNat)
        case atStart => exact ⟨0, by omega, rfl, H0, Below.refl _ _⟩
        case round =>
          obtain ⟨k, hk, rfl, hI, hB⟩ := hrel
          clear H0
          have hBw : Below w.heap.size w wr := hB2.trans (hB.mono (by have := hB2.size; omega))
          by_cases hlt : k < L.length
          · obtain ⟨b1, o1, x1, rfl, hb1, hc1, hw1, hx1⟩ := (HO2.out.below hB (Nat.le_refl _)).at hlt
            obtain ⟨b3, o3, x3, rfl, hb3, hc3, hw3, hx3⟩ := (HSS.out.below hB (Nat.le_refl _)).at (k := k) (by omega)
            have HIF := Lib.hid (take_ext L ss k hlt (by omega) hI.out)
            have HIF2 : Hid (L.take (k + 1) = ss.take (k + 1) ↔ x1 = x3) := by unfold Hid; rw [HIF.out, hx1, hx3]
            have hlt2 : k < ss.length := by omega
            clear hx1 hx3 HIF hI
            by_cases he : x1 = x3
            · have hq : ((bs x1).toList == (bs x3).toList) = true := by rw [bs_eq]; exact decide_eq_true he
              have hst := Lib.hid (HIF2.out.2 he)
              clear HIF2 he
              go_wp2_with fail
              go_quiet (fail)
              go_wp2_with fail
              go_roundw
              case rel => exact ⟨k + 1, by omega, by go_num, hst, below_drewN hB _⟩
              case measure => simp [intOf]; omega
            · have hq : ((bs x1).toList == (bs x3).toList) = false := by rw [bs_eq]; exact decide_eq_false he
              have hst : Hid (decide (L = ss) = false) := decide_eq_false fun e => he (HIF2.out.1 (by rw [e]))
              clear HIF2 he
              go_wp2_with fail
              go_quiet (fail)
              go_wp2_with fail
              go_ret
              exact ⟨ret_bool (by rw [HRR.out, hst.out]), below_drewN hBw _⟩
          · have hst : Hid (decide (L = ss) = true) := by
              have := hI.out
              rw [List.take_of_length_le (by omega), List.take_of_length_le (by omega)] at this
              exact decide_eq_true this
            clear hI
            go_wp2_with fail
            go_ret
            exact ⟨ret_bool (by rw [HRR.out, hst.out]), hBw⟩
      · have hd2 : (((L.length : Nat) : Int) != ((ss.length : Nat) : Int)) = true := by rw [bne_iff_ne]; omega
        have hst : Hid (decide (L = ss) = false) := decide_eq_false fun e => hlen (by rw [e])
        go_wp2_with fail
        go_ret
        exact ⟨ret_bool (by rw [HRR.out, hst.out]), hB2⟩
  · have h1' : ss.all (inNs (cs.map Prod.fst)) = false := by simpa using h1
    rw [h1'] at K1
    have HR : Hid (normB (cs.map Prod.fst) (fun i => ab.getD i []) ss = false) := by unfold Hid normB; rw [h1']; rfl
    clear h1 h1'
    go_wp2_with fail
    refine K1.out.mono ?_
    rintro e w1 ⟨rfl, hb1⟩
    go_wp2_with fail
    go_ret
    exact ⟨ret_bool HR.out.symm, hb0.trans (hb1.mono (by omega))⟩
end Go.Proofs.YtehnikgdjnmfcaaGreat

/- Below, of the program and of the reference. -/
namespace Go.Proofs.YtehnikgdjnmfcaaGreat
open Go.RowKit Go.WideMaps Go.Shelf

theorem slOne {w : World} {k : Nat} {x : Nm} {fr : Nat × Nat} (h : w.heap[k]? = some (.cells #[.string (bs x)] 9 fr)) (hx : x.length ≤ maxLen) : SlS w (.slice (some ⟨k, 0, none⟩) 1 1) [x] := by
  refine ⟨by unfold maxLen; simp, _, 1, rfl, fun _ => ⟨k, 0, rfl, (Array.getElem?_eq_some_iff.1 h).1, fun j hj => ?_, fun s hs => ?_⟩⟩
  · have : j = 0 := by simp at hj; omega
    subst this
    rw [cell_of_row w _ _ _ _ _ h]; rfl
  · rw [List.mem_singleton] at hs; subst hs; exact hx

end Go.Proofs.YtehnikgdjnmfcaaGreat

/- The law's arguments 6. -/
namespace Go.Proofs.YtehnikgdjnmfcaaGreat
open Go.RowKit Go.WideMaps Go.Shelf Go.Sort Go.Lib
attribute [local go_sem] Oper.semAt_some

set_option maxRecDepth 100000 in
set_option maxHeartbeats 2000000 in
theorem arguments_any (n c t2 t3 t4 t5 t6 : Value) (ds : List (Nm × Int)) (w : World) (hd : SlT w t2 ds) :
    Calls Tryz.prog 6 #[.agg #[n, c, t2, t3, t4, t5, t6]] w fun e w' => (∃ k : Int, e = .returned (.int .i64 k)) ∧ Below w.heap.size w w' := by
  have hb0 := below_alloc w (Obj.cells #[n, c, t2, t3, t4, t5, t6] 29)
  have r0 := heap_alloc_new w (Obj.cells #[n, c, t2, t3, t4, t5, t6] 29)
  have hz0 : (w.alloc (Obj.cells #[n, c, t2, t3, t4, t5, t6] 29)).heap.size = w.heap.size + 1 := by simp
  obtain ⟨hdl, da, dcap, rfl, hdx⟩ := hd
  unfold maxLen at hdl
  have HDX := Lib.hid hdx
  obtain ⟨c0, c1, c2, c3, c4, c5, c6⟩ := cells7' r0
  have HB0 := Lib.hid hb0
  clear hdx r0 hb0
  go_enter Tryz.func6, Tryz.ntmps6
  go_wp2_with fail
  go_loopw [3, 9] (fun s i wr => ∃ (k : Nat) (m : Int), k ≤ ds.length ∧ i = .int .i64 k ∧ s = .int .i64 m ∧ Below w.heap.size w wr) (fun _ i _ => ds.length - (intOf i).toNat)
  case atStart => exact ⟨0, 0, by omega, rfl, rfl, HB0.out⟩
  case round =>
    obtain ⟨k, m, hk, rfl, rfl, hB⟩ := hrel
    by_cases hlt : k < ds.length
    · obtain ⟨b, off, rfl, hb, hc⟩ := HDX.out (by omega)
      obtain ⟨g0, _, g1⟩ := hc k hlt
      have e0 := (hB.cell (p := ⟨b, off + k * 2, none⟩) hb).trans g0
      have e1 := (hB.cell (p := ⟨b, off + k * 2 + 1, none⟩) hb).trans g1
      generalize ds.getD k ([], 0) = dc at *
      obtain ⟨nm, nn⟩ := dc
      simp only [] at e0 e1
      have ha := below_alloc wr (Obj.cells #[.string (bs nm), .int .i64 nn] 54)
      have ra := heap_alloc_new wr (Obj.cells #[.string (bs nm), .int .i64 nn] 54)
      have x0 : (wr.alloc (Obj.cells #[.string (bs nm), .int .i64 nn] 54)).cell? ⟨wr.heap.size, 0, none⟩ = some (.string (bs nm)) := by rw [cell_of_row _ _ 0 _ _ _ ra]; rfl
      have x1 : (wr.alloc (Obj.cells #[.string (bs nm), .int .i64 nn] 54)).cell? ⟨wr.heap.size, 1, none⟩ = some (.int .i64 nn) := by rw [cell_of_row _ _ 1 _ _ _ ra]; rfl
      have hB2 := hB.trans (ha.mono hB.size)
      clear hc g0 g1 ha ra c0 c1 c2 c3 c4 c5 c6
      go_wp2_with fail
      go_roundw
      case rel => exact ⟨k + 1, _, by omega, by go_num, rfl, hB2⟩
      case measure => simp [intOf]; omega
    · go_wp2_with fail
      go_ret
      exact ⟨⟨m, rfl⟩, hB⟩
end Go.Proofs.YtehnikgdjnmfcaaGreat
