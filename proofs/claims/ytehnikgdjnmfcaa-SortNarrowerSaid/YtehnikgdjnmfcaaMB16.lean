/- The reference: the error of sorts. -/
import Derived.Test.YtehnikgdjnmfcaaMB12
import Derived.Test.YtehnikgdjnmfcaaMB15
namespace Go.Proofs.Ytehnikgdjnmfcaa
open Go.RowKit Go.WideMaps Go.Shelf

theorem clsErrFrom_zero (cs : List (Nm × List Nm)) : ∀ f k, clsErrFrom cs f k = 0 → ∀ j, k ≤ j → j < k + f → classErr ((cs.take j).map Prod.fst) (cs.getD j ([], [])).1 (cs.getD j ([], [])).2 = 0
  | 0, _, _, j, h1, h2 => absurd h2 (by omega)
  | f + 1, k, h, j, h1, h2 => by
    unfold clsErrFrom at h
    by_cases h0 : classErr ((cs.take k).map Prod.fst) (cs.getD k ([], [])).1 (cs.getD k ([], [])).2 = 0
    · rw [if_pos h0] at h
      by_cases e : j = k
      · subst e; exact h0
      · exact clsErrFrom_zero cs f (k + 1) h j (by omega) (by omega)
    · rw [if_neg h0] at h; exact absurd h h0

theorem clsErr_len {cs : List (Nm × List Nm)} (h : clsErr cs = 0) : cs.length ≤ 300 := by
  unfold clsErr at h
  by_cases h3 : 300 < cs.length
  · rw [if_pos h3] at h; exact absurd h (by decide)
  · omega

open Classical in
theorem built_take {cs : List (Nm × List Nm)} (h : clsErr cs = 0) : ∀ k, k ≤ cs.length → ∃ sp ab, Built (cs.take k) sp ab
  | 0, _ => ⟨[], [], by rw [List.take_zero]; exact .nil⟩
  | k + 1, hk => by
    obtain ⟨sp, ab, hb⟩ := built_take h k (by omega)
    have h3 := clsErr_len h
    have hf : clsErrFrom cs cs.length 0 = 0 := by
      unfold clsErr at h
      rw [if_neg (by omega)] at h; exact h
    have hc := clsErrFrom_zero cs _ _ hf k (by omega) (by omega)
    have hlen : (cs.take k).length = k := by rw [List.length_take]; omega
    generalize hx : cs.getD k ([], []) = x at *
    obtain ⟨nm, sups⟩ := x
    have hlt := Built.lt' hb
    rw [take_snocD cs ([], []) k (by omega), hx]
    refine ⟨_, _, Built.snoc (ys := (List.range (k + 1)).filter fun x => decide (Reach (fun i => (sp ++ [sups.map (ixOf ((cs.take k).map Prod.fst))]).getD i []) (cs.take k).length x)) hb hc fun x => ?_⟩
    rw [List.mem_filter, List.mem_range, decide_eq_true_iff]
    refine ⟨fun h => h.2, fun h => ⟨?_, h⟩⟩
    have hlt2 : ∀ i, ∀ s ∈ (sp ++ [sups.map (ixOf ((cs.take k).map Prod.fst))]).getD i [], s < i := by
      intro i s hs
      have hl := hb.len.1
      by_cases hin : i < sp.length
      · rw [getD_left sp _ i hin] at hs; exact hlt i s hs
      · by_cases he : i = sp.length
        · subst he
          rw [getD_last] at hs
          obtain ⟨t, ht, rfl⟩ := List.mem_map.1 hs
          have h2 := supErr_all _ _ (classErr_zero hc).2.2.2 t ht
          have := ixOf_lt h2
          rw [List.length_map] at this; omega
        · rw [List.getD_eq_getElem?_getD, List.getElem?_eq_none (by simp; omega)] at hs
          simp at hs
    have := Reach.le hlt2 h
    omega

theorem built_of {cs : List (Nm × List Nm)} (h : clsErr cs = 0) : ∃ sp ab, Built cs sp ab := by
  obtain ⟨sp, ab, hb⟩ := built_take h cs.length (Nat.le_refl _)
  rw [List.take_length] at hb
  exact ⟨sp, ab, hb⟩

def firstErr (ns : List Nm) : List (List Nm) → Int
  | [] => 0
  | s :: r => if normErr ns s = 0 then firstErr ns r else normErr ns s

def sortsErr (cs : List (Nm × List Nm)) (ls : List (List Nm)) : Int := if clsErr cs = 0 then firstErr (cs.map Prod.fst) ls else clsErr cs

/-- a slice of sorts -/
def SlSs (w : World) (v : Value) (ls : List (List Nm)) : Prop :=
  ls.length ≤ maxLen ∧ ∃ a cap, v = .slice a ls.length cap ∧ (0 < ls.length → ∃ b off, a = some ⟨b, off, none⟩ ∧ b < w.heap.size ∧
    ∀ k, k < ls.length → ∃ p c, w.cell? ⟨b, off + k, none⟩ = some (.slice p (ls.getD k []).length c) ∧ SlS w (.slice p (ls.getD k []).length c) (ls.getD k []))

set_option maxRecDepth 100000 in
set_option maxHeartbeats 8000000 in
theorem sorts_any (n c t2 t3 t4 t5 t6 v : Value) (cs : List (Nm × List Nm)) (ls : List (List Nm)) (w : World) (hc : SlC w c cs) (hs : SlSs w v ls) :
    Calls Try.prog 44 #[.agg #[n, c, t2, t3, t4, t5, t6], v] w fun e w' => e = .returned (.int .i64 (sortsErr cs ls)) ∧ Below w.heap.size w w' := by
  have hb0 := below_alloc w (Obj.cells #[n, c, t2, t3, t4, t5, t6] 29)
  have HC := Lib.hid hc
  have HS := Lib.hid hs
  have r0 := Lib.hid (heap_alloc_new w (Obj.cells #[n, c, t2, t3, t4, t5, t6] 29))
  have hz0 : w.heap.size < (w.alloc (Obj.cells #[n, c, t2, t3, t4, t5, t6] 29)).heap.size := by simp
  obtain ⟨_, ca, ccap, rfl, _⟩ := hc
  obtain ⟨hlm, sa, scap, rfl, _⟩ := hs
  unfold maxLen at hlm
  obtain ⟨c0, c1, c2, c3, c4, c5, c6⟩ := cells7' r0.out
  have CL := Lib.hid (classes_any n _ t2 t3 t4 t5 t6 cs _ (HC.out.below hb0 (Nat.le_refl _)))
  go_enter Try.func44, Try.ntmps44
  go_wp2_with fail
  refine CL.out.mono ?_
  rintro e w1 ⟨rfl, hb1⟩
  have hB1 : Below w.heap.size w w1 := hb0.trans (hb1.mono (by omega))
  have hz1 : w.heap.size < w1.heap.size := Nat.lt_of_lt_of_le hz0 hb1.size
  have r1 := Lib.hid ((hb1.block w.heap.size hz0).trans r0.out)
  clear c0 c1 c2 c3 c4 c5 c6 hb1 hb0 hz0 CL r0
  by_cases h0 : clsErr cs = 0
  · have HE : Hid (sortsErr cs ls = firstErr (cs.map Prod.fst) (ls.drop 0)) := by unfold Hid sortsErr; rw [if_pos h0]; rfl
    rw [h0]
    clear h0
    go_wp2_with fail
    go_loopw [6] (fun u wr => ∃ k : Nat, k ≤ ls.length ∧ u = .int .i64 k ∧ Hid (sortsErr cs ls = firstErr (cs.map Prod.fst) (ls.drop k)) ∧ Below w1.heap.size w1 wr) (fun u _ => ls.length - (intOf u).toNat)
    case atStart => exact ⟨0, by omega, rfl, HE, Below.refl _ _⟩
    case round =>
      obtain ⟨k, hk, rfl, hI, hB⟩ := hrel
      clear HE
      have hz := hB.size
      have hBw : Below w.heap.size w wr := hB1.trans (hB.mono (by omega))
      by_cases hlt : k < ls.length
      · obtain ⟨_, a', cap', hee, hsx⟩ := HS.out
        injection hee with hee _ hee2
        subst hee hee2
        obtain ⟨b, off, rfl, hb, hcl⟩ := hsx (by omega)
        obtain ⟨sp, sc, g0, hss⟩ := hcl k hlt
        have hstep : Hid (sortsErr cs ls = if normErr (cs.map Prod.fst) (ls.getD k []) = 0 then firstErr (cs.map Prod.fst) (ls.drop (k + 1)) else normErr (cs.map Prod.fst) (ls.getD k [])) := by
          unfold Hid; rw [hI.out, drop_getD ls [] k hlt]; rfl
        generalize ls.getD k [] = x at *
        have hcc := (hBw.cell (p := ⟨b, off + k, none⟩) hb).trans g0
        have hcd := Lib.hid hcc
        have HX := Lib.hid hss
        have r3 := Lib.hid ((hB.block w.heap.size hz1).trans r1.out)
        clear hcl hsx hI g0 hss
        by_cases h20 : 20 < x.length
        · have hd : decide (20 < ((x.length : Nat) : Int)) = true := by simp; omega
          have hE : Hid (sortsErr cs ls = 5) := by
            have e : normErr (cs.map Prod.fst) x = 5 := by unfold normErr; rw [if_pos h20]
            unfold Hid; rw [hstep.out, e]; rfl
          clear hstep h20
          go_wp2_with fail
          go_ret
          exact ⟨by rw [hE.out]; rfl, hBw⟩
        · have hd : decide (20 < ((x.length : Nat) : Int)) = false := by simp; omega
          have CK := Lib.hid (rknown_any n _ t2 t3 t4 t5 t6 _ x cs wr.drew (HC.out.below hBw.drew (Nat.le_refl _)) (HX.out.below hBw.drew (Nat.le_refl _)))
          obtain ⟨c0, c1, c2, c3, c4, c5, c6⟩ := cells7' r3.out
          by_cases hall : x.all (inNs (cs.map Prod.fst)) = true
          · have hst : Hid (sortsErr cs ls = firstErr (cs.map Prod.fst) (ls.drop (k + 1))) := by
              have e : normErr (cs.map Prod.fst) x = 0 := by unfold normErr; rw [if_neg h20, if_pos hall]
              unfold Hid; rw [hstep.out, e]; rfl
            rw [hall] at CK
            clear hstep hall h20
            go_wp2_with fail
            go_region_held3 (fun w' => w'.cell? ⟨w.heap.size, 0, none⟩ = some n ∧ w'.cell? ⟨w.heap.size, 1, none⟩ = some (.slice ca cs.length ccap) ∧ w'.cell? ⟨w.heap.size, 2, none⟩ = some t2 ∧ w'.cell? ⟨w.heap.size, 3, none⟩ = some t3 ∧ w'.cell? ⟨w.heap.size, 4, none⟩ = some t4 ∧ w'.cell? ⟨w.heap.size, 5, none⟩ = some t5 ∧ w'.cell? ⟨w.heap.size, 6, none⟩ = some t6 ∧ w'.cell? ⟨b, off + k, none⟩ = some (.slice sp x.length sc))
              (first | exact cells7and r3.out hcd.out | exact cells7and r4.out k4.out)
              ((go_at_call 39; refine CK.out.mono ?_; rintro e w4 ⟨rfl, hb4⟩; have hb4 : Below wr.heap.size wr w4 := ((Below.refl _ wr).drew).trans hb4; have r4 := Lib.hid ((hb4.block w.heap.size (by omega)).trans r3.out); have k4 := Lib.hid ((hb4.cell (p := ⟨b, off + k, none⟩) (by simp; omega)).trans hcd.out)))
            clear c0 c1 c2 c3 c4 c5 c6 hcc
            go_wp2_with fail
            go_roundw
            case rel => exact ⟨k + 1, by omega, by go_num, hst, hB.trans (hb4.mono (by omega))⟩
            case measure => simp [intOf]; omega
          · have hall' : x.all (inNs (cs.map Prod.fst)) = false := by simpa using hall
            have hE : Hid (sortsErr cs ls = 9) := by
              have e : normErr (cs.map Prod.fst) x = 9 := by unfold normErr; rw [if_neg h20, if_neg hall]
              unfold Hid; rw [hstep.out, e]; rfl
            rw [hall'] at CK
            clear hstep hall hall' h20
            go_wp2_with fail
            go_region_held3 (fun w' => w'.cell? ⟨w.heap.size, 0, none⟩ = some n ∧ w'.cell? ⟨w.heap.size, 1, none⟩ = some (.slice ca cs.length ccap) ∧ w'.cell? ⟨w.heap.size, 2, none⟩ = some t2 ∧ w'.cell? ⟨w.heap.size, 3, none⟩ = some t3 ∧ w'.cell? ⟨w.heap.size, 4, none⟩ = some t4 ∧ w'.cell? ⟨w.heap.size, 5, none⟩ = some t5 ∧ w'.cell? ⟨w.heap.size, 6, none⟩ = some t6 ∧ w'.cell? ⟨b, off + k, none⟩ = some (.slice sp x.length sc))
              (first | exact cells7and r3.out hcd.out | exact cells7and r4.out k4.out)
              ((go_at_call 39; refine CK.out.mono ?_; rintro e w4 ⟨rfl, hb4⟩; have hb4 : Below wr.heap.size wr w4 := ((Below.refl _ wr).drew).trans hb4; have r4 := Lib.hid ((hb4.block w.heap.size (by omega)).trans r3.out); have k4 := Lib.hid ((hb4.cell (p := ⟨b, off + k, none⟩) (by simp; omega)).trans hcd.out)))
            go_wp2_with fail
            go_ret
            exact ⟨by rw [hE.out]; rfl, hBw.trans (hb4.mono (by omega))⟩
      · have hE : Hid (sortsErr cs ls = 0) := by unfold Hid; rw [hI.out, List.drop_eq_nil_of_le (by omega)]; rfl
        clear hI
        go_wp2_with fail
        go_ret
        exact ⟨by rw [hE.out]; rfl, hBw⟩
  · have hd : decide (clsErr cs = 0) = false := by simpa using h0
    have HE : Hid (sortsErr cs ls = clsErr cs) := by unfold Hid sortsErr; rw [if_neg h0]
    generalize clsErr cs = ce at *
    go_wp2_with fail
    go_ret
    exact ⟨by rw [HE.out]; rfl, hB1⟩
end Go.Proofs.Ytehnikgdjnmfcaa

/- The reference: Normal. -/
namespace Go.Proofs.Ytehnikgdjnmfcaa
open Go.RowKit Go.WideMaps Go.Shelf Go.Sort Go.Lib

theorem slSs1 {w : World} {k c cap : Nat} {p : Option Addr} {ss : List Nm} {fr : Nat × Nat} (h : w.heap[k]? = some (.cells #[.slice p ss.length c] 27 fr)) (hs : SlS w (.slice p ss.length c) ss) : SlSs w (.slice (some ⟨k, 0, none⟩) 1 cap) [ss] := by
  refine ⟨by unfold maxLen; simp, _, cap, rfl, fun _ => ⟨k, 0, rfl, (Array.getElem?_eq_some_iff.1 h).1, fun j hj => ?_⟩⟩
  have : j = 0 := by simp at hj; omega
  subst this
  exact ⟨p, c, by rw [cell_of_row w _ _ _ _ _ h]; rfl, hs⟩

theorem slSs2 {w : World} {k c c2 cap : Nat} {p p2 : Option Addr} {ss ts : List Nm} {fr : Nat × Nat} (h : w.heap[k]? = some (.cells #[.slice p ss.length c, .slice p2 ts.length c2] 27 fr)) (hs : SlS w (.slice p ss.length c) ss) (ht : SlS w (.slice p2 ts.length c2) ts) : SlSs w (.slice (some ⟨k, 0, none⟩) 2 cap) [ss, ts] := by
  refine ⟨by unfold maxLen; simp, _, cap, rfl, fun _ => ⟨k, 0, rfl, (Array.getElem?_eq_some_iff.1 h).1, fun j hj => ?_⟩⟩
  have : j = 0 ∨ j = 1 := by simp at hj; omega
  rcases this with rfl | rfl
  · exact ⟨p, c, by rw [cell_of_row w _ _ _ _ _ h]; rfl, hs⟩
  · exact ⟨p2, c2, by rw [cell_of_row w _ _ _ _ _ h]; rfl, ht⟩

theorem nErr_sorts (cs : List (Nm × List Nm)) (ss : List Nm) : sortsErr cs [ss] = nErr cs ss := by
  unfold sortsErr nErr firstErr
  by_cases h : normErr (cs.map Prod.fst) ss = 0
  · rw [if_pos h, h]; rfl
  · rw [if_neg h]

theorem nErr_zero {cs : List (Nm × List Nm)} {ss : List Nm} (h : nErr cs ss = 0) : clsErr cs = 0 ∧ normErr (cs.map Prod.fst) ss = 0 := by
  unfold nErr at h
  by_cases h0 : clsErr cs = 0
  · rw [if_pos h0] at h; exact ⟨h0, h⟩
  · rw [if_neg h0] at h; exact absurd h h0

set_option maxRecDepth 100000 in
set_option maxHeartbeats 8000000 in
theorem normal_r (n c t2 t3 t4 t5 t6 v : Value) (cs : List (Nm × List Nm)) (ab0 : List (List Nat)) (ss : List Nm) (w : World) (hc : SlC w c cs) (hs : SlS w v ss) (hab : clsErr cs = 0 → ∃ sp, Built cs sp ab0) :
    Calls Try.prog 20 #[.agg #[n, c, t2, t3, t4, t5, t6], v] w (NPost w (nErr cs ss) (leastB (cs.map Prod.fst) (fun i => ab0.getD i []) ss)) := by
  have hb0 := below_alloc w (Obj.cells #[n, c, t2, t3, t4, t5, t6] 29)
  have HC := Lib.hid hc
  have HS := Lib.hid hs
  have HAB := Lib.hid hab
  have r0 := Lib.hid (heap_alloc_new w (Obj.cells #[n, c, t2, t3, t4, t5, t6] 29))
  have hz0 : w.heap.size < (w.alloc (Obj.cells #[n, c, t2, t3, t4, t5, t6] 29)).heap.size := by simp
  obtain ⟨_, ca, ccap, rfl, _⟩ := hc
  obtain ⟨_, sa, scap, rfl, _⟩ := hs
  clear hab
  go_enter Try.func20, Try.ntmps20
  go_wp2_with fail
  have hb1 := below_alloc (w.alloc (Obj.cells #[n, .slice ca cs.length ccap, t2, t3, t4, t5, t6] 29)) (Obj.cells #[.slice sa ss.length scap] 27)
  have q1 := heap_alloc_new (w.alloc (Obj.cells #[n, .slice ca cs.length ccap, t2, t3, t4, t5, t6] 29)) (Obj.cells #[.slice sa ss.length scap] 27)
  have hB1 := hb0.trans (hb1.mono (Nat.le_of_lt hz0))
  have hs1 := slSs1 (cap := 1) q1 (HS.out.below hB1 (Nat.le_refl _))
  rw [show (w.alloc (Obj.cells #[n, .slice ca cs.length ccap, t2, t3, t4, t5, t6] 29)).heap.size = w.heap.size + 1 by simp] at hs1
  have r1 := Lib.hid ((hb1.block w.heap.size hz0).trans r0.out)
  have hz1 : w.heap.size < ((w.alloc (Obj.cells #[n, .slice ca cs.length ccap, t2, t3, t4, t5, t6] 29)).alloc (Obj.cells #[.slice sa ss.length scap] 27)).heap.size := by simp; omega
  have SO := Lib.hid (sorts_any n _ t2 t3 t4 t5 t6 _ cs [ss] _ (HC.out.below hB1 (Nat.le_refl _)) hs1)
  clear hb0 hb1 q1 hs1 r0 hz0
  rw [nErr_sorts] at SO
  refine SO.out.mono ?_
  rintro e w2 ⟨rfl, hb2⟩
  have hB2 : Below w.heap.size w w2 := hB1.trans (hb2.mono (by omega))
  have r2 := Lib.hid ((hb2.block w.heap.size hz1).trans r1.out)
  have hz2 : w.heap.size < w2.heap.size := Nat.lt_of_lt_of_le hz1 hb2.size
  clear SO hb2 r1 hz1 hB1
  obtain ⟨c0, c1, c2, c3, c4, c5, c6⟩ := cells7' r2.out
  by_cases h0 : nErr cs ss = 0
  · obtain ⟨hcl, hn⟩ := nErr_zero h0
    obtain ⟨sp, hbu⟩ := HAB.out hcl
    have LE := Lib.hid (rleast_any n _ t2 t3 t4 t5 t6 _ cs sp ab0 ss w2 (HC.out.below hB2 (Nat.le_refl _)) hbu (clsErr_len hcl) (HS.out.below hB2 (Nat.le_refl _)) (by have := (normErr_zero hn).1; omega) (normErr_zero hn).2)
    have H0 := Lib.hid h0
    rw [h0]
    clear h0 hcl hn hbu
    go_wp2_with fail
    refine LE.out.mono ?_
    rintro e w3 ⟨v3, rfl, ho3, hb3⟩
    have HO3 := Lib.hid ho3.sl
    clear ho3
    go_wp2_with fail
    go_ret2
    exact ⟨v3, by rw [H0.out]; rfl, hB2.trans (hb3.mono (Nat.le_of_lt hz2)), by rw [H0.out, if_pos rfl]; exact HO3.out⟩
  · have hd : decide (nErr cs ss = 0) = false := by simpa using h0
    have H0 := Lib.hid h0
    generalize hce : nErr cs ss = ce at *
    go_wp2_with fail
    go_ret2
    exact ⟨_, by rw [hce]; rfl, hB2, by rw [hce, if_neg H0.out]; exact slS0⟩
end Go.Proofs.Ytehnikgdjnmfcaa

/- The reference: Meet. -/
namespace Go.Proofs.Ytehnikgdjnmfcaa
open Go.RowKit Go.WideMaps Go.Shelf Go.Sort Go.Lib

theorem run_append_nothing {w : World} {B n c : Nat} {v : Value} {xs : List Value} (t : TypeId) (i0 : TypeInfo) (hi : Try.prog.info? 9 = some i0) (hown : w.ownsRow B 9 1 v n xs) :
    (Builtin.append_ #[27, 27] t #[v, .slice none 0 c]).run Try.prog w = .ok v w := by
  rcases hown.2 with ⟨rfl, rfl⟩ | ⟨g, cap, cur, rfl, _, _, hle, _⟩
  · simp [Builtin.append_, run_underlying Try.underlying27, sizeOf, typeInfo, hi, Builtin.lenOf, Builtin.firstCells]
  · simp [Builtin.append_, run_underlying Try.underlying27, sizeOf, typeInfo, hi, Builtin.lenOf, Builtin.firstCells, hle, storeCells]

set_option maxRecDepth 100000 in
/-- append of a slice of strings onto one's own, in a region -/
theorem op_append_strs {w : World} {o : Oper} {a : Act} {K : Act → World → Prop} {Q : Exit → Act → World → Prop} (s x : Operand) (ho : o.op = .call { callee := .builtin .append, args := #[s, x], argTypes := #[27, 27] })
    (B n : Nat) (u v : Value) (xs : List Value) (ss : List Nm) (hs : a.eval s = v) (hown : w.ownsRow B 9 1 v n xs) (hx : a.eval x = u) (hu : SlS w u ss) (hn : n + ss.length ≤ 8000000000) (hB : B ≤ w.heap.size)
    (h : ∀ v' w', w'.ownsRow B 9 1 v' (n + ss.length) (xs ++ ss.map encStr) → w.grownBy w' v.ownBlock → K (a.put o.dst v') w') : o.wp Try.prog a w K Q := by
  obtain ⟨i0, hi, hq0, hq1, hq2⟩ := info_parts Try.info9
  obtain ⟨_, sa, c, rfl, hsx⟩ := hu
  cases sa with
  | none =>
    have h0 : ss = [] := by
      by_cases hp : 0 < ss.length
      · obtain ⟨b, off, e, _⟩ := hsx hp; cases e
      · exact List.eq_nil_of_length_eq_zero (by omega)
    subst h0
    have hrun := run_append_nothing (c := c) o.type i0 hi hown
    unfold Oper.wp
    simp only [List.length_nil] at hx
    simp [execOp, ho, resolve, invoke, builtin, hs, hx, hrun, Result.andThen]
    exact h v w (by simpa using hown) (World.grownBy.refl w _)
  | some ad =>
    refine wp_append_own w s x 27 ho B 9 i0 (.string ByteArray.empty) 1 16 Try.underlying27 hi hq0 hq1 hq2 rfl (by decide) v n xs hs hown ad ss.length c (ss.map encStr) hx (by simp) (fun j u hj => ?_) (fun u hu => ?_) (by unfold maxLen; omega) (by omega) hB (fun v' w' h1 h2 _ => h v' w' h1 h2)
    · have hjl : j < ss.length := by
        have := (List.getElem?_eq_some_iff.1 hj).1
        simpa using this
      obtain ⟨b, off, e, _, hc, _⟩ := hsx (by omega)
      injection e with e
      subst e
      have e1 : (Addr.add ⟨b, off, none⟩ j) = ⟨b, off + j, none⟩ := by
        unfold Addr.add
        by_cases h : j = 0
        · subst h; simp
        · simp [h]
      have e2 : encStr (ss.getD j []) = u := by
        rw [List.getElem?_map, List.getElem?_eq_getElem hjl] at hj
        injection hj with hj
        rw [← hj, List.getD_eq_getElem?_getD, List.getElem?_eq_getElem hjl, Option.getD_some]
      rw [e1, hc j hjl]
      exact congrArg some e2
    · obtain ⟨y, _, rfl⟩ := List.mem_map.1 hu
      rfl

theorem SlS.words {w : World} {v : Value} {ss : List Nm} (h : SlS w v ss) : ∀ x ∈ ss, x.length ≤ maxLen := by
  intro x hx
  obtain ⟨_, a, cap, _, h3⟩ := h
  obtain ⟨b, off, _, _, h4⟩ := h3 (List.length_pos_of_mem hx)
  exact h4.2 x hx

theorem mErr_zero {cs : List (Nm × List Nm)} {ab : List (List Nat)} {ss ts : List Nm} (h : sortsErr cs [ss, ts] = 0) : clsErr cs = 0 ∧ normErr (cs.map Prod.fst) ss = 0 ∧ normErr (cs.map Prod.fst) ts = 0 ∧
    mErr cs ab ss ts = if 20 < (leastB (cs.map Prod.fst) (fun i => ab.getD i []) (ss ++ ts)).length then 5 else 0 := by
  unfold sortsErr at h
  by_cases h0 : clsErr cs = 0
  · rw [if_pos h0] at h
    unfold firstErr at h
    by_cases h1 : normErr (cs.map Prod.fst) ss = 0
    · rw [if_pos h1] at h
      unfold firstErr at h
      by_cases h2 : normErr (cs.map Prod.fst) ts = 0
      · refine ⟨h0, h1, h2, ?_⟩
        unfold mErr meetErr
        rw [if_pos h0, if_neg (by simpa using h1), if_neg (by simpa using h2)]
      · rw [if_neg h2] at h; exact absurd h h2
    · rw [if_neg h1] at h; exact absurd h h1
  · rw [if_neg h0] at h; exact absurd h h0

theorem mErr_some {cs : List (Nm × List Nm)} {ab : List (List Nat)} {ss ts : List Nm} (h : sortsErr cs [ss, ts] ≠ 0) : mErr cs ab ss ts = sortsErr cs [ss, ts] := by
  unfold sortsErr mErr at *
  by_cases h0 : clsErr cs = 0
  · rw [if_pos h0] at h ⊢
    rw [if_pos h0]
    unfold meetErr firstErr
    unfold firstErr at h
    by_cases h1 : normErr (cs.map Prod.fst) ss = 0
    · rw [if_pos h1] at h ⊢
      rw [if_neg (by simpa using h1)]
      unfold firstErr
      unfold firstErr at h
      by_cases h2 : normErr (cs.map Prod.fst) ts = 0
      · rw [if_pos h2] at h; exact absurd rfl h
      · rw [if_neg h2, if_pos h2]
    · rw [if_neg h1, if_pos h1]
  · rw [if_neg h0, if_neg h0]

set_option maxRecDepth 100000 in
set_option maxHeartbeats 8000000 in
theorem meet_r (n c t2 t3 t4 t5 t6 u v : Value) (cs : List (Nm × List Nm)) (ab0 : List (List Nat)) (ss ts : List Nm) (w : World) (hc : SlC w c cs) (hs : SlS w u ss) (ht : SlS w v ts) (hab : clsErr cs = 0 → ∃ sp, Built cs sp ab0) :
    Calls Try.prog 22 #[.agg #[n, c, t2, t3, t4, t5, t6], u, v] w (NPost w (mErr cs ab0 ss ts) (leastB (cs.map Prod.fst) (fun i => ab0.getD i []) (ss ++ ts))) := by
  have hb0 := below_alloc w (Obj.cells #[n, c, t2, t3, t4, t5, t6] 29)
  have HC := Lib.hid hc
  have HS := Lib.hid hs
  have HT := Lib.hid ht
  have HAB := Lib.hid hab
  have r0 := Lib.hid (heap_alloc_new w (Obj.cells #[n, c, t2, t3, t4, t5, t6] 29))
  have hz0 : w.heap.size < (w.alloc (Obj.cells #[n, c, t2, t3, t4, t5, t6] 29)).heap.size := by simp
  obtain ⟨_, ca, ccap, rfl, _⟩ := hc
  obtain ⟨_, sa, scap, rfl, _⟩ := hs
  obtain ⟨_, ta, tcap, rfl, _⟩ := ht
  clear hab
  go_enter Try.func22, Try.ntmps22
  go_wp2_with fail
  have hb1 := below_alloc (w.alloc (Obj.cells #[n, .slice ca cs.length ccap, t2, t3, t4, t5, t6] 29)) (Obj.cells #[.slice sa ss.length scap, .slice ta ts.length tcap] 27)
  have q1 := heap_alloc_new (w.alloc (Obj.cells #[n, .slice ca cs.length ccap, t2, t3, t4, t5, t6] 29)) (Obj.cells #[.slice sa ss.length scap, .slice ta ts.length tcap] 27)
  have hB1 := hb0.trans (hb1.mono (Nat.le_of_lt hz0))
  have hs1 := slSs2 (cap := 2) q1 (HS.out.below hB1 (Nat.le_refl _)) (HT.out.below hB1 (Nat.le_refl _))
  rw [show (w.alloc (Obj.cells #[n, .slice ca cs.length ccap, t2, t3, t4, t5, t6] 29)).heap.size = w.heap.size + 1 by simp] at hs1
  have r1 := Lib.hid ((hb1.block w.heap.size hz0).trans r0.out)
  have hz1 : w.heap.size < ((w.alloc (Obj.cells #[n, .slice ca cs.length ccap, t2, t3, t4, t5, t6] 29)).alloc (Obj.cells #[.slice sa ss.length scap, .slice ta ts.length tcap] 27)).heap.size := by simp; omega
  have SO := Lib.hid (sorts_any n _ t2 t3 t4 t5 t6 _ cs [ss, ts] _ (HC.out.below hB1 (Nat.le_refl _)) hs1)
  clear hb0 hb1 q1 hs1 r0 hz0
  refine SO.out.mono ?_
  rintro e w2 ⟨rfl, hb2⟩
  have hB2 : Below w.heap.size w w2 := hB1.trans (hb2.mono (by omega))
  have r2 := Lib.hid ((hb2.block w.heap.size hz1).trans r1.out)
  have hz2 : w.heap.size < w2.heap.size := Nat.lt_of_lt_of_le hz1 hb2.size
  clear SO hb2 r1 hz1 hB1
  by_cases h0 : sortsErr cs [ss, ts] = 0
  · obtain ⟨hcl, hn1, hn2, hme⟩ := mErr_zero (ab := ab0) h0
    obtain ⟨sp, hbu⟩ := HAB.out hcl
    rw [h0]
    go_wp2_with fail
    have hb3 : RowKit.Below w2.heap.size w2 (w2.alloc (Obj.cells #[] 9)).drew := (below_alloc w2 (Obj.cells #[] 9)).drew
    have hB3 : RowKit.Below w.heap.size w (w2.alloc (Obj.cells #[] 9)).drew := hB2.trans (hb3.mono (Nat.le_of_lt hz2))
    have hz3 : w.heap.size < (w2.alloc (Obj.cells #[] 9)).drew.heap.size := Nat.lt_of_lt_of_le hz2 hb3.size
    have r3 := Lib.hid ((hb3.block w.heap.size hz2).trans r2.out)
    have hown3 : (w2.alloc (Obj.cells #[] 9)).drew.ownsRow (w.heap.size + 1) 9 1 (.slice (some ⟨w2.heap.size, 0, none⟩) 0 0) 0 [] := World.ownsRow_made w2 #[] 0 hz2 (by unfold maxLen; omega) rfl
    have HO3 := Lib.hid hown3
    clear hown3 hb3
    have HWS : Hid (∀ x ∈ ss, x.length ≤ maxLen) := SlS.words HS.out
    have HWT : Hid (∀ x ∈ ts, x.length ≤ maxLen) := SlS.words HT.out
    have HKA : Hid ((ss ++ ts).all (inNs (cs.map Prod.fst)) = true) := by unfold Hid; rw [List.all_append, (normErr_zero hn1).2, (normErr_zero hn2).2]; rfl
    have hl1 := (normErr_zero hn1).1
    have hl2 := (normErr_zero hn2).1
    refine wp_region_held_drew (S := (fun w' => w'.cell? ⟨w.heap.size, 0, none⟩ = some n ∧ w'.cell? ⟨w.heap.size, 1, none⟩ = some (.slice ca cs.length ccap) ∧ w'.cell? ⟨w.heap.size, 2, none⟩ = some t2 ∧ w'.cell? ⟨w.heap.size, 3, none⟩ = some t3 ∧ w'.cell? ⟨w.heap.size, 4, none⟩ = some t4 ∧ w'.cell? ⟨w.heap.size, 5, none⟩ = some t5 ∧ w'.cell? ⟨w.heap.size, 6, none⟩ = some t6)) (by kernel_rfl) ?_ (fun hHeld => ?_)
    · exact cells7' r2.out
    refine wpAnyH_take (i := 0) (oi := { dst := some 18, op := Op.load 29 (Operand.tmp 3), type := 29, pos := "ref.go:184", after := #[], guard := none }) (v := ?v0) rfl (by kernel_rfl) (by kernel_rfl) (by kernel_rfl) (fun _ _ _ h => h) (Or.inl ⟨by rfl, ?hy0⟩) (by assumption) ?rest0
    case hy0 => (intro wq hSq; (try dsimp only at hSq); go_simp; try with_reducible rfl)
    try simp only [Act.put, List.setIfInBounds_toArray, List.set_cons_zero, List.set_cons_succ]
    refine wpAnyH_take (i := 2) (oi := { dst := some 20, op := Op.move (Operand.tmp 1), type := 27, pos := "ref.go:184", after := #[], guard := none }) (v := ?v2) rfl (by kernel_rfl) (by kernel_rfl) (by kernel_rfl) (fun _ _ _ h => h) (Or.inl ⟨by rfl, ?hy2⟩) (by assumption) ?rest2
    case hy2 => (intro wq hSq; (try dsimp only at hSq); go_simp; try with_reducible rfl)
    try simp only [Act.put, List.setIfInBounds_toArray, List.set_cons_zero, List.set_cons_succ]
    refine wpAnyH_take (i := 4) (oi := { dst := some 22, op := Op.move (Operand.tmp 2), type := 27, pos := "ref.go:184", after := #[], guard := none }) (v := ?v4) rfl (by kernel_rfl) (by kernel_rfl) (by kernel_rfl) (fun _ _ _ h => h) (Or.inl ⟨by rfl, ?hy4⟩) (by assumption) ?rest4
    case hy4 => (intro wq hSq; (try dsimp only at hSq); go_simp; try with_reducible rfl)
    try simp only [Act.put, List.setIfInBounds_toArray, List.set_cons_zero, List.set_cons_succ]
    refine wpAnyH_ready (rs := [1]) (by kernel_rfl) (by simp) ?_
    refine AllReadyH.cons rfl (fun K hK => ?_) AllReadyH.nil
    go_simp
    refine hK.out _ _ ?_ (fun hHeldN => ?_)
    · (try dsimp only); exact cells7' r3.out
    clear hK K hHeld
    have hHeld := hHeldN
    clear hHeldN
    refine wpAnyH_ready (rs := [3]) (by kernel_rfl) (by simp) ?_
    refine AllReadyH.cons (o := { dst := some 21, op := Op.call { callee := Callee.builtin Builtin.append, args := #[Operand.tmp 19, Operand.tmp 20], argTypes := #[27, 27] }, type := 27, pos := "ref.go:184", after := #[{ on := 1, ground := Ground.data }, { on := 2, ground := Ground.data }], guard := none }) rfl (fun K hK => ?_) AllReadyH.nil
    rw [if_pos (by rfl)]
    refine op_append_strs _ _ rfl (w.heap.size + 1) 0 _ _ [] ss rfl HO3.out rfl (HS.out.below hB3 (Nat.le_refl _)) (by omega) hz3 ?_
    intro v4 w4 hown4 hg4; have hB4 : RowKit.Below w.heap.size w w4 := hB3.grown hg4 (Nat.le_of_lt hz3) (fun r er => Nat.le_of_succ_le (ownBlock_ge HO3.out er)); have hz4 : w.heap.size < w4.heap.size := Nat.lt_of_lt_of_le hz3 hg4.size; have r4 := Lib.hid ((hg4.block w.heap.size hz3 (fun e => absurd (ownBlock_ge HO3.out e.symm) (by omega))).trans r3.out)
    simp only [Act.put, List.setIfInBounds_toArray, List.set_cons_zero, List.set_cons_succ]
    refine hK.out _ _ ?_ (fun hHeldN => ?_)
    · (try dsimp only); exact cells7' r4.out
    clear hK K hHeld
    have hHeld := hHeldN
    clear hHeldN
    refine wpAnyH_ready (rs := [5]) (by kernel_rfl) (by simp) ?_
    refine AllReadyH.cons (o := { dst := some 23, op := Op.call { callee := Callee.builtin Builtin.append, args := #[Operand.tmp 21, Operand.tmp 22], argTypes := #[27, 27] }, type := 27, pos := "ref.go:184", after := #[{ on := 3, ground := Ground.data }, { on := 4, ground := Ground.data }, { on := 3, ground := Ground.chain }], guard := none }) rfl (fun K hK => ?_) AllReadyH.nil
    rw [if_pos (by rfl)]
    refine op_append_strs _ _ rfl (w.heap.size + 1) (0 + ss.length) _ _ ([] ++ ss.map encStr) ts rfl hown4 rfl (HT.out.below hB4 (Nat.le_refl _)) (by omega) hz4 ?_
    intro v5 w5 hown5 hg5; have hB5 : RowKit.Below w.heap.size w w5 := hB4.grown hg5 (Nat.le_of_lt hz4) (fun r er => Nat.le_of_succ_le (ownBlock_ge hown4 er)); have hz5 : w.heap.size < w5.heap.size := Nat.lt_of_lt_of_le hz4 hg5.size; have r5 := Lib.hid ((hg5.block w.heap.size hz4 (fun e => absurd (ownBlock_ge hown4 e.symm) (by omega))).trans r4.out)
    simp only [Act.put, List.setIfInBounds_toArray, List.set_cons_zero, List.set_cons_succ]
    refine hK.out _ _ ?_ (fun hHeldN => ?_)
    · (try dsimp only); exact cells7' r5.out
    clear hK K hHeld
    have hHeld := hHeldN
    clear hHeldN
    have ho5 : SlO w5 (w.heap.size + 1) v5 (ss ++ ts) := slO_of_own (by rw [List.map_append, List.length_append]; rw [Nat.zero_add] at hown5; exact hown5) (by rw [List.length_append]; omega) (fun x hx => (List.mem_append.1 hx).elim (HWS.out x) (HWT.out x))
    have HO5 := Lib.hid ho5.sl
    clear ho5 hown5 hown4
    have LE := Lib.hid (rleast_any n _ t2 t3 t4 t5 t6 _ cs sp ab0 (ss ++ ts) w5 (HC.out.below hB5 (Nat.le_refl _)) hbu (clsErr_len hcl) HO5.out (by rw [List.length_append]; omega) HKA.out)
    obtain ⟨M, hM⟩ : ∃ M, M = leastB (cs.map Prod.fst) (fun i => ab0.getD i []) (ss ++ ts) := ⟨_, rfl⟩
    rw [← hM] at LE hme
    have HM := Lib.hid hM
    clear hM
    refine wpAnyH_ready (rs := [6]) (by kernel_rfl) (by simp) ?_
    refine AllReadyH.cons rfl (fun K hK => ?_) AllReadyH.nil
    go_simp
    go_wp2_with (go_at_call 45; refine LE.out.mono ?_; rintro e w6 ⟨v6, rfl, ho6, hb6⟩; have r6 := Lib.hid ((hb6.block w.heap.size hz5).trans r5.out))
    refine hK.out _ _ ?_ (fun hHeldN => ?_)
    · (try dsimp only); exact cells7' r6.out
    clear hK K hHeld
    have hHeld := hHeldN
    clear hHeldN
    have HO6 := Lib.hid ho6.sl
    obtain ⟨_, _, a6, k6, rfl, _⟩ := ho6
    refine wpAnyH_take (i := 7) (oi := { dst := some 9, op := Op.assign (Operand.tmp 24), type := 27, pos := "ref.go:184", after := #[{ on := 6, ground := Ground.data }, { on := 6, ground := Ground.chain }, { on := 0, ground := Ground.phase }, { on := 1, ground := Ground.phase }, { on := 2, ground := Ground.phase }, { on := 3, ground := Ground.phase }, { on := 4, ground := Ground.phase }, { on := 5, ground := Ground.phase }, { on := 6, ground := Ground.phase }], guard := none }) (v := ?v7) rfl (by kernel_rfl) (by kernel_rfl) (by kernel_rfl) (fun _ _ _ h => h) (Or.inl ⟨by rfl, ?hy7⟩) (by assumption) ?rest7
    case hy7 => (intro wq hSq; (try dsimp only at hSq); go_simp; try with_reducible rfl)
    try simp only [Act.put, List.setIfInBounds_toArray, List.set_cons_zero, List.set_cons_succ]
    refine wpAnyH_done (by kernel_rfl) ?_ _
    have hB6 : RowKit.Below w.heap.size w w6 := hB5.trans (hb6.mono (Nat.le_of_lt hz5))
    have HME := Lib.hid hme
    clear hme h0 hn1 hn2 hcl hbu LE
    by_cases hm : 20 < M.length
    · have hd : decide (20 < ((M.length : Nat) : Int)) = true := by simp; omega
      have hE : Hid (mErr cs ab0 ss ts = 5) := by unfold Hid; rw [HME.out, if_pos hm]
      go_wp2_with fail
      go_ret2
      exact ⟨_, by rw [hE.out]; rfl, hB6, by rw [hE.out]; exact slS0⟩
    · have hd : decide (20 < ((M.length : Nat) : Int)) = false := by simp; omega
      have hE : Hid (mErr cs ab0 ss ts = 0) := by unfold Hid; rw [HME.out, if_neg hm]
      go_wp2_with fail
      go_ret2
      exact ⟨_, by rw [hE.out]; rfl, hB6, by rw [hE.out, if_pos rfl, ← HM.out]; exact HO6.out⟩
  · have hd : decide (sortsErr cs [ss, ts] = 0) = false := by simpa using h0
    have H0 := Lib.hid (mErr_some (ab := ab0) h0)
    have H1 := Lib.hid h0
    generalize sortsErr cs [ss, ts] = ce at *
    go_wp2_with fail
    go_ret2
    exact ⟨_, by rw [H0.out]; rfl, hB2, by rw [H0.out, if_neg H1.out]; exact slS0⟩
end Go.Proofs.Ytehnikgdjnmfcaa

/- The reference: within, Less. -/
namespace Go.Proofs.Ytehnikgdjnmfcaa
open Go.RowKit Go.WideMaps Go.Shelf

def withB (ns : List Nm) (abv : Nat → List Nat) (ss ts : List Nm) : Bool := ts.all fun y => ss.any fun a => belowB ns abv a y

theorem upHas_any (ns : List Nm) (abv : Nat → List Nat) (ss : List Nm) (c : Nm) : upHas ns abv ss c = ss.any fun a => belowB ns abv a c := by
  unfold upHas
  rw [upW_bit]; rfl

theorem lessB_with (ns : List Nm) (abv : Nat → List Nat) (ss ts : List Nm) : lessB ns abv ss ts = (ss.all (inNs ns) && (ts.all (inNs ns) && withB ns abv ss ts)) := by
  unfold lessB withB
  congr 3
  funext y
  exact upHas_any ns abv ss y

/-- what Less returns, where the classes are built -/
def lB (cs : List (Nm × List Nm)) (ab : List (List Nat)) (ss ts : List Nm) : Bool := decide (clsErr cs = 0) && lessB (cs.map Prod.fst) (fun i => ab.getD i []) ss ts

theorem lessB_ab {cs : List (Nm × List Nm)} {sp ab sp' ab' : List (List Nat)} (hb : Built cs sp ab) (hb' : Built cs sp' ab') (ss ts : List Nm) :
    lessB (cs.map Prod.fst) (fun i => ab.getD i []) ss ts = lessB (cs.map Prod.fst) (fun i => ab'.getD i []) ss ts := by
  by_cases h1 : ss.all (inNs (cs.map Prod.fst)) = true
  · by_cases h2 : ts.all (inNs (cs.map Prod.fst)) = true
    · exact (lessB_eq hb hb' (List.all_eq_true.1 h1) (List.all_eq_true.1 h2)).symm
    · have h2' : ts.all (inNs (cs.map Prod.fst)) = false := by simpa using h2
      unfold lessB
      rw [h2', Bool.false_and, Bool.false_and]
  · have h1' : ss.all (inNs (cs.map Prod.fst)) = false := by simpa using h1
    unfold lessB
    rw [h1', Bool.false_and, Bool.false_and]

theorem less_p (t u v : Value) (cs : List (Nm × List Nm)) (ab0 : List (List Nat)) (ss ts : List Nm) (w : World) (ht : ThAt w t cs) (hs : SlS w u ss) (hs2 : SlS w v ts) (hab : clsErr cs = 0 → ∃ sp, Built cs sp ab0) :
    Calls Try.prog 15 #[t, u, v] w fun e w' => e = .returned (.bool (lB cs ab0 ss ts)) ∧ Below w.heap.size w w' := by
  refine (lessT_any t u v cs ss ts w ht hs hs2).mono ?_
  rintro e w' ⟨r, rfl, hbl, h1, h2⟩
  refine ⟨ret_bool ?_, hbl⟩
  unfold lB
  by_cases h0 : clsErr cs = 0
  · obtain ⟨sp, ab, hb, rfl⟩ := h2 h0
    obtain ⟨sp0, hb0⟩ := hab h0
    rw [decide_eq_true h0, Bool.true_and]
    exact lessB_ab hb hb0 ss ts
  · rw [h1 h0, decide_eq_false h0, Bool.false_and]

set_option maxRecDepth 100000 in
set_option maxHeartbeats 8000000 in
theorem within_any (n c t2 t3 t4 t5 t6 u v : Value) (cs : List (Nm × List Nm)) (sp ab : List (List Nat)) (ss ts : List Nm) (w : World) (hc : SlC w c cs) (hbu : Built cs sp ab) (h300 : cs.length ≤ 300) (hs : SlS w u ss) (ht : SlS w v ts)
    (hks : ss.all (inNs (cs.map Prod.fst)) = true) (hkt : ts.all (inNs (cs.map Prod.fst)) = true) :
    Calls Try.prog 40 #[.agg #[n, c, t2, t3, t4, t5, t6], u, v] w fun e w' => e = .returned (.bool (withB (cs.map Prod.fst) (fun i => ab.getD i []) ss ts)) ∧ Below w.heap.size w w' := by
  have hb0 := below_alloc w (Obj.cells #[n, c, t2, t3, t4, t5, t6] 29)
  have HC := Lib.hid hc
  have HS := Lib.hid hs
  have HT := Lib.hid ht
  have HR0 := Lib.hid (heap_alloc_new w (Obj.cells #[n, c, t2, t3, t4, t5, t6] 29))
  have hz0 : w.heap.size < (w.alloc (Obj.cells #[n, c, t2, t3, t4, t5, t6] 29)).heap.size := by simp
  have HKS := Lib.hid (List.all_eq_true.1 hks)
  have HKT := Lib.hid (List.all_eq_true.1 hkt)
  have HBU := Lib.hid hbu
  obtain ⟨_, ca, ccap, rfl, _⟩ := hc
  obtain ⟨hsl, sa, scap, rfl, _⟩ := hs
  obtain ⟨htl, ta, tcap, rfl, _⟩ := ht
  unfold maxLen at hsl htl
  clear hks hkt hbu
  have H0 : Hid (withB (cs.map Prod.fst) (fun i => ab.getD i []) ss ts = (ts.drop 0).all fun y => ss.any fun a => belowB (cs.map Prod.fst) (fun i => ab.getD i []) a y) := rfl
  go_enter Try.func40, Try.ntmps40
  go_wp2_with fail
  generalize (w.alloc (Obj.cells #[n, .slice ca cs.length ccap, t2, t3, t4, t5, t6] 29)) = W1 at *
  go_loopw [7] (fun i wr => ∃ i' : Nat, i' ≤ ts.length ∧ i = .int .i64 i' ∧ Hid (withB (cs.map Prod.fst) (fun i => ab.getD i []) ss ts = (ts.drop i').all fun y => ss.any fun a => belowB (cs.map Prod.fst) (fun i => ab.getD i []) a y) ∧ Below W1.heap.size W1 wr) (fun i _ => ts.length - (intOf i).toNat)
  case atStart => exact ⟨0, by omega, rfl, H0, Below.refl _ _⟩
  case round =>
    obtain ⟨i, hi, rfl, hO, hB⟩ := hrel
    clear H0
    have hz := hB.size
    have hBw : Below w.heap.size w wr := hb0.trans (hB.mono (by omega))
    by_cases hlt : i < ts.length
    · obtain ⟨b, off, x, rfl, hb, hck0, hwk, hx⟩ := HT.out.at hlt
      have hxin := Lib.hid (HKT.out x (by rw [hx]; exact getD_mem ts [] i hlt))
      have HSN : Hid (withB (cs.map Prod.fst) (fun i => ab.getD i []) ss ts = ((ss.any fun a => belowB (cs.map Prod.fst) (fun i => ab.getD i []) a x) && (ts.drop (i + 1)).all fun y => ss.any fun a => belowB (cs.map Prod.fst) (fun i => ab.getD i []) a y)) := by
        unfold Hid; rw [hO.out, all_drop_getD ts [] _ i hlt, ← hx]
      have HK0 := Lib.hid hck0
      have hI0 : Hid (false = (ss.take 0).any fun a => belowB (cs.map Prod.fst) (fun i => ab.getD i []) a x) := rfl
      clear hx hck0 hO
      go_wp2_with fail
      obtain ⟨wo, rfl⟩ : ∃ wo : World, wo = wr := ⟨_, rfl⟩
      go_loopw [8, 9] (fun d k wr => ∃ (k' : Nat) (q : Bool), k' ≤ ss.length ∧ k = .int .i64 k' ∧ d = .bool q ∧ Hid (q = (ss.take k').any fun a => belowB (cs.map Prod.fst) (fun i => ab.getD i []) a x) ∧ Below wo.heap.size wo wr) (fun _ k _ => ss.length - (intOf k).toNat)
      case atStart => exact ⟨0, false, by omega, rfl, rfl, hI0, Below.refl _ _⟩
      case round =>
        obtain ⟨k, q, hk, rfl, rfl, hI, hB3⟩ := hrel
        clear hI0
        have hz3 := hB3.size
        have hBw3 : Below w.heap.size w wr := hBw.trans (hB3.mono (by omega))
        have r3 := Lib.hid ((hB3.block w.heap.size (by omega)).trans ((hB.block w.heap.size hz0).trans HR0.out))
        have hcx := (hBw3.cell (p := ⟨b, off + i, none⟩) hb).trans HK0.out
        by_cases hltk : k < ss.length
        · obtain ⟨b2, off2, d, rfl, hb2, hckd0, hwd, hd⟩ := HS.out.at hltk
          have hcd := (hBw3.cell (p := ⟨b2, off2 + k, none⟩) hb2).trans hckd0
          have HTT := Lib.hid (any_take_succ ss [] (fun a => belowB (cs.map Prod.fst) (fun i => ab.getD i []) a x) k hltk)
          rw [← hd] at HTT
          have hdin := Lib.hid (HKS.out d (by rw [hd]; exact getD_mem ss [] k hltk))
          clear hd hckd0
          cases q
          · have hst : Hid (belowB (cs.map Prod.fst) (fun i => ab.getD i []) d x = (ss.take (k + 1)).any fun a => belowB (cs.map Prod.fst) (fun i => ab.getD i []) a x) := by
              unfold Hid; rw [HTT.out, ← hI.out, Bool.false_or]
            have UN := Lib.hid (under_any n _ t2 t3 t4 t5 t6 cs sp ab d x wr.drew (HC.out.below hBw3.drew (Nat.le_refl _)) HBU.out h300 hdin.out hxin.out)
            have hcxd := Lib.hid hcx
            have hcdd := Lib.hid hcd
            obtain ⟨c0, c1, c2, c3, c4, c5, c6⟩ := cells7' r3.out
            clear HTT hI
            generalize belowB (cs.map Prod.fst) (fun i => ab.getD i []) d x = r at *
            go_wp2_with fail
            go_region_held3 (fun w' => w'.cell? ⟨w.heap.size, 0, none⟩ = some n ∧ w'.cell? ⟨w.heap.size, 1, none⟩ = some (.slice ca cs.length ccap) ∧ w'.cell? ⟨w.heap.size, 2, none⟩ = some t2 ∧ w'.cell? ⟨w.heap.size, 3, none⟩ = some t3 ∧ w'.cell? ⟨w.heap.size, 4, none⟩ = some t4 ∧ w'.cell? ⟨w.heap.size, 5, none⟩ = some t5 ∧ w'.cell? ⟨w.heap.size, 6, none⟩ = some t6 ∧ w'.cell? ⟨b, off + i, none⟩ = some (.string (bs x)) ∧ w'.cell? ⟨b2, off2 + k, none⟩ = some (.string (bs d)))
              (first | exact cells7and r3.out ⟨hcxd.out, hcdd.out⟩ | exact cells7and r4.out ⟨k4.out, k5.out⟩)
              ((go_at_call 62; refine UN.out.mono ?_; rintro e w4 ⟨rfl, hb4⟩; have hb4 : Below wr.heap.size wr w4 := ((Below.refl _ wr).drew).trans hb4; have r4 := Lib.hid ((hb4.block w.heap.size (by omega)).trans r3.out); have k4 := Lib.hid ((hb4.cell (p := ⟨b, off + i, none⟩) (by simp; omega)).trans hcxd.out); have k5 := Lib.hid ((hb4.cell (p := ⟨b2, off2 + k, none⟩) (by simp; omega)).trans hcdd.out)))
            clear c0 c1 c2 c3 c4 c5 c6 hcx hcd
            go_wp2_with fail
            go_roundw
            case rel => exact ⟨k + 1, r, by omega, by go_num, rfl, hst, hB3.trans (hb4.mono (by omega))⟩
            case measure => simp [intOf]; omega
          · have hst : Hid (true = (ss.take (k + 1)).any fun a => belowB (cs.map Prod.fst) (fun i => ab.getD i []) a x) := by
              unfold Hid; rw [HTT.out, ← hI.out]; rfl
            clear HTT hI
            go_wp2_with fail
            go_quiet (fail)
            go_wp2_with fail
            go_roundw
            case rel => exact ⟨k + 1, true, by omega, by go_num, rfl, hst, below_drewN hB3 _⟩
            case measure => simp [intOf]; omega
        · have hd := hI.out
          rw [List.take_of_length_le (by omega)] at hd
          clear hI
          cases q
          · have hst : Hid (withB (cs.map Prod.fst) (fun i => ab.getD i []) ss ts = false) := by
              unfold Hid; rw [HSN.out, ← hd]; rfl
            clear hd HSN
            go_wp2_with fail
            go_ret
            exact ⟨ret_bool hst.out.symm, hBw3⟩
          · have hst : Hid (withB (cs.map Prod.fst) (fun i => ab.getD i []) ss ts = (ts.drop (i + 1)).all fun y => ss.any fun a => belowB (cs.map Prod.fst) (fun i => ab.getD i []) a y) := by
              unfold Hid; rw [HSN.out, ← hd]; rfl
            clear hd HSN
            go_wp2_with fail
            go_roundw
            case rel => exact ⟨i + 1, by omega, by go_num, hst, hB.trans (hB3.mono (by omega))⟩
            case measure => simp [intOf]; omega
    · have hst : Hid (withB (cs.map Prod.fst) (fun i => ab.getD i []) ss ts = true) := by
        unfold Hid; rw [hO.out, List.drop_eq_nil_of_le (by omega)]; rfl
      clear hO
      go_wp2_with fail
      go_ret
      exact ⟨ret_bool hst.out.symm, hBw⟩

theorem lB_zero {cs : List (Nm × List Nm)} {ab : List (List Nat)} {ss ts : List Nm} (h : clsErr cs = 0) : lB cs ab ss ts = (ss.all (inNs (cs.map Prod.fst)) && (ts.all (inNs (cs.map Prod.fst)) && withB (cs.map Prod.fst) (fun i => ab.getD i []) ss ts)) := by
  unfold lB
  rw [decide_eq_true h, Bool.true_and, lessB_with]

set_option maxRecDepth 100000 in
set_option maxHeartbeats 8000000 in
theorem less_r (n c t2 t3 t4 t5 t6 u v : Value) (cs : List (Nm × List Nm)) (ab0 : List (List Nat)) (ss ts : List Nm) (w : World) (hc : SlC w c cs) (hs : SlS w u ss) (ht : SlS w v ts) (hab : clsErr cs = 0 → ∃ sp, Built cs sp ab0) :
    Calls Try.prog 16 #[.agg #[n, c, t2, t3, t4, t5, t6], u, v] w fun e w' => e = .returned (.bool (lB cs ab0 ss ts)) ∧ Below w.heap.size w w' := by
  have hb0 := below_alloc w (Obj.cells #[n, c, t2, t3, t4, t5, t6] 29)
  have HC := Lib.hid hc
  have HS := Lib.hid hs
  have HT := Lib.hid ht
  have HAB := Lib.hid hab
  have r0 := Lib.hid (heap_alloc_new w (Obj.cells #[n, c, t2, t3, t4, t5, t6] 29))
  have hz0 : w.heap.size < (w.alloc (Obj.cells #[n, c, t2, t3, t4, t5, t6] 29)).heap.size := by simp
  obtain ⟨_, ca, ccap, rfl, _⟩ := hc
  obtain ⟨_, sa, scap, rfl, _⟩ := hs
  obtain ⟨_, ta, tcap, rfl, _⟩ := ht
  clear hab
  have CL := Lib.hid (classes_any n _ t2 t3 t4 t5 t6 cs _ (HC.out.below hb0 (Nat.le_refl _)))
  go_enter Try.func16, Try.ntmps16
  go_wp2_with fail
  refine CL.out.mono ?_
  rintro e w1 ⟨rfl, hb1⟩
  have hB1 : Below w.heap.size w w1 := hb0.trans (hb1.mono (by omega))
  have hz1 : w.heap.size < w1.heap.size := Nat.lt_of_lt_of_le hz0 hb1.size
  have r1 := Lib.hid ((hb1.block w.heap.size hz0).trans r0.out)
  clear hb1 hb0 hz0 CL r0
  by_cases h0 : clsErr cs = 0
  · obtain ⟨sp, hbu⟩ := HAB.out h0
    have HBU := Lib.hid hbu
    have HL := Lib.hid (lB_zero (ab := ab0) (ss := ss) (ts := ts) h0)
    have H300 := Lib.hid (clsErr_len h0)
    rw [h0]
    clear h0 hbu
    obtain ⟨c0, c1, c2, c3, c4, c5, c6⟩ := cells7' r1.out
    have K1 := Lib.hid (rknown_any n _ t2 t3 t4 t5 t6 _ ss cs w1 (HC.out.below hB1 (Nat.le_refl _)) (HS.out.below hB1 (Nat.le_refl _)))
    by_cases h1 : ss.all (inNs (cs.map Prod.fst)) = true
    · rw [h1] at K1
      have H1 := Lib.hid h1
      clear h1
      go_wp2_with fail
      refine K1.out.mono ?_
      rintro e w2 ⟨rfl, hb2⟩
      have hB2 : Below w.heap.size w w2 := hB1.trans (hb2.mono (Nat.le_of_lt hz1))
      have hz2 : w.heap.size < w2.heap.size := Nat.lt_of_lt_of_le hz1 hb2.size
      have r2 := Lib.hid ((hb2.block w.heap.size hz1).trans r1.out)
      clear hb2 c0 c1 c2 c3 c4 c5 c6 K1 r1
      obtain ⟨c0, c1, c2, c3, c4, c5, c6⟩ := cells7' r2.out
      have K2 := Lib.hid (rknown_any n _ t2 t3 t4 t5 t6 _ ts cs w2 (HC.out.below hB2 (Nat.le_refl _)) (HT.out.below hB2 (Nat.le_refl _)))
      by_cases h2 : ts.all (inNs (cs.map Prod.fst)) = true
      · rw [h2] at K2
        have H2 := Lib.hid h2
        clear h2
        go_wp2_with fail
        refine K2.out.mono ?_
        rintro e w3 ⟨rfl, hb3⟩
        have hB3 : Below w.heap.size w w3 := hB2.trans (hb3.mono (Nat.le_of_lt hz2))
        have hz3 : w.heap.size < w3.heap.size := Nat.lt_of_lt_of_le hz2 hb3.size
        have r3 := Lib.hid ((hb3.block w.heap.size hz2).trans r2.out)
        clear hb3 c0 c1 c2 c3 c4 c5 c6 K2 r2
        obtain ⟨c0, c1, c2, c3, c4, c5, c6⟩ := cells7' r3.out
        have WI := Lib.hid (within_any n _ t2 t3 t4 t5 t6 _ _ cs sp ab0 ss ts w3 (HC.out.below hB3 (Nat.le_refl _)) HBU.out H300.out (HS.out.below hB3 (Nat.le_refl _)) (HT.out.below hB3 (Nat.le_refl _)) H1.out H2.out)
        have HR : Hid (lB cs ab0 ss ts = withB (cs.map Prod.fst) (fun i => ab0.getD i []) ss ts) := by unfold Hid; rw [HL.out, H1.out, H2.out, Bool.true_and, Bool.true_and]
        clear HL
        generalize withB (cs.map Prod.fst) (fun i => ab0.getD i []) ss ts = r at *
        go_wp2_with fail
        refine WI.out.mono ?_
        rintro e w4 ⟨rfl, hb4⟩
        go_wp2_with fail
        go_ret
        exact ⟨ret_bool HR.out.symm, hB3.trans (hb4.mono (Nat.le_of_lt hz3))⟩
      · have h2' : ts.all (inNs (cs.map Prod.fst)) = false := by simpa using h2
        rw [h2'] at K2
        have HR : Hid (lB cs ab0 ss ts = false) := by unfold Hid; rw [HL.out, H1.out, h2']; rfl
        clear h2 h2' HL
        go_wp2_with fail
        refine K2.out.mono ?_
        rintro e w3 ⟨rfl, hb3⟩
        go_wp2_with fail
        go_ret
        exact ⟨ret_bool HR.out.symm, hB2.trans (hb3.mono (Nat.le_of_lt hz2))⟩
    · have h1' : ss.all (inNs (cs.map Prod.fst)) = false := by simpa using h1
      rw [h1'] at K1
      have HR : Hid (lB cs ab0 ss ts = false) := by unfold Hid; rw [HL.out, h1']; rfl
      clear h1 h1' HL
      go_wp2_with fail
      refine K1.out.mono ?_
      rintro e w2 ⟨rfl, hb2⟩
      go_wp2_with fail
      go_ret
      exact ⟨ret_bool HR.out.symm, hB1.trans (hb2.mono (Nat.le_of_lt hz1))⟩
  · have hd : decide (clsErr cs = 0) = false := by simpa using h0
    have HR : Hid (lB cs ab0 ss ts = false) := by unfold Hid lB; rw [hd]; rfl
    have he : (clsErr cs == 0) = false := by simpa using h0
    generalize clsErr cs = ce at *
    go_wp2_with fail
    go_ret
    exact ⟨ret_bool HR.out.symm, hB1⟩
end Go.Proofs.Ytehnikgdjnmfcaa

/- Below, of the program and of the reference. -/
namespace Go.Proofs.Ytehnikgdjnmfcaa
open Go.RowKit Go.WideMaps Go.Shelf

theorem slOne {w : World} {k : Nat} {x : Nm} {fr : Nat × Nat} (h : w.heap[k]? = some (.cells #[.string (bs x)] 9 fr)) (hx : x.length ≤ maxLen) : SlS w (.slice (some ⟨k, 0, none⟩) 1 1) [x] := by
  refine ⟨by unfold maxLen; simp, _, 1, rfl, fun _ => ⟨k, 0, rfl, (Array.getElem?_eq_some_iff.1 h).1, fun j hj => ?_, fun s hs => ?_⟩⟩
  · have : j = 0 := by simp at hj; omega
    subst this
    rw [cell_of_row w _ _ _ _ _ h]; rfl
  · rw [List.mem_singleton] at hs; subst hs; exact hx

set_option maxRecDepth 100000 in
set_option maxHeartbeats 8000000 in
theorem below_p (n c t2 t3 t4 t5 t6 : Value) (cs : List (Nm × List Nm)) (ab0 : List (List Nat)) (x y : Nm) (w : World) (hc : SlC w c cs) (hx : x.length ≤ maxLen) (hy : y.length ≤ maxLen) (hab : clsErr cs = 0 → ∃ sp, Built cs sp ab0) :
    Calls Try.prog 13 #[.agg #[n, c, t2, t3, t4, t5, t6], .string (bs x), .string (bs y)] w fun e w' => e = .returned (.bool (lB cs ab0 [x] [y])) ∧ Below w.heap.size w w' := by
  have hb0 := below_alloc w (Obj.cells #[n, c, t2, t3, t4, t5, t6] 29)
  have HC := Lib.hid hc
  have HAB := Lib.hid hab
  have r0 := Lib.hid (heap_alloc_new w (Obj.cells #[n, c, t2, t3, t4, t5, t6] 29))
  have hz0 : (w.alloc (Obj.cells #[n, c, t2, t3, t4, t5, t6] 29)).heap.size = w.heap.size + 1 := by simp
  clear hab
  go_enter Try.func13, Try.ntmps13
  go_wp2_with fail
  have hb1 := below_alloc (w.alloc (Obj.cells #[n, c, t2, t3, t4, t5, t6] 29)) (Obj.cells #[.string (bs x)] 9)
  have q1 := heap_alloc_new (w.alloc (Obj.cells #[n, c, t2, t3, t4, t5, t6] 29)) (Obj.cells #[.string (bs x)] 9)
  have hb2 := below_alloc ((w.alloc (Obj.cells #[n, c, t2, t3, t4, t5, t6] 29)).alloc (Obj.cells #[.string (bs x)] 9)) (Obj.cells #[.string (bs y)] 9)
  have q2 := heap_alloc_new ((w.alloc (Obj.cells #[n, c, t2, t3, t4, t5, t6] 29)).alloc (Obj.cells #[.string (bs x)] 9)) (Obj.cells #[.string (bs y)] 9)
  have hz1 : ((w.alloc (Obj.cells #[n, c, t2, t3, t4, t5, t6] 29)).alloc (Obj.cells #[.string (bs x)] 9)).heap.size = w.heap.size + 2 := by simp
  have s1 := (slOne q1 hx).below hb2 (Nat.le_refl _)
  have s2 := slOne q2 hy
  rw [hz0] at s1
  rw [hz1] at s2
  have hB : Below w.heap.size w (((w.alloc (Obj.cells #[n, c, t2, t3, t4, t5, t6] 29)).alloc (Obj.cells #[.string (bs x)] 9)).alloc (Obj.cells #[.string (bs y)] 9)) := (hb0.trans (hb1.mono (by omega))).trans (hb2.mono (by omega))
  have LP := Lib.hid (less_p (.agg #[n, c, t2, t3, t4, t5, t6]) _ _ cs ab0 [x] [y] _ ⟨n, c, t2, t3, t4, t5, t6, rfl, HC.out.below hB (Nat.le_refl _)⟩ s1 s2 HAB.out)
  have HZ : Hid (w.heap.size ≤ (((w.alloc (Obj.cells #[n, c, t2, t3, t4, t5, t6] 29)).alloc (Obj.cells #[.string (bs x)] 9)).alloc (Obj.cells #[.string (bs y)] 9)).heap.size) := by unfold Hid; simp; omega
  have HB := Lib.hid hB
  clear hb0 hb1 hb2 q1 q2 hz0 hz1 s1 s2 hB
  obtain ⟨r, hr⟩ : ∃ r, r = lB cs ab0 [x] [y] := ⟨_, rfl⟩
  rw [← hr] at LP
  have HRR := Lib.hid hr
  clear hr
  refine LP.out.mono ?_
  rintro e w2 ⟨rfl, hb3⟩
  go_wp2_with fail
  go_ret
  exact ⟨ret_bool HRR.out, HB.out.trans (hb3.mono HZ.out)⟩
end Go.Proofs.Ytehnikgdjnmfcaa
