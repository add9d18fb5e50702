/- The reference: the error of sorts. -/
import Derived.Test.YtehnikgdjnmfcaaR7
import Derived.Test.YtehnikgdjnmfcaaS1
namespace Go.Proofs.Ytehnikgdjnmfcaa
open Go.RowKit Go.WideMaps Go.Shelf

theorem clsErrFrom_zero (cs : List (Nm × List Nm)) : ∀ f k, clsErrFrom cs f k = 0 → ∀ j, k ≤ j → j < k + f → classErr ((cs.take j).map Prod.fst) (cs.getD j ([], [])).1 (cs.getD j ([], [])).2 = 0
  | 0, _, _, j, h1, h2 => absurd h2 (by omega)
  | f + 1, k, h, j, h1, h2 => by
    unfold clsErrFrom at h
    by_cases h0 : classErr ((cs.take k).map Prod.fst) (cs.getD k ([], [])).1 (cs.getD k ([], [])).2 = 0
    · rw [if_pos h0] at h
      by_cases e : j = k
      · subst e; exact h0
      · exact clsErrFrom_zero cs f (k + 1) h j (by omega) (by omega)
    · rw [if_neg h0] at h; exact absurd h h0

theorem clsErr_len {cs : List (Nm × List Nm)} (h : clsErr cs = 0) : cs.length ≤ 300 := by
  unfold clsErr at h
  by_cases h3 : 300 < cs.length
  · rw [if_pos h3] at h; exact absurd h (by decide)
  · omega

open Classical in
theorem built_take {cs : List (Nm × List Nm)} (h : clsErr cs = 0) : ∀ k, k ≤ cs.length → ∃ sp ab, Built (cs.take k) sp ab
  | 0, _ => ⟨[], [], by rw [List.take_zero]; exact .nil⟩
  | k + 1, hk => by
    obtain ⟨sp, ab, hb⟩ := built_take h k (by omega)
    have h3 := clsErr_len h
    have hf : clsErrFrom cs cs.length 0 = 0 := by
      unfold clsErr at h
      rw [if_neg (by omega)] at h; exact h
    have hc := clsErrFrom_zero cs _ _ hf k (by omega) (by omega)
    have hlen : (cs.take k).length = k := by rw [List.length_take]; omega
    generalize hx : cs.getD k ([], []) = x at *
    obtain ⟨nm, sups⟩ := x
    have hlt := Built.lt' hb
    rw [take_snocD cs ([], []) k (by omega), hx]
    refine ⟨_, _, Built.snoc (ys := (List.range (k + 1)).filter fun x => decide (Reach (fun i => (sp ++ [sups.map (ixOf ((cs.take k).map Prod.fst))]).getD i []) (cs.take k).length x)) hb hc fun x => ?_⟩
    rw [List.mem_filter, List.mem_range, decide_eq_true_iff]
    refine ⟨fun h => h.2, fun h => ⟨?_, h⟩⟩
    have hlt2 : ∀ i, ∀ s ∈ (sp ++ [sups.map (ixOf ((cs.take k).map Prod.fst))]).getD i [], s < i := by
      intro i s hs
      have hl := hb.len.1
      by_cases hin : i < sp.length
      · rw [getD_left sp _ i hin] at hs; exact hlt i s hs
      · by_cases he : i = sp.length
        · subst he
          rw [getD_last] at hs
          obtain ⟨t, ht, rfl⟩ := List.mem_map.1 hs
          have h2 := supErr_all _ _ (classErr_zero hc).2.2.2 t ht
          have := ixOf_lt h2
          rw [List.length_map] at this; omega
        · rw [List.getD_eq_getElem?_getD, List.getElem?_eq_none (by simp; omega)] at hs
          simp at hs
    have := Reach.le hlt2 h
    omega

theorem built_of {cs : List (Nm × List Nm)} (h : clsErr cs = 0) : ∃ sp ab, Built cs sp ab := by
  obtain ⟨sp, ab, hb⟩ := built_take h cs.length (Nat.le_refl _)
  rw [List.take_length] at hb
  exact ⟨sp, ab, hb⟩

def firstErr (ns : List Nm) : List (List Nm) → Int
  | [] => 0
  | s :: r => if normErr ns s = 0 then firstErr ns r else normErr ns s

def sortsErr (cs : List (Nm × List Nm)) (ls : List (List Nm)) : Int := if clsErr cs = 0 then firstErr (cs.map Prod.fst) ls else clsErr cs

/-- a slice of sorts -/
def SlSs (w : World) (v : Value) (ls : List (List Nm)) : Prop :=
  ls.length ≤ maxLen ∧ ∃ a cap, v = .slice a ls.length cap ∧ (0 < ls.length → ∃ b off, a = some ⟨b, off, none⟩ ∧ b < w.heap.size ∧
    ∀ k, k < ls.length → ∃ p c, w.cell? ⟨b, off + k, none⟩ = some (.slice p (ls.getD k []).length c) ∧ SlS w (.slice p (ls.getD k []).length c) (ls.getD k []))

set_option maxRecDepth 100000 in
set_option maxHeartbeats 8000000 in
theorem sorts_any (n c t2 t3 t4 t5 t6 v : Value) (cs : List (Nm × List Nm)) (ls : List (List Nm)) (w : World) (hc : SlC w c cs) (hs : SlSs w v ls) :
    Calls Try.prog 44 #[.agg #[n, c, t2, t3, t4, t5, t6], v] w fun e w' => e = .returned (.int .i64 (sortsErr cs ls)) ∧ Below w.heap.size w w' := by
  have hb0 := below_alloc w (Obj.cells #[n, c, t2, t3, t4, t5, t6] 29)
  have HC := Lib.hid hc
  have HS := Lib.hid hs
  have r0 := Lib.hid (heap_alloc_new w (Obj.cells #[n, c, t2, t3, t4, t5, t6] 29))
  have hz0 : w.heap.size < (w.alloc (Obj.cells #[n, c, t2, t3, t4, t5, t6] 29)).heap.size := by simp
  obtain ⟨_, ca, ccap, rfl, _⟩ := hc
  obtain ⟨hlm, sa, scap, rfl, _⟩ := hs
  unfold maxLen at hlm
  obtain ⟨c0, c1, c2, c3, c4, c5, c6⟩ := cells7' r0.out
  have CL := Lib.hid (classes_any n _ t2 t3 t4 t5 t6 cs _ (HC.out.below hb0 (Nat.le_refl _)))
  go_enter Try.func44, Try.ntmps44
  go_wp2_with fail
  refine CL.out.mono ?_
  rintro e w1 ⟨rfl, hb1⟩
  have hB1 : Below w.heap.size w w1 := hb0.trans (hb1.mono (by omega))
  have hz1 : w.heap.size < w1.heap.size := Nat.lt_of_lt_of_le hz0 hb1.size
  have r1 := Lib.hid ((hb1.block w.heap.size hz0).trans r0.out)
  clear c0 c1 c2 c3 c4 c5 c6 hb1 hb0 hz0 CL r0
  by_cases h0 : clsErr cs = 0
  · have HE : Hid (sortsErr cs ls = firstErr (cs.map Prod.fst) (ls.drop 0)) := by unfold Hid sortsErr; rw [if_pos h0]; rfl
    rw [h0]
    clear h0
    go_wp2_with fail
    go_loopw [6] (fun u wr => ∃ k : Nat, k ≤ ls.length ∧ u = .int .i64 k ∧ Hid (sortsErr cs ls = firstErr (cs.map Prod.fst) (ls.drop k)) ∧ Below w1.heap.size w1 wr) (fun u _ => ls.length - (intOf u).toNat)
    case atStart => exact ⟨0, by omega, rfl, HE, Below.refl _ _⟩
    case round =>
      obtain ⟨k, hk, rfl, hI, hB⟩ := hrel
      clear HE
      have hz := hB.size
      have hBw : Below w.heap.size w wr := hB1.trans (hB.mono (by omega))
      by_cases hlt : k < ls.length
      · obtain ⟨_, a', cap', hee, hsx⟩ := HS.out
        injection hee with hee _ hee2
        subst hee hee2
        obtain ⟨b, off, rfl, hb, hcl⟩ := hsx (by omega)
        obtain ⟨sp, sc, g0, hss⟩ := hcl k hlt
        have hstep : Hid (sortsErr cs ls = if normErr (cs.map Prod.fst) (ls.getD k []) = 0 then firstErr (cs.map Prod.fst) (ls.drop (k + 1)) else normErr (cs.map Prod.fst) (ls.getD k [])) := by
          unfold Hid; rw [hI.out, drop_getD ls [] k hlt]; rfl
        generalize ls.getD k [] = x at *
        have hcc := (hBw.cell (p := ⟨b, off + k, none⟩) hb).trans g0
        have hcd := Lib.hid hcc
        have HX := Lib.hid hss
        have r3 := Lib.hid ((hB.block w.heap.size hz1).trans r1.out)
        clear hcl hsx hI g0 hss
        by_cases h20 : 20 < x.length
        · have hd : decide (20 < ((x.length : Nat) : Int)) = true := by simp; omega
          have hE : Hid (sortsErr cs ls = 5) := by
            have e : normErr (cs.map Prod.fst) x = 5 := by unfold normErr; rw [if_pos h20]
            unfold Hid; rw [hstep.out, e]; rfl
          clear hstep h20
          go_wp2_with fail
          go_ret
          exact ⟨by rw [hE.out]; rfl, hBw⟩
        · have hd : decide (20 < ((x.length : Nat) : Int)) = false := by simp; omega
          have CK := Lib.hid (rknown_any n _ t2 t3 t4 t5 t6 _ x cs wr.drew (HC.out.below hBw.drew (Nat.le_refl _)) (HX.out.below hBw.drew (Nat.le_refl _)))
          obtain ⟨c0, c1, c2, c3, c4, c5, c6⟩ := cells7' r3.out
          by_cases hall : x.all (inNs (cs.map Prod.fst)) = true
          · have hst : Hid (sortsErr cs ls = firstErr (cs.map Prod.fst) (ls.drop (k + 1))) := by
              have e : normErr (cs.map Prod.fst) x = 0 := by unfold normErr; rw [if_neg h20, if_pos hall]
              unfold Hid; rw [hstep.out, e]; rfl
            rw [hall] at CK
            clear hstep hall h20
            go_wp2_with fail
            go_region_held3 (fun w' => w'.cell? ⟨w.heap.size, 0, none⟩ = some n ∧ w'.cell? ⟨w.heap.size, 1, none⟩ = some (.slice ca cs.length ccap) ∧ w'.cell? ⟨w.heap.size, 2, none⟩ = some t2 ∧ w'.cell? ⟨w.heap.size, 3, none⟩ = some t3 ∧ w'.cell? ⟨w.heap.size, 4, none⟩ = some t4 ∧ w'.cell? ⟨w.heap.size, 5, none⟩ = some t5 ∧ w'.cell? ⟨w.heap.size, 6, none⟩ = some t6 ∧ w'.cell? ⟨b, off + k, none⟩ = some (.slice sp x.length sc))
              (first | exact cells7and r3.out hcd.out | exact cells7and r4.out k4.out)
              ((go_at_call 39; refine CK.out.mono ?_; rintro e w4 ⟨rfl, hb4⟩; have hb4 : Below wr.heap.size wr w4 := ((Below.refl _ wr).drew).trans hb4; have r4 := Lib.hid ((hb4.block w.heap.size (by omega)).trans r3.out); have k4 := Lib.hid ((hb4.cell (p := ⟨b, off + k, none⟩) (by simp; omega)).trans hcd.out)))
            clear c0 c1 c2 c3 c4 c5 c6 hcc
            go_wp2_with fail
            go_roundw
            case rel => exact ⟨k + 1, by omega, by go_num, hst, hB.trans (hb4.mono (by omega))⟩
            case measure => simp [intOf]; omega
          · have hall' : x.all (inNs (cs.map Prod.fst)) = false := by simpa using hall
            have hE : Hid (sortsErr cs ls = 9) := by
              have e : normErr (cs.map Prod.fst) x = 9 := by unfold normErr; rw [if_neg h20, if_neg hall]
              unfold Hid; rw [hstep.out, e]; rfl
            rw [hall'] at CK
            clear hstep hall hall' h20
            go_wp2_with fail
            go_region_held3 (fun w' => w'.cell? ⟨w.heap.size, 0, none⟩ = some n ∧ w'.cell? ⟨w.heap.size, 1, none⟩ = some (.slice ca cs.length ccap) ∧ w'.cell? ⟨w.heap.size, 2, none⟩ = some t2 ∧ w'.cell? ⟨w.heap.size, 3, none⟩ = some t3 ∧ w'.cell? ⟨w.heap.size, 4, none⟩ = some t4 ∧ w'.cell? ⟨w.heap.size, 5, none⟩ = some t5 ∧ w'.cell? ⟨w.heap.size, 6, none⟩ = some t6 ∧ w'.cell? ⟨b, off + k, none⟩ = some (.slice sp x.length sc))
              (first | exact cells7and r3.out hcd.out | exact cells7and r4.out k4.out)
              ((go_at_call 39; refine CK.out.mono ?_; rintro e w4 ⟨rfl, hb4⟩; have hb4 : Below wr.heap.size wr w4 := ((Below.refl _ wr).drew).trans hb4; have r4 := Lib.hid ((hb4.block w.heap.size (by omega)).trans r3.out); have k4 := Lib.hid ((hb4.cell (p := ⟨b, off + k, none⟩) (by simp; omega)).trans hcd.out)))
            go_wp2_with fail
            go_ret
            exact ⟨by rw [hE.out]; rfl, hBw.trans (hb4.mono (by omega))⟩
      · have hE : Hid (sortsErr cs ls = 0) := by unfold Hid; rw [hI.out, List.drop_eq_nil_of_le (by omega)]; rfl
        clear hI
        go_wp2_with fail
        go_ret
        exact ⟨by rw [hE.out]; rfl, hBw⟩
  · have hd : decide (clsErr cs = 0) = false := by simpa using h0
    have HE : Hid (sortsErr cs ls = clsErr cs) := by unfold Hid sortsErr; rw [if_neg h0]
    generalize clsErr cs = ce at *
    go_wp2_with fail
    go_ret
    exact ⟨by rw [HE.out]; rfl, hB1⟩
end Go.Proofs.Ytehnikgdjnmfcaa
