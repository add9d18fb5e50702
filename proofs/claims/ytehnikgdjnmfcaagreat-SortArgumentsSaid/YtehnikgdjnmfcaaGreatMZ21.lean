/- signClasses 37, with what is kept of the superclasses. -/
import Derived.Test.YtehnikgdjnmfcaaGreatMZ20
import Derived.Maps.OwnSet
namespace Go.Proofs.YtehnikgdjnmfcaaGreat
open Go.RowKit Go.WideMaps Go.Shelf
attribute [local go_sem] Oper.semAt_some

/-- the indices of the superclasses, in blocks from B on -/
def SupO (w : World) (B : Nat) (sv : Value) (sp : List (List Nat)) (n : Nat) : Prop :=
  ∃ rs, w.ownsRow B 133 1 sv n rs ∧ ∀ i, i < n → (sp.getD i []).length ≤ 20 ∧ w.ownsRow B 3 1 (rs.getD i undef) (sp.getD i []).length (ints (sp.getD i []))

def SignPost2 (w : World) (cs : List (Nm × List Nm)) (e : Ending) (w' : World) : Prop :=
  ∃ mb a1 n1 k1 a2 n2 k2, e = .returned (.tuple #[.agg #[.map mb, .slice a1 n1 k1, .slice a2 n2 k2, .slice none 0 0, .map none, .map none], .int .i64 (clsErr cs)]) ∧ Below w.heap.size w w' ∧
    (clsErr cs = 0 → ∃ sp ab, Built cs sp ab ∧ SigAt w' (.agg #[.map mb, .slice a1 n1 k1, .slice a2 n2 k2, .slice none 0 0, .map none, .map none]) (cs.map Prod.fst) (fun i => ab.getD i []) ∧
      SupO w' w.heap.size (.slice a1 n1 k1) sp cs.length)

set_option maxRecDepth 100000 in
set_option maxHeartbeats 4000000 in
theorem signClasses2_few (sa : Option Addr) (scap : Nat) (cs : List (Nm × List Nm)) (w : World) (hs : SlC w (.slice sa cs.length scap) cs) (h : cs.length ≤ 300) :
    Calls Tryz.prog 32 #[.slice sa cs.length scap] w (SignPost2 w cs) := by
  have h1 : decide (300 < ((cs.length : Nat) : Int)) = false := by simp; omega
  have HS := Lib.hid hs
  clear hs
  have hmk := run_mk
  go_enter Tryz.func32, Tryz.ntmps32
  go_wp2_with fail
  generalize hW0 : (((w.alloc (Obj.cells #[.map none, .slice none 0 0, .slice none 0 0, .slice none 0 0, .map none, .map none] 63)).alloc (Obj.map #[] 0)).alloc (Obj.cells #[.map (some (w.heap.size + 1)), .slice none 0 0, .slice none 0 0, .slice none 0 0, .map none, .map none] 63)) = W0
  have hbW : Below w.heap.size w W0 := by rw [← hW0]; exact (((Below.refl _ w).alloc (Nat.le_refl _) _).alloc (by simp) _).alloc (by simp; omega) _
  have hz0 : W0.heap.size = w.heap.size + 3 := by rw [← hW0]; simp
  have hr0 : W0.heap[w.heap.size]? = some (.cells #[.map none, .slice none 0 0, .slice none 0 0, .slice none 0 0, .map none, .map none] 63 (0, 0)) := by
    rw [← hW0]; exact ((below_alloc _ _).block _ (by simp; omega)).trans (heap_alloc2_old _ _ _)
  have hmap0 : W0.heap[w.heap.size + 1]? = some (.map #[] 0) := by
    rw [← hW0]; exact ((below_alloc _ _).block _ (by simp)).trans (heap_alloc2_new _ _ _)
  have hg0 : W0.heap[w.heap.size + 1 + 1]? = some (.cells #[.map (some (w.heap.size + 1)), .slice none 0 0, .slice none 0 0, .slice none 0 0, .map none, .map none] 63 (0, 0)) := by
    rw [← hW0]
    have e : w.heap.size + 1 + 1 = ((w.alloc (Obj.cells #[.map none, .slice none 0 0, .slice none 0 0, .slice none 0 0, .map none, .map none] 63)).alloc (Obj.map #[] 0)).heap.size := by simp
    rw [e, heap_alloc_new]
  have HG0 : Hid (GAt (w.heap.size + 1) W0 (w.heap.size + 1 + 1) [] [] []) := by
    refine ⟨by omega, by omega, rfl, rfl, w.heap.size + 1, .slice none 0 0, .slice none 0 0, [], [], hg0, by omega, mapAt_empty hmap0, World.ownsRow_nil _ _ _ _, fun i hi => by simp at hi, World.ownsRow_nil _ _ _ _, fun i hi => by simp at hi⟩
  have HR0 := Lib.hid hr0
  have HE0 : Hid (clsErr cs = clsErrFrom cs (cs.length - 0) 0) := by unfold Hid clsErr; rw [if_neg (by omega)]; rfl
  have HB0 : Hid (Built (cs.take 0) [] []) := by unfold Hid; rw [List.take_zero]; exact .nil
  clear hW0 hr0 hmap0 hg0 hmk
  go_loopw [18] (fun i wr => ∃ (k : Nat) (sp ab : List (List Nat)), k ≤ cs.length ∧ i = .int .i64 k ∧ Hid (Built (cs.take k) sp ab) ∧ Hid (GAt (w.heap.size + 1) wr (w.heap.size + 1 + 1) ((cs.take k).map Prod.fst) sp ab) ∧ Below (w.heap.size + 1) W0 wr ∧ Hid (clsErr cs = clsErrFrom cs (cs.length - k) k)) (fun i _ => cs.length - (intOf i).toNat)
  case atStart => exact ⟨0, [], [], by omega, rfl, HB0, HG0, Below.refl _ _, HE0⟩
  case round =>
    obtain ⟨k, sp, ab, hk, rfl, hBu, hG, hB, hE⟩ := hrel
    have hz : w.heap.size + 3 ≤ wr.heap.size := by have := hB.size; omega
    have hBw : Below w.heap.size w wr := hbW.trans (hB.mono (by omega))
    by_cases hlt : k < cs.length
    · obtain ⟨_, a', cap', hee, hsx⟩ := HS.out.below hBw (Nat.le_refl _)
      injection hee with hee _ hee2
      subst hee
      subst hee2
      obtain ⟨b, off, rfl, hb, hc⟩ := hsx (by omega)
      obtain ⟨g0, hnl, sa', scap', g1, hsl⟩ := hc k hlt
      have htake : Hid (cs.take (k + 1) = cs.take k ++ [cs.getD k ([], [])]) := take_snocD cs ([], []) k hlt
      have hstep : Hid (clsErr cs = if classErr ((cs.take k).map Prod.fst) (cs.getD k ([], [])).1 (cs.getD k ([], [])).2 = 0 then clsErrFrom cs (cs.length - (k + 1)) (k + 1) else classErr ((cs.take k).map Prod.fst) (cs.getD k ([], [])).1 (cs.getD k ([], [])).2) := by
        unfold Hid; rw [hE.out]
        have : cs.length - k = (cs.length - (k + 1)) + 1 := by omega
        rw [this]; rfl
      clear hc hsx hE
      generalize cs.getD k ([], []) = x at *
      obtain ⟨nm, sups⟩ := x
      simp only at g0 g1 hnl hsl
      have HC := Lib.hid (callsIn_wide.1 (addClass_any (w.heap.size + 1) (w.heap.size + 1 + 1) nm sa' scap' sups ((cs.take k).map Prod.fst) sp ab (wr.alloc (Obj.cells #[.string (bs nm), .slice sa' sups.length scap'] 48)) (by simp; omega)
        (by simp; omega) (GAt.below hG.out (below_alloc _ _)) (by have := hBu.out.lt; simpa using this) (hsl.below (below_alloc _ _) (Nat.le_refl _)) hnl))
      by_cases hz0 : classErr ((cs.take k).map Prod.fst) nm sups = 0
      · have hst2 : Hid (clsErr cs = clsErrFrom cs (cs.length - (k + 1)) (k + 1)) := by unfold Hid; rw [hstep.out, if_pos hz0]
        rw [hz0] at HC
        clear hstep hG
        go_wp2_with fail
        refine HC.out.mono ?_
        rintro e w1 ⟨rfl, hb1, hk1⟩
        have HK := Lib.hid hk1
        clear hk1 HC
        go_wp2_with fail
        go_roundw
        case rel =>
          obtain ⟨ys, hy, hg⟩ := HK.out trivial
          refine ⟨k + 1, sp ++ [sups.map (ixOf ((cs.take k).map Prod.fst))], ab ++ [ys], by omega, by go_num, ?_, ?_, hB.trans ((Below.alloc (Below.refl _ _) (by omega) _).trans hb1), hst2⟩
          · unfold Hid; rw [htake.out]
            exact .snoc hBu.out hz0 (by simpa using hy)
          · unfold Hid; rw [htake.out, List.map_append]; exact hg
        case measure => simp [intOf]; omega
      · have hst2 : Hid (clsErr cs = classErr ((cs.take k).map Prod.fst) nm sups) := by unfold Hid; rw [hstep.out, if_neg hz0]
        generalize hce : classErr ((cs.take k).map Prod.fst) nm sups = ce at *
        clear hstep hG
        have hdz : decide (ce = 0) = false := by simpa using hz0
        go_wp2_with fail
        refine HC.out.mono ?_
        rintro e w1 ⟨rfl, hb1, _⟩
        have hrow : w1.heap[w.heap.size]? = some (.cells #[.map none, .slice none 0 0, .slice none 0 0, .slice none 0 0, .map none, .map none] 63 (0, 0)) :=
          (hb1.block _ (by simp)).trans (((below_alloc _ _).block _ (by omega)).trans ((hB.block _ (by omega)).trans HR0.out))
        have q0 : w1.cell? ⟨w.heap.size, 0, none⟩ = some (.map none) := by rw [cell_of_row w1 _ 0 _ _ _ hrow]; rfl
        have q1 : w1.cell? ⟨w.heap.size, 1, none⟩ = some (.slice none 0 0) := by rw [cell_of_row w1 _ 1 _ _ _ hrow]; rfl
        have q2 : w1.cell? ⟨w.heap.size, 2, none⟩ = some (.slice none 0 0) := by rw [cell_of_row w1 _ 2 _ _ _ hrow]; rfl
        have q3 : w1.cell? ⟨w.heap.size, 3, none⟩ = some (.slice none 0 0) := by rw [cell_of_row w1 _ 3 _ _ _ hrow]; rfl
        have q4 : w1.cell? ⟨w.heap.size, 4, none⟩ = some (.map none) := by rw [cell_of_row w1 _ 4 _ _ _ hrow]; rfl
        have q5 : w1.cell? ⟨w.heap.size, 5, none⟩ = some (.map none) := by rw [cell_of_row w1 _ 5 _ _ _ hrow]; rfl
        have f0 : w1.frozen? ⟨w.heap.size, 0, none⟩ = false := frozen_of_row w1 _ 0 _ _ hrow
        have f1 : w1.frozen? ⟨w.heap.size, 1, none⟩ = false := frozen_of_row w1 _ 1 _ _ hrow
        have f2 : w1.frozen? ⟨w.heap.size, 2, none⟩ = false := frozen_of_row w1 _ 2 _ _ hrow
        have f3 : w1.frozen? ⟨w.heap.size, 3, none⟩ = false := frozen_of_row w1 _ 3 _ _ hrow
        have f4 : w1.frozen? ⟨w.heap.size, 4, none⟩ = false := frozen_of_row w1 _ 4 _ _ hrow
        have f5 : w1.frozen? ⟨w.heap.size, 5, none⟩ = false := frozen_of_row w1 _ 5 _ _ hrow
        clear HC
        go_wp2_with fail
        refine bodyPost_ret (results_row_tmp rfl _ _ w.heap.size 63 #[.map none, .slice none 0 0, .slice none 0 0, .slice none 0 0, .map none, .map none] (0, 0) _ rfl (row6 hrow) Tryz.underlying63 rfl (by kernel_rfl)) rfl ?_
        refine ⟨none, none, 0, 0, none, 0, 0, by rw [hst2.out]; rfl, ?_, fun e0 => absurd (hst2.out.symm.trans e0) hz0⟩
        exact below6 (hBw.trans (((Below.refl _ _).alloc (by omega) _).trans (hb1.mono (by omega)))) (Nat.le_refl _)
    · have hkk : k = cs.length := by omega
      subst hkk
      have hce : Hid (clsErr cs = 0) := by unfold Hid; rw [hE.out, Nat.sub_self]; rfl
      rw [List.take_length] at hBu hG
      obtain ⟨k1, k2, k3, k4, bm, sv, av, rs, xs, hgo, k5, hm, hsv, hrows, hav, hxs⟩ := hG.out
      obtain ⟨s1, c1, rfl⟩ := ownsRow_form hsv
      obtain ⟨s2, c2, rfl⟩ := ownsRow_form hav
      have hrow : wr.heap[w.heap.size]? = some (.cells #[.map none, .slice none 0 0, .slice none 0 0, .slice none 0 0, .map none, .map none] 63 (0, 0)) :=
        (hB.block _ (by omega)).trans HR0.out
      have p0 : wr.cell? ⟨w.heap.size + 1 + 1, 0, none⟩ = some (.map (some bm)) := by rw [cell_of_row wr _ 0 _ _ _ hgo]; rfl
      have p1 : wr.cell? ⟨w.heap.size + 1 + 1, 1, none⟩ = some (.slice s1 (cs.map Prod.fst).length c1) := by rw [cell_of_row wr _ 1 _ _ _ hgo]; rfl
      have p2 : wr.cell? ⟨w.heap.size + 1 + 1, 2, none⟩ = some (.slice s2 (cs.map Prod.fst).length c2) := by rw [cell_of_row wr _ 2 _ _ _ hgo]; rfl
      have p3 : wr.cell? ⟨w.heap.size + 1 + 1, 3, none⟩ = some (.slice none 0 0) := by rw [cell_of_row wr _ 3 _ _ _ hgo]; rfl
      have p4 : wr.cell? ⟨w.heap.size + 1 + 1, 4, none⟩ = some (.map none) := by rw [cell_of_row wr _ 4 _ _ _ hgo]; rfl
      have p5 : wr.cell? ⟨w.heap.size + 1 + 1, 5, none⟩ = some (.map none) := by rw [cell_of_row wr _ 5 _ _ _ hgo]; rfl
      have q0 : wr.cell? ⟨w.heap.size, 0, none⟩ = some (.map none) := by rw [cell_of_row wr _ 0 _ _ _ hrow]; rfl
      have q1 : wr.cell? ⟨w.heap.size, 1, none⟩ = some (.slice none 0 0) := by rw [cell_of_row wr _ 1 _ _ _ hrow]; rfl
      have q2 : wr.cell? ⟨w.heap.size, 2, none⟩ = some (.slice none 0 0) := by rw [cell_of_row wr _ 2 _ _ _ hrow]; rfl
      have q3 : wr.cell? ⟨w.heap.size, 3, none⟩ = some (.slice none 0 0) := by rw [cell_of_row wr _ 3 _ _ _ hrow]; rfl
      have q4 : wr.cell? ⟨w.heap.size, 4, none⟩ = some (.map none) := by rw [cell_of_row wr _ 4 _ _ _ hrow]; rfl
      have q5 : wr.cell? ⟨w.heap.size, 5, none⟩ = some (.map none) := by rw [cell_of_row wr _ 5 _ _ _ hrow]; rfl
      have f0 : wr.frozen? ⟨w.heap.size, 0, none⟩ = false := frozen_of_row wr _ 0 _ _ hrow
      have f1 : wr.frozen? ⟨w.heap.size, 1, none⟩ = false := frozen_of_row wr _ 1 _ _ hrow
      have f2 : wr.frozen? ⟨w.heap.size, 2, none⟩ = false := frozen_of_row wr _ 2 _ _ hrow
      have f3 : wr.frozen? ⟨w.heap.size, 3, none⟩ = false := frozen_of_row wr _ 3 _ _ hrow
      have f4 : wr.frozen? ⟨w.heap.size, 4, none⟩ = false := frozen_of_row wr _ 4 _ _ hrow
      have f5 : wr.frozen? ⟨w.heap.size, 5, none⟩ = false := frozen_of_row wr _ 5 _ _ hrow
      have HM := Lib.hid hm
      have HSV := Lib.hid hsv
      have HROWS := Lib.hid hrows
      have HAV := Lib.hid hav
      have HXS := Lib.hid hxs
      clear hm hsv hrows hav hxs hgo HG0
      go_wp2_with fail
      rw [List.length_map] at HAV HXS HSV HROWS k3 k4
      have hS6 := step6 (v0 := .map (some bm)) (v1 := .slice s1 cs.length c1) (v2 := .slice s2 cs.length c2) (v3 := .slice none 0 0) (v4 := .map none) (v5 := .map none) hrow
      refine bodyPost_ret (results_row_tmp rfl _ _ w.heap.size 63 #[.map (some bm), .slice s1 cs.length c1, .slice s2 cs.length c2, .slice none 0 0, .map none, .map none] (0, 0) _ rfl (row6 hrow) Tryz.underlying63 rfl (by kernel_rfl)) rfl ?_
      refine ⟨some bm, s1, cs.length, c1, s2, cs.length, c2, by rw [hce.out]; rfl, below6 hBw (Nat.le_refl _), fun _ => ⟨sp, ab, hBu.out, ⟨by simpa using h, bm, .slice s1 cs.length c1, s2, c2, .slice none 0 0, .map none, .map none, by rw [List.length_map], hS6.map HM.out, ?_⟩, rs, ownsRow_base (hS6.own HSV.out (by decide)) (by omega), fun i hi => ⟨(HROWS.out i hi).1, ownsRow_base (hS6.own (HROWS.out i hi).2 (by decide)) (by omega)⟩⟩⟩
      rw [List.length_map]
      exact abv_of (hS6.own HAV.out (by decide)) HXS.out

theorem signClasses2_any (v : Value) (cs : List (Nm × List Nm)) (w : World) (hs : SlC w v cs) : Calls Tryz.prog 32 #[v] w (SignPost2 w cs) := by
  obtain ⟨h1, sa, scap, rfl, h2⟩ := hs
  by_cases h : cs.length ≤ 300
  · exact signClasses2_few sa scap cs w ⟨h1, sa, scap, rfl, h2⟩ h
  · have e : clsErr cs = 5 := by unfold clsErr; rw [if_pos (by omega)]
    refine (signClasses_many sa cs.length scap w (by omega)).mono ?_
    rintro _ w' ⟨rfl, hb⟩
    exact ⟨none, none, 0, 0, none, 0, 0, by rw [e], hb, fun h0 => absurd (e.symm.trans h0) (by decide)⟩
end Go.Proofs.YtehnikgdjnmfcaaGreat

/- Two ways to build the same classes are one; Sign and Check, by what complete does. -/
namespace Go.Proofs.YtehnikgdjnmfcaaGreat
open Go.RowKit Go.WideMaps Go.Shelf
attribute [local go_sem] Oper.semAt_some

theorem wordsOf_congr {l l' : List Nat} (h : ∀ x, x ∈ l ↔ x ∈ l') (j : Nat) : wordsOf l j = wordsOf l' j := by
  refine Nat.eq_of_testBit_eq fun m => ?_
  by_cases hm : m < 64
  · have e1 : (j * 64 + m) / 64 = j := by omega
    have e2 : (j * 64 + m) % 64 = m := by omega
    have h1 := wordsOf_mem (j * 64 + m) l
    have h2 := wordsOf_mem (j * 64 + m) l'
    rw [e1, e2] at h1 h2
    rw [h1, h2]
    exact decide_eq_decide.2 (h _)
  · have b : ∀ y : List Nat, (wordsOf y j).testBit m = false := fun y => Nat.testBit_lt_two_pow (Nat.lt_of_lt_of_le (wordsOf_lt y j) (by
      have : (18446744073709551616 : Nat) = 2 ^ 64 := by decide
      rw [this]; exact Nat.pow_le_pow_right (by omega) (by omega)))
    rw [b, b]

theorem SigAt.same {w : World} {g : Value} {cs : List (Nm × List Nm)} {sp ab sp' ab' : List (List Nat)} (h : SigAt w g (cs.map Prod.fst) (fun i => ab.getD i [])) (hb : Built cs sp ab) (hb' : Built cs sp' ab') :
    SigAt w g (cs.map Prod.fst) (fun i => ab'.getD i []) := by
  obtain ⟨h0, bm, c1, ga, capa, c3, c4, c5, e, h1, h2⟩ := h
  refine ⟨h0, bm, c1, ga, capa, c3, c4, c5, e, h1, fun hn => ?_⟩
  obtain ⟨ba, off, e1, e2, h3⟩ := h2 hn
  refine ⟨ba, off, e1, e2, fun i hi j hj => ?_⟩
  rw [← wordsOf_congr (l := ab.getD i []) (l' := ab'.getD i []) (fun x => by
    rw [List.length_map] at hi
    have e := hb.det hb'
    rw [hb.mem i hi x, hb'.mem i hi x, e]) j]
  exact h3 i hi j hj

theorem declErr_num {ns : List Nm} {d : Nm × Int} (h : declErr ns d = 0) : 0 ≤ d.2 ∧ d.2 ≤ 10 := by
  unfold declErr at h
  by_cases h1 : isNameB (bs d.1) = false
  · rw [if_pos h1] at h; exact absurd h (by decide)
  · rw [if_neg h1] at h
    by_cases h2 : inNs ns d.1 = true
    · rw [if_pos h2] at h; exact absurd h (by decide)
    · rw [if_neg h2] at h
      by_cases h3 : d.2 < 0 ∨ 10 < d.2
      · rw [if_pos h3] at h; exact absurd h (by decide)
      · omega

theorem declErr_zero {ds : List (Nm × Int)} : ∀ f k, declErrFrom ds f k = 0 → ∀ j, k ≤ j → j < k + f → declErr ((ds.map Prod.fst).take j) (ds.getD j ([], 0)) = 0
  | 0, _, _, j, h1, h2 => absurd h2 (by omega)
  | f + 1, k, h, j, h1, h2 => by
    unfold declErrFrom at h
    by_cases h0 : declErr ((ds.map Prod.fst).take k) (ds.getD k ([], 0)) = 0
    · rw [if_pos h0] at h
      by_cases e : j = k
      · subst e; exact h0
      · exact declErr_zero f (k + 1) h j (by omega) (by omega)
    · rw [if_neg h0] at h; exact absurd h h0

theorem types_num {ds : List (Nm × Int)} (h : typesErr ds = 0) (s : Nm) : 0 ≤ numOf ds s ∧ numOf ds s ≤ 10 := by
  unfold typesErr at h
  by_cases h3 : 300 < ds.length
  · rw [if_pos h3] at h; exact absurd h (by decide)
  · rw [if_neg h3] at h
    unfold numOf
    by_cases hi : inNs (ds.map Prod.fst) s = true
    · rw [if_pos hi]
      have hl := ixOf_lt hi
      rw [List.length_map] at hl
      exact declErr_num (declErr_zero ds.length 0 h _ (Nat.zero_le _) (by omega))
    · rw [if_neg hi]; exact ⟨by decide, by decide⟩

theorem SupO.butG {w w' : World} {gb B n : Nat} {sv : Value} {sp : List (List Nat)} (hs : SupO w B sv sp n) (h : ButG gb w w') {c : Array Value} {fr : Nat × Nat} (hr : w.heap[gb]? = some (.cells c 63 fr)) : SupO w' B sv sp n := by
  have key : ∀ {e : TypeId} {size n : Nat} {v : Value} {xs : List Value}, e ≠ 63 → w.ownsRow B e size v n xs → w'.ownsRow B e size v n xs := by
    intro e size n v xs he ho
    refine ⟨ho.1, ?_⟩
    rcases ho.2 with h2 | ⟨g, cap, cur, hv, hg, hh, r⟩
    · exact .inl h2
    · refine .inr ⟨g, cap, cur, hv, hg, (h.block g (Array.getElem?_eq_some_iff.1 hh).1 (fun e2 => ?_)).trans hh, r⟩
      subst e2
      rw [hr] at hh; injection hh with hh; injection hh with _ hh; exact he hh.symm
  obtain ⟨rs, h1, h2⟩ := hs
  exact ⟨rs, key (by decide) h1, fun i hi => ⟨(h2 i hi).1, key (by decide) (h2 i hi).2⟩⟩

/-- what complete does -/
def CompleteC : Prop := ∀ (gb bm mb ab B : Nat) (c3 v : Value) (a1 ga : Option Addr) (k1 capa : Nat) (cs : List (Nm × List Nm)) (sp abl : List (List Nat)) (ds : List (Nm × Int)) (rs : List Ar) (vs : List Value) (w : World),
  Built cs sp abl → cs.length ≤ 300 → rs.length ≤ 300 → typesErr ds = 0 → arsErr cs abl ds rs = 0 →
  GAr w gb bm mb ab (.slice a1 cs.length k1) c3 ga capa (cs.map Prod.fst) (fun i => abl.getD i []) ds (rs.map arKey) vs →
  SupO w B (.slice a1 cs.length k1) sp cs.length → SlAr w v rs → (∀ j, j < rs.length → SlSs w (vs.getD j undef) (rs.getD j ar0).2.2) →
  Calls Tryz.prog 37 #[.pointer (some ⟨gb, 0, none⟩), v] w fun e w' => e = .returned (.int .i64 (if regAll cs abl rs = true then 0 else 31)) ∧ Below w.heap.size w w'
end Go.Proofs.YtehnikgdjnmfcaaGreat

/- Sign, by what complete does. -/
namespace Go.Proofs.YtehnikgdjnmfcaaGreat
open Go.RowKit Go.WideMaps Go.Shelf
attribute [local go_sem] Oper.semAt_some

/-- what a signature of a theory without an error holds -/
def SgOk (w : World) (g : Value) (m4 m5 : Option Nat) (cs : List (Nm × List Nm)) (ab : List (List Nat)) (ds : List (Nm × Int)) (rs : List Ar) : Prop :=
  SigAt w g (cs.map Prod.fst) (fun i => ab.getD i []) ∧ (∃ mb am vs, m4 = some mb ∧ m5 = some am ∧ MapV w mb ds ∧ MapA w am (rs.map arKey) vs ∧ ∀ j, j < rs.length → SlSs w (vs.getD j undef) (rs.getD j ar0).2.2) ∧ ∃ x0 x1 x2 x3 x4 x5, g = .agg #[x0, x1, x2, x3, x4, x5] ∧ SlT w x3 ds

def SgPost (w : World) (cs : List (Nm × List Nm)) (ab : List (List Nat)) (ds : List (Nm × Int)) (rs : List Ar) (e : Ending) (w' : World) : Prop :=
  ∃ m0 a1 n1 k1 a2 n2 k2 a3 n3 k3 m4 m5, e = .returned (.tuple #[.agg #[.map m0, .slice a1 n1 k1, .slice a2 n2 k2, .slice a3 n3 k3, .map m4, .map m5], .int .i64 (chkErr cs ab ds rs)]) ∧ Below w.heap.size w w' ∧
    (chkErr cs ab ds rs = 0 → SgOk w' (.agg #[.map m0, .slice a1 n1 k1, .slice a2 n2 k2, .slice a3 n3 k3, .map m4, .map m5]) m4 m5 cs ab ds rs)

theorem sgFail {w w' : World} {cs : List (Nm × List Nm)} {ab : List (List Nat)} {ds : List (Nm × Int)} {rs : List Ar} {er : Int} (h : chkErr cs ab ds rs = er) (h0 : er ≠ 0) (hb : Below w.heap.size w w') :
    SgPost w cs ab ds rs (.returned (.tuple #[.agg #[.map none, .slice none 0 0, .slice none 0 0, .slice none 0 0, .map none, .map none], .int .i64 er])) w' :=
  ⟨none, none, 0, 0, none, 0, 0, none, 0, 0, none, none, by rw [h], hb, fun e => absurd (h.symm.trans e) h0⟩

theorem chk_eq (cs : List (Nm × List Nm)) (ab : List (List Nat)) (ds : List (Nm × Int)) (rs : List Ar) :
    chkErr cs ab ds rs = if clsErr cs = 0 then (if typesErr ds = 0 then (if arsErr cs ab ds rs = 0 then (if regAll cs ab rs = true then 0 else 31) else arsErr cs ab ds rs) else typesErr ds) else clsErr cs := by
  unfold chkErr arsErr
  by_cases h1 : clsErr cs = 0
  · rw [if_pos h1, if_pos h1]
    by_cases h2 : typesErr ds = 0
    · rw [if_pos h2, if_pos h2]
      by_cases h3 : 300 < rs.length
      · rw [if_pos h3, if_pos h3, if_neg (by decide)]
      · rw [if_neg h3, if_neg h3]
    · rw [if_neg h2, if_neg h2]
  · rw [if_neg h1, if_neg h1]

theorem SlT.butG {w w' : World} {R : Nat} {m0 m4 m5 : Option Nat} {a1 a2 a3 : Option Addr} {n1 k1 n2 k2 n3 k3 : Nat} {t : TypeId} {fr : Nat × Nat} {v : Value} {ds : List (Nm × Int)} (h : ButG R w w')
    (hr : w.heap[R]? = some (.cells #[.map m0, .slice a1 n1 k1, .slice a2 n2 k2, .slice a3 n3 k3, .map m4, .map m5] t fr)) (hs : SlT w v ds) : SlT w' v ds := by
  obtain ⟨h1, a, cap, e, h2⟩ := hs
  refine ⟨h1, a, cap, e, fun hn => ?_⟩
  obtain ⟨b, off, e1, hb, hc⟩ := h2 hn
  have hne : b ≠ R := by
    intro e
    subst e
    have w0 := (hc 0 hn).1
    rw [cell_of_row w _ _ _ _ _ hr] at w0
    simp only [Nat.zero_mul, Nat.add_zero] at w0
    match off with
    | 0 => simp at w0
    | 1 => simp at w0
    | 2 => simp at w0
    | 3 => simp at w0
    | 4 => simp at w0
    | 5 => simp at w0
    | off + 6 => simp at w0
  have hbl := h.block b hb hne
  refine ⟨b, off, e1, Nat.lt_of_lt_of_le hb h.size, fun k hk => ?_⟩
  obtain ⟨g1, g2, g3⟩ := hc k hk
  exact ⟨(World.cell?_of_block (a := ⟨b, _, none⟩) hbl).trans g1, g2, (World.cell?_of_block (a := ⟨b, _, none⟩) hbl).trans g3⟩

theorem six {w : World} {k : Nat} {a0 a1 a2 a3 a4 a5 : Value} {t : TypeId} (h : w.heap[k]? = some (.cells #[a0, a1, a2, a3, a4, a5] t (0, 0))) :
    (w.cell? ⟨k, 0, none⟩ = some a0 ∧ w.cell? ⟨k, 1, none⟩ = some a1 ∧ w.cell? ⟨k, 2, none⟩ = some a2 ∧ w.cell? ⟨k, 3, none⟩ = some a3 ∧ w.cell? ⟨k, 4, none⟩ = some a4 ∧ w.cell? ⟨k, 5, none⟩ = some a5) ∧
    (w.frozen? ⟨k, 0, none⟩ = false ∧ w.frozen? ⟨k, 1, none⟩ = false ∧ w.frozen? ⟨k, 2, none⟩ = false ∧ w.frozen? ⟨k, 3, none⟩ = false ∧ w.frozen? ⟨k, 4, none⟩ = false ∧ w.frozen? ⟨k, 5, none⟩ = false) :=
  ⟨cells6 h, frozen_of_row _ _ _ _ _ h, frozen_of_row _ _ _ _ _ h, frozen_of_row _ _ _ _ _ h, frozen_of_row _ _ _ _ _ h, frozen_of_row _ _ _ _ _ h, frozen_of_row _ _ _ _ _ h⟩

theorem MapA.butG {w w' : World} {gb bm : Nat} {ks : List (Nm × Nm)} {vs : List Value} (h : ButG gb w w') {c : Array Value} {t : TypeId} {fr : Nat × Nat} (hr : w.heap[gb]? = some (.cells c t fr)) (hm : MapA w bm ks vs) : MapA w' bm ks vs := by
  refine hm.block (h.block bm hm.lt (fun e => ?_))
  obtain ⟨es, cl, e1⟩ := mapObj hm
  subst e; rw [e1] at hr; cases hr

theorem but6 {w : World} {g : Nat} {v0 v1 v2 v3 v4 v5 : Value} : ButG g w ((((((w.setCell ⟨g, 0, none⟩ v0).setCell ⟨g, 1, none⟩ v1).setCell ⟨g, 2, none⟩ v2).setCell ⟨g, 3, none⟩ v3).setCell ⟨g, 4, none⟩ v4).setCell ⟨g, 5, none⟩ v5) :=
  ((((((ButG.refl g w).set 0 v0).set 1 v1).set 2 v2).set 3 v3).set 4 v4).set 5 v5

set_option maxRecDepth 100000 in
set_option maxHeartbeats 8000000 in
theorem sign_of (HCM : CompleteC) (n c t2 t3 t4 t5 t6 : Value) (cs : List (Nm × List Nm)) (ab0 : List (List Nat)) (ds : List (Nm × Int)) (rs : List Ar) (w : World) (hc : SlC w c cs) (hd : SlT w t2 ds) (ha : SlAr w t3 rs) (hab : clsErr cs = 0 → ∃ sp, Built cs sp ab0) :
    Calls Tryz.prog 19 #[.agg #[n, c, t2, t3, t4, t5, t6]] w (SgPost w cs ab0 ds rs) := by
  have HC := Lib.hid hc
  have HD := Lib.hid hd
  have HA := Lib.hid ha
  have HAB := Lib.hid hab
  have HCP := Lib.hid HCM
  obtain ⟨_, ca, ccap, rfl, _⟩ := hc
  obtain ⟨_, da, dcap, rfl, _⟩ := hd
  obtain ⟨_, aa, acap, rfl, _⟩ := ha
  clear HCM hab
  have hbx : Below w.heap.size w ((w.alloc (Obj.cells #[n, .slice ca cs.length ccap, .slice da ds.length dcap, .slice aa rs.length acap, t4, t5, t6] 29)).alloc (Obj.cells #[.map none, .slice none 0 0, .slice none 0 0, .slice none 0 0, .map none, .map none] 63)) :=
    ((Below.refl _ w).alloc (Nat.le_refl _) _).alloc (by simp) _
  have hrx : ((w.alloc (Obj.cells #[n, .slice ca cs.length ccap, .slice da ds.length dcap, .slice aa rs.length acap, t4, t5, t6] 29)).alloc (Obj.cells #[.map none, .slice none 0 0, .slice none 0 0, .slice none 0 0, .map none, .map none] 63)).heap[w.heap.size]? = some (.cells #[n, .slice ca cs.length ccap, .slice da ds.length dcap, .slice aa rs.length acap, t4, t5, t6] 29 (0, 0)) := heap_alloc2_old _ _ _
  have hrz : ((w.alloc (Obj.cells #[n, .slice ca cs.length ccap, .slice da ds.length dcap, .slice aa rs.length acap, t4, t5, t6] 29)).alloc (Obj.cells #[.map none, .slice none 0 0, .slice none 0 0, .slice none 0 0, .map none, .map none] 63)).heap[w.heap.size + 1]? = some (.cells #[.map none, .slice none 0 0, .slice none 0 0, .slice none 0 0, .map none, .map none] 63 (0, 0)) := heap_alloc2_new _ _ _
  have hzx : ((w.alloc (Obj.cells #[n, .slice ca cs.length ccap, .slice da ds.length dcap, .slice aa rs.length acap, t4, t5, t6] 29)).alloc (Obj.cells #[.map none, .slice none 0 0, .slice none 0 0, .slice none 0 0, .map none, .map none] 63)).heap.size = w.heap.size + 2 := by simp
  have HRX := Lib.hid hrx
  have HRZ := Lib.hid hrz
  clear hrx hrz
  go_enter Tryz.func19, Tryz.ntmps19
  go_wp2_with fail
  generalize ((w.alloc (Obj.cells #[n, .slice ca cs.length ccap, .slice da ds.length dcap, .slice aa rs.length acap, t4, t5, t6] 29)).alloc (Obj.cells #[.map none, .slice none 0 0, .slice none 0 0, .slice none 0 0, .map none, .map none] 63)) = W0 at *
  refine (signClasses2_any _ cs _ (HC.out.below hbx (Nat.le_refl _))).mono ?_
  rintro e w1 ⟨mb0, a1, n1, k1, a2, n2, k2, rfl, hb1, hsig⟩
  have hz1 := hb1.size
  have hB1 : Below w.heap.size w w1 := hbx.trans (hb1.mono (by omega))
  obtain ⟨G, hG⟩ : ∃ G : Obj, G = Obj.cells #[.map mb0, .slice a1 n1 k1, .slice a2 n2 k2, .slice none 0 0, .map none, .map none] 63 := ⟨_, rfl⟩
  have hbg := below_alloc w1 (Obj.cells #[.map mb0, .slice a1 n1 k1, .slice a2 n2 k2, .slice none 0 0, .map none, .map none] 63)
  have hBg : Below w.heap.size w (w1.alloc (Obj.cells #[.map mb0, .slice a1 n1 k1, .slice a2 n2 k2, .slice none 0 0, .map none, .map none] 63)) := hB1.trans (hbg.mono (by omega))
  have hrz2 : (w1.alloc (Obj.cells #[.map mb0, .slice a1 n1 k1, .slice a2 n2 k2, .slice none 0 0, .map none, .map none] 63)).heap[w.heap.size + 1]? = some (.cells #[.map none, .slice none 0 0, .slice none 0 0, .slice none 0 0, .map none, .map none] 63 (0, 0)) :=
    (hbg.block _ (by omega)).trans ((hb1.block _ (by omega)).trans HRZ.out)
  have hrx2 := (hbg.block w.heap.size (by omega)).trans ((hb1.block w.heap.size (by omega)).trans HRX.out)
  have hrg2 := heap_alloc_new w1 (Obj.cells #[.map mb0, .slice a1 n1 k1, .slice a2 n2 k2, .slice none 0 0, .map none, .map none] 63)
  have hsz2 : (w1.alloc (Obj.cells #[.map mb0, .slice a1 n1 k1, .slice a2 n2 k2, .slice none 0 0, .map none, .map none] 63)).heap.size = w1.heap.size + 1 := by simp
  clear hG
  by_cases h0 : clsErr cs = 0
  · obtain ⟨sp, ab, hbu, hsg, hso⟩ := hsig h0
    obtain ⟨sp0, hb0⟩ := HAB.out h0
    have hspe := hbu.det hb0
    subst hspe
    obtain ⟨s0, bm, c1', ga', capa', c3', c4', c5', hse, hcl, hab2⟩ := hsg.same hbu hb0
    have hso2 := hso
    obtain ⟨rs', ho1, _⟩ := hso2
    obtain ⟨ao, co, heo⟩ := ownsRow_form ho1
    injection hse with hse
    simp at hse
    obtain ⟨e0, e1, ⟨e21, e22, e23⟩, e3, e4, e5⟩ := hse
    injection heo with z1 heo z2
    clear e1 e3 e4 e5 z1 z2
    subst heo e0 e21 e22 e23
    clear hsig hsg ho1
    have HCL := Lib.hid (hcl.below hbg hcl.lt)
    have HAB2 := Lib.hid (hab2.below hbg (Nat.le_refl _))
    have HSO : Hid (SupO (w1.alloc (Obj.cells #[.map (some bm), .slice a1 cs.length k1, .slice a2 cs.length k2, .slice none 0 0, .map none, .map none] 63)) W0.heap.size (.slice a1 cs.length k1) sp cs.length) := by
      obtain ⟨rs', h1, h2⟩ := hso
      exact ⟨rs', ownsRow_below h1 hbg (Nat.le_refl _), fun i hi => ⟨(h2 i hi).1, ownsRow_below (h2 i hi).2 hbg (Nat.le_refl _)⟩⟩
    have H300 : Hid (cs.length ≤ 300) := by unfold Hid; simpa using s0
    have HB0 := Lib.hid hb0
    have HTY := Lib.hid (addTypes_any w1.heap.size (.map (some bm)) (.slice a1 cs.length k1) (.slice a2 cs.length k2) (.slice da ds.length dcap) ds w _ hBg (by omega) (by omega) hrg2 HD.out)
    clear hso hcl hab2 hbu hb0
    have H0 := Lib.hid h0
    rw [h0]
    clear h0
    have x2 : (w1.alloc (Obj.cells #[.map (some bm), .slice a1 cs.length k1, .slice a2 cs.length k2, .slice none 0 0, .map none, .map none] 63)).cell? ⟨w.heap.size, 2, none⟩ = some (.slice da ds.length dcap) := (cells7' hrx2).2.2.1
    have HRX2 := Lib.hid hrx2
    have HRZ2 := Lib.hid hrz2
    have HRG2 := Lib.hid hrg2
    clear hrx2 hrz2 hrg2
    by_cases hty : typesErr ds = 0
    · have HT0 := Lib.hid hty
      rw [hty] at HTY
      clear hty
      go_wp2_with fail
      refine HTY.out.mono ?_
      rintro e w2 ⟨rfl, hG2, hok2⟩
      obtain ⟨mb, tv, hrow2, hmbge, hmv, hstv⟩ := hok2 trivial
      have HSTV := Lib.hid hstv
      obtain ⟨_, a3, k3, rfl, _⟩ := hstv
      have hz2 := hG2.size
      have hrz3 := (hG2.block (w.heap.size + 1) (by omega) (by omega)).trans HRZ2.out
      have hrx3 := (hG2.block w.heap.size (by omega) (by omega)).trans HRX2.out
      have hB2 : Below w.heap.size w w2 := hBg.trans (hG2.below (by omega) (by omega))
      have hcl2 := HCL.out.butG hG2 HRG2.out
      have hab3 := HAB2.out.butG hG2 HRG2.out
      have HSO2 := Lib.hid (HSO.out.butG hG2 HRG2.out)
      have hgw2 : w1.heap.size < w2.heap.size := by omega
      have HAR := Lib.hid (addArities_any w1.heap.size bm mb (.slice a1 cs.length k1) (.slice a3 ds.length k3) (.slice aa rs.length acap) a2 k2 cs ab0 ds rs w w2 hB2 (by omega) hgw2 (by rw [List.length_map]; exact hrow2)
        ⟨by rw [List.length_map]; exact H300.out, bm, _, a2, k2, _, _, _, rfl, hcl2, hab3⟩ hmv (types_num HT0.out) HA.out)
      have x3 : w2.cell? ⟨w.heap.size, 3, none⟩ = some (.slice aa rs.length acap) := (cells7' hrx3).2.2.2.1
      have HRX3 := Lib.hid hrx3
      have HRZ3 := Lib.hid hrz3
      have HRG3 := Lib.hid hrow2
      clear hok2 hrow2 hmv hcl2 hab3 hrx3 hrz3 x2 HTY HSO HCL HAB2 HRX2 HRZ2 HRG2
      by_cases har : arsErr cs ab0 ds rs = 0
      · have HR0 := Lib.hid har
        unfold ArsPost at HAR
        rw [har] at HAR
        clear har
        go_wp2_with fail
        refine HAR.out.mono ?_
        rintro e w3 ⟨rfl, hG3, hok3⟩
        obtain ⟨am, vs, hamge, hGA, hvs⟩ := hok3 trivial
        have hz3 := hG3.size
        have hB3 : Below w.heap.size w w3 := hB2.trans (hG3.below (by omega) (by omega))
        have hrz4 := (hG3.block (w.heap.size + 1) (by omega) (by omega)).trans HRZ3.out
        have hrx4 := (hG3.block w.heap.size (by omega) (by omega)).trans HRX3.out
        have hrs : rs.length ≤ 300 := by
          have h := HR0.out
          unfold arsErr at h
          by_cases h3 : 300 < rs.length
          · rw [if_pos h3] at h; exact absurd h (by decide)
          · omega
        have HCO := Lib.hid (HCP.out w1.heap.size bm mb am W0.heap.size (.slice a3 ds.length k3) (.slice aa rs.length acap) a1 a2 k1 k2 cs sp ab0 ds rs vs w3 HB0.out H300.out hrs HT0.out HR0.out hGA (HSO2.out.butG hG3 HRG3.out) (HA.out.below hB3 (Nat.le_refl _)) (fun j hj => (hvs j hj).ss))
        have HVS := Lib.hid hvs
        have HST3 := Lib.hid (SlT.butG hG3 HRG3.out HSTV.out)
        have x4 : w3.cell? ⟨w.heap.size, 3, none⟩ = some (.slice aa rs.length acap) := (cells7' hrx4).2.2.2.1
        have HGA := Lib.hid hGA
        have HRZ4 := Lib.hid hrz4
        clear hok3 hvs x3 HAR hrz4 hrx4 hGA HSO2 HRX3 HRZ3 HRG3
        by_cases hre : regAll cs ab0 rs = true
        · have HER : Hid (chkErr cs ab0 ds rs = 0) := by unfold Hid; rw [chk_eq, if_pos H0.out, if_pos HT0.out, if_pos HR0.out, if_pos hre]
          rw [if_pos hre] at HCO
          clear hre
          go_wp2_with fail
          refine HCO.out.mono ?_
          rintro e w4 ⟨rfl, hb4⟩
          have hz4 := hb4.size
          have hB4 : Below w.heap.size w w4 := hB3.trans (hb4.mono (by omega))
          have hrz5 := (hb4.block (w.heap.size + 1) (by omega)).trans HRZ4.out
          have hrg5 := (hb4.block w1.heap.size (by omega)).trans HGA.out.row
          rw [List.length_map] at hrg5
          obtain ⟨⟨q0, q1, q2, q3, q4, q5⟩, f0, f1, f2, f3, f4, f5⟩ := six hrz5
          obtain ⟨p0, p1, p2, p3, p4, p5⟩ := cells6 hrg5
          clear x4 HCO hrg5
          go_wp2_with fail
          refine bodyPost_ret (results_row_tmp rfl _ _ (w.heap.size + 1) 63 #[.map (some bm), .slice a1 cs.length k1, .slice a2 cs.length k2, .slice a3 ds.length k3, .map (some mb), .map (some am)] (0, 0) _ rfl (row6 hrz5) Tryz.underlying63 rfl (by kernel_rfl)) rfl ?_
          refine ⟨some bm, a1, cs.length, k1, a2, cs.length, k2, a3, ds.length, k3, some mb, some am, by rw [HER.out]; rfl, below6 hB4 (by omega), fun _ => ?_⟩
          obtain ⟨s0', bm'', c1'', ga'', capa'', c3'', c4'', c5'', hse', hcl', hab'⟩ := HGA.out.sig
          refine ⟨⟨by rw [List.length_map]; exact H300.out, bm, _, a2, k2, _, _, _, by rw [List.length_map], ((HGA.out.cls.below hb4 HGA.out.cls.lt).butG but6 hrz5), ?_⟩, ⟨mb, am, vs, rfl, rfl, (HGA.out.num.below hb4 HGA.out.num.lt).butG but6 hrz5, (HGA.out.ars.below hb4 HGA.out.ars.lt).butG but6 hrz5, fun j hj => (SlSsO.butG but6 ((HVS.out j hj).below hb4) (by omega)).ss⟩, _, _, _, _, _, _, rfl, SlT.butG but6 hrz5 (HST3.out.below hb4 (Nat.le_refl _))⟩
          have e2 : a2 = ga'' := by
            injection hse' with hse'
            simp at hse'
            exact hse'.2.2.1.1
          rw [e2]
          exact (hab'.below hb4 (Nat.le_refl _)).butG but6 hrz5
        · have HER : Hid (chkErr cs ab0 ds rs = 31) := by unfold Hid; rw [chk_eq, if_pos H0.out, if_pos HT0.out, if_pos HR0.out, if_neg hre]
          rw [if_neg hre] at HCO
          clear hre
          go_wp2_with fail
          refine HCO.out.mono ?_
          rintro e w4 ⟨rfl, hb4⟩
          have hz4 := hb4.size
          have hB4 : Below w.heap.size w w4 := hB3.trans (hb4.mono (by omega))
          have hrz5 := (hb4.block (w.heap.size + 1) (by omega)).trans HRZ4.out
          obtain ⟨⟨q0, q1, q2, q3, q4, q5⟩, f0, f1, f2, f3, f4, f5⟩ := six hrz5
          clear x4 HCO
          go_wp2_with fail
          refine bodyPost_ret (results_row_tmp rfl _ _ (w.heap.size + 1) 63 #[.map none, .slice none 0 0, .slice none 0 0, .slice none 0 0, .map none, .map none] (0, 0) _ rfl (row6 hrz5) Tryz.underlying63 rfl (by kernel_rfl)) rfl ?_
          exact sgFail HER.out (by decide) (below6 hB4 (by omega))
      · have hd1 : decide (arsErr cs ab0 ds rs = 0) = false := by simpa using har
        have hne1 : (arsErr cs ab0 ds rs != 0) = true := by simpa using har
        have HER : Hid (chkErr cs ab0 ds rs = arsErr cs ab0 ds rs) := by unfold Hid; rw [chk_eq, if_pos H0.out, if_pos HT0.out, if_neg har]
        have HR0 := Lib.hid har
        unfold ArsPost at HAR
        clear har
        generalize arsErr cs ab0 ds rs = te at *
        go_wp2_with fail
        refine HAR.out.mono ?_
        rintro e w3 ⟨rfl, hG3, _⟩
        have hrz4 := (hG3.block (w.heap.size + 1) (by omega) (by omega)).trans HRZ3.out
        have hB3 : Below w.heap.size w w3 := hB2.trans (hG3.below (by omega) (by omega))
        obtain ⟨⟨q0, q1, q2, q3, q4, q5⟩, f0, f1, f2, f3, f4, f5⟩ := six hrz4
        clear x3
        go_wp2_with fail
        refine bodyPost_ret (results_row_tmp rfl _ _ (w.heap.size + 1) 63 #[.map none, .slice none 0 0, .slice none 0 0, .slice none 0 0, .map none, .map none] (0, 0) _ rfl (row6 hrz4) Tryz.underlying63 rfl (by kernel_rfl)) rfl ?_
        exact sgFail HER.out HR0.out (below6 hB3 (by omega))
    · have hd1 : decide (typesErr ds = 0) = false := by simpa using hty
      have hne1 : (typesErr ds != 0) = true := by simpa using hty
      have HER : Hid (chkErr cs ab0 ds rs = typesErr ds) := by unfold Hid; rw [chk_eq, if_pos H0.out, if_neg hty]
      have HT0 := Lib.hid hty
      clear hty
      generalize typesErr ds = te at *
      go_wp2_with fail
      refine HTY.out.mono ?_
      rintro e w2 ⟨rfl, hG2, _⟩
      have hrz3 := (hG2.block (w.heap.size + 1) (by omega) (by omega)).trans HRZ2.out
      have hB2 : Below w.heap.size w w2 := hBg.trans (hG2.below (by omega) (by omega))
      obtain ⟨⟨q0, q1, q2, q3, q4, q5⟩, f0, f1, f2, f3, f4, f5⟩ := six hrz3
      clear x2
      go_wp2_with fail
      refine bodyPost_ret (results_row_tmp rfl _ _ (w.heap.size + 1) 63 #[.map none, .slice none 0 0, .slice none 0 0, .slice none 0 0, .map none, .map none] (0, 0) _ rfl (row6 hrz3) Tryz.underlying63 rfl (by kernel_rfl)) rfl ?_
      exact sgFail HER.out HT0.out (below6 hB2 (by omega))
  · have hd0 : decide (clsErr cs = 0) = false := by simpa using h0
    have hne : (clsErr cs != 0) = true := by simpa using h0
    have HER : Hid (chkErr cs ab0 ds rs = clsErr cs) := by unfold Hid; rw [chk_eq, if_neg h0]
    have H0 := Lib.hid h0
    generalize clsErr cs = ce at *
    obtain ⟨⟨q0, q1, q2, q3, q4, q5⟩, f0, f1, f2, f3, f4, f5⟩ := six hrz2
    clear hsig hrx2 hrg2 h0
    go_wp2_with fail
    refine bodyPost_ret (results_row_tmp rfl _ _ (w.heap.size + 1) 63 #[.map none, .slice none 0 0, .slice none 0 0, .slice none 0 0, .map none, .map none] (0, 0) _ rfl (row6 hrz2) Tryz.underlying63 rfl (by kernel_rfl)) rfl ?_
    exact sgFail HER.out H0.out (below6 hBg (by omega))
end Go.Proofs.YtehnikgdjnmfcaaGreat

/- Check, by what complete does. -/
namespace Go.Proofs.YtehnikgdjnmfcaaGreat
open Go.RowKit Go.WideMaps Go.Shelf
attribute [local go_sem] Oper.semAt_some

end Go.Proofs.YtehnikgdjnmfcaaGreat

/- The closure of upward 85 at a body that may stop it. -/
namespace Go.Proofs.YtehnikgdjnmfcaaGreat
open Go.RowKit Go.WideMaps Go.Shelf
attribute [local go_sem] Oper.semAt_some
set_option maxRecDepth 100000 in
theorem up_body2 (No l c cb gbx gb m : Nat) (sup : Nat → List Nat) (J Jx : List Nat → World → Prop) (W : World) (hcb : cb < W.heap.size) (hgx : gbx < W.heap.size) (hc300 : c < 300) (hcm : c < m) (hNo : No < W.heap.size)
    (hc : W.cell? ⟨cb, 0, none⟩ = some (.int .i64 (c : Int))) (hgb : W.cell? ⟨gbx, 0, none⟩ = some (.pointer (some ⟨gb, 0, none⟩))) (hgxn : gbx ≠ No)
    (hsup : SupAt W No gb sup m) (hlt : ∀ i, i ≤ c → ∀ s ∈ sup i, s < i)
    (hJ : ∀ s A B, J s A → Below W.heap.size A B → J s B)
    (hY : ∀ pre x W1, x ≤ c → J pre W1 → YieldAt Fence.wide 4 Tryz.prog l #[.int .i64 ((x : Nat) : Int)] W1 fun e W' => (e = .returned (.bool true) ∧ J (pre ++ [x]) W' ∧ KeepC No W1 W') ∨ (e = .returned (.bool false) ∧ Jx (pre ++ [x]) W'))
    (h0 : J [] W) :
    CallsIn Fence.wide 5 Tryz.prog 74 #[.func (.yield l) #[] #[], .pointer (some ⟨cb, 0, none⟩), .pointer (some ⟨gbx, 0, none⟩)] W fun e W' => (∃ v, e = .returned v) ∧ ((∃ xs : List Nat, (∀ x, x ∈ xs ↔ Reach sup c x) ∧ J xs W') ∨ ∃ pre : List Nat, (∀ x ∈ pre, Reach sup c x) ∧ Jx pre W') := by
  have HJ := Lib.hid hJ
  have HY := Lib.hid hY
  have HS := Lib.hid hsup
  have HL := Lib.hid hlt
  have H0 := Lib.hid h0
  have HG := Lib.hid hgb
  clear hJ hY hsup hlt h0 hgb
  refine callsIn_of_wp Tryz.func74 rfl trivial ?_ rfl
  simp only [Tryz.ntmps74, List.size_toArray, List.length_cons, List.length_nil, Nat.reduceAdd, Nat.reduceSub, Array.replicate_succ, Array.replicate_zero, List.push_toArray, List.append_toArray, List.nil_append, List.cons_append]
  gi_wp2_with fail
  refine ⟨trivial, (callsIn_wide.2 (add_words W.heap.size 0 c [] _ (by omega) (words_zero W))).mono ?_⟩
  rintro e w1 ⟨rfl, hg1, hw1⟩
  have hz1 : W.heap.size + 1 ≤ w1.heap.size := by have := hg1.size; simpa using this
  have hb1 : Below W.heap.size W w1 := (below_alloc W _).grown hg1 (by simp) (fun k e => by cases e; exact Nat.le_refl _)
  have hc1 : w1.cell? ⟨cb, 0, none⟩ = some (.int .i64 (c : Int)) := (hb1.cell (p := ⟨cb, 0, none⟩) hcb).trans hc
  have HW1 := Lib.hid hw1
  clear hw1 hg1 hc
  gi_wp2_with fail
  gi_loopg [5] (c + 2) (fun n v wr => ∃ pre wk seen : List Nat, wr.ownsRow (W.heap.size + 1) 3 1 v wk.length (ints wk) ∧ Hid (WordsAt wr W.heap.size 0 (wordsOf seen)) ∧ Hid (J pre wr) ∧ KeepO W.heap.size No W wr ∧ W.heap.size + 1 ≤ wr.heap.size ∧ UpInv sup c pre wk seen ∧ n = (c + 1 - seen.length) + wk.length + 1)
  case atStart =>
    refine ⟨[], [c], [c], ?_, ?_, ?_, ?_, by simp; omega, UpInv.start sup c, by simp⟩
    · refine ⟨rfl, .inr ⟨w1.heap.size, 1, #[.int .i64 (c : Int)], rfl, hz1, ?_, by simp, by unfold maxLen; omega, by simp, by simp [ints]⟩⟩
      exact World.alloc_heap_new _ _
    · exact HW1.out.grown (World.grownBy_alloc _ _ none) (by omega) (by simp)
    · exact HJ.out _ _ _ H0.out (hb1.trans ((below_alloc w1 _).mono (by omega)))
    · exact KeepO.of_below (hb1.trans ((below_alloc w1 _).mono (by omega)))
  case round =>
    obtain ⟨pre, wk, seen, hown, hW, hJs, hK, hz, hU, rfl⟩ := hrel
    rcases List.eq_nil_or_concat wk with rfl | ⟨wk', k, rfl⟩
    · have hfin : ∃ xs : List Nat, (∀ x, x ∈ xs ↔ Reach sup c x) ∧ J xs wr := ⟨pre, hU.done, hJs.out⟩
      have HF := Lib.hid hfin
      obtain ⟨_, (⟨rfl, _⟩ | ⟨g, cap, cur, rfl, _⟩)⟩ := hown
      · clear hfin hU hJs hW hK
        gi_wp2_with fail
        go_end0
        exact ⟨⟨_, rfl⟩, .inl HF.out⟩
      · clear hfin hU hJs hW hK
        gi_wp2_with fail
        go_end0
        exact ⟨⟨_, rfl⟩, .inl HF.out⟩
    · rw [List.concat_eq_append] at hown hU
      have hlen := hU.len
      have hkle : k ≤ c := hU.le k (hU.perm.subset (by simp))
      have hR0 := hU.pop
      have HRE : Hid (∀ x ∈ pre ++ [k], Reach sup c x) := by
        intro x hx
        refine hU.reach x (hU.perm.subset ?_)
        simp only [List.mem_append, List.mem_singleton] at hx ⊢
        rcases hx with hx | hx
        · exact .inr hx
        · exact .inl (.inr hx)
      have hown0 := hown
      obtain ⟨hxl, (⟨_, h0⟩ | ⟨g, cap, cur, rfl, hg, hh, hn, hcap, hsz, htake⟩)⟩ := hown
      · simp at h0
      · have hck : wr.cell? ⟨g, wk'.length, none⟩ = some (.int .i64 (k : Int)) := by
          have := cell_of_row wr g wk'.length cur 3 (0, 0) hh
          rw [this]
          have h1 : (cur.toList.take ((wk' ++ [k]).length * 1))[wk'.length]? = some (.int .i64 (k : Int)) := by
            rw [htake]; simp [ints]
          rw [List.getElem?_take] at h1
          simpa using h1
        have hpop : wr.ownsRow (W.heap.size + 1) 3 1 (.slice (some ⟨g, 0, none⟩) wk'.length cap) wk'.length (ints wk') := by
          have e : ints (wk' ++ [k]) = ints wk' ++ [.int .i64 (k : Int)] := by simp [ints]
          rw [e] at hown0
          exact ownsRow_pop (by simp [ints]) (by simpa using hown0)
        obtain ⟨fn, tmps, assign, body, hy, hR⟩ := HY.out pre k wr hkle hJs.out
        have hlw : wk'.length + 1 ≤ cap := by simpa using hn
        have HPOP := Lib.hid hpop
        have HLEN := Lib.hid hlen
        have HRI := Lib.hid hR0
        have hmax : cap ≤ 9223372036854775807 := by unfold maxLen at hcap; exact hcap
        simp only [List.length_append, List.length_singleton]
        clear hown0 hpop htake hh hsz hxl hn hcap hlen hU hR0
        gi_wp2_with fail
        refine hR.mono ?_
        clear hR hy HY
        rintro e w3 h3
        rcases h3.symm with ⟨rfl, hx3⟩ | ⟨rfl, hj3, hk3⟩
        · have HX3 := Lib.hid hx3
          clear hx3 hW hJs hK hck HPOP
          gi_wp2_with fail
          refine bodyPost_ret (results_none rfl _ _ _) rfl ?_
          exact ⟨⟨_, rfl⟩, .inr ⟨pre ++ [k], HRE.out, HX3.out⟩⟩
        have hK3 : KeepO W.heap.size No W w3 := hK.trans (hk3.old _)
        have hgb3 := hK3.cell _ _ hgx hgxn HG.out
        obtain ⟨hgn, hgl, sb, so, capS, hcS0, hsn, hsl, hrows⟩ := HS.out
        obtain ⟨hl20, ra, rcap, hcr0, hrr⟩ := hrows k (by omega)
        have hcS := hK3.cell _ _ hgl hgn hcS0
        have hcr := hK3.cell _ _ hsl hsn hcr0
        have HRR := Lib.hid hrr
        have HJ3 := Lib.hid hj3
        have HW3 : Hid (WordsAt w3 W.heap.size 0 (wordsOf seen)) := hW.out.keepC hk3 (by omega)
        have HO3 : Hid (w3.ownsRow (W.heap.size + 1) 3 1 (.slice (some ⟨g, 0, none⟩) wk'.length cap) wk'.length (ints wk')) := ownsRow_keepC HPOP.out hk3 (by omega)
        have hz3 : W.heap.size + 1 ≤ w3.heap.size := by have := hk3.size; omega
        clear hrows hrr hj3 hk3 hW hJs hK hck HPOP hcS0 hcr0
        gi_wp2_with fail
        gi_loopw [5, 39] (fun v i wr2 => ∃ (j : Nat) (wk2 seen2 : List Nat), i = .int .i64 j ∧ j ≤ (sup k).length ∧ wr2.ownsRow (W.heap.size + 1) 3 1 v wk2.length (ints wk2) ∧ Hid (WordsAt wr2 W.heap.size 0 (wordsOf seen2)) ∧ Hid (J (pre ++ [k]) wr2) ∧ W.heap.size + 1 ≤ wr2.heap.size ∧ KeepO W.heap.size No W wr2 ∧ Hid (RowInv sup c pre k j wk2 seen2)) (fun _ i _ => (sup k).length - (intOf i).toNat)
        case atStart => exact ⟨0, wk', seen, rfl, by omega, HO3.out, HW3, HJ3, hz3, hK3, HRI⟩
        case round =>
          obtain ⟨j, wk2, seen2, rfl, hj, hown2, hW2, hJ2, hz2, hKK, hRI⟩ := hrel
          have hlen2 := hRI.out.len
          
          by_cases hlt : j < (sup k).length
          · obtain ⟨rb, ro, rfl, hrn, hrl, hrc⟩ := HRR.out (by omega)
            have hcj := hKK.cell _ _ hrl hrn (hrc j hlt)
            have hsle : (sup k).getD j 0 < k := HL.out k hkle _ (getD_mem (sup k) 0 j hlt)
            by_cases hin : (sup k).getD j 0 ∈ seen2
            · have hRI2 := Lib.hid (hRI.out.skip hlt hin)
              have hC := Lib.hid (has_words W.heap.size 0 ((sup k).getD j 0) seen2 wr (by omega) hW2.out)
              have hd : decide ((sup k).getD j 0 ∈ seen2) = true := by simpa using hin
              rw [hd] at hC
              clear hRI hin hd hrc HRR
              generalize (sup k).getD j 0 = x at *
              gi_wp2_with (refine ⟨trivial, ?_⟩; gi_at_call 75; refine (callsIn_wide.2 hC.out).mono ?_; rintro e w' ⟨rfl, rfl⟩)
              go_roundw
              case rel => exact ⟨j + 1, wk2, seen2, by go_num, by omega, hown2, hW2, hJ2, hz2, hKK, hRI2⟩
              case measure => simp [intOf]; omega
            · have hRI2 := Lib.hid (hRI.out.add hlt hin (by omega))
              have hlen3 := hRI2.out.len
              have hC := Lib.hid (has_words W.heap.size 0 ((sup k).getD j 0) seen2 wr (by omega) hW2.out)
              have hA := Lib.hid (add_words W.heap.size 0 ((sup k).getD j 0) seen2 wr (by omega) hW2.out)
              have hd : decide ((sup k).getD j 0 ∈ seen2) = false := by simpa using hin
              rw [hd] at hC
              clear hRI hin hd hrc HRR
              generalize (sup k).getD j 0 = x at *
              simp only [List.length_append, List.length_singleton] at hlen3
              gi_wp2_with (refine ⟨trivial, ?_⟩; gi_at_call 75; refine (callsIn_wide.2 hC.out).mono ?_; rintro e w' ⟨rfl, rfl⟩)
              refine ⟨trivial, (callsIn_wide.2 hA.out).mono ?_⟩
              rintro e w4 ⟨rfl, hg4, hw4⟩
              have hown4 := hown2.kept hg4 (by
                rcases hown2.2 with ⟨e, _⟩ | ⟨g', cap', cur', e, hg', _⟩
                · left; rw [e]; rfl
                · right; rw [e]; simp [Value.ownBlock]; omega)
              have hz4 : W.heap.size + 1 ≤ w4.heap.size := by have := hg4.size; omega
              have HW4 := Lib.hid hw4
              have HJ4 : Hid (J (pre ++ [k]) w4) := HJ.out _ _ _ hJ2.out ((Below.refl _ wr).grown hg4 (by omega) (fun k e => by cases e; exact Nat.le_refl _))
              have HK4 : KeepO W.heap.size No W w4 := hKK.trans (KeepO.of_grown hg4 (fun r e => by cases e; right; exact Nat.le_refl _))
              clear hC hA hW2 hJ2 hg4 hw4 hKK
              obtain ⟨i0, hi, hq0, hq1, hq2⟩ := info_parts Tryz.info3
              gi_wp2_with (gi_at_builtin; refine wpListIn_append_own _ rfl _ _ 133 rfl (W.heap.size + 1) 3 i0 (.int .i64 0) 1 8 Tryz.underlying133 hi hq0 hq1 hq2 rfl (by decide) _ _ _ rfl (hown4.alloc _) ⟨w4.heap.size, 0, none⟩ 1 1 [.int .i64 (x : Int)] rfl rfl (cell_one_new _ _ _) (by simp [Value.oneCell']) (by unfold maxLen; omega) (by omega) (by simp; omega) ?_; intro v' w5 hown5 hgrow5 _)
              have hob : ∀ r, u5.ownBlock = some r → W.heap.size + 1 ≤ r := by
                intro r e
                rcases hown2.2 with ⟨e', _⟩ | ⟨g', cap', cur', e', hg', _⟩
                · rw [e'] at e; cases e
                · rw [e'] at e; simp [Value.ownBlock] at e; omega
              have hg45 : w4.grownBy w5 u5.ownBlock := (World.grownBy_alloc w4 _ _).trans hgrow5
              have HW5 : Hid (WordsAt w5 W.heap.size 0 (wordsOf (seen2 ++ [x]))) := HW4.out.grown hg45 (by omega) (fun e => by have := hob _ e.symm; omega)
              have HJ5 : Hid (J (pre ++ [k]) w5) := HJ.out _ _ _ HJ4.out ((Below.refl _ w4).grown hg45 (by omega) (fun r e => by have := hob _ e; omega))
              have HK5 : KeepO W.heap.size No W w5 := HK4.trans (KeepO.of_grown hg45 (fun r e => by right; have := hob _ e; omega))
              have hz5 : W.heap.size + 1 ≤ w5.heap.size := by have := hg45.size; omega
              have e : ints (wk2 ++ [x]) = ints wk2 ++ [.int .i64 (x : Int)] := by simp [ints]
              refine ⟨⟨j + 1, wk2 ++ [x], seen2 ++ [x], by go_num, by omega, ?_, HW5, HJ5, hz5, HK5, hRI2⟩, by simp [intOf]; omega⟩
              rw [e]; simpa using hown5
          · have hjk : j = (sup k).length := by omega
            subst hjk
            have hU := hRI.out.close
            have HU := Lib.hid hU
            clear hRI HRR hU
            gi_wp2_with fail
            go_roundg ((c + 1 - seen2.length) + wk2.length + 1)
            case rel => exact ⟨pre ++ [k], wk2, seen2, hown2, hW2, hJ2, hKK, hz2, HU.out, rfl⟩
            case measure =>
              have h1 := HLEN.out
              simp at h1 ⊢
              omega
end Go.Proofs.YtehnikgdjnmfcaaGreat

/- A range over a function whose iterator has cells of its own and whose body may return. -/
namespace Go.Proofs.YtehnikgdjnmfcaaGreat
open Go Go.RowKit

/-- SeqB, at a body that may stop it -/
def SeqC {α : Type} (F : Fence) (n : Nat) (P : Program) (g : Nat) (lb : Array Value) (encs : α → Array Value) (Kp : World → World → Prop) (Ok : α → Prop) (S Sp : List α → Prop) (W : World) : Prop :=
  ∀ (l : Nat) (J Jx : List α → World → Prop), (∀ s A B, J s A → Below W.heap.size A B → J s B) →
    (∀ pre x W1, Ok x → J pre W1 → YieldAt F (n - 1) P l (encs x) W1 fun e W' => (e = .returned (.bool true) ∧ J (pre ++ [x]) W' ∧ Kp W1 W') ∨ (e = .returned (.bool false) ∧ Jx (pre ++ [x]) W')) →
    J [] W → CallsIn F n P g (#[.func (.yield l) #[] #[]] ++ lb) W fun e W' => (∃ v, e = .returned v) ∧ ((∃ xs, S xs ∧ J xs W') ∨ ∃ pre, Sp pre ∧ Jx pre W')

def postC {α : Type} (B : Nat) (Kp : World → World → Prop) (I Ix : List α → World → Prop) (xs : List α) (W : World) : Exit → Act → World → Prop
  | .normal, _, W' => KeepsFrom B W W' ∧ Kp W W' ∧ I xs W'
  | .ret, _, W' => KeepsFrom B W W' ∧ Ix xs W'
  | _, _, _ => False

theorem up_seq2 (No c cb gbx gb m : Nat) (sup : Nat → List Nat) (W : World) (hcb : cb < W.heap.size) (hgx : gbx < W.heap.size) (hc300 : c < 300) (hcm : c < m) (hNo : No < W.heap.size)
    (hc : W.cell? ⟨cb, 0, none⟩ = some (.int .i64 (c : Int))) (hgb : W.cell? ⟨gbx, 0, none⟩ = some (.pointer (some ⟨gb, 0, none⟩))) (hgxn : gbx ≠ No)
    (hsup : SupAt W No gb sup m) (hlt : ∀ i, i ≤ c → ∀ s ∈ sup i, s < i) :
    SeqC Fence.wide 5 Tryz.prog 74 #[.pointer (some ⟨cb, 0, none⟩), .pointer (some ⟨gbx, 0, none⟩)] (fun x : Nat => #[.int .i64 (x : Int)]) (KeepC No) (fun x => x ≤ c) (fun xs => ∀ x, x ∈ xs ↔ Reach sup c x) (fun xs => ∀ x ∈ xs, Reach sup c x) W :=
  fun l J Jx hJ hY h0 => up_body2 No l c cb gbx gb m sup J Jx W hcb hgx hc300 hcm hNo hc hgb hgxn hsup hlt hJ hY h0

variable {F : Fence} {n : Nat} {P : Program}

theorem wpIn_rangeFunc_C {α : Type} {g : Operand} {ps : Array Tmp} {assign body : Code} {Q : Exit → Act → World → Prop} {a : Act} {w : World}
    (hro : F.round = none) (h1 : 1 ≤ n) {gf : Nat} {lb : Array Value} (hg : a.eval g = .func (.func gf) #[] lb) (hFg : F.fn gf) (eg : ∀ args w, (callFunc gf args).run P w = .ok (.enter gf args) w)
    {encs : α → Array Value} {Kp : World → World → Prop} {Ok : α → Prop} {S Sp : List α → Prop} (hseq : ∀ W, Below w.heap.size w W → SeqC F (n - 1) P gf lb encs Kp Ok S Sp W)
    (hKt : ∀ {A B C : World}, Kp A B → Kp B C → Kp A C) (hKb : ∀ (W : World) (l : Nat) (o o' : Obj), w.heap.size ≤ l → W.heap[l]? = some o → o.isCells = false → Kp W (W.putObj l o')) (hps : ∀ x, (encs x).size = ps.size)
    (I Ix : List α → World → Prop) (hIx : ∀ s A B, Ix s A → Below w.heap.size A B → Ix s B) (hI : ∀ s A B, I s A → Below w.heap.size A B → I s B) (h0 : I [] w) (a₁ : α → Act)
    (hassign : ∀ (l : Nat) (x : α) (W : World) (K : Act → World → Prop), K (a₁ x) W →
      assign.wpIn (F.inRound l) (n - 1 - 1) P (Exit.then K (fun _ _ _ => False)) { tmps := (ps.zip (encs x)).foldl (fun t (p, v) => t.setIfInBounds p v) a.tmps, defers := [] } W)
    (hbody : ∀ (l : Nat) (pre : List α) (x : α) (W : World), Ok x → I pre W → body.wpIn (F.inRound l) (n - 1 - 1) P (postC w.heap.size Kp I Ix (pre ++ [x]) W) (a₁ x) W)
    (hdone : ∀ (D : Nat) (xs : List α) (W : World), w.heap.size ≤ D → S xs → I xs W → W.heap[D]? = some (.deferred (some [])) → Q .normal { a with defers := { target := .collected D, args := #[] } :: a.defers } W)
    (hstop : ∀ (D : Nat) (pre : List α) (W : World), w.heap.size ≤ D → Sp pre → Ix pre W → W.heap[D]? = some (.deferred (some [])) → Code.ret.wpIn F n P Q { a with defers := { target := .collected D, args := #[] } :: a.defers } W) :
    (Code.rangeFunc g ps assign body).wpIn F n P Q a w := by
  refine wpIn_rangeFunc ?_
  intro fn hfn
  rw [hro]
  obtain ⟨rec, hrec⟩ : ∃ rec : LoopState → Option Code → Loop, rec = fun st pe => { state := st, pending := pe, fn, tmps := a.tmps, params := ps, assign, body, defers := w.heap.size } := ⟨_, rfl⟩
  obtain ⟨W1, hW1⟩ : ∃ W1, (w.alloc (.deferred (some []))).alloc (.loop (rec .ready none)) = W1 := ⟨_, rfl⟩
  have hb1 : Below w.heap.size w W1 := by
    rw [← hW1]; exact ((Below.refl _ w).alloc (Nat.le_refl _) _).alloc (by simp) _
  have hsz : W1.heap.size = w.heap.size + 2 := by rw [← hW1]; simp
  have hL1 : W1.heap[w.heap.size + 1]? = some (.loop (rec .ready none)) := by
    rw [← hW1]; have := World.alloc_heap_new (w.alloc (.deferred (some []))) (.loop (rec .ready none)); rwa [World.size_alloc] at this
  have hK1 : W1.heap[w.heap.size]? = some (.deferred (some [])) := by
    rw [← hW1]; exact (Below.heap_alloc _ _ _ (by simp)).trans (World.alloc_heap_new w _)
  refine ⟨w.heap.size + 1, [{ target := .collected w.heap.size, args := #[] }], W1, { target := .fn (.func gf) lb, args := #[.func (.yield (w.heap.size + 1)) #[] #[]] }, W1, gf,
    #[.func (.yield (w.heap.size + 1)) #[] #[]] ++ lb, W1, ?_, ?_, ?_, ?_, fun _ => h1, ?_⟩
  · rw [← hW1, hrec]; exact run_enterLoop_outer _ _ _ _ _
  · simp only [resolve, hg]
    simp [go_sem]
  · intro f' hf'; simp [Target.leads] at hf'; subst hf'; exact hFg
  · simp [invoke, go_sem, eg]
  · refine (hseq W1 hb1 (w.heap.size + 1)
      (fun pre W => I pre W ∧ W.heap[w.heap.size + 1]? = some (.loop (rec .ready none)) ∧ W.heap[w.heap.size]? = some (.deferred (some [])))
      (fun pre W => Ix pre W ∧ W.heap[w.heap.size + 1]? = some (.loop (rec .done (some .ret))) ∧ W.heap[w.heap.size]? = some (.deferred (some [])))
      (fun s A B hs hb => ⟨hI s A B hs.1 (hb.mono (by omega)), (hb.block _ (by omega)).trans hs.2.1, (hb.block _ (by omega)).trans hs.2.2⟩)
      ?_ ⟨hI _ _ _ h0 hb1, hL1, hK1⟩).mono ?_
    · rintro pre x W hox ⟨hi, hl, hk⟩
      have hlt : w.heap.size + 1 < W.heap.size := (Array.getElem?_eq_some_iff.1 hl).1
      have hy := run_yield (P := P) (args := encs x) hl (by rw [hrec]; exact hps x)
      rw [hrec] at hy
      refine ⟨fn, _, assign, body, hy, roundIn_of_wpIn hfn (hassign _ x W _ ⟨_, run_beginRound hl (by rw [hrec]), ?_⟩)⟩
      generalize hW2 : W.putObj (w.heap.size + 1) (.loop { rec .ready none with state := .busy }) = W2
      have hl2 : W2.heap[w.heap.size + 1]? = some (.loop { rec .ready none with state := .busy }) := by rw [← hW2]; exact World.putObj_heap_same hlt
      have hk2 : W2.heap[w.heap.size]? = some (.deferred (some [])) := by rw [← hW2]; exact (World.putObj_heap_other (by omega)).trans hk
      have hw2 : Kp W W2 := by rw [← hW2]; exact hKb _ _ _ _ (by omega) hl rfl
      have hi2 : I pre W2 := by rw [← hW2]; exact hI _ _ _ hi (below_put _ _ _ hl (by omega))
      refine wpIn_mono (hbody _ pre x W2 hox hi2) ?_
      rintro e a3 W3 hp
      cases e with
      | normal =>
        obtain ⟨hk3, hkp3, hi3⟩ := hp
        have hl3 := hk3.same _ _ (by omega) hl2 rfl
        have hr := run_endRound (P := P) none hl3
        rw [hrec] at hr
        have hl3' := hl3
        rw [hrec] at hl3'
        refine ⟨_, _, hr, .inl ⟨rfl, ⟨hI _ _ _ hi3 (below_put _ _ _ hl3 (by omega)), ?_, ?_⟩, hKt (hKt hw2 hkp3) (hKb _ _ _ _ (by omega) hl3 rfl)⟩⟩
        · rw [hrec]; exact World.putObj_heap_same (Array.getElem?_eq_some_iff.1 hl3).1
        · exact (World.putObj_heap_other (by omega)).trans (hk3.same _ _ (Nat.le_refl _) hk2 rfl)
      | ret =>
        obtain ⟨hk3, hi3⟩ := hp
        have hl3 := hk3.same _ _ (by omega) hl2 rfl
        have hr := run_endRound (P := P) (some .ret) hl3
        rw [hrec] at hr
        have hl3' := hl3
        rw [hrec] at hl3'
        refine ⟨_, _, hr, .inr ⟨rfl, hIx _ _ _ hi3 (below_put _ _ _ hl3 (by omega)), ?_, ?_⟩⟩
        · rw [hrec]; exact World.putObj_heap_same (Array.getElem?_eq_some_iff.1 hl3).1
        · exact (World.putObj_heap_other (by omega)).trans (hk3.same _ _ (Nat.le_refl _) hk2 rfl)
      | exit id => exact hp.elim
      | goto t => exact hp.elim
      | panic ch => exact hp.elim
      | outgrown => exact hp.elim
    · rintro e W2 ⟨⟨v, rfl⟩, (⟨xs, hS, hi, hl, hk⟩ | ⟨pre, hSp, hi, hl, hk⟩)⟩
      · refine ⟨none, _, by have := run_endLoop (P := P) hl (by rw [hrec]; simp); rw [hrec] at this; exact this, hdone _ xs _ (Nat.le_refl _) hS (hI _ _ _ hi (below_put _ _ _ hl (by omega))) ((World.putObj_heap_other (by omega)).trans hk)⟩
      · exact ⟨some .ret, _, by have := run_endLoop (P := P) hl (by rw [hrec]; simp); rw [hrec] at this; exact this, hstop _ pre _ (Nat.le_refl _) hSp (hIx _ _ _ hi (below_put _ _ _ hl (by omega))) ((World.putObj_heap_other (by omega)).trans hk)⟩

end Go.Proofs.YtehnikgdjnmfcaaGreat

/- The length of the map of the classes. -/
namespace Go.Proofs.YtehnikgdjnmfcaaGreat
open Go.RowKit Go.WideMaps Go.Shelf

theorem nodup_sub_len {α : Type} [DecidableEq α] : ∀ (l m : List α), l.Nodup → (∀ x ∈ l, x ∈ m) → l.length ≤ m.length
  | [], _, _, _ => by simp
  | x :: l, m, hn, hs => by
    obtain ⟨h1, h2⟩ := List.nodup_cons.1 hn
    have hx := hs x (by simp)
    have ih := nodup_sub_len l (m.erase x) h2 (fun y hy => (List.mem_erase_of_ne (show y ≠ x from fun e => h1 (by rw [← e]; exact hy))).2 (hs y (by simp [hy])))
    rw [List.length_erase_of_mem hx] at ih
    have : 0 < m.length := List.length_pos_of_mem hx
    simp; omega

theorem MapAt.len {w : World} {b : Nat} {ns : List Nm} (h : MapAt w b ns) (hn : ns.Nodup) (ty : TypeId) :
    (Builtin.len_ #[58] ty #[.map (some b)]).run Tryz.prog w = .ok (.int .i64 ((ns.length : Nat) : Int)) w := by
  obtain ⟨D, hI, hown, hD⟩ := h
  have h1 := hown.size_le
  obtain ⟨es, rfl⟩ := hI
  have h2 : ns.length ≤ es.length := by
    have hm : ∀ s ∈ ns, s ∈ es.map (fun p => match p.1 with | .string s => s | _ => []) := by
      intro s hs
      have hh := (hD s).1
      have hi : inNs ns s = true := decide_eq_true hs
      rw [hi, Maps.has_eq] at hh
      obtain ⟨p, hp, he⟩ := List.any_eq_true.1 hh
      have e := WideAt.sameKey_eq he
      exact List.mem_map.2 ⟨p, hp, by rw [e]⟩
    have := nodup_sub_len ns _ hn hm
    simpa using this
  have e := hown.len Tryz.underlying58 ty
  rw [Maps.size_eq] at h1 e
  have : es.length = ns.length := by omega
  rw [e, this]
end Go.Proofs.YtehnikgdjnmfcaaGreat
