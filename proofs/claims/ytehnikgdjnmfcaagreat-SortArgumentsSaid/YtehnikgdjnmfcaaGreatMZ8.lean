/- signClasses. -/
import Derived.Test.YtehnikgdjnmfcaaGreatMZ7
import Derived.Laws.ResultCell
import Derived.Laws.Rows
import Derived.Deep.RegionHeld3
namespace Go.Proofs.YtehnikgdjnmfcaaGreat
open Go.RowKit Go.WideMaps Go.Shelf

/-- classes in memory: names and superclasses -/
def ClsAt (w : World) (b off : Nat) (cs : List (Nm × List Nm)) : Prop :=
  ∀ k, k < cs.length → w.cell? ⟨b, off + k * 2, none⟩ = some (.string (bs (cs.getD k ([], [])).1)) ∧ (cs.getD k ([], [])).1.length ≤ maxLen ∧
    ∃ sa cap, w.cell? ⟨b, off + k * 2 + 1, none⟩ = some (.slice sa (cs.getD k ([], [])).2.length cap) ∧ SlS w (.slice sa (cs.getD k ([], [])).2.length cap) (cs.getD k ([], [])).2

/-- a slice of classes in memory -/
def SlC (w : World) (v : Value) (cs : List (Nm × List Nm)) : Prop :=
  cs.length ≤ maxLen ∧ ∃ a cap, v = .slice a cs.length cap ∧ (0 < cs.length → ∃ b off, a = some ⟨b, off, none⟩ ∧ b < w.heap.size ∧ ClsAt w b off cs)

theorem ClsAt.below {w w' : World} {B b off : Nat} {cs : List (Nm × List Nm)} (h : ClsAt w b off cs) (hb : Below B w w') (hB : w.heap.size ≤ B) (hbl : b < B) : ClsAt w' b off cs := by
  intro k hk
  obtain ⟨h1, h2, sa, cap, h3, h4⟩ := h k hk
  exact ⟨(hb.cell (p := ⟨b, _, none⟩) hbl).trans h1, h2, sa, cap, (hb.cell (p := ⟨b, _, none⟩) hbl).trans h3, h4.below hb hB⟩

theorem SlC.below {w w' : World} {B : Nat} {v : Value} {cs : List (Nm × List Nm)} (h : SlC w v cs) (hb : Below B w w') (hB : w.heap.size ≤ B) : SlC w' v cs := by
  obtain ⟨h1, a, cap, h2, h3⟩ := h
  refine ⟨h1, a, cap, h2, fun h => ?_⟩
  obtain ⟨b, off, h4, h5, h6⟩ := h3 h
  exact ⟨b, off, h4, by have := hb.size; omega, h6.below hb hB (by omega)⟩

/-- what is built of classes one by one: the indices of their superclasses, and all above them -/
inductive Built : List (Nm × List Nm) → List (List Nat) → List (List Nat) → Prop
  | nil : Built [] [] []
  | snoc {cs : List (Nm × List Nm)} {sp ab : List (List Nat)} {nm : Nm} {sups : List Nm} {ys : List Nat} : Built cs sp ab → classErr (cs.map Prod.fst) nm sups = 0 →
      (∀ x, x ∈ ys ↔ Reach (fun i => (sp ++ [sups.map (ixOf (cs.map Prod.fst))]).getD i []) cs.length x) →
      Built (cs ++ [(nm, sups)]) (sp ++ [sups.map (ixOf (cs.map Prod.fst))]) (ab ++ [ys])

theorem Built.len {cs : List (Nm × List Nm)} {sp ab : List (List Nat)} (h : Built cs sp ab) : sp.length = cs.length ∧ ab.length = cs.length := by
  induction h with
  | nil => exact ⟨rfl, rfl⟩
  | snoc _ _ _ ih => simp [ih.1, ih.2]

theorem classErr_zero {ns : List Nm} {nm : Nm} {sups : List Nm} (h : classErr ns nm sups = 0) : isNameB (bs nm) = true ∧ inNs ns nm = false ∧ sups.length ≤ 20 ∧ supErr ns sups = 0 := by
  unfold classErr at h
  by_cases h1 : isNameB (bs nm) = false
  · rw [if_pos h1] at h; exact absurd h (by decide)
  · rw [if_neg h1] at h
    by_cases h2 : inNs ns nm = true
    · rw [if_pos h2] at h; exact absurd h (by decide)
    · rw [if_neg h2] at h
      by_cases h3 : 20 < sups.length
      · rw [if_pos h3] at h; exact absurd h (by decide)
      · rw [if_neg h3] at h
        exact ⟨by simpa using h1, by simpa using h2, by omega, h⟩

theorem Built.lt {cs : List (Nm × List Nm)} {sp ab : List (List Nat)} (h : Built cs sp ab) : ∀ i, i < cs.length → ∀ s ∈ sp.getD i [], s < i := by
  induction h with
  | nil => intro i hi; simp at hi
  | @snoc cs sp ab nm sups ys hb he hy ih =>
    intro i hi s hs
    have hl := hb.len.1
    by_cases hin : i < cs.length
    · rw [getD_left sp _ i (by omega)] at hs
      exact ih i hin s hs
    · have hieq : i = sp.length := by simp at hi; omega
      rw [hieq, getD_last] at hs
      obtain ⟨t, ht, rfl⟩ := List.mem_map.1 hs
      have h2 := supErr_all _ _ (classErr_zero he).2.2.2 t ht
      have := ixOf_lt h2
      simp at this; omega

/-- the error of the classes from the k-th on -/
def clsErrFrom (cs : List (Nm × List Nm)) : Nat → Nat → Int
  | 0, _ => 0
  | f + 1, k => if classErr ((cs.take k).map Prod.fst) (cs.getD k ([], [])).1 (cs.getD k ([], [])).2 = 0 then clsErrFrom cs f (k + 1) else classErr ((cs.take k).map Prod.fst) (cs.getD k ([], [])).1 (cs.getD k ([], [])).2

def clsErr (cs : List (Nm × List Nm)) : Int := if 300 < cs.length then 5 else clsErrFrom cs cs.length 0

theorem mapAt_empty {w : World} {b : Nat} (h : w.heap[b]? = some (.map #[] 0)) : MapAt w b [] := by
  refine ⟨.map [], Maps.isMap_empty, ⟨#[], 0, h, ⟨by simp, Go.MapKept.stamped_empty 0, by simp⟩, Nat.le_refl _, rfl⟩, fun s => ⟨by simp [inNs, Maps.has], by simp [ixOf, DataW.atKey]⟩⟩

theorem run_mk (W : World) (n : Nat) : (Instr.makeMap 58 (some (.int .i64 (n : Int)))).run Tryz.prog W = .ok (.map (some W.heap.size)) (W.alloc (.map #[] 0)) := by
  simp [Instr.makeMap, run_underlying Tryz.underlying58, asInt, asIntOf, Result.andThen]

def SignPost (w : World) (cs : List (Nm × List Nm)) (e : Ending) (w' : World) : Prop :=
  ∃ mb a1 n1 k1 a2 n2 k2, e = .returned (.tuple #[.agg #[.map mb, .slice a1 n1 k1, .slice a2 n2 k2, .slice none 0 0, .map none, .map none], .int .i64 (clsErr cs)]) ∧ Below w.heap.size w w' ∧
    (clsErr cs = 0 → ∃ sp ab, Built cs sp ab ∧ SigAt w' (.agg #[.map mb, .slice a1 n1 k1, .slice a2 n2 k2, .slice none 0 0, .map none, .map none]) (cs.map Prod.fst) (fun i => ab.getD i []))

theorem results_row_tmp {P : Program} {fn : Func} {p u : Tmp} {ty : TypeId} (h : fn.results = #[.cell p ty, .tmp u]) (tmps : Array Value) (w : World) (g : Nat) (t : TypeId) (cs : Array Value) (fr : Nat × Nat) (d : TypeDesc)
    (hp : tmps.getD p undef = .pointer (some ⟨g, 0, none⟩)) (hg : w.heap[g]? = some (.cells cs t fr))
    (hu : P.underlying ty = some d) (hd : (match d with | .struct _ | .array _ _ => true | _ => false) = true) (hi : (P.info? ty).map (·.size) = some cs.size) :
    (results fn tmps).run P w = .ok (.tuple #[.agg cs, tmps.getD u undef]) w := by
  have hp' : tmps[p]?.getD undef = .pointer (some ⟨g, 0, none⟩) := by simpa using hp
  rw [results_cell_tmp h]
  simp [hp', asAddr, run_loadVar_row w g t ty cs fr d hg hu hd hi]

set_option maxRecDepth 100000 in
set_option maxHeartbeats 4000000 in
theorem signClasses_many (sa : Option Addr) (n scap : Nat) (w : World) (h : 300 < n) :
    Calls Tryz.prog 32 #[.slice sa n scap] w fun e w' => e = .returned (.tuple #[.agg #[.map none, .slice none 0 0, .slice none 0 0, .slice none 0 0, .map none, .map none], .int .i64 5]) ∧ Below w.heap.size w w' := by
  have h1 : decide (300 < ((n : Nat) : Int)) = true := by simp; omega
  go_enter Tryz.func32, Tryz.ntmps32
  go_wp2_with fail
  refine bodyPost_ret (results_row_tmp rfl _ _ w.heap.size 63 #[.map none, .slice none 0 0, .slice none 0 0, .slice none 0 0, .map none, .map none] (0, 0) _ rfl (heap_alloc_new _ _) Tryz.underlying63 rfl (by kernel_rfl)) rfl ?_
  exact ⟨rfl, below_alloc _ _⟩

theorem GAt.below {w w' : World} {B gb : Nat} {ns : List Nm} {sp ab : List (List Nat)} (h : GAt B w gb ns sp ab) (hb : Below w.heap.size w w') : GAt B w' gb ns sp ab := by
  obtain ⟨h1, h2, h3, h4, bm, sv, av, rs, xs, h5, h6, h7, h8, h9, h10, h11⟩ := h
  exact ⟨h1, by have := hb.size; omega, h3, h4, bm, sv, av, rs, xs, (hb.block gb h2).trans h5, h6, h7.below hb h7.lt, ownsRow_below h8 hb (Nat.le_refl _), fun i hi => ⟨(h9 i hi).1, ownsRow_below (h9 i hi).2 hb (Nat.le_refl _)⟩, ownsRow_below h10 hb (Nat.le_refl _), h11⟩

theorem row6 {w : World} {g : Nat} {a0 a1 a2 a3 a4 a5 v0 v1 v2 v3 v4 v5 : Value} {t : TypeId} (h : w.heap[g]? = some (.cells #[a0, a1, a2, a3, a4, a5] t (0, 0))) :
    ((((((w.setCell ⟨g, 0, none⟩ v0).setCell ⟨g, 1, none⟩ v1).setCell ⟨g, 2, none⟩ v2).setCell ⟨g, 3, none⟩ v3).setCell ⟨g, 4, none⟩ v4).setCell ⟨g, 5, none⟩ v5).heap[g]? = some (.cells #[v0, v1, v2, v3, v4, v5] t (0, 0)) :=
  heap_setCell_same _ g 5 _ t _ (heap_setCell_same _ g 4 _ t _ (heap_setCell_same _ g 3 _ t _ (heap_setCell_same _ g 2 _ t _ (heap_setCell_same _ g 1 _ t _ (heap_setCell_same _ g 0 _ t _ h)))))

theorem below6 {w0 w : World} {g B : Nat} {v0 v1 v2 v3 v4 v5 : Value} (h : Below B w0 w) (hg : B ≤ g) :
    Below B w0 ((((((w.setCell ⟨g, 0, none⟩ v0).setCell ⟨g, 1, none⟩ v1).setCell ⟨g, 2, none⟩ v2).setCell ⟨g, 3, none⟩ v3).setCell ⟨g, 4, none⟩ v4).setCell ⟨g, 5, none⟩ v5) :=
  (((((h.setCell (p := ⟨g, 0, none⟩) hg _).setCell (p := ⟨g, 1, none⟩) hg _).setCell (p := ⟨g, 2, none⟩) hg _).setCell (p := ⟨g, 3, none⟩) hg _).setCell (p := ⟨g, 4, none⟩) hg _).setCell (p := ⟨g, 5, none⟩) hg _

theorem step6 {w : World} {g : Nat} {a0 a1 a2 a3 a4 a5 v0 v1 v2 v3 v4 v5 : Value} {t : TypeId} (h : w.heap[g]? = some (.cells #[a0, a1, a2, a3, a4, a5] t (0, 0))) :
    StepT [t] w ((((((w.setCell ⟨g, 0, none⟩ v0).setCell ⟨g, 1, none⟩ v1).setCell ⟨g, 2, none⟩ v2).setCell ⟨g, 3, none⟩ v3).setCell ⟨g, 4, none⟩ v4).setCell ⟨g, 5, none⟩ v5) := by
  have h0 := heap_setCell_same _ g 0 _ t v0 h
  have h1 := heap_setCell_same _ g 1 _ t v1 h0
  have h2 := heap_setCell_same _ g 2 _ t v2 h1
  have h3 := heap_setCell_same _ g 3 _ t v3 h2
  have h4 := heap_setCell_same _ g 4 _ t v4 h3
  exact (StepT.set h (by simp)).trans ((StepT.set h0 (by simp)).trans ((StepT.set h1 (by simp)).trans ((StepT.set h2 (by simp)).trans ((StepT.set h3 (by simp)).trans (StepT.set h4 (by simp))))))

theorem abv_of {w : World} {B n c : Nat} {s : Option Addr} {xs : List Value} {ab : List (List Nat)} (h : w.ownsRow B 136 5 (.slice s n c) n xs) (hx : ∀ i, i < n → ∀ j, j < 5 → xs[i * 5 + j]? = some (.int .u64 ((wordsOf (ab.getD i []) j : Nat) : Int))) :
    AbvAt w s (fun i => ab.getD i []) n := by
  intro hn
  rcases h.2 with ⟨_, h0⟩ | ⟨g, cap, cur, e, _, hh, _⟩
  · omega
  · injection e with e1 _ e3
    subst e1
    refine ⟨g, 0, rfl, (Array.getElem?_eq_some_iff.1 hh).1, fun i hi j hj => ?_⟩
    have hl : xs.length = n * 5 := h.1
    have hij : i * 5 + j < n * 5 := by omega
    rw [Nat.zero_add]
    exact ⟨(h.cellAt (i * 5 + j) (by omega)).trans (hx i hi j hj), h.frozenAt _, wordsOf_lt _ _⟩

set_option maxRecDepth 100000 in
set_option maxHeartbeats 4000000 in
theorem signClasses_few (sa : Option Addr) (scap : Nat) (cs : List (Nm × List Nm)) (w : World) (hs : SlC w (.slice sa cs.length scap) cs) (h : cs.length ≤ 300) :
    Calls Tryz.prog 32 #[.slice sa cs.length scap] w (SignPost w cs) := by
  have h1 : decide (300 < ((cs.length : Nat) : Int)) = false := by simp; omega
  have HS := Lib.hid hs
  clear hs
  have hmk := run_mk
  go_enter Tryz.func32, Tryz.ntmps32
  go_wp2_with fail
  generalize hW0 : (((w.alloc (Obj.cells #[.map none, .slice none 0 0, .slice none 0 0, .slice none 0 0, .map none, .map none] 63)).alloc (Obj.map #[] 0)).alloc (Obj.cells #[.map (some (w.heap.size + 1)), .slice none 0 0, .slice none 0 0, .slice none 0 0, .map none, .map none] 63)) = W0
  have hbW : Below w.heap.size w W0 := by rw [← hW0]; exact (((Below.refl _ w).alloc (Nat.le_refl _) _).alloc (by simp) _).alloc (by simp; omega) _
  have hz0 : W0.heap.size = w.heap.size + 3 := by rw [← hW0]; simp
  have hr0 : W0.heap[w.heap.size]? = some (.cells #[.map none, .slice none 0 0, .slice none 0 0, .slice none 0 0, .map none, .map none] 63 (0, 0)) := by
    rw [← hW0]; exact ((below_alloc _ _).block _ (by simp; omega)).trans (heap_alloc2_old _ _ _)
  have hmap0 : W0.heap[w.heap.size + 1]? = some (.map #[] 0) := by
    rw [← hW0]; exact ((below_alloc _ _).block _ (by simp)).trans (heap_alloc2_new _ _ _)
  have hg0 : W0.heap[w.heap.size + 1 + 1]? = some (.cells #[.map (some (w.heap.size + 1)), .slice none 0 0, .slice none 0 0, .slice none 0 0, .map none, .map none] 63 (0, 0)) := by
    rw [← hW0]
    have e : w.heap.size + 1 + 1 = ((w.alloc (Obj.cells #[.map none, .slice none 0 0, .slice none 0 0, .slice none 0 0, .map none, .map none] 63)).alloc (Obj.map #[] 0)).heap.size := by simp
    rw [e, heap_alloc_new]
  have HG0 : Hid (GAt (w.heap.size + 1) W0 (w.heap.size + 1 + 1) [] [] []) := by
    refine ⟨by omega, by omega, rfl, rfl, w.heap.size + 1, .slice none 0 0, .slice none 0 0, [], [], hg0, by omega, mapAt_empty hmap0, World.ownsRow_nil _ _ _ _, fun i hi => by simp at hi, World.ownsRow_nil _ _ _ _, fun i hi => by simp at hi⟩
  have HR0 := Lib.hid hr0
  have HE0 : Hid (clsErr cs = clsErrFrom cs (cs.length - 0) 0) := by unfold Hid clsErr; rw [if_neg (by omega)]; rfl
  have HB0 : Hid (Built (cs.take 0) [] []) := by unfold Hid; rw [List.take_zero]; exact .nil
  clear hW0 hr0 hmap0 hg0 hmk
  go_loopw [18] (fun i wr => ∃ (k : Nat) (sp ab : List (List Nat)), k ≤ cs.length ∧ i = .int .i64 k ∧ Hid (Built (cs.take k) sp ab) ∧ Hid (GAt (w.heap.size + 1) wr (w.heap.size + 1 + 1) ((cs.take k).map Prod.fst) sp ab) ∧ Below (w.heap.size + 1) W0 wr ∧ Hid (clsErr cs = clsErrFrom cs (cs.length - k) k)) (fun i _ => cs.length - (intOf i).toNat)
  case atStart => exact ⟨0, [], [], by omega, rfl, HB0, HG0, Below.refl _ _, HE0⟩
  case round =>
    obtain ⟨k, sp, ab, hk, rfl, hBu, hG, hB, hE⟩ := hrel
    have hz : w.heap.size + 3 ≤ wr.heap.size := by have := hB.size; omega
    have hBw : Below w.heap.size w wr := hbW.trans (hB.mono (by omega))
    by_cases hlt : k < cs.length
    · obtain ⟨_, a', cap', hee, hsx⟩ := HS.out.below hBw (Nat.le_refl _)
      injection hee with hee _ hee2
      subst hee
      subst hee2
      obtain ⟨b, off, rfl, hb, hc⟩ := hsx (by omega)
      obtain ⟨g0, hnl, sa', scap', g1, hsl⟩ := hc k hlt
      have htake : Hid (cs.take (k + 1) = cs.take k ++ [cs.getD k ([], [])]) := take_snocD cs ([], []) k hlt
      have hstep : Hid (clsErr cs = if classErr ((cs.take k).map Prod.fst) (cs.getD k ([], [])).1 (cs.getD k ([], [])).2 = 0 then clsErrFrom cs (cs.length - (k + 1)) (k + 1) else classErr ((cs.take k).map Prod.fst) (cs.getD k ([], [])).1 (cs.getD k ([], [])).2) := by
        unfold Hid; rw [hE.out]
        have : cs.length - k = (cs.length - (k + 1)) + 1 := by omega
        rw [this]; rfl
      clear hc hsx hE
      generalize cs.getD k ([], []) = x at *
      obtain ⟨nm, sups⟩ := x
      simp only at g0 g1 hnl hsl
      have HC := Lib.hid (callsIn_wide.1 (addClass_any (w.heap.size + 1) (w.heap.size + 1 + 1) nm sa' scap' sups ((cs.take k).map Prod.fst) sp ab (wr.alloc (Obj.cells #[.string (bs nm), .slice sa' sups.length scap'] 48)) (by simp; omega)
        (by simp; omega) (GAt.below hG.out (below_alloc _ _)) (by have := hBu.out.lt; simpa using this) (hsl.below (below_alloc _ _) (Nat.le_refl _)) hnl))
      by_cases hz0 : classErr ((cs.take k).map Prod.fst) nm sups = 0
      · have hst2 : Hid (clsErr cs = clsErrFrom cs (cs.length - (k + 1)) (k + 1)) := by unfold Hid; rw [hstep.out, if_pos hz0]
        rw [hz0] at HC
        clear hstep hG
        go_wp2_with fail
        refine HC.out.mono ?_
        rintro e w1 ⟨rfl, hb1, hk1⟩
        have HK := Lib.hid hk1
        clear hk1 HC
        go_wp2_with fail
        go_roundw
        case rel =>
          obtain ⟨ys, hy, hg⟩ := HK.out trivial
          refine ⟨k + 1, sp ++ [sups.map (ixOf ((cs.take k).map Prod.fst))], ab ++ [ys], by omega, by go_num, ?_, ?_, hB.trans ((Below.alloc (Below.refl _ _) (by omega) _).trans hb1), hst2⟩
          · unfold Hid; rw [htake.out]
            exact .snoc hBu.out hz0 (by simpa using hy)
          · unfold Hid; rw [htake.out, List.map_append]; exact hg
        case measure => simp [intOf]; omega
      · have hst2 : Hid (clsErr cs = classErr ((cs.take k).map Prod.fst) nm sups) := by unfold Hid; rw [hstep.out, if_neg hz0]
        generalize hce : classErr ((cs.take k).map Prod.fst) nm sups = ce at *
        clear hstep hG
        have hdz : decide (ce = 0) = false := by simpa using hz0
        go_wp2_with fail
        refine HC.out.mono ?_
        rintro e w1 ⟨rfl, hb1, _⟩
        have hrow : w1.heap[w.heap.size]? = some (.cells #[.map none, .slice none 0 0, .slice none 0 0, .slice none 0 0, .map none, .map none] 63 (0, 0)) :=
          (hb1.block _ (by simp)).trans (((below_alloc _ _).block _ (by omega)).trans ((hB.block _ (by omega)).trans HR0.out))
        have q0 : w1.cell? ⟨w.heap.size, 0, none⟩ = some (.map none) := by rw [cell_of_row w1 _ 0 _ _ _ hrow]; rfl
        have q1 : w1.cell? ⟨w.heap.size, 1, none⟩ = some (.slice none 0 0) := by rw [cell_of_row w1 _ 1 _ _ _ hrow]; rfl
        have q2 : w1.cell? ⟨w.heap.size, 2, none⟩ = some (.slice none 0 0) := by rw [cell_of_row w1 _ 2 _ _ _ hrow]; rfl
        have q3 : w1.cell? ⟨w.heap.size, 3, none⟩ = some (.slice none 0 0) := by rw [cell_of_row w1 _ 3 _ _ _ hrow]; rfl
        have q4 : w1.cell? ⟨w.heap.size, 4, none⟩ = some (.map none) := by rw [cell_of_row w1 _ 4 _ _ _ hrow]; rfl
        have q5 : w1.cell? ⟨w.heap.size, 5, none⟩ = some (.map none) := by rw [cell_of_row w1 _ 5 _ _ _ hrow]; rfl
        have f0 : w1.frozen? ⟨w.heap.size, 0, none⟩ = false := frozen_of_row w1 _ 0 _ _ hrow
        have f1 : w1.frozen? ⟨w.heap.size, 1, none⟩ = false := frozen_of_row w1 _ 1 _ _ hrow
        have f2 : w1.frozen? ⟨w.heap.size, 2, none⟩ = false := frozen_of_row w1 _ 2 _ _ hrow
        have f3 : w1.frozen? ⟨w.heap.size, 3, none⟩ = false := frozen_of_row w1 _ 3 _ _ hrow
        have f4 : w1.frozen? ⟨w.heap.size, 4, none⟩ = false := frozen_of_row w1 _ 4 _ _ hrow
        have f5 : w1.frozen? ⟨w.heap.size, 5, none⟩ = false := frozen_of_row w1 _ 5 _ _ hrow
        clear HC
        go_wp2_with fail
        refine bodyPost_ret (results_row_tmp rfl _ _ w.heap.size 63 #[.map none, .slice none 0 0, .slice none 0 0, .slice none 0 0, .map none, .map none] (0, 0) _ rfl (row6 hrow) Tryz.underlying63 rfl (by kernel_rfl)) rfl ?_
        refine ⟨none, none, 0, 0, none, 0, 0, by rw [hst2.out]; rfl, ?_, fun e0 => absurd (hst2.out.symm.trans e0) hz0⟩
        exact below6 (hBw.trans (((Below.refl _ _).alloc (by omega) _).trans (hb1.mono (by omega)))) (Nat.le_refl _)
    · have hkk : k = cs.length := by omega
      subst hkk
      have hce : Hid (clsErr cs = 0) := by unfold Hid; rw [hE.out, Nat.sub_self]; rfl
      rw [List.take_length] at hBu hG
      obtain ⟨k1, k2, k3, k4, bm, sv, av, rs, xs, hgo, k5, hm, hsv, hrows, hav, hxs⟩ := hG.out
      obtain ⟨s1, c1, rfl⟩ := ownsRow_form hsv
      obtain ⟨s2, c2, rfl⟩ := ownsRow_form hav
      have hrow : wr.heap[w.heap.size]? = some (.cells #[.map none, .slice none 0 0, .slice none 0 0, .slice none 0 0, .map none, .map none] 63 (0, 0)) :=
        (hB.block _ (by omega)).trans HR0.out
      have p0 : wr.cell? ⟨w.heap.size + 1 + 1, 0, none⟩ = some (.map (some bm)) := by rw [cell_of_row wr _ 0 _ _ _ hgo]; rfl
      have p1 : wr.cell? ⟨w.heap.size + 1 + 1, 1, none⟩ = some (.slice s1 (cs.map Prod.fst).length c1) := by rw [cell_of_row wr _ 1 _ _ _ hgo]; rfl
      have p2 : wr.cell? ⟨w.heap.size + 1 + 1, 2, none⟩ = some (.slice s2 (cs.map Prod.fst).length c2) := by rw [cell_of_row wr _ 2 _ _ _ hgo]; rfl
      have p3 : wr.cell? ⟨w.heap.size + 1 + 1, 3, none⟩ = some (.slice none 0 0) := by rw [cell_of_row wr _ 3 _ _ _ hgo]; rfl
      have p4 : wr.cell? ⟨w.heap.size + 1 + 1, 4, none⟩ = some (.map none) := by rw [cell_of_row wr _ 4 _ _ _ hgo]; rfl
      have p5 : wr.cell? ⟨w.heap.size + 1 + 1, 5, none⟩ = some (.map none) := by rw [cell_of_row wr _ 5 _ _ _ hgo]; rfl
      have q0 : wr.cell? ⟨w.heap.size, 0, none⟩ = some (.map none) := by rw [cell_of_row wr _ 0 _ _ _ hrow]; rfl
      have q1 : wr.cell? ⟨w.heap.size, 1, none⟩ = some (.slice none 0 0) := by rw [cell_of_row wr _ 1 _ _ _ hrow]; rfl
      have q2 : wr.cell? ⟨w.heap.size, 2, none⟩ = some (.slice none 0 0) := by rw [cell_of_row wr _ 2 _ _ _ hrow]; rfl
      have q3 : wr.cell? ⟨w.heap.size, 3, none⟩ = some (.slice none 0 0) := by rw [cell_of_row wr _ 3 _ _ _ hrow]; rfl
      have q4 : wr.cell? ⟨w.heap.size, 4, none⟩ = some (.map none) := by rw [cell_of_row wr _ 4 _ _ _ hrow]; rfl
      have q5 : wr.cell? ⟨w.heap.size, 5, none⟩ = some (.map none) := by rw [cell_of_row wr _ 5 _ _ _ hrow]; rfl
      have f0 : wr.frozen? ⟨w.heap.size, 0, none⟩ = false := frozen_of_row wr _ 0 _ _ hrow
      have f1 : wr.frozen? ⟨w.heap.size, 1, none⟩ = false := frozen_of_row wr _ 1 _ _ hrow
      have f2 : wr.frozen? ⟨w.heap.size, 2, none⟩ = false := frozen_of_row wr _ 2 _ _ hrow
      have f3 : wr.frozen? ⟨w.heap.size, 3, none⟩ = false := frozen_of_row wr _ 3 _ _ hrow
      have f4 : wr.frozen? ⟨w.heap.size, 4, none⟩ = false := frozen_of_row wr _ 4 _ _ hrow
      have f5 : wr.frozen? ⟨w.heap.size, 5, none⟩ = false := frozen_of_row wr _ 5 _ _ hrow
      have HM := Lib.hid hm
      have HAV := Lib.hid hav
      have HXS := Lib.hid hxs
      clear hm hsv hrows hav hxs hgo HG0
      go_wp2_with fail
      rw [List.length_map] at HAV HXS k3 k4
      have hS6 := step6 (v0 := .map (some bm)) (v1 := .slice s1 cs.length c1) (v2 := .slice s2 cs.length c2) (v3 := .slice none 0 0) (v4 := .map none) (v5 := .map none) hrow
      refine bodyPost_ret (results_row_tmp rfl _ _ w.heap.size 63 #[.map (some bm), .slice s1 cs.length c1, .slice s2 cs.length c2, .slice none 0 0, .map none, .map none] (0, 0) _ rfl (row6 hrow) Tryz.underlying63 rfl (by kernel_rfl)) rfl ?_
      refine ⟨some bm, s1, cs.length, c1, s2, cs.length, c2, by rw [hce.out]; rfl, below6 hBw (Nat.le_refl _), fun _ => ⟨sp, ab, hBu.out, by simpa using h, bm, .slice s1 cs.length c1, s2, c2, .slice none 0 0, .map none, .map none, by rw [List.length_map], hS6.map HM.out, ?_⟩⟩
      rw [List.length_map]
      exact abv_of (hS6.own HAV.out (by decide)) HXS.out

theorem signClasses_any (v : Value) (cs : List (Nm × List Nm)) (w : World) (hs : SlC w v cs) : Calls Tryz.prog 32 #[v] w (SignPost w cs) := by
  obtain ⟨h1, sa, scap, rfl, h2⟩ := hs
  by_cases h : cs.length ≤ 300
  · exact signClasses_few sa scap cs w ⟨h1, sa, scap, rfl, h2⟩ h
  · have e : clsErr cs = 5 := by unfold clsErr; rw [if_pos (by omega)]
    refine (signClasses_many sa cs.length scap w (by omega)).mono ?_
    rintro _ w' ⟨rfl, hb⟩
    exact ⟨none, none, 0, 0, none, 0, 0, by rw [e], hb, fun h0 => absurd (e.symm.trans h0) (by decide)⟩
end Go.Proofs.YtehnikgdjnmfcaaGreat

/- The reference: IsName, Class, known. -/
namespace Go.Proofs.YtehnikgdjnmfcaaGreat
open Go.RowKit Go.WideMaps Go.Shelf

/-- the index of a name among names, -1 for none -/
def clsI (ns : List Nm) (s : Nm) : Int := if inNs ns s = true then ((ixOf ns s : Nat) : Int) else -1

theorem clsI_in {ns : List Nm} {s : Nm} (h : inNs ns s = true) : clsI ns s = ((ixOf ns s : Nat) : Int) := by unfold clsI; rw [if_pos h]
theorem clsI_out {ns : List Nm} {s : Nm} (h : inNs ns s = false) : clsI ns s = -1 := by unfold clsI; rw [if_neg (by rw [h]; decide)]

theorem inNs_snoc (ns : List Nm) (x s : Nm) : inNs (ns ++ [x]) s = (inNs ns s || decide (s = x)) := by
  unfold inNs
  rw [Bool.eq_iff_iff]; simp

theorem take_names (cs : List (Nm × List Nm)) (k : Nat) (hk : k < cs.length) : (cs.take (k + 1)).map Prod.fst = (cs.take k).map Prod.fst ++ [(cs.getD k ([], [])).1] := by
  rw [take_snocD cs ([], []) k hk, List.map_append]; rfl

theorem ix_first {cs : List (Nm × List Nm)} {k : Nat} {s : Nm} (hk : k < cs.length) (hn : inNs ((cs.take k).map Prod.fst) s = false) (he : (cs.getD k ([], [])).1 = s) :
    inNs (cs.map Prod.fst) s = true ∧ ixOf (cs.map Prod.fst) s = k := by
  have e : cs.map Prod.fst = (cs.take k).map Prod.fst ++ s :: (cs.drop (k + 1)).map Prod.fst := by
    conv => lhs; rw [← List.take_append_drop k cs, List.drop_eq_getElem_cons hk]
    rw [List.map_append, List.map_cons]
    have : cs[k].1 = s := by rw [← he, List.getD_eq_getElem?_getD, List.getElem?_eq_getElem hk]; rfl
    rw [this]
  have hn' : s ∉ (cs.take k).map Prod.fst := of_decide_eq_false hn
  have hm : s ∈ cs.map Prod.fst := by rw [e]; simp
  refine ⟨decide_eq_true hm, ?_⟩
  unfold ixOf
  rw [if_pos hm, e, List.idxOf_append, if_neg hn']
  simp; omega

theorem ix_take {cs : List (Nm × List Nm)} {k : Nat} {s : Nm} (h : inNs ((cs.take k).map Prod.fst) s = true) :
    inNs (cs.map Prod.fst) s = true ∧ ixOf (cs.map Prod.fst) s = ixOf ((cs.take k).map Prod.fst) s := by
  have h' : s ∈ (cs.take k).map Prod.fst := of_decide_eq_true h
  have e : cs.map Prod.fst = (cs.take k).map Prod.fst ++ (cs.drop k).map Prod.fst := by
    rw [← List.map_append, List.take_append_drop]
  have hm : s ∈ cs.map Prod.fst := by rw [e]; simp only [List.mem_append]; exact .inl h'
  refine ⟨decide_eq_true hm, ?_⟩
  unfold ixOf
  rw [if_pos hm, if_pos h', e, List.idxOf_append, if_pos h']

theorem ix_lt_take {cs : List (Nm × List Nm)} {k : Nat} {s : Nm} (h : inNs (cs.map Prod.fst) s = true) (hl : ixOf (cs.map Prod.fst) s < k) : inNs ((cs.take k).map Prod.fst) s = true := by
  have h' : s ∈ cs.map Prod.fst := of_decide_eq_true h
  unfold ixOf at hl
  rw [if_pos h'] at hl
  refine decide_eq_true ?_
  have hlen : (cs.map Prod.fst).idxOf s < (cs.map Prod.fst).length := List.idxOf_lt_length_of_mem h'
  have e := List.getElem_idxOf hlen
  rw [List.map_take, ← e]
  exact List.mem_take_iff_getElem.2 ⟨_, by omega, rfl⟩

theorem bs_eq (x y : Nm) : ((bs x).toList == (bs y).toList) = decide (x = y) := by
  rw [ByteArray.toList_eq, ByteArray.toList_eq]
  rw [Bool.eq_iff_iff]
  simp only [beq_iff_eq, decide_eq_true_eq]
  exact Iff.rfl

set_option maxHeartbeats 4000000 in
theorem class_any (n c t2 t3 t4 t5 t6 : Value) (s : Nm) (cs : List (Nm × List Nm)) (w : World) (hc : SlC w c cs) :
    Calls Tryz.prog 57 #[.agg #[n, c, t2, t3, t4, t5, t6], .string (bs s)] w fun e w' => e = .returned (.int .i64 (clsI (cs.map Prod.fst) s)) ∧ Below w.heap.size w w' := by
  have hb0 := below_alloc w (Obj.cells #[n, c, t2, t3, t4, t5, t6] 29)
  have HC := Lib.hid (hc.below hb0 (Nat.le_refl _))
  obtain ⟨hl, ca, ccap, rfl, _⟩ := hc
  unfold maxLen at hl
  have H0 : Hid (inNs ((cs.take 0).map Prod.fst) s = false) := by unfold Hid; simp [inNs]
  have HB := Lib.hid hb0
  clear hb0
  go_enter Tryz.func57, Tryz.ntmps57
  go_wp2_with fail
  go_loop [5] (fun i => ∃ k : Nat, k ≤ cs.length ∧ i = .int .i64 k ∧ Hid (inNs ((cs.take k).map Prod.fst) s = false)) (fun i => cs.length - (intOf i).toNat)
  case atStart => exact ⟨0, by omega, rfl, H0⟩
  case round =>
    obtain ⟨k, hk, rfl, hI⟩ := hrel
    by_cases hlt : k < cs.length
    · obtain ⟨_, ca', cap', hee, hsx⟩ := HC.out
      injection hee with hee _ hee2
      subst hee hee2
      obtain ⟨b, off, rfl, hb, hcl⟩ := hsx (by omega)
      obtain ⟨g0, _⟩ := hcl k hlt
      have htk := Lib.hid (take_names cs k hlt)
      have hfx := Lib.hid (fun he => ix_first (s := s) hlt hI.out he)
      clear hcl hsx H0
      generalize hx : (cs.getD k ([], [])).1 = x at *
      clear hx
      by_cases he : x = s
      · have hq : ((bs x).toList == (bs s).toList) = true := by rw [bs_eq]; exact decide_eq_true he
        obtain ⟨h1, h2⟩ := hfx.out he
        have HR : Hid (clsI (cs.map Prod.fst) s = ((k : Nat) : Int)) := by unfold Hid; rw [clsI_in h1, h2]
        clear h1 h2 he hfx htk hI
        go_wp2_with fail
        go_ret
        exact ⟨by rw [HR.out]; rfl, HB.out⟩
      · have hq : ((bs x).toList == (bs s).toList) = false := by rw [bs_eq]; exact decide_eq_false he
        have hst : Hid (inNs ((cs.take (k + 1)).map Prod.fst) s = false) := by
          unfold Hid; rw [htk.out, inNs_snoc, hI.out, decide_eq_false (fun e => he e.symm)]; rfl
        clear he hfx htk hI
        go_wp2_with fail
        go_round
        case rel => exact ⟨k + 1, by omega, by go_num, hst⟩
        case measure => simp [intOf]; omega
    · have HR : Hid (clsI (cs.map Prod.fst) s = -1) := by
        unfold Hid
        refine clsI_out ?_
        have := hI.out
        rw [List.take_of_length_le (by omega)] at this; exact this
      clear hI H0
      go_wp2_with fail
      go_ret
      exact ⟨by rw [HR.out]; rfl, HB.out⟩

theorem class_in (n c t2 t3 t4 t5 t6 : Value) (s : Nm) (cs : List (Nm × List Nm)) (w : World) (hc : SlC w c cs) (h : inNs (cs.map Prod.fst) s = true) :
    Calls Tryz.prog 57 #[.agg #[n, c, t2, t3, t4, t5, t6], .string (bs s)] w fun e w' => e = .returned (.int .i64 ((ixOf (cs.map Prod.fst) s : Nat) : Int)) ∧ Below w.heap.size w w' := by
  rw [← clsI_in h]; exact class_any n c t2 t3 t4 t5 t6 s cs w hc
theorem class_out (n c t2 t3 t4 t5 t6 : Value) (s : Nm) (cs : List (Nm × List Nm)) (w : World) (hc : SlC w c cs) (h : inNs (cs.map Prod.fst) s = false) :
    Calls Tryz.prog 57 #[.agg #[n, c, t2, t3, t4, t5, t6], .string (bs s)] w fun e w' => e = .returned (.int .i64 (-1)) ∧ Below w.heap.size w w' := by
  rw [← clsI_out h]; exact class_any n c t2 t3 t4 t5 t6 s cs w hc

theorem cells7' {w : World} {k : Nat} {a0 a1 a2 a3 a4 a5 a6 : Value} {t : TypeId} {fr : Nat × Nat} (h : w.heap[k]? = some (.cells #[a0, a1, a2, a3, a4, a5, a6] t fr)) :
    w.cell? ⟨k, 0, none⟩ = some a0 ∧ w.cell? ⟨k, 1, none⟩ = some a1 ∧ w.cell? ⟨k, 2, none⟩ = some a2 ∧ w.cell? ⟨k, 3, none⟩ = some a3 ∧ w.cell? ⟨k, 4, none⟩ = some a4 ∧ w.cell? ⟨k, 5, none⟩ = some a5 ∧ w.cell? ⟨k, 6, none⟩ = some a6 :=
  ⟨by rw [cell_of_row w _ 0 _ _ _ h]; rfl, by rw [cell_of_row w _ 1 _ _ _ h]; rfl, by rw [cell_of_row w _ 2 _ _ _ h]; rfl, by rw [cell_of_row w _ 3 _ _ _ h]; rfl, by rw [cell_of_row w _ 4 _ _ _ h]; rfl, by rw [cell_of_row w _ 5 _ _ _ h]; rfl, by rw [cell_of_row w _ 6 _ _ _ h]; rfl⟩

theorem cells7and {w : World} {k : Nat} {a0 a1 a2 a3 a4 a5 a6 : Value} {t : TypeId} {fr : Nat × Nat} {p : Prop} (h : w.heap[k]? = some (.cells #[a0, a1, a2, a3, a4, a5, a6] t fr)) (hp : p) :
    w.cell? ⟨k, 0, none⟩ = some a0 ∧ w.cell? ⟨k, 1, none⟩ = some a1 ∧ w.cell? ⟨k, 2, none⟩ = some a2 ∧ w.cell? ⟨k, 3, none⟩ = some a3 ∧ w.cell? ⟨k, 4, none⟩ = some a4 ∧ w.cell? ⟨k, 5, none⟩ = some a5 ∧ w.cell? ⟨k, 6, none⟩ = some a6 ∧ p := by
  obtain ⟨h0, h1, h2, h3, h4, h5, h6⟩ := cells7' h
  exact ⟨h0, h1, h2, h3, h4, h5, h6, hp⟩

set_option maxRecDepth 100000 in
set_option maxHeartbeats 4000000 in
theorem rknown_any (n c t2 t3 t4 t5 t6 v : Value) (ss : List Nm) (cs : List (Nm × List Nm)) (w : World) (hc : SlC w c cs) (hs : SlS w v ss) :
    Calls Tryz.prog 43 #[.agg #[n, c, t2, t3, t4, t5, t6], v] w fun e w' => e = .returned (.bool (ss.all (inNs (cs.map Prod.fst)))) ∧ Below w.heap.size w w' := by
  have hb0 := below_alloc w (Obj.cells #[n, c, t2, t3, t4, t5, t6] 29)
  have HC := Lib.hid (hc.below hb0 (Nat.le_refl _))
  have HS := Lib.hid (hs.below hb0 (Nat.le_refl _))
  have HR := Lib.hid (heap_alloc_new w (Obj.cells #[n, c, t2, t3, t4, t5, t6] 29))
  have hz0 : w.heap.size < (w.alloc (Obj.cells #[n, c, t2, t3, t4, t5, t6] 29)).heap.size := by simp
  obtain ⟨hl, ca, ccap, rfl, _⟩ := hc
  obtain ⟨hls, sa, scap, rfl, _⟩ := hs
  unfold maxLen at hls
  have H0 : Hid (ss.all (inNs (cs.map Prod.fst)) = (ss.drop 0).all (inNs (cs.map Prod.fst))) := rfl
  go_enter Tryz.func43, Tryz.ntmps43
  go_wp2_with fail
  generalize (w.alloc (Obj.cells #[n, .slice ca cs.length ccap, t2, t3, t4, t5, t6] 29)) = W0 at *
  go_loopw [5] (fun i wr => ∃ k : Nat, k ≤ ss.length ∧ i = .int .i64 k ∧ Hid (ss.all (inNs (cs.map Prod.fst)) = (ss.drop k).all (inNs (cs.map Prod.fst))) ∧ Below W0.heap.size W0 wr) (fun i _ => ss.length - (intOf i).toNat)
  case atStart => exact ⟨0, by omega, rfl, H0, Below.refl _ _⟩
  case round =>
    obtain ⟨k, hk, rfl, hI, hB⟩ := hrel
    have hz := hB.size
    have hBw : Below w.heap.size w wr := hb0.trans (hB.mono (by omega))
    by_cases hlt : k < ss.length
    · obtain ⟨b, off, x, rfl, hb, hck, hwk, hx⟩ := (HS.out.below hB (Nat.le_refl _)).at hlt
      have hrow := Lib.hid ((hB.block w.heap.size hz0).trans HR.out)
      have hckd := Lib.hid hck
      obtain ⟨c0, c1, c2, c3, c4, c5, c6⟩ := cells7' hrow.out
      have hstep : Hid (ss.all (inNs (cs.map Prod.fst)) = (inNs (cs.map Prod.fst) x && (ss.drop (k + 1)).all (inNs (cs.map Prod.fst)))) := by
        unfold Hid; rw [hI.out, all_drop_getD _ [] _ _ hlt, hx]
      clear hx H0 hI
      have HCr := Lib.hid (HC.out.below hB.drew (Nat.le_refl _))
      by_cases hin : inNs (cs.map Prod.fst) x = true
      · have hst2 : Hid (ss.all (inNs (cs.map Prod.fst)) = (ss.drop (k + 1)).all (inNs (cs.map Prod.fst))) := by
          unfold Hid; rw [hstep.out, hin]; simp
        have HIN := Lib.hid hin
        clear hstep hin
        go_wp2_with fail
        go_region_held3 (fun w' => w'.cell? ⟨w.heap.size, 0, none⟩ = some n ∧ w'.cell? ⟨w.heap.size, 1, none⟩ = some (.slice ca cs.length ccap) ∧ w'.cell? ⟨w.heap.size, 2, none⟩ = some t2 ∧ w'.cell? ⟨w.heap.size, 3, none⟩ = some t3 ∧ w'.cell? ⟨w.heap.size, 4, none⟩ = some t4 ∧ w'.cell? ⟨w.heap.size, 5, none⟩ = some t5 ∧ w'.cell? ⟨w.heap.size, 6, none⟩ = some t6 ∧ w'.cell? ⟨b, off + k, none⟩ = some (.string (bs x)))
          (first | exact cells7and hrow.out hckd.out | exact cells7and r4.out k4.out)
          ((go_at_call 57; refine (class_in n _ t2 t3 t4 t5 t6 x cs _ HCr.out HIN.out).mono ?_; rintro e w4 ⟨rfl, hb4⟩; have hb4 : Below wr.heap.size wr w4 := ((Below.refl _ wr).drew).trans hb4; have r4 := Lib.hid ((hb4.block w.heap.size (by omega)).trans hrow.out); have k4 := Lib.hid ((hb4.cell (p := ⟨b, off + k, none⟩) hb).trans hckd.out)))
        clear c0 c1 c2 c3 c4 c5 c6
        go_wp2_with fail
        go_roundw
        case rel => exact ⟨k + 1, by omega, by go_num, hst2, hB.trans (hb4.mono (by omega))⟩
        case measure => simp [intOf]; omega
      · have hin' : inNs (cs.map Prod.fst) x = false := by simpa using hin
        have hst2 : Hid (ss.all (inNs (cs.map Prod.fst)) = false) := by
          unfold Hid; rw [hstep.out, hin']; simp
        have HIN := Lib.hid hin'
        clear hstep hin hin'
        go_wp2_with fail
        go_region_held3 (fun w' => w'.cell? ⟨w.heap.size, 0, none⟩ = some n ∧ w'.cell? ⟨w.heap.size, 1, none⟩ = some (.slice ca cs.length ccap) ∧ w'.cell? ⟨w.heap.size, 2, none⟩ = some t2 ∧ w'.cell? ⟨w.heap.size, 3, none⟩ = some t3 ∧ w'.cell? ⟨w.heap.size, 4, none⟩ = some t4 ∧ w'.cell? ⟨w.heap.size, 5, none⟩ = some t5 ∧ w'.cell? ⟨w.heap.size, 6, none⟩ = some t6 ∧ w'.cell? ⟨b, off + k, none⟩ = some (.string (bs x)))
          (first | exact cells7and hrow.out hckd.out | exact cells7and r4.out k4.out)
          ((go_at_call 57; refine (class_out n _ t2 t3 t4 t5 t6 x cs _ HCr.out HIN.out).mono ?_; rintro e w4 ⟨rfl, hb4⟩; have hb4 : Below wr.heap.size wr w4 := ((Below.refl _ wr).drew).trans hb4; have r4 := Lib.hid ((hb4.block w.heap.size (by omega)).trans hrow.out); have k4 := Lib.hid ((hb4.cell (p := ⟨b, off + k, none⟩) hb).trans hckd.out)))
        go_wp2_with fail
        go_ret
        exact ⟨ret_bool hst2.out.symm, hBw.trans (hb4.mono (by omega))⟩
    · have hst2 : Hid (ss.all (inNs (cs.map Prod.fst)) = true) := by
        unfold Hid; rw [hI.out, List.drop_eq_nil_of_le (by omega)]; rfl
      clear hI H0
      go_wp2_with fail
      go_ret
      exact ⟨ret_bool hst2.out.symm, hBw⟩

end Go.Proofs.YtehnikgdjnmfcaaGreat

/- The reference: IsName. -/
namespace Go.Proofs.YtehnikgdjnmfcaaGreat
open Go.RowKit Go.WideMaps Go.Shelf

def Tests (x : Int) (b1 b2 b3 b4 b5 b6 b7 b8 b9 l m : Bool) : Prop :=
  decide (97 ≤ x) = b1 ∧ decide (x ≤ 122) = b2 ∧ decide (65 ≤ x) = b3 ∧ decide (x ≤ 90) = b4 ∧ (x == 95) = b5 ∧ decide (48 ≤ x) = b6 ∧ decide (x ≤ 57) = b7 ∧ (x == 39) = b8 ∧ (x == 46) = b9 ∧ beginsB x = l ∧ inB x = m

theorem tests (x : Int) : Tests x true true true false false true false false false true true ∨ Tests x false true true true false true false false false true true ∨ Tests x false true true false true true false false false true true ∨ Tests x false true false true false true true false false false true ∨ Tests x false true false true false false true true false false true ∨ Tests x false true false true false false true false true false true ∨ Tests x false true false true false false true false false false false ∨ Tests x false true false true false true false false false false false ∨ Tests x false true true false false true false false false false false ∨ Tests x true false true false false true false false false false false := by
  by_cases hA : 97 ≤ x ∧ x ≤ 122
  · exact .inl (by unfold Tests beginsB; refine ⟨?_, ?_, ?_, ?_, ?_, ?_, ?_, ?_, ?_, ?_, ?_⟩ <;> simp [inB, beginsB] <;> omega)
  by_cases hB : 65 ≤ x ∧ x ≤ 90
  · exact .inr (.inl (by unfold Tests beginsB; refine ⟨?_, ?_, ?_, ?_, ?_, ?_, ?_, ?_, ?_, ?_, ?_⟩ <;> simp [inB, beginsB] <;> omega))
  by_cases hC : x = 95
  · exact .inr (.inr (.inl (by unfold Tests beginsB; refine ⟨?_, ?_, ?_, ?_, ?_, ?_, ?_, ?_, ?_, ?_, ?_⟩ <;> simp [inB, beginsB] <;> omega)))
  by_cases hD : 48 ≤ x ∧ x ≤ 57
  · exact .inr (.inr (.inr (.inl (by unfold Tests beginsB; refine ⟨?_, ?_, ?_, ?_, ?_, ?_, ?_, ?_, ?_, ?_, ?_⟩ <;> simp [inB, beginsB] <;> omega))))
  by_cases hE : x = 39
  · exact .inr (.inr (.inr (.inr (.inl (by unfold Tests beginsB; refine ⟨?_, ?_, ?_, ?_, ?_, ?_, ?_, ?_, ?_, ?_, ?_⟩ <;> simp [inB, beginsB] <;> omega)))))
  by_cases hF : x = 46
  · exact .inr (.inr (.inr (.inr (.inr (.inl (by unfold Tests beginsB; refine ⟨?_, ?_, ?_, ?_, ?_, ?_, ?_, ?_, ?_, ?_, ?_⟩ <;> simp [inB, beginsB] <;> omega))))))
  by_cases hG : x < 48
  · exact .inr (.inr (.inr (.inr (.inr (.inr (.inl (by unfold Tests beginsB; refine ⟨?_, ?_, ?_, ?_, ?_, ?_, ?_, ?_, ?_, ?_, ?_⟩ <;> simp [inB, beginsB] <;> omega)))))))
  by_cases hH : x ≤ 64
  · exact .inr (.inr (.inr (.inr (.inr (.inr (.inr (.inl (by unfold Tests beginsB; refine ⟨?_, ?_, ?_, ?_, ?_, ?_, ?_, ?_, ?_, ?_, ?_⟩ <;> simp [inB, beginsB] <;> omega))))))))
  by_cases hI : x ≤ 122
  · exact .inr (.inr (.inr (.inr (.inr (.inr (.inr (.inr (.inl (by unfold Tests beginsB; refine ⟨?_, ?_, ?_, ?_, ?_, ?_, ?_, ?_, ?_, ?_, ?_⟩ <;> simp [inB, beginsB] <;> omega)))))))))
  exact .inr (.inr (.inr (.inr (.inr (.inr (.inr (.inr (.inr ((by unfold Tests beginsB; refine ⟨?_, ?_, ?_, ?_, ?_, ?_, ?_, ?_, ?_, ?_, ?_⟩ <;> simp [inB, beginsB] <;> omega))))))))))

theorem isName_zero {s : ByteArray} (h0 : 0 < s.size) (h4 : s.size ≤ 40) : isNameB s = (beginsB (s[0].toNat : Int) && (s.data.toList.drop 1).all (fun c => inB (byteI c))) := by
  unfold isNameB
  rw [byte_getD s 0 h0, decide_eq_true h0, decide_eq_true h4]; rfl

set_option maxHeartbeats 8000000 in
theorem rIsName_any (s : ByteArray) (w : World) (hs : s.size ≤ maxLen) :
    Calls Tryz.prog 56 #[.string s] w fun e w' => e = .returned (.bool (isNameB s)) ∧ w = w' := by
  unfold maxLen at hs
  by_cases h0 : s.size = 0
  · have h1 : decide ((s.size : Int) < 1) = true := by simp [h0]
    have HF : Hid (isNameB s = false) := by unfold isNameB Hid; simp [h0]
    clear h0
    go_enter Tryz.func56, Tryz.ntmps56
    go_wp2_with fail
    go_ret
    exact ⟨ret_bool HF.out.symm, rfl⟩
  · have h0' : 0 < s.size := by omega
    have h1 : decide ((s.size : Int) < 1) = false := by simp; omega
    by_cases h4 : s.size ≤ 40
    · have h6 : decide (40 < (s.size : Int)) = false := by simp; omega
      have HZ := Lib.hid (isName_zero h0' h4)
      go_enter Tryz.func56, Tryz.ntmps56
      go_wp2_with fail
      go_loop [3] (fun i => ∃ k : Nat, k ≤ s.size ∧ i = .int .i64 k ∧ Hid (k = 0 ∨ 1 ≤ k ∧ isNameB s = (s.data.toList.drop k).all (fun c => inB (byteI c)))) (fun i => s.size - (intOf i).toNat)
      case atStart => exact ⟨0, by omega, rfl, .inl rfl⟩
      case round =>
        obtain ⟨k, hk, rfl, hI⟩ := hrel
        by_cases hlt : k < s.size
        · rcases hI.out with hk0 | ⟨hk1, hI1⟩
          · subst hk0
            clear hI
            rcases tests (s[0].toNat : Int) with ⟨d1, d2, d3, d4, d5, d6, d7, d8, d9, hl, hm⟩ | ⟨d1, d2, d3, d4, d5, d6, d7, d8, d9, hl, hm⟩ | ⟨d1, d2, d3, d4, d5, d6, d7, d8, d9, hl, hm⟩ | ⟨d1, d2, d3, d4, d5, d6, d7, d8, d9, hl, hm⟩ | ⟨d1, d2, d3, d4, d5, d6, d7, d8, d9, hl, hm⟩ | ⟨d1, d2, d3, d4, d5, d6, d7, d8, d9, hl, hm⟩ | ⟨d1, d2, d3, d4, d5, d6, d7, d8, d9, hl, hm⟩ | ⟨d1, d2, d3, d4, d5, d6, d7, d8, d9, hl, hm⟩ | ⟨d1, d2, d3, d4, d5, d6, d7, d8, d9, hl, hm⟩ | ⟨d1, d2, d3, d4, d5, d6, d7, d8, d9, hl, hm⟩
            all_goals
              have HL := Lib.hid hl
              clear hl hm
              go_wp2_with fail
              first
                | (have HN : Hid (isNameB s = (s.data.toList.drop 1).all (fun c => inB (byteI c))) := by
                    unfold Hid; rw [HZ.out, HL.out]; rfl
                   clear HL
                   go_round
                   case rel => exact ⟨1, by omega, rfl, .inr ⟨by omega, HN.out⟩⟩
                   case measure => simp [intOf]; omega)
                | (have HN : Hid (isNameB s = false) := by
                    unfold Hid; rw [HZ.out, HL.out]; rfl
                   clear HL
                   go_ret
                   exact ⟨ret_bool HN.out.symm, rfl⟩)
          · have hst : Hid ((s.data.toList.drop k).all (fun c => inB (byteI c)) = (inB (s[k].toNat : Int) && (s.data.toList.drop (k + 1)).all (fun c => inB (byteI c)))) := by
              unfold Hid
              rw [all_drop_succ _ _ _ (by simpa using hlt), byte_getD s k hlt]; rfl
            have HI1 := Lib.hid hI1
            have hk2 : ((k : Int) == 0) = false := by rw [beq_eq_false_iff_ne]; omega
            clear hI hI1
            rcases tests (s[k].toNat : Int) with ⟨d1, d2, d3, d4, d5, d6, d7, d8, d9, hl, hm⟩ | ⟨d1, d2, d3, d4, d5, d6, d7, d8, d9, hl, hm⟩ | ⟨d1, d2, d3, d4, d5, d6, d7, d8, d9, hl, hm⟩ | ⟨d1, d2, d3, d4, d5, d6, d7, d8, d9, hl, hm⟩ | ⟨d1, d2, d3, d4, d5, d6, d7, d8, d9, hl, hm⟩ | ⟨d1, d2, d3, d4, d5, d6, d7, d8, d9, hl, hm⟩ | ⟨d1, d2, d3, d4, d5, d6, d7, d8, d9, hl, hm⟩ | ⟨d1, d2, d3, d4, d5, d6, d7, d8, d9, hl, hm⟩ | ⟨d1, d2, d3, d4, d5, d6, d7, d8, d9, hl, hm⟩ | ⟨d1, d2, d3, d4, d5, d6, d7, d8, d9, hl, hm⟩
            all_goals
              have HM := Lib.hid hm
              clear hl hm
              go_wp2_with fail
              first
                | (have HN : Hid (isNameB s = (s.data.toList.drop (k + 1)).all (fun c => inB (byteI c))) := by
                    unfold Hid; rw [HI1.out, hst.out, HM.out]; rfl
                   clear HM hst
                   go_round
                   case rel => exact ⟨k + 1, by omega, by go_num, .inr ⟨by omega, HN.out⟩⟩
                   case measure => simp [intOf]; omega)
                | (have HN : Hid (isNameB s = false) := by
                    unfold Hid; rw [HI1.out, hst.out, HM.out]; rfl
                   clear HM hst
                   go_ret
                   exact ⟨ret_bool HN.out.symm, rfl⟩)
        · have hst2 : Hid (isNameB s = true) := by
            unfold Hid
            rcases hI.out with hk0 | ⟨hk1, hI1⟩
            · omega
            · rw [hI1, List.drop_eq_nil_of_le (by simp; omega)]; rfl
          clear hI
          go_wp2_with fail
          go_ret
          exact ⟨ret_bool hst2.out.symm, rfl⟩
    · have HI : Hid (isNameB s = false) := by unfold isNameB Hid; simp [h4]
      have h6 : decide (40 < (s.size : Int)) = true := by simp; omega
      clear h0 h4
      go_enter Tryz.func56, Tryz.ntmps56
      go_wp2_with fail
      go_ret
      exact ⟨ret_bool HI.out.symm, rfl⟩
end Go.Proofs.YtehnikgdjnmfcaaGreat
