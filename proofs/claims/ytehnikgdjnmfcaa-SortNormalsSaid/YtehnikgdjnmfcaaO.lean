/- signClasses. -/
import Derived.Test.YtehnikgdjnmfcaaN
import Derived.Laws.ResultCell
import Derived.Laws.Rows
namespace Go.Proofs.Ytehnikgdjnmfcaa
open Go.RowKit Go.WideMaps Go.Shelf

/-- classes in memory: names and superclasses -/
def ClsAt (w : World) (b off : Nat) (cs : List (Nm × List Nm)) : Prop :=
  ∀ k, k < cs.length → w.cell? ⟨b, off + k * 2, none⟩ = some (.string (bs (cs.getD k ([], [])).1)) ∧ (cs.getD k ([], [])).1.length ≤ maxLen ∧
    ∃ sa cap, w.cell? ⟨b, off + k * 2 + 1, none⟩ = some (.slice sa (cs.getD k ([], [])).2.length cap) ∧ SlS w (.slice sa (cs.getD k ([], [])).2.length cap) (cs.getD k ([], [])).2

/-- a slice of classes in memory -/
def SlC (w : World) (v : Value) (cs : List (Nm × List Nm)) : Prop :=
  cs.length ≤ maxLen ∧ ∃ a cap, v = .slice a cs.length cap ∧ (0 < cs.length → ∃ b off, a = some ⟨b, off, none⟩ ∧ b < w.heap.size ∧ ClsAt w b off cs)

theorem ClsAt.below {w w' : World} {B b off : Nat} {cs : List (Nm × List Nm)} (h : ClsAt w b off cs) (hb : Below B w w') (hB : w.heap.size ≤ B) (hbl : b < B) : ClsAt w' b off cs := by
  intro k hk
  obtain ⟨h1, h2, sa, cap, h3, h4⟩ := h k hk
  exact ⟨(hb.cell (p := ⟨b, _, none⟩) hbl).trans h1, h2, sa, cap, (hb.cell (p := ⟨b, _, none⟩) hbl).trans h3, h4.below hb hB⟩

theorem SlC.below {w w' : World} {B : Nat} {v : Value} {cs : List (Nm × List Nm)} (h : SlC w v cs) (hb : Below B w w') (hB : w.heap.size ≤ B) : SlC w' v cs := by
  obtain ⟨h1, a, cap, h2, h3⟩ := h
  refine ⟨h1, a, cap, h2, fun h => ?_⟩
  obtain ⟨b, off, h4, h5, h6⟩ := h3 h
  exact ⟨b, off, h4, by have := hb.size; omega, h6.below hb hB (by omega)⟩

/-- what is built of classes one by one: the indices of their superclasses, and all above them -/
inductive Built : List (Nm × List Nm) → List (List Nat) → List (List Nat) → Prop
  | nil : Built [] [] []
  | snoc {cs : List (Nm × List Nm)} {sp ab : List (List Nat)} {nm : Nm} {sups : List Nm} {ys : List Nat} : Built cs sp ab → classErr (cs.map Prod.fst) nm sups = 0 →
      (∀ x, x ∈ ys ↔ Reach (fun i => (sp ++ [sups.map (ixOf (cs.map Prod.fst))]).getD i []) cs.length x) →
      Built (cs ++ [(nm, sups)]) (sp ++ [sups.map (ixOf (cs.map Prod.fst))]) (ab ++ [ys])

theorem Built.len {cs : List (Nm × List Nm)} {sp ab : List (List Nat)} (h : Built cs sp ab) : sp.length = cs.length ∧ ab.length = cs.length := by
  induction h with
  | nil => exact ⟨rfl, rfl⟩
  | snoc _ _ _ ih => simp [ih.1, ih.2]

theorem classErr_zero {ns : List Nm} {nm : Nm} {sups : List Nm} (h : classErr ns nm sups = 0) : isNameB (bs nm) = true ∧ inNs ns nm = false ∧ sups.length ≤ 20 ∧ supErr ns sups = 0 := by
  unfold classErr at h
  by_cases h1 : isNameB (bs nm) = false
  · rw [if_pos h1] at h; exact absurd h (by decide)
  · rw [if_neg h1] at h
    by_cases h2 : inNs ns nm = true
    · rw [if_pos h2] at h; exact absurd h (by decide)
    · rw [if_neg h2] at h
      by_cases h3 : 20 < sups.length
      · rw [if_pos h3] at h; exact absurd h (by decide)
      · rw [if_neg h3] at h
        exact ⟨by simpa using h1, by simpa using h2, by omega, h⟩

theorem Built.lt {cs : List (Nm × List Nm)} {sp ab : List (List Nat)} (h : Built cs sp ab) : ∀ i, i < cs.length → ∀ s ∈ sp.getD i [], s < i := by
  induction h with
  | nil => intro i hi; simp at hi
  | @snoc cs sp ab nm sups ys hb he hy ih =>
    intro i hi s hs
    have hl := hb.len.1
    by_cases hin : i < cs.length
    · rw [getD_left sp _ i (by omega)] at hs
      exact ih i hin s hs
    · have hieq : i = sp.length := by simp at hi; omega
      rw [hieq, getD_last] at hs
      obtain ⟨t, ht, rfl⟩ := List.mem_map.1 hs
      have h2 := supErr_all _ _ (classErr_zero he).2.2.2 t ht
      have := ixOf_lt h2
      simp at this; omega

/-- the error of the classes from the k-th on -/
def clsErrFrom (cs : List (Nm × List Nm)) : Nat → Nat → Int
  | 0, _ => 0
  | f + 1, k => if classErr ((cs.take k).map Prod.fst) (cs.getD k ([], [])).1 (cs.getD k ([], [])).2 = 0 then clsErrFrom cs f (k + 1) else classErr ((cs.take k).map Prod.fst) (cs.getD k ([], [])).1 (cs.getD k ([], [])).2

def clsErr (cs : List (Nm × List Nm)) : Int := if 300 < cs.length then 5 else clsErrFrom cs cs.length 0

theorem mapAt_empty {w : World} {b : Nat} (h : w.heap[b]? = some (.map #[] 0)) : MapAt w b [] := by
  refine ⟨.map [], Maps.isMap_empty, ⟨#[], 0, h, ⟨by simp, Go.MapKept.stamped_empty 0, by simp⟩, Nat.le_refl _, rfl⟩, fun s => ⟨by simp [inNs, Maps.has], by simp [ixOf, DataW.atKey]⟩⟩

theorem run_mk (W : World) (n : Nat) : (Instr.makeMap 61 (some (.int .i64 (n : Int)))).run Try.prog W = .ok (.map (some W.heap.size)) (W.alloc (.map #[] 0)) := by
  simp [Instr.makeMap, run_underlying Try.underlying61, asInt, asIntOf, Result.andThen]

def SignPost (w : World) (cs : List (Nm × List Nm)) (e : Ending) (w' : World) : Prop :=
  ∃ mb a1 n1 k1 a2 n2 k2, e = .returned (.tuple #[.agg #[.map mb, .slice a1 n1 k1, .slice a2 n2 k2, .slice none 0 0, .map none, .map none], .int .i64 (clsErr cs)]) ∧ Below w.heap.size w w' ∧
    (clsErr cs = 0 → ∃ sp ab, Built cs sp ab ∧ SigAt w' (.agg #[.map mb, .slice a1 n1 k1, .slice a2 n2 k2, .slice none 0 0, .map none, .map none]) (cs.map Prod.fst) (fun i => ab.getD i []))

theorem results_row_tmp {P : Program} {fn : Func} {p u : Tmp} {ty : TypeId} (h : fn.results = #[.cell p ty, .tmp u]) (tmps : Array Value) (w : World) (g : Nat) (t : TypeId) (cs : Array Value) (fr : Nat × Nat) (d : TypeDesc)
    (hp : tmps.getD p undef = .pointer (some ⟨g, 0, none⟩)) (hg : w.heap[g]? = some (.cells cs t fr))
    (hu : P.underlying ty = some d) (hd : (match d with | .struct _ | .array _ _ => true | _ => false) = true) (hi : (P.info? ty).map (·.size) = some cs.size) :
    (results fn tmps).run P w = .ok (.tuple #[.agg cs, tmps.getD u undef]) w := by
  have hp' : tmps[p]?.getD undef = .pointer (some ⟨g, 0, none⟩) := by simpa using hp
  rw [results_cell_tmp h]
  simp [hp', asAddr, run_loadVar_row w g t ty cs fr d hg hu hd hi]

set_option maxRecDepth 100000 in
set_option maxHeartbeats 4000000 in
theorem signClasses_many (sa : Option Addr) (n scap : Nat) (w : World) (h : 300 < n) :
    Calls Try.prog 37 #[.slice sa n scap] w fun e w' => e = .returned (.tuple #[.agg #[.map none, .slice none 0 0, .slice none 0 0, .slice none 0 0, .map none, .map none], .int .i64 5]) ∧ Below w.heap.size w w' := by
  have h1 : decide (300 < ((n : Nat) : Int)) = true := by simp; omega
  go_enter Try.func37, Try.ntmps37
  go_wp2_with fail
  refine bodyPost_ret (results_row_tmp rfl _ _ w.heap.size 66 #[.map none, .slice none 0 0, .slice none 0 0, .slice none 0 0, .map none, .map none] (0, 0) _ rfl (heap_alloc_new _ _) Try.underlying66 rfl (by kernel_rfl)) rfl ?_
  exact ⟨rfl, below_alloc _ _⟩

theorem GAt.below {w w' : World} {B gb : Nat} {ns : List Nm} {sp ab : List (List Nat)} (h : GAt B w gb ns sp ab) (hb : Below w.heap.size w w') : GAt B w' gb ns sp ab := by
  obtain ⟨h1, h2, h3, h4, bm, sv, av, rs, xs, h5, h6, h7, h8, h9, h10, h11⟩ := h
  exact ⟨h1, by have := hb.size; omega, h3, h4, bm, sv, av, rs, xs, (hb.block gb h2).trans h5, h6, h7.below hb h7.lt, ownsRow_below h8 hb (Nat.le_refl _), fun i hi => ⟨(h9 i hi).1, ownsRow_below (h9 i hi).2 hb (Nat.le_refl _)⟩, ownsRow_below h10 hb (Nat.le_refl _), h11⟩

theorem row6 {w : World} {g : Nat} {a0 a1 a2 a3 a4 a5 v0 v1 v2 v3 v4 v5 : Value} {t : TypeId} (h : w.heap[g]? = some (.cells #[a0, a1, a2, a3, a4, a5] t (0, 0))) :
    ((((((w.setCell ⟨g, 0, none⟩ v0).setCell ⟨g, 1, none⟩ v1).setCell ⟨g, 2, none⟩ v2).setCell ⟨g, 3, none⟩ v3).setCell ⟨g, 4, none⟩ v4).setCell ⟨g, 5, none⟩ v5).heap[g]? = some (.cells #[v0, v1, v2, v3, v4, v5] t (0, 0)) :=
  heap_setCell_same _ g 5 _ t _ (heap_setCell_same _ g 4 _ t _ (heap_setCell_same _ g 3 _ t _ (heap_setCell_same _ g 2 _ t _ (heap_setCell_same _ g 1 _ t _ (heap_setCell_same _ g 0 _ t _ h)))))

theorem below6 {w0 w : World} {g B : Nat} {v0 v1 v2 v3 v4 v5 : Value} (h : Below B w0 w) (hg : B ≤ g) :
    Below B w0 ((((((w.setCell ⟨g, 0, none⟩ v0).setCell ⟨g, 1, none⟩ v1).setCell ⟨g, 2, none⟩ v2).setCell ⟨g, 3, none⟩ v3).setCell ⟨g, 4, none⟩ v4).setCell ⟨g, 5, none⟩ v5) :=
  (((((h.setCell (p := ⟨g, 0, none⟩) hg _).setCell (p := ⟨g, 1, none⟩) hg _).setCell (p := ⟨g, 2, none⟩) hg _).setCell (p := ⟨g, 3, none⟩) hg _).setCell (p := ⟨g, 4, none⟩) hg _).setCell (p := ⟨g, 5, none⟩) hg _

theorem step6 {w : World} {g : Nat} {a0 a1 a2 a3 a4 a5 v0 v1 v2 v3 v4 v5 : Value} {t : TypeId} (h : w.heap[g]? = some (.cells #[a0, a1, a2, a3, a4, a5] t (0, 0))) :
    StepT [t] w ((((((w.setCell ⟨g, 0, none⟩ v0).setCell ⟨g, 1, none⟩ v1).setCell ⟨g, 2, none⟩ v2).setCell ⟨g, 3, none⟩ v3).setCell ⟨g, 4, none⟩ v4).setCell ⟨g, 5, none⟩ v5) := by
  have h0 := heap_setCell_same _ g 0 _ t v0 h
  have h1 := heap_setCell_same _ g 1 _ t v1 h0
  have h2 := heap_setCell_same _ g 2 _ t v2 h1
  have h3 := heap_setCell_same _ g 3 _ t v3 h2
  have h4 := heap_setCell_same _ g 4 _ t v4 h3
  exact (StepT.set h (by simp)).trans ((StepT.set h0 (by simp)).trans ((StepT.set h1 (by simp)).trans ((StepT.set h2 (by simp)).trans ((StepT.set h3 (by simp)).trans (StepT.set h4 (by simp))))))

theorem abv_of {w : World} {B n c : Nat} {s : Option Addr} {xs : List Value} {ab : List (List Nat)} (h : w.ownsRow B 96 5 (.slice s n c) n xs) (hx : ∀ i, i < n → ∀ j, j < 5 → xs[i * 5 + j]? = some (.int .u64 ((wordsOf (ab.getD i []) j : Nat) : Int))) :
    AbvAt w s (fun i => ab.getD i []) n := by
  intro hn
  rcases h.2 with ⟨_, h0⟩ | ⟨g, cap, cur, e, _, hh, _⟩
  · omega
  · injection e with e1 _ e3
    subst e1
    refine ⟨g, 0, rfl, (Array.getElem?_eq_some_iff.1 hh).1, fun i hi j hj => ?_⟩
    have hl : xs.length = n * 5 := h.1
    have hij : i * 5 + j < n * 5 := by omega
    rw [Nat.zero_add]
    exact ⟨(h.cellAt (i * 5 + j) (by omega)).trans (hx i hi j hj), h.frozenAt _, wordsOf_lt _ _⟩

set_option maxRecDepth 100000 in
set_option maxHeartbeats 4000000 in
theorem signClasses_few (sa : Option Addr) (scap : Nat) (cs : List (Nm × List Nm)) (w : World) (hs : SlC w (.slice sa cs.length scap) cs) (h : cs.length ≤ 300) :
    Calls Try.prog 37 #[.slice sa cs.length scap] w (SignPost w cs) := by
  have h1 : decide (300 < ((cs.length : Nat) : Int)) = false := by simp; omega
  have HS := Lib.hid hs
  clear hs
  have hmk := run_mk
  go_enter Try.func37, Try.ntmps37
  go_wp2_with fail
  generalize hW0 : (((w.alloc (Obj.cells #[.map none, .slice none 0 0, .slice none 0 0, .slice none 0 0, .map none, .map none] 66)).alloc (Obj.map #[] 0)).alloc (Obj.cells #[.map (some (w.heap.size + 1)), .slice none 0 0, .slice none 0 0, .slice none 0 0, .map none, .map none] 66)) = W0
  have hbW : Below w.heap.size w W0 := by rw [← hW0]; exact (((Below.refl _ w).alloc (Nat.le_refl _) _).alloc (by simp) _).alloc (by simp; omega) _
  have hz0 : W0.heap.size = w.heap.size + 3 := by rw [← hW0]; simp
  have hr0 : W0.heap[w.heap.size]? = some (.cells #[.map none, .slice none 0 0, .slice none 0 0, .slice none 0 0, .map none, .map none] 66 (0, 0)) := by
    rw [← hW0]; exact ((below_alloc _ _).block _ (by simp; omega)).trans (heap_alloc2_old _ _ _)
  have hmap0 : W0.heap[w.heap.size + 1]? = some (.map #[] 0) := by
    rw [← hW0]; exact ((below_alloc _ _).block _ (by simp)).trans (heap_alloc2_new _ _ _)
  have hg0 : W0.heap[w.heap.size + 1 + 1]? = some (.cells #[.map (some (w.heap.size + 1)), .slice none 0 0, .slice none 0 0, .slice none 0 0, .map none, .map none] 66 (0, 0)) := by
    rw [← hW0]
    have e : w.heap.size + 1 + 1 = ((w.alloc (Obj.cells #[.map none, .slice none 0 0, .slice none 0 0, .slice none 0 0, .map none, .map none] 66)).alloc (Obj.map #[] 0)).heap.size := by simp
    rw [e, heap_alloc_new]
  have HG0 : Hid (GAt (w.heap.size + 1) W0 (w.heap.size + 1 + 1) [] [] []) := by
    refine ⟨by omega, by omega, rfl, rfl, w.heap.size + 1, .slice none 0 0, .slice none 0 0, [], [], hg0, by omega, mapAt_empty hmap0, World.ownsRow_nil _ _ _ _, fun i hi => by simp at hi, World.ownsRow_nil _ _ _ _, fun i hi => by simp at hi⟩
  have HR0 := Lib.hid hr0
  have HE0 : Hid (clsErr cs = clsErrFrom cs (cs.length - 0) 0) := by unfold Hid clsErr; rw [if_neg (by omega)]; rfl
  have HB0 : Hid (Built (cs.take 0) [] []) := by unfold Hid; rw [List.take_zero]; exact .nil
  clear hW0 hr0 hmap0 hg0 hmk
  go_loopw [18] (fun i wr => ∃ (k : Nat) (sp ab : List (List Nat)), k ≤ cs.length ∧ i = .int .i64 k ∧ Hid (Built (cs.take k) sp ab) ∧ Hid (GAt (w.heap.size + 1) wr (w.heap.size + 1 + 1) ((cs.take k).map Prod.fst) sp ab) ∧ Below (w.heap.size + 1) W0 wr ∧ Hid (clsErr cs = clsErrFrom cs (cs.length - k) k)) (fun i _ => cs.length - (intOf i).toNat)
  case atStart => exact ⟨0, [], [], by omega, rfl, HB0, HG0, Below.refl _ _, HE0⟩
  case round =>
    obtain ⟨k, sp, ab, hk, rfl, hBu, hG, hB, hE⟩ := hrel
    have hz : w.heap.size + 3 ≤ wr.heap.size := by have := hB.size; omega
    have hBw : Below w.heap.size w wr := hbW.trans (hB.mono (by omega))
    by_cases hlt : k < cs.length
    · obtain ⟨_, a', cap', hee, hsx⟩ := HS.out.below hBw (Nat.le_refl _)
      injection hee with hee _ hee2
      subst hee
      subst hee2
      obtain ⟨b, off, rfl, hb, hc⟩ := hsx (by omega)
      obtain ⟨g0, hnl, sa', scap', g1, hsl⟩ := hc k hlt
      have htake : Hid (cs.take (k + 1) = cs.take k ++ [cs.getD k ([], [])]) := take_snocD cs ([], []) k hlt
      have hstep : Hid (clsErr cs = if classErr ((cs.take k).map Prod.fst) (cs.getD k ([], [])).1 (cs.getD k ([], [])).2 = 0 then clsErrFrom cs (cs.length - (k + 1)) (k + 1) else classErr ((cs.take k).map Prod.fst) (cs.getD k ([], [])).1 (cs.getD k ([], [])).2) := by
        unfold Hid; rw [hE.out]
        have : cs.length - k = (cs.length - (k + 1)) + 1 := by omega
        rw [this]; rfl
      clear hc hsx hE
      generalize cs.getD k ([], []) = x at *
      obtain ⟨nm, sups⟩ := x
      simp only at g0 g1 hnl hsl
      have HC := Lib.hid (callsIn_wide.1 (addClass_any (w.heap.size + 1) (w.heap.size + 1 + 1) nm sa' scap' sups ((cs.take k).map Prod.fst) sp ab (wr.alloc (Obj.cells #[.string (bs nm), .slice sa' sups.length scap'] 56)) (by simp; omega)
        (by simp; omega) (GAt.below hG.out (below_alloc _ _)) (by have := hBu.out.lt; simpa using this) (hsl.below (below_alloc _ _) (Nat.le_refl _)) hnl))
      by_cases hz0 : classErr ((cs.take k).map Prod.fst) nm sups = 0
      · have hst2 : Hid (clsErr cs = clsErrFrom cs (cs.length - (k + 1)) (k + 1)) := by unfold Hid; rw [hstep.out, if_pos hz0]
        rw [hz0] at HC
        clear hstep hG
        go_wp2_with fail
        refine HC.out.mono ?_
        rintro e w1 ⟨rfl, hb1, hk1⟩
        have HK := Lib.hid hk1
        clear hk1 HC
        go_wp2_with fail
        go_roundw
        case rel =>
          obtain ⟨ys, hy, hg⟩ := HK.out trivial
          refine ⟨k + 1, sp ++ [sups.map (ixOf ((cs.take k).map Prod.fst))], ab ++ [ys], by omega, by go_num, ?_, ?_, hB.trans ((Below.alloc (Below.refl _ _) (by omega) _).trans hb1), hst2⟩
          · unfold Hid; rw [htake.out]
            exact .snoc hBu.out hz0 (by simpa using hy)
          · unfold Hid; rw [htake.out, List.map_append]; exact hg
        case measure => simp [intOf]; omega
      · have hst2 : Hid (clsErr cs = classErr ((cs.take k).map Prod.fst) nm sups) := by unfold Hid; rw [hstep.out, if_neg hz0]
        generalize hce : classErr ((cs.take k).map Prod.fst) nm sups = ce at *
        clear hstep hG
        have hdz : decide (ce = 0) = false := by simpa using hz0
        go_wp2_with fail
        refine HC.out.mono ?_
        rintro e w1 ⟨rfl, hb1, _⟩
        have hrow : w1.heap[w.heap.size]? = some (.cells #[.map none, .slice none 0 0, .slice none 0 0, .slice none 0 0, .map none, .map none] 66 (0, 0)) :=
          (hb1.block _ (by simp)).trans (((below_alloc _ _).block _ (by omega)).trans ((hB.block _ (by omega)).trans HR0.out))
        have q0 : w1.cell? ⟨w.heap.size, 0, none⟩ = some (.map none) := by rw [cell_of_row w1 _ 0 _ _ _ hrow]; rfl
        have q1 : w1.cell? ⟨w.heap.size, 1, none⟩ = some (.slice none 0 0) := by rw [cell_of_row w1 _ 1 _ _ _ hrow]; rfl
        have q2 : w1.cell? ⟨w.heap.size, 2, none⟩ = some (.slice none 0 0) := by rw [cell_of_row w1 _ 2 _ _ _ hrow]; rfl
        have q3 : w1.cell? ⟨w.heap.size, 3, none⟩ = some (.slice none 0 0) := by rw [cell_of_row w1 _ 3 _ _ _ hrow]; rfl
        have q4 : w1.cell? ⟨w.heap.size, 4, none⟩ = some (.map none) := by rw [cell_of_row w1 _ 4 _ _ _ hrow]; rfl
        have q5 : w1.cell? ⟨w.heap.size, 5, none⟩ = some (.map none) := by rw [cell_of_row w1 _ 5 _ _ _ hrow]; rfl
        have f0 : w1.frozen? ⟨w.heap.size, 0, none⟩ = false := frozen_of_row w1 _ 0 _ _ hrow
        have f1 : w1.frozen? ⟨w.heap.size, 1, none⟩ = false := frozen_of_row w1 _ 1 _ _ hrow
        have f2 : w1.frozen? ⟨w.heap.size, 2, none⟩ = false := frozen_of_row w1 _ 2 _ _ hrow
        have f3 : w1.frozen? ⟨w.heap.size, 3, none⟩ = false := frozen_of_row w1 _ 3 _ _ hrow
        have f4 : w1.frozen? ⟨w.heap.size, 4, none⟩ = false := frozen_of_row w1 _ 4 _ _ hrow
        have f5 : w1.frozen? ⟨w.heap.size, 5, none⟩ = false := frozen_of_row w1 _ 5 _ _ hrow
        clear HC
        go_wp2_with fail
        refine bodyPost_ret (results_row_tmp rfl _ _ w.heap.size 66 #[.map none, .slice none 0 0, .slice none 0 0, .slice none 0 0, .map none, .map none] (0, 0) _ rfl (row6 hrow) Try.underlying66 rfl (by kernel_rfl)) rfl ?_
        refine ⟨none, none, 0, 0, none, 0, 0, by rw [hst2.out]; rfl, ?_, fun e0 => absurd (hst2.out.symm.trans e0) hz0⟩
        exact below6 (hBw.trans (((Below.refl _ _).alloc (by omega) _).trans (hb1.mono (by omega)))) (Nat.le_refl _)
    · have hkk : k = cs.length := by omega
      subst hkk
      have hce : Hid (clsErr cs = 0) := by unfold Hid; rw [hE.out, Nat.sub_self]; rfl
      rw [List.take_length] at hBu hG
      obtain ⟨k1, k2, k3, k4, bm, sv, av, rs, xs, hgo, k5, hm, hsv, hrows, hav, hxs⟩ := hG.out
      obtain ⟨s1, c1, rfl⟩ := ownsRow_form hsv
      obtain ⟨s2, c2, rfl⟩ := ownsRow_form hav
      have hrow : wr.heap[w.heap.size]? = some (.cells #[.map none, .slice none 0 0, .slice none 0 0, .slice none 0 0, .map none, .map none] 66 (0, 0)) :=
        (hB.block _ (by omega)).trans HR0.out
      have p0 : wr.cell? ⟨w.heap.size + 1 + 1, 0, none⟩ = some (.map (some bm)) := by rw [cell_of_row wr _ 0 _ _ _ hgo]; rfl
      have p1 : wr.cell? ⟨w.heap.size + 1 + 1, 1, none⟩ = some (.slice s1 (cs.map Prod.fst).length c1) := by rw [cell_of_row wr _ 1 _ _ _ hgo]; rfl
      have p2 : wr.cell? ⟨w.heap.size + 1 + 1, 2, none⟩ = some (.slice s2 (cs.map Prod.fst).length c2) := by rw [cell_of_row wr _ 2 _ _ _ hgo]; rfl
      have p3 : wr.cell? ⟨w.heap.size + 1 + 1, 3, none⟩ = some (.slice none 0 0) := by rw [cell_of_row wr _ 3 _ _ _ hgo]; rfl
      have p4 : wr.cell? ⟨w.heap.size + 1 + 1, 4, none⟩ = some (.map none) := by rw [cell_of_row wr _ 4 _ _ _ hgo]; rfl
      have p5 : wr.cell? ⟨w.heap.size + 1 + 1, 5, none⟩ = some (.map none) := by rw [cell_of_row wr _ 5 _ _ _ hgo]; rfl
      have q0 : wr.cell? ⟨w.heap.size, 0, none⟩ = some (.map none) := by rw [cell_of_row wr _ 0 _ _ _ hrow]; rfl
      have q1 : wr.cell? ⟨w.heap.size, 1, none⟩ = some (.slice none 0 0) := by rw [cell_of_row wr _ 1 _ _ _ hrow]; rfl
      have q2 : wr.cell? ⟨w.heap.size, 2, none⟩ = some (.slice none 0 0) := by rw [cell_of_row wr _ 2 _ _ _ hrow]; rfl
      have q3 : wr.cell? ⟨w.heap.size, 3, none⟩ = some (.slice none 0 0) := by rw [cell_of_row wr _ 3 _ _ _ hrow]; rfl
      have q4 : wr.cell? ⟨w.heap.size, 4, none⟩ = some (.map none) := by rw [cell_of_row wr _ 4 _ _ _ hrow]; rfl
      have q5 : wr.cell? ⟨w.heap.size, 5, none⟩ = some (.map none) := by rw [cell_of_row wr _ 5 _ _ _ hrow]; rfl
      have f0 : wr.frozen? ⟨w.heap.size, 0, none⟩ = false := frozen_of_row wr _ 0 _ _ hrow
      have f1 : wr.frozen? ⟨w.heap.size, 1, none⟩ = false := frozen_of_row wr _ 1 _ _ hrow
      have f2 : wr.frozen? ⟨w.heap.size, 2, none⟩ = false := frozen_of_row wr _ 2 _ _ hrow
      have f3 : wr.frozen? ⟨w.heap.size, 3, none⟩ = false := frozen_of_row wr _ 3 _ _ hrow
      have f4 : wr.frozen? ⟨w.heap.size, 4, none⟩ = false := frozen_of_row wr _ 4 _ _ hrow
      have f5 : wr.frozen? ⟨w.heap.size, 5, none⟩ = false := frozen_of_row wr _ 5 _ _ hrow
      have HM := Lib.hid hm
      have HAV := Lib.hid hav
      have HXS := Lib.hid hxs
      clear hm hsv hrows hav hxs hgo HG0
      go_wp2_with fail
      rw [List.length_map] at HAV HXS k3 k4
      have hS6 := step6 (v0 := .map (some bm)) (v1 := .slice s1 cs.length c1) (v2 := .slice s2 cs.length c2) (v3 := .slice none 0 0) (v4 := .map none) (v5 := .map none) hrow
      refine bodyPost_ret (results_row_tmp rfl _ _ w.heap.size 66 #[.map (some bm), .slice s1 cs.length c1, .slice s2 cs.length c2, .slice none 0 0, .map none, .map none] (0, 0) _ rfl (row6 hrow) Try.underlying66 rfl (by kernel_rfl)) rfl ?_
      refine ⟨some bm, s1, cs.length, c1, s2, cs.length, c2, by rw [hce.out]; rfl, below6 hBw (Nat.le_refl _), fun _ => ⟨sp, ab, hBu.out, by simpa using h, bm, .slice s1 cs.length c1, s2, c2, .slice none 0 0, .map none, .map none, by rw [List.length_map], hS6.map HM.out, ?_⟩⟩
      rw [List.length_map]
      exact abv_of (hS6.own HAV.out (by decide)) HXS.out

theorem signClasses_any (v : Value) (cs : List (Nm × List Nm)) (w : World) (hs : SlC w v cs) : Calls Try.prog 37 #[v] w (SignPost w cs) := by
  obtain ⟨h1, sa, scap, rfl, h2⟩ := hs
  by_cases h : cs.length ≤ 300
  · exact signClasses_few sa scap cs w ⟨h1, sa, scap, rfl, h2⟩ h
  · have e : clsErr cs = 5 := by unfold clsErr; rw [if_pos (by omega)]
    refine (signClasses_many sa cs.length scap w (by omega)).mono ?_
    rintro _ w' ⟨rfl, hb⟩
    exact ⟨none, none, 0, 0, none, 0, 0, by rw [e], hb, fun h0 => absurd (e.symm.trans h0) (by decide)⟩
end Go.Proofs.Ytehnikgdjnmfcaa
