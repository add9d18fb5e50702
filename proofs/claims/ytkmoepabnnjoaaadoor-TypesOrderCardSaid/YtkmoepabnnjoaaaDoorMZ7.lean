/- addClass. -/
import Derived.Test.YtkmoepabnnjoaaaDoorMZ6
import Derived.Deep.QuietTactic
import Derived.Deep.RegionLaw
import Derived.Deep.AppendLies
import Derived.StillTailTactics
import Derived.Deep.CutRange
import Derived.Deep.RegionHeld3
import Derived.Stop.RegionWithIn
import Derived.BigQuiet
import Derived.Laws.ResultCell
import Derived.Laws.Rows
namespace Go.Proofs.YtkmoepabnnjoaaaDoor
open Go.RowKit Go.WideMaps Go.Shelf
attribute [local go_sem] Oper.semAt_some

/-- the error of the k-th superclass of a class behind some classes -/
def supE (ns sups : List Nm) (k : Nat) : Int :=
  if inNs ns (sups.getD k []) then (if 0 < k ∧ (!Op.bytesLess (bs (sups.getD (k - 1) [])).toList (bs (sups.getD k [])).toList) = true then 17 else 0) else 9
def supErrFrom (ns sups : List Nm) : Nat → Nat → Int
  | 0, _ => 0
  | f + 1, k => if supE ns sups k = 0 then supErrFrom ns sups f (k + 1) else supE ns sups k
def supErr (ns sups : List Nm) : Int := supErrFrom ns sups sups.length 0

theorem cell_one_new_l (w : World) (v : Value) (t : TypeId) : (w.alloc (.cells #[v] t)).cell? ⟨w.heap.size, 0, none⟩ = some v := by
  rw [cell_of_row _ w.heap.size 0 #[v] t (0, 0) (World.alloc_heap_new w _)]; rfl

/-- behind a turn of the map every cell is as it was -/
theorem MapAt.turned {w w' : World} {b : Nat} {ns : List Nm} (h : MapAt w b ns) (hg : w.grownBy w' (some b)) {k : Nat} {o : Obj} (hk : w.heap[k]? = some o) (ho : o.isCells = true) : w'.heap[k]? = some o := by
  obtain ⟨D, _, ⟨es, cl, e1, _⟩, _⟩ := h
  rw [hg.block k (Array.getElem?_eq_some_iff.1 hk).1 (fun e => by injection e with e; subst e; rw [e1] at hk; cases hk; cases ho)]
  exact hk
theorem MapAt.cellT {w w' : World} {b : Nat} {ns : List Nm} (h : MapAt w b ns) (hg : w.grownBy w' (some b)) {a : Addr} {v : Value} (hv : w.cell? a = some v) : w'.cell? a = some v := by
  obtain ⟨o, h1, h2⟩ := cells_of_cell hv
  exact (World.cell?_of_block ((h.turned hg h1 h2).trans h1.symm)).trans hv
theorem MapAt.rowT {w w' : World} {b : Nat} {ns : List Nm} (h : MapAt w b ns) (hg : w.grownBy w' (some b)) {base : Nat} {e : TypeId} {size n : Nat} {v : Value} {xs : List Value} (hr : w.ownsRow base e size v n xs) : w'.ownsRow base e size v n xs := by
  refine ⟨hr.1, ?_⟩
  rcases hr.2 with h2 | ⟨g, cap, cur, hv, hg', hh, r⟩
  · exact .inl h2
  · exact .inr ⟨g, cap, cur, hv, hg', h.turned hg hh rfl, r⟩

theorem Tryd.info67 : (Tryd.prog.info? 67).map (fun i => (i.zero, i.size, i.bytes)) = some (some (.slice none 0 0), 1, 24) := by kernel_rfl
theorem keep_c {w : World} {o : Obj} {a : Addr} {v : Value} (h : w.cell? a = some v) : (w.alloc o).drew.cell? a = some v := ((below_alloc w o).drew.cell (p := a) (lt_of_cell h)).trans h
theorem keep_f {w : World} {o : Obj} {a : Addr} {v : Value} {f : Bool} (h : w.cell? a = some v) (hf : w.frozen? a = f) : (w.alloc o).drew.frozen? a = f := ((below_alloc w o).drew.frozen (p := a) (lt_of_cell h)).trans hf

theorem ownBlock_ne {w : World} {base : Nat} {e t : TypeId} {size n k : Nat} {v : Value} {xs : List Value} {cs : Array Value} {fr : Nat × Nat} (h : w.ownsRow base e size v n xs) (hk : w.heap[k]? = some (.cells cs t fr)) (hne : t ≠ e) : some k ≠ v.ownBlock := by
  rcases h.2 with ⟨e', _⟩ | ⟨g', cap', cur', e', hg', hh, _⟩
  · rw [e']; simp [Value.ownBlock]
  · rw [e']
    intro e2
    injection e2 with e2
    subst e2
    rw [hk] at hh
    injection hh with hh
    injection hh with _ hh _
    exact hne hh

theorem getD_left (l : List (List Nat)) (x : List Nat) (i : Nat) (h : i < l.length) : (l ++ [x]).getD i [] = l.getD i [] := by
  rw [List.getD_eq_getElem?_getD, List.getElem?_append_left h, ← List.getD_eq_getElem?_getD]
theorem getD_leftV (l : List Value) (x : Value) (i : Nat) (h : i < l.length) : (l ++ [x]).getD i undef = l.getD i undef := by
  rw [List.getD_eq_getElem?_getD, List.getElem?_append_left h, ← List.getD_eq_getElem?_getD]
theorem getD_last (l : List (List Nat)) (x : List Nat) : (l ++ [x]).getD l.length [] = x := by simp
theorem getD_lastV (l : List Value) (x : Value) : (l ++ [x]).getD l.length undef = x := by simp
theorem ownsRow_block {w w' : World} {base g n cap size : Nat} {e : TypeId} {xs : List Value} (h : w.ownsRow base e size (.slice (some ⟨g, 0, none⟩) n cap) n xs) (hb : w'.heap[g]? = w.heap[g]?) : w'.ownsRow base e size (.slice (some ⟨g, 0, none⟩) n cap) n xs := by
  refine ⟨h.1, ?_⟩
  rcases h.2 with ⟨h', _⟩ | ⟨g', cap', cur, h', hg, hh, r⟩
  · cases h'
  · cases h'; exact .inr ⟨g, cap, cur, rfl, hg, hb.trans hh, r⟩
theorem supErr_all (ns sups : List Nm) (h : supErr ns sups = 0) : ∀ s ∈ sups, inNs ns s = true := by
  have key : ∀ f k, k + f = sups.length → supErrFrom ns sups f k = 0 → ∀ i, k ≤ i → i < sups.length → inNs ns (sups.getD i []) = true := by
    intro f
    induction f with
    | zero => intro k hk _ i h1 h2; omega
    | succ f ih =>
      intro k hk h0 i h1 h2
      unfold supErrFrom at h0
      by_cases hz : supE ns sups k = 0
      · rw [if_pos hz] at h0
        by_cases he : i = k
        · subst he
          unfold supE at hz
          by_cases hin : inNs ns (sups.getD i []) = true
          · exact hin
          · rw [if_neg hin] at hz; cases hz
        · exact ih (k + 1) (by omega) h0 i (by omega) h2
      · rw [if_neg hz] at h0; exact absurd h0 hz
  intro s hs
  obtain ⟨i, hi, rfl⟩ := List.getElem_of_mem hs
  have := key sups.length 0 (by omega) h i (by omega) hi
  rwa [List.getD_eq_getElem?_getD, List.getElem?_eq_getElem hi] at this

theorem still_tail {P : Program} {id : Nat} {Q : Exit → Act → World → Prop} {a : Act} {w : World} {l : List Oper} (n : Nat) (hm : P.follows .mixedOrders = true) (hB : Region.lexTailB .any l.toArray n = true)
    (h : ∀ w2, w2 = w.drew → wpStill P l.toArray w2 (fun a' => wpList P l.toArray Q (l.drop n) a' w2) (l.take n) a) : (Code.region id l.toArray true).wp P Q a w :=
  wp_region_still_tail n hm hB (h _ rfl)

theorem ownsRow_below {w w' : World} {B base : Nat} {e : TypeId} {size n : Nat} {v : Value} {xs : List Value} (h : w.ownsRow base e size v n xs) (hb : Below B w w') (hB : w.heap.size ≤ B) : w'.ownsRow base e size v n xs := by
  refine ⟨h.1, ?_⟩
  rcases h.2 with h2 | ⟨g, cap, cur, hv, hg, hh, r⟩
  · exact .inl h2
  · exact .inr ⟨g, cap, cur, hv, hg, (hb.block g (by have := (Array.getElem?_eq_some_iff.1 hh).1; omega)).trans hh, r⟩
theorem ownsRow_base {w : World} {b b' : Nat} {e : TypeId} {size n : Nat} {v : Value} {xs : List Value} (h : w.ownsRow b e size v n xs) (hb : b' ≤ b) : w.ownsRow b' e size v n xs := by
  refine ⟨h.1, ?_⟩
  rcases h.2 with h2 | ⟨g, cap, cur, hv, hg, r⟩
  · exact .inl h2
  · exact .inr ⟨g, cap, cur, hv, by omega, r⟩
theorem ownsRow_form {w : World} {b : Nat} {e : TypeId} {size n : Nat} {v : Value} {xs : List Value} (h : w.ownsRow b e size v n xs) : ∃ a cap, v = .slice a n cap := by
  rcases h.2 with ⟨e, e2⟩ | ⟨g, cap, cur, hv, _⟩
  · exact ⟨none, 0, by rw [e, e2]⟩
  · exact ⟨_, _, hv⟩

theorem ownBlock_ge {w : World} {base : Nat} {e : TypeId} {size n : Nat} {v : Value} {xs : List Value} (h : w.ownsRow base e size v n xs) {r : Nat} (hr : v.ownBlock = some r) : base ≤ r := by
  rcases h.2 with ⟨e', _⟩ | ⟨g', cap', cur', e', hg', _⟩
  · rw [e'] at hr; cases hr
  · rw [e'] at hr; injection hr with hr; simp at hr; omega

theorem two_boxes (w : World) (A B : Array Value) (tA tB : TypeId) (q : Nat) {j : Nat} :
    (((w.alloc (.cells A tA)).alloc (.cells B tB)).drewN q).cell? ⟨w.heap.size, j, none⟩ = A[j]? ∧ (((w.alloc (.cells A tA)).alloc (.cells B tB)).drewN q).cell? ⟨w.heap.size + 1, j, none⟩ = B[j]? :=
  ⟨cell_of_row _ _ j A tA (0, 0) (heap_alloc2_old w (.cells A tA) (.cells B tB)), cell_of_row _ _ j B tB (0, 0) (heap_alloc2_new w (.cells A tA) (.cells B tB))⟩

theorem MapAt.drewN {w : World} {b : Nat} {ns : List Nm} (h : MapAt w b ns) (q : Nat) : MapAt (w.drewN q) b ns := h

end Go.Proofs.YtkmoepabnnjoaaaDoor

/- The error cases of addClass, and its one contract. -/
namespace Go.Proofs.YtkmoepabnnjoaaaDoor
open Go.RowKit Go.WideMaps Go.Shelf

/-- the error of a class -/
def classErr (ns : List Nm) (nm : Nm) (sups : List Nm) : Int :=
  if isNameB (bs nm) = false then 30 else if inNs ns nm = true then 10 else if 20 < sups.length then 5 else supErr ns sups

end Go.Proofs.YtkmoepabnnjoaaaDoor

/- signClasses. -/
namespace Go.Proofs.YtkmoepabnnjoaaaDoor
open Go.RowKit Go.WideMaps Go.Shelf

/-- classes in memory: names and superclasses -/
def ClsAt (w : World) (b off : Nat) (cs : List (Nm × List Nm)) : Prop :=
  ∀ k, k < cs.length → w.cell? ⟨b, off + k * 2, none⟩ = some (.string (bs (cs.getD k ([], [])).1)) ∧ (cs.getD k ([], [])).1.length ≤ maxLen ∧
    ∃ sa cap, w.cell? ⟨b, off + k * 2 + 1, none⟩ = some (.slice sa (cs.getD k ([], [])).2.length cap) ∧ SlS w (.slice sa (cs.getD k ([], [])).2.length cap) (cs.getD k ([], [])).2

/-- a slice of classes in memory -/
def SlC (w : World) (v : Value) (cs : List (Nm × List Nm)) : Prop :=
  cs.length ≤ maxLen ∧ ∃ a cap, v = .slice a cs.length cap ∧ (0 < cs.length → ∃ b off, a = some ⟨b, off, none⟩ ∧ b < w.heap.size ∧ ClsAt w b off cs)

theorem ClsAt.below {w w' : World} {B b off : Nat} {cs : List (Nm × List Nm)} (h : ClsAt w b off cs) (hb : Below B w w') (hB : w.heap.size ≤ B) (hbl : b < B) : ClsAt w' b off cs := by
  intro k hk
  obtain ⟨h1, h2, sa, cap, h3, h4⟩ := h k hk
  exact ⟨(hb.cell (p := ⟨b, _, none⟩) hbl).trans h1, h2, sa, cap, (hb.cell (p := ⟨b, _, none⟩) hbl).trans h3, h4.below hb hB⟩

theorem SlC.below {w w' : World} {B : Nat} {v : Value} {cs : List (Nm × List Nm)} (h : SlC w v cs) (hb : Below B w w') (hB : w.heap.size ≤ B) : SlC w' v cs := by
  obtain ⟨h1, a, cap, h2, h3⟩ := h
  refine ⟨h1, a, cap, h2, fun h => ?_⟩
  obtain ⟨b, off, h4, h5, h6⟩ := h3 h
  exact ⟨b, off, h4, by have := hb.size; omega, h6.below hb hB (by omega)⟩

/-- what is built of classes one by one: the indices of their superclasses, and all above them -/
inductive Built : List (Nm × List Nm) → List (List Nat) → List (List Nat) → Prop
  | nil : Built [] [] []
  | snoc {cs : List (Nm × List Nm)} {sp ab : List (List Nat)} {nm : Nm} {sups : List Nm} {ys : List Nat} : Built cs sp ab → classErr (cs.map Prod.fst) nm sups = 0 →
      (∀ x, x ∈ ys ↔ Reach (fun i => (sp ++ [sups.map (ixOf (cs.map Prod.fst))]).getD i []) cs.length x) →
      Built (cs ++ [(nm, sups)]) (sp ++ [sups.map (ixOf (cs.map Prod.fst))]) (ab ++ [ys])

theorem Built.len {cs : List (Nm × List Nm)} {sp ab : List (List Nat)} (h : Built cs sp ab) : sp.length = cs.length ∧ ab.length = cs.length := by
  induction h with
  | nil => exact ⟨rfl, rfl⟩
  | snoc _ _ _ ih => simp [ih.1, ih.2]

theorem classErr_zero {ns : List Nm} {nm : Nm} {sups : List Nm} (h : classErr ns nm sups = 0) : isNameB (bs nm) = true ∧ inNs ns nm = false ∧ sups.length ≤ 20 ∧ supErr ns sups = 0 := by
  unfold classErr at h
  by_cases h1 : isNameB (bs nm) = false
  · rw [if_pos h1] at h; exact absurd h (by decide)
  · rw [if_neg h1] at h
    by_cases h2 : inNs ns nm = true
    · rw [if_pos h2] at h; exact absurd h (by decide)
    · rw [if_neg h2] at h
      by_cases h3 : 20 < sups.length
      · rw [if_pos h3] at h; exact absurd h (by decide)
      · rw [if_neg h3] at h
        exact ⟨by simpa using h1, by simpa using h2, by omega, h⟩

theorem Built.lt {cs : List (Nm × List Nm)} {sp ab : List (List Nat)} (h : Built cs sp ab) : ∀ i, i < cs.length → ∀ s ∈ sp.getD i [], s < i := by
  induction h with
  | nil => intro i hi; simp at hi
  | @snoc cs sp ab nm sups ys hb he hy ih =>
    intro i hi s hs
    have hl := hb.len.1
    by_cases hin : i < cs.length
    · rw [getD_left sp _ i (by omega)] at hs
      exact ih i hin s hs
    · have hieq : i = sp.length := by simp at hi; omega
      rw [hieq, getD_last] at hs
      obtain ⟨t, ht, rfl⟩ := List.mem_map.1 hs
      have h2 := supErr_all _ _ (classErr_zero he).2.2.2 t ht
      have := ixOf_lt h2
      simp at this; omega

/-- the error of the classes from the k-th on -/
def clsErrFrom (cs : List (Nm × List Nm)) : Nat → Nat → Int
  | 0, _ => 0
  | f + 1, k => if classErr ((cs.take k).map Prod.fst) (cs.getD k ([], [])).1 (cs.getD k ([], [])).2 = 0 then clsErrFrom cs f (k + 1) else classErr ((cs.take k).map Prod.fst) (cs.getD k ([], [])).1 (cs.getD k ([], [])).2

def clsErr (cs : List (Nm × List Nm)) : Int := if 300 < cs.length then 5 else clsErrFrom cs cs.length 0

theorem mapAt_empty {w : World} {b : Nat} (h : w.heap[b]? = some (.map #[] 0)) : MapAt w b [] := by
  refine ⟨.map [], Maps.isMap_empty, ⟨#[], 0, h, ⟨by simp, Go.MapKept.stamped_empty 0, by simp⟩, Nat.le_refl _, rfl⟩, fun s => ⟨by simp [inNs, Maps.has], by simp [ixOf, DataW.atKey]⟩⟩

def SignPost (w : World) (cs : List (Nm × List Nm)) (e : Ending) (w' : World) : Prop :=
  ∃ mb a1 n1 k1 a2 n2 k2, e = .returned (.tuple #[.agg #[.map mb, .slice a1 n1 k1, .slice a2 n2 k2, .slice none 0 0, .map none, .map none], .int .i64 (clsErr cs)]) ∧ Below w.heap.size w w' ∧
    (clsErr cs = 0 → ∃ sp ab, Built cs sp ab ∧ SigAt w' (.agg #[.map mb, .slice a1 n1 k1, .slice a2 n2 k2, .slice none 0 0, .map none, .map none]) (cs.map Prod.fst) (fun i => ab.getD i []))

theorem results_row_tmp {P : Program} {fn : Func} {p u : Tmp} {ty : TypeId} (h : fn.results = #[.cell p ty, .tmp u]) (tmps : Array Value) (w : World) (g : Nat) (t : TypeId) (cs : Array Value) (fr : Nat × Nat) (d : TypeDesc)
    (hp : tmps.getD p undef = .pointer (some ⟨g, 0, none⟩)) (hg : w.heap[g]? = some (.cells cs t fr))
    (hu : P.underlying ty = some d) (hd : (match d with | .struct _ | .array _ _ => true | _ => false) = true) (hi : (P.info? ty).map (·.size) = some cs.size) :
    (results fn tmps).run P w = .ok (.tuple #[.agg cs, tmps.getD u undef]) w := by
  have hp' : tmps[p]?.getD undef = .pointer (some ⟨g, 0, none⟩) := by simpa using hp
  rw [results_cell_tmp h]
  simp [hp', asAddr, run_loadVar_row w g t ty cs fr d hg hu hd hi]

theorem row6 {w : World} {g : Nat} {a0 a1 a2 a3 a4 a5 v0 v1 v2 v3 v4 v5 : Value} {t : TypeId} (h : w.heap[g]? = some (.cells #[a0, a1, a2, a3, a4, a5] t (0, 0))) :
    ((((((w.setCell ⟨g, 0, none⟩ v0).setCell ⟨g, 1, none⟩ v1).setCell ⟨g, 2, none⟩ v2).setCell ⟨g, 3, none⟩ v3).setCell ⟨g, 4, none⟩ v4).setCell ⟨g, 5, none⟩ v5).heap[g]? = some (.cells #[v0, v1, v2, v3, v4, v5] t (0, 0)) :=
  heap_setCell_same _ g 5 _ t _ (heap_setCell_same _ g 4 _ t _ (heap_setCell_same _ g 3 _ t _ (heap_setCell_same _ g 2 _ t _ (heap_setCell_same _ g 1 _ t _ (heap_setCell_same _ g 0 _ t _ h)))))

theorem below6 {w0 w : World} {g B : Nat} {v0 v1 v2 v3 v4 v5 : Value} (h : Below B w0 w) (hg : B ≤ g) :
    Below B w0 ((((((w.setCell ⟨g, 0, none⟩ v0).setCell ⟨g, 1, none⟩ v1).setCell ⟨g, 2, none⟩ v2).setCell ⟨g, 3, none⟩ v3).setCell ⟨g, 4, none⟩ v4).setCell ⟨g, 5, none⟩ v5) :=
  (((((h.setCell (p := ⟨g, 0, none⟩) hg _).setCell (p := ⟨g, 1, none⟩) hg _).setCell (p := ⟨g, 2, none⟩) hg _).setCell (p := ⟨g, 3, none⟩) hg _).setCell (p := ⟨g, 4, none⟩) hg _).setCell (p := ⟨g, 5, none⟩) hg _

theorem step6 {w : World} {g : Nat} {a0 a1 a2 a3 a4 a5 v0 v1 v2 v3 v4 v5 : Value} {t : TypeId} (h : w.heap[g]? = some (.cells #[a0, a1, a2, a3, a4, a5] t (0, 0))) :
    StepT [t] w ((((((w.setCell ⟨g, 0, none⟩ v0).setCell ⟨g, 1, none⟩ v1).setCell ⟨g, 2, none⟩ v2).setCell ⟨g, 3, none⟩ v3).setCell ⟨g, 4, none⟩ v4).setCell ⟨g, 5, none⟩ v5) := by
  have h0 := heap_setCell_same _ g 0 _ t v0 h
  have h1 := heap_setCell_same _ g 1 _ t v1 h0
  have h2 := heap_setCell_same _ g 2 _ t v2 h1
  have h3 := heap_setCell_same _ g 3 _ t v3 h2
  have h4 := heap_setCell_same _ g 4 _ t v4 h3
  exact (StepT.set h (by simp)).trans ((StepT.set h0 (by simp)).trans ((StepT.set h1 (by simp)).trans ((StepT.set h2 (by simp)).trans ((StepT.set h3 (by simp)).trans (StepT.set h4 (by simp))))))

end Go.Proofs.YtkmoepabnnjoaaaDoor

/- The reference: IsName, Class, known. -/
namespace Go.Proofs.YtkmoepabnnjoaaaDoor
open Go.RowKit Go.WideMaps Go.Shelf

/-- the index of a name among names, -1 for none -/
def clsI (ns : List Nm) (s : Nm) : Int := if inNs ns s = true then ((ixOf ns s : Nat) : Int) else -1

theorem clsI_in {ns : List Nm} {s : Nm} (h : inNs ns s = true) : clsI ns s = ((ixOf ns s : Nat) : Int) := by unfold clsI; rw [if_pos h]
theorem clsI_out {ns : List Nm} {s : Nm} (h : inNs ns s = false) : clsI ns s = -1 := by unfold clsI; rw [if_neg (by rw [h]; decide)]

theorem inNs_snoc (ns : List Nm) (x s : Nm) : inNs (ns ++ [x]) s = (inNs ns s || decide (s = x)) := by
  unfold inNs
  rw [Bool.eq_iff_iff]; simp

theorem take_names (cs : List (Nm × List Nm)) (k : Nat) (hk : k < cs.length) : (cs.take (k + 1)).map Prod.fst = (cs.take k).map Prod.fst ++ [(cs.getD k ([], [])).1] := by
  rw [take_snocD cs ([], []) k hk, List.map_append]; rfl

theorem ix_first {cs : List (Nm × List Nm)} {k : Nat} {s : Nm} (hk : k < cs.length) (hn : inNs ((cs.take k).map Prod.fst) s = false) (he : (cs.getD k ([], [])).1 = s) :
    inNs (cs.map Prod.fst) s = true ∧ ixOf (cs.map Prod.fst) s = k := by
  have e : cs.map Prod.fst = (cs.take k).map Prod.fst ++ s :: (cs.drop (k + 1)).map Prod.fst := by
    conv => lhs; rw [← List.take_append_drop k cs, List.drop_eq_getElem_cons hk]
    rw [List.map_append, List.map_cons]
    have : cs[k].1 = s := by rw [← he, List.getD_eq_getElem?_getD, List.getElem?_eq_getElem hk]; rfl
    rw [this]
  have hn' : s ∉ (cs.take k).map Prod.fst := of_decide_eq_false hn
  have hm : s ∈ cs.map Prod.fst := by rw [e]; simp
  refine ⟨decide_eq_true hm, ?_⟩
  unfold ixOf
  rw [if_pos hm, e, List.idxOf_append, if_neg hn']
  simp; omega

theorem ix_take {cs : List (Nm × List Nm)} {k : Nat} {s : Nm} (h : inNs ((cs.take k).map Prod.fst) s = true) :
    inNs (cs.map Prod.fst) s = true ∧ ixOf (cs.map Prod.fst) s = ixOf ((cs.take k).map Prod.fst) s := by
  have h' : s ∈ (cs.take k).map Prod.fst := of_decide_eq_true h
  have e : cs.map Prod.fst = (cs.take k).map Prod.fst ++ (cs.drop k).map Prod.fst := by
    rw [← List.map_append, List.take_append_drop]
  have hm : s ∈ cs.map Prod.fst := by rw [e]; simp only [List.mem_append]; exact .inl h'
  refine ⟨decide_eq_true hm, ?_⟩
  unfold ixOf
  rw [if_pos hm, if_pos h', e, List.idxOf_append, if_pos h']

theorem ix_lt_take {cs : List (Nm × List Nm)} {k : Nat} {s : Nm} (h : inNs (cs.map Prod.fst) s = true) (hl : ixOf (cs.map Prod.fst) s < k) : inNs ((cs.take k).map Prod.fst) s = true := by
  have h' : s ∈ cs.map Prod.fst := of_decide_eq_true h
  unfold ixOf at hl
  rw [if_pos h'] at hl
  refine decide_eq_true ?_
  have hlen : (cs.map Prod.fst).idxOf s < (cs.map Prod.fst).length := List.idxOf_lt_length_of_mem h'
  have e := List.getElem_idxOf hlen
  rw [List.map_take, ← e]
  exact List.mem_take_iff_getElem.2 ⟨_, by omega, rfl⟩

theorem bs_eq (x y : Nm) : ((bs x).toList == (bs y).toList) = decide (x = y) := by
  rw [ByteArray.toList_eq, ByteArray.toList_eq]
  rw [Bool.eq_iff_iff]
  simp only [beq_iff_eq, decide_eq_true_eq]
  exact Iff.rfl

theorem cells7' {w : World} {k : Nat} {a0 a1 a2 a3 a4 a5 a6 : Value} {t : TypeId} {fr : Nat × Nat} (h : w.heap[k]? = some (.cells #[a0, a1, a2, a3, a4, a5, a6] t fr)) :
    w.cell? ⟨k, 0, none⟩ = some a0 ∧ w.cell? ⟨k, 1, none⟩ = some a1 ∧ w.cell? ⟨k, 2, none⟩ = some a2 ∧ w.cell? ⟨k, 3, none⟩ = some a3 ∧ w.cell? ⟨k, 4, none⟩ = some a4 ∧ w.cell? ⟨k, 5, none⟩ = some a5 ∧ w.cell? ⟨k, 6, none⟩ = some a6 :=
  ⟨by rw [cell_of_row w _ 0 _ _ _ h]; rfl, by rw [cell_of_row w _ 1 _ _ _ h]; rfl, by rw [cell_of_row w _ 2 _ _ _ h]; rfl, by rw [cell_of_row w _ 3 _ _ _ h]; rfl, by rw [cell_of_row w _ 4 _ _ _ h]; rfl, by rw [cell_of_row w _ 5 _ _ _ h]; rfl, by rw [cell_of_row w _ 6 _ _ _ h]; rfl⟩

theorem cells7and {w : World} {k : Nat} {a0 a1 a2 a3 a4 a5 a6 : Value} {t : TypeId} {fr : Nat × Nat} {p : Prop} (h : w.heap[k]? = some (.cells #[a0, a1, a2, a3, a4, a5, a6] t fr)) (hp : p) :
    w.cell? ⟨k, 0, none⟩ = some a0 ∧ w.cell? ⟨k, 1, none⟩ = some a1 ∧ w.cell? ⟨k, 2, none⟩ = some a2 ∧ w.cell? ⟨k, 3, none⟩ = some a3 ∧ w.cell? ⟨k, 4, none⟩ = some a4 ∧ w.cell? ⟨k, 5, none⟩ = some a5 ∧ w.cell? ⟨k, 6, none⟩ = some a6 ∧ p := by
  obtain ⟨h0, h1, h2, h3, h4, h5, h6⟩ := cells7' h
  exact ⟨h0, h1, h2, h3, h4, h5, h6, hp⟩

end Go.Proofs.YtkmoepabnnjoaaaDoor

/- The reference: IsName. -/
namespace Go.Proofs.YtkmoepabnnjoaaaDoor
open Go.RowKit Go.WideMaps Go.Shelf

def Tests (x : Int) (b1 b2 b3 b4 b5 b6 b7 b8 b9 l m : Bool) : Prop :=
  decide (97 ≤ x) = b1 ∧ decide (x ≤ 122) = b2 ∧ decide (65 ≤ x) = b3 ∧ decide (x ≤ 90) = b4 ∧ (x == 95) = b5 ∧ decide (48 ≤ x) = b6 ∧ decide (x ≤ 57) = b7 ∧ (x == 39) = b8 ∧ (x == 46) = b9 ∧ beginsB x = l ∧ inB x = m

theorem tests (x : Int) : Tests x true true true false false true false false false true true ∨ Tests x false true true true false true false false false true true ∨ Tests x false true true false true true false false false true true ∨ Tests x false true false true false true true false false false true ∨ Tests x false true false true false false true true false false true ∨ Tests x false true false true false false true false true false true ∨ Tests x false true false true false false true false false false false ∨ Tests x false true false true false true false false false false false ∨ Tests x false true true false false true false false false false false ∨ Tests x true false true false false true false false false false false := by
  by_cases hA : 97 ≤ x ∧ x ≤ 122
  · exact .inl (by unfold Tests beginsB; refine ⟨?_, ?_, ?_, ?_, ?_, ?_, ?_, ?_, ?_, ?_, ?_⟩ <;> simp [inB, beginsB] <;> omega)
  by_cases hB : 65 ≤ x ∧ x ≤ 90
  · exact .inr (.inl (by unfold Tests beginsB; refine ⟨?_, ?_, ?_, ?_, ?_, ?_, ?_, ?_, ?_, ?_, ?_⟩ <;> simp [inB, beginsB] <;> omega))
  by_cases hC : x = 95
  · exact .inr (.inr (.inl (by unfold Tests beginsB; refine ⟨?_, ?_, ?_, ?_, ?_, ?_, ?_, ?_, ?_, ?_, ?_⟩ <;> simp [inB, beginsB] <;> omega)))
  by_cases hD : 48 ≤ x ∧ x ≤ 57
  · exact .inr (.inr (.inr (.inl (by unfold Tests beginsB; refine ⟨?_, ?_, ?_, ?_, ?_, ?_, ?_, ?_, ?_, ?_, ?_⟩ <;> simp [inB, beginsB] <;> omega))))
  by_cases hE : x = 39
  · exact .inr (.inr (.inr (.inr (.inl (by unfold Tests beginsB; refine ⟨?_, ?_, ?_, ?_, ?_, ?_, ?_, ?_, ?_, ?_, ?_⟩ <;> simp [inB, beginsB] <;> omega)))))
  by_cases hF : x = 46
  · exact .inr (.inr (.inr (.inr (.inr (.inl (by unfold Tests beginsB; refine ⟨?_, ?_, ?_, ?_, ?_, ?_, ?_, ?_, ?_, ?_, ?_⟩ <;> simp [inB, beginsB] <;> omega))))))
  by_cases hG : x < 48
  · exact .inr (.inr (.inr (.inr (.inr (.inr (.inl (by unfold Tests beginsB; refine ⟨?_, ?_, ?_, ?_, ?_, ?_, ?_, ?_, ?_, ?_, ?_⟩ <;> simp [inB, beginsB] <;> omega)))))))
  by_cases hH : x ≤ 64
  · exact .inr (.inr (.inr (.inr (.inr (.inr (.inr (.inl (by unfold Tests beginsB; refine ⟨?_, ?_, ?_, ?_, ?_, ?_, ?_, ?_, ?_, ?_, ?_⟩ <;> simp [inB, beginsB] <;> omega))))))))
  by_cases hI : x ≤ 122
  · exact .inr (.inr (.inr (.inr (.inr (.inr (.inr (.inr (.inl (by unfold Tests beginsB; refine ⟨?_, ?_, ?_, ?_, ?_, ?_, ?_, ?_, ?_, ?_, ?_⟩ <;> simp [inB, beginsB] <;> omega)))))))))
  exact .inr (.inr (.inr (.inr (.inr (.inr (.inr (.inr (.inr ((by unfold Tests beginsB; refine ⟨?_, ?_, ?_, ?_, ?_, ?_, ?_, ?_, ?_, ?_, ?_⟩ <;> simp [inB, beginsB] <;> omega))))))))))

theorem isName_zero {s : ByteArray} (h0 : 0 < s.size) (h4 : s.size ≤ 40) : isNameB s = (beginsB (s[0].toNat : Int) && (s.data.toList.drop 1).all (fun c => inB (byteI c))) := by
  unfold isNameB
  rw [byte_getD s 0 h0, decide_eq_true h0, decide_eq_true h4]; rfl

end Go.Proofs.YtkmoepabnnjoaaaDoor

/- The reference: the error of the classes. -/
namespace Go.Proofs.YtkmoepabnnjoaaaDoor
open Go.RowKit Go.WideMaps Go.Shelf

theorem cells2 {w : World} {k : Nat} {a0 a1 : Value} {t : TypeId} {fr : Nat × Nat} (h : w.heap[k]? = some (.cells #[a0, a1] t fr)) : w.cell? ⟨k, 0, none⟩ = some a0 ∧ w.cell? ⟨k, 1, none⟩ = some a1 :=
  ⟨by rw [cell_of_row w _ 0 _ _ _ h]; rfl, by rw [cell_of_row w _ 1 _ _ _ h]; rfl⟩

/-- what Class says of a name, seen from the i-th class -/
theorem clsI_own {cs : List (Nm × List Nm)} {i : Nat} {nm : Nm} (hi : i < cs.length) (he : (cs.getD i ([], [])).1 = nm) :
    (inNs ((cs.take i).map Prod.fst) nm = false → clsI (cs.map Prod.fst) nm = ((i : Nat) : Int)) ∧
    (inNs ((cs.take i).map Prod.fst) nm = true → (clsI (cs.map Prod.fst) nm != ((i : Nat) : Int)) = true) := by
  constructor
  · intro h
    obtain ⟨h1, h2⟩ := ix_first hi h he
    rw [clsI_in h1, h2]
  · intro h
    obtain ⟨h1, h2⟩ := ix_take h
    rw [clsI_in h1, h2, bne_iff_ne]
    have := ixOf_lt h
    rw [List.length_map, List.length_take] at this; omega

theorem clsI_sup {cs : List (Nm × List Nm)} {i : Nat} (x : Nm) (hi : i < cs.length) :
    (inNs ((cs.take i).map Prod.fst) x = true → ∃ m : Nat, clsI (cs.map Prod.fst) x = (m : Int) ∧ m < i) ∧
    (inNs ((cs.take i).map Prod.fst) x = false → clsI (cs.map Prod.fst) x = -1 ∨ ∃ m : Nat, clsI (cs.map Prod.fst) x = (m : Int) ∧ i ≤ m) := by
  constructor
  · intro h
    obtain ⟨h1, h2⟩ := ix_take h
    refine ⟨_, clsI_in h1, ?_⟩
    rw [h2]
    have := ixOf_lt h
    rw [List.length_map, List.length_take] at this; omega
  · intro h
    by_cases h1 : inNs (cs.map Prod.fst) x = true
    · refine .inr ⟨_, clsI_in h1, ?_⟩
      refine Nat.le_of_not_lt fun hl => ?_
      rw [ix_lt_take h1 hl] at h; cases h
    · exact .inl (clsI_out (by simpa using h1))

end Go.Proofs.YtkmoepabnnjoaaaDoor
