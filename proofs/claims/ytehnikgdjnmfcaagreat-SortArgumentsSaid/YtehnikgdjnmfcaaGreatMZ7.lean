/- addClass. -/
import Derived.Test.YtehnikgdjnmfcaaGreatMZ6
import Derived.Deep.QuietTactic
import Derived.Deep.RegionLaw
import Derived.Deep.AppendLies
import Derived.StillTailTactics
import Derived.Deep.CutRange
import Derived.Deep.RegionHeld3
import Derived.Stop.RegionWithIn
import Derived.BigQuiet
namespace Go.Proofs.YtehnikgdjnmfcaaGreat
open Go.RowKit Go.WideMaps Go.Shelf
attribute [local go_sem] Oper.semAt_some

/-- the error of the k-th superclass of a class behind some classes -/
def supE (ns sups : List Nm) (k : Nat) : Int :=
  if inNs ns (sups.getD k []) then (if 0 < k ∧ (!Op.bytesLess (bs (sups.getD (k - 1) [])).toList (bs (sups.getD k [])).toList) = true then 17 else 0) else 9
def supErrFrom (ns sups : List Nm) : Nat → Nat → Int
  | 0, _ => 0
  | f + 1, k => if supE ns sups k = 0 then supErrFrom ns sups f (k + 1) else supE ns sups k
def supErr (ns sups : List Nm) : Int := supErrFrom ns sups sups.length 0

theorem cell_one_new_l (w : World) (v : Value) (t : TypeId) : (w.alloc (.cells #[v] t)).cell? ⟨w.heap.size, 0, none⟩ = some v := by
  rw [cell_of_row _ w.heap.size 0 #[v] t (0, 0) (World.alloc_heap_new w _)]; rfl

theorem wpList_mapAt_put (w : World) {ops : Array Oper} {rest : List Oper} {o : Oper} {a : Act} {Q : Exit → Act → World → Prop}
    (hg : o.guard = none) (m x v : Operand) (hop : o.op = Op.mapUpdate 58 m x v) (b : Nat) (hm : a.eval m = .map (some b)) (ns : List Nm) (hown : MapAt w b ns)
    (s : Nm) (hx : a.eval x = .string (bs s)) (hs : s.length ≤ maxLen) (hv : a.eval v = .int .i64 ((ns.length : Nat) : Int)) (hn : ns.length < 9223372036854775807) (hnew : inNs ns s = false)
    (hK : ∀ w', MapAt w' b (ns ++ [s]) → w.grownBy w' (some b) → wpList Tryz.prog ops Q rest (a.put o.dst undef) w') :
    wpList Tryz.prog ops Q (o :: rest) a w := by
  obtain ⟨D, hI, hown, hD⟩ := hown
  refine wpList_mapUpdate_own w hg m x v 58 hop 9 3 (Maps.string_keyed Tryz.underlying9) Tryz.underlying58 (plainElem Tryz.prog 3) b ns.length D hm hown (by unfold maxLen; omega) _ _ _ hx hv (key_bs hs)
    (.lit (.int .i64 ((ns.length : Nat) : Int))) [] (plainElem_int Tryz.underlying3 (WalkArith.wf_i64 (by omega))) ?_
  intro w' hown' hg'
  refine hK w' ⟨_, hI.put _ _, by simpa using hown', fun t => ?_⟩ hg'
  obtain ⟨e1, e2⟩ := idx_snoc ns s t hnew
  obtain ⟨h1, h2⟩ := hD t
  rw [e1, e2]
  by_cases e : t = s
  · subst e
    rw [Maps.has_put_same hI (by trivial), Maps.atKey_put_same hI (by trivial)]
    simp
  · have hne : (Lit.string t) ≠ Lit.string s := fun h => e (by injection h)
    rw [Maps.has_put_other hne, Maps.atKey_put_other hne, h1, h2]
    simp [e]

/-- behind a turn of the map every cell is as it was -/
theorem MapAt.turned {w w' : World} {b : Nat} {ns : List Nm} (h : MapAt w b ns) (hg : w.grownBy w' (some b)) {k : Nat} {o : Obj} (hk : w.heap[k]? = some o) (ho : o.isCells = true) : w'.heap[k]? = some o := by
  obtain ⟨D, _, ⟨es, cl, e1, _⟩, _⟩ := h
  rw [hg.block k (Array.getElem?_eq_some_iff.1 hk).1 (fun e => by injection e with e; subst e; rw [e1] at hk; cases hk; cases ho)]
  exact hk
theorem MapAt.cellT {w w' : World} {b : Nat} {ns : List Nm} (h : MapAt w b ns) (hg : w.grownBy w' (some b)) {a : Addr} {v : Value} (hv : w.cell? a = some v) : w'.cell? a = some v := by
  obtain ⟨o, h1, h2⟩ := cells_of_cell hv
  exact (World.cell?_of_block ((h.turned hg h1 h2).trans h1.symm)).trans hv
theorem MapAt.rowT {w w' : World} {b : Nat} {ns : List Nm} (h : MapAt w b ns) (hg : w.grownBy w' (some b)) {base : Nat} {e : TypeId} {size n : Nat} {v : Value} {xs : List Value} (hr : w.ownsRow base e size v n xs) : w'.ownsRow base e size v n xs := by
  refine ⟨hr.1, ?_⟩
  rcases hr.2 with h2 | ⟨g, cap, cur, hv, hg', hh, r⟩
  · exact .inl h2
  · exact .inr ⟨g, cap, cur, hv, hg', h.turned hg hh rfl, r⟩

theorem Tryz.info133 : (Tryz.prog.info? 133).map (fun i => (i.zero, i.size, i.bytes)) = some (some (.slice none 0 0), 1, 24) := by kernel_rfl
theorem Tryz.info136 : (Tryz.prog.info? 136).map (fun i => (i.zero, i.size, i.bytes)) = some (some (.agg #[.int .u64 0, .int .u64 0, .int .u64 0, .int .u64 0, .int .u64 0]), 5, 40) := by kernel_rfl

theorem keep_c {w : World} {o : Obj} {a : Addr} {v : Value} (h : w.cell? a = some v) : (w.alloc o).drew.cell? a = some v := ((below_alloc w o).drew.cell (p := a) (lt_of_cell h)).trans h
theorem keep_f {w : World} {o : Obj} {a : Addr} {v : Value} {f : Bool} (h : w.cell? a = some v) (hf : w.frozen? a = f) : (w.alloc o).drew.frozen? a = f := ((below_alloc w o).drew.frozen (p := a) (lt_of_cell h)).trans hf

theorem ownBlock_ne {w : World} {base : Nat} {e t : TypeId} {size n k : Nat} {v : Value} {xs : List Value} {cs : Array Value} {fr : Nat × Nat} (h : w.ownsRow base e size v n xs) (hk : w.heap[k]? = some (.cells cs t fr)) (hne : t ≠ e) : some k ≠ v.ownBlock := by
  rcases h.2 with ⟨e', _⟩ | ⟨g', cap', cur', e', hg', hh, _⟩
  · rw [e']; simp [Value.ownBlock]
  · rw [e']
    intro e2
    injection e2 with e2
    subst e2
    rw [hk] at hh
    injection hh with hh
    injection hh with _ hh _
    exact hne hh

theorem getD_left (l : List (List Nat)) (x : List Nat) (i : Nat) (h : i < l.length) : (l ++ [x]).getD i [] = l.getD i [] := by
  rw [List.getD_eq_getElem?_getD, List.getElem?_append_left h, ← List.getD_eq_getElem?_getD]
theorem getD_leftV (l : List Value) (x : Value) (i : Nat) (h : i < l.length) : (l ++ [x]).getD i undef = l.getD i undef := by
  rw [List.getD_eq_getElem?_getD, List.getElem?_append_left h, ← List.getD_eq_getElem?_getD]
theorem getD_last (l : List (List Nat)) (x : List Nat) : (l ++ [x]).getD l.length [] = x := by simp
theorem getD_lastV (l : List Value) (x : Value) : (l ++ [x]).getD l.length undef = x := by simp
theorem ownsRow_block {w w' : World} {base g n cap size : Nat} {e : TypeId} {xs : List Value} (h : w.ownsRow base e size (.slice (some ⟨g, 0, none⟩) n cap) n xs) (hb : w'.heap[g]? = w.heap[g]?) : w'.ownsRow base e size (.slice (some ⟨g, 0, none⟩) n cap) n xs := by
  refine ⟨h.1, ?_⟩
  rcases h.2 with ⟨h', _⟩ | ⟨g', cap', cur, h', hg, hh, r⟩
  · cases h'
  · cases h'; exact .inr ⟨g, cap, cur, rfl, hg, hb.trans hh, r⟩
theorem supErr_all (ns sups : List Nm) (h : supErr ns sups = 0) : ∀ s ∈ sups, inNs ns s = true := by
  have key : ∀ f k, k + f = sups.length → supErrFrom ns sups f k = 0 → ∀ i, k ≤ i → i < sups.length → inNs ns (sups.getD i []) = true := by
    intro f
    induction f with
    | zero => intro k hk _ i h1 h2; omega
    | succ f ih =>
      intro k hk h0 i h1 h2
      unfold supErrFrom at h0
      by_cases hz : supE ns sups k = 0
      · rw [if_pos hz] at h0
        by_cases he : i = k
        · subst he
          unfold supE at hz
          by_cases hin : inNs ns (sups.getD i []) = true
          · exact hin
          · rw [if_neg hin] at hz; cases hz
        · exact ih (k + 1) (by omega) h0 i (by omega) h2
      · rw [if_neg hz] at h0; exact absurd h0 hz
  intro s hs
  obtain ⟨i, hi, rfl⟩ := List.getElem_of_mem hs
  have := key sups.length 0 (by omega) h i (by omega) hi
  rwa [List.getD_eq_getElem?_getD, List.getElem?_eq_getElem hi] at this

theorem still_tail {P : Program} {id : Nat} {Q : Exit → Act → World → Prop} {a : Act} {w : World} {l : List Oper} (n : Nat) (hm : P.follows .mixedOrders = true) (hB : Region.lexTailB .any l.toArray n = true)
    (h : ∀ w2, w2 = w.drew → wpStill P l.toArray w2 (fun a' => wpList P l.toArray Q (l.drop n) a' w2) (l.take n) a) : (Code.region id l.toArray true).wp P Q a w :=
  wp_region_still_tail n hm hB (h _ rfl)

theorem ownsRow_below {w w' : World} {B base : Nat} {e : TypeId} {size n : Nat} {v : Value} {xs : List Value} (h : w.ownsRow base e size v n xs) (hb : Below B w w') (hB : w.heap.size ≤ B) : w'.ownsRow base e size v n xs := by
  refine ⟨h.1, ?_⟩
  rcases h.2 with h2 | ⟨g, cap, cur, hv, hg, hh, r⟩
  · exact .inl h2
  · exact .inr ⟨g, cap, cur, hv, hg, (hb.block g (by have := (Array.getElem?_eq_some_iff.1 hh).1; omega)).trans hh, r⟩
theorem ownsRow_base {w : World} {b b' : Nat} {e : TypeId} {size n : Nat} {v : Value} {xs : List Value} (h : w.ownsRow b e size v n xs) (hb : b' ≤ b) : w.ownsRow b' e size v n xs := by
  refine ⟨h.1, ?_⟩
  rcases h.2 with h2 | ⟨g, cap, cur, hv, hg, r⟩
  · exact .inl h2
  · exact .inr ⟨g, cap, cur, hv, by omega, r⟩
theorem ownsRow_form {w : World} {b : Nat} {e : TypeId} {size n : Nat} {v : Value} {xs : List Value} (h : w.ownsRow b e size v n xs) : ∃ a cap, v = .slice a n cap := by
  rcases h.2 with ⟨e, e2⟩ | ⟨g, cap, cur, hv, _⟩
  · exact ⟨none, 0, by rw [e, e2]⟩
  · exact ⟨_, _, hv⟩

theorem ownBlock_ge {w : World} {base : Nat} {e : TypeId} {size n : Nat} {v : Value} {xs : List Value} (h : w.ownsRow base e size v n xs) {r : Nat} (hr : v.ownBlock = some r) : base ≤ r := by
  rcases h.2 with ⟨e', _⟩ | ⟨g', cap', cur', e', hg', _⟩
  · rw [e'] at hr; cases hr
  · rw [e'] at hr; injection hr with hr; simp at hr; omega

theorem two_boxes (w : World) (A B : Array Value) (tA tB : TypeId) (q : Nat) {j : Nat} :
    (((w.alloc (.cells A tA)).alloc (.cells B tB)).drewN q).cell? ⟨w.heap.size, j, none⟩ = A[j]? ∧ (((w.alloc (.cells A tA)).alloc (.cells B tB)).drewN q).cell? ⟨w.heap.size + 1, j, none⟩ = B[j]? :=
  ⟨cell_of_row _ _ j A tA (0, 0) (heap_alloc2_old w (.cells A tA) (.cells B tB)), cell_of_row _ _ j B tB (0, 0) (heap_alloc2_new w (.cells A tA) (.cells B tB))⟩

theorem MapAt.look {w : World} {b : Nat} {ns : List Nm} (h : MapAt w b ns) {s : Nm} (hs : s.length ≤ maxLen) :
    (Instr.lookup 58 (.map (some b)) (.string (bs s)) true).run Tryz.prog w = .ok (.tuple #[.int .i64 ((ixOf ns s : Nat) : Int), .bool (inNs ns s)]) w := by
  obtain ⟨D, _, hown, hD⟩ := h
  have hw0 : (Lit.int .i64 0).wf = true := by decide
  obtain ⟨v, ps, hrun, hv⟩ := hown.look_ok (Maps.string_keyed Tryz.underlying9) Tryz.underlying58 (zeroE w) (plainElem_int Tryz.underlying3 hw0) (key_bs hs)
  obtain ⟨c, rfl, hc, _⟩ := plainElem_int_inv Tryz.underlying3 hv
  obtain ⟨h1, h2⟩ := hD s
  have hc2 : D.atKey (.string s) (.lit (.int .i64 0)) = .lit (.int .i64 c) := congrArg Prod.fst hc
  have hc4 : ((ixOf ns s : Nat) : Int) = c := by simpa using h2.symm.trans hc2
  rw [hrun, h1, ← hc4]

theorem MapAt.drewN {w : World} {b : Nat} {ns : List Nm} (h : MapAt w b ns) (q : Nat) : MapAt (w.drewN q) b ns := h

/-- a signature that is being built, in blocks from B on -/
def GAt (B : Nat) (w : World) (gb : Nat) (ns : List Nm) (sp ab : List (List Nat)) : Prop :=
  B ≤ gb ∧ gb < w.heap.size ∧ sp.length = ns.length ∧ ab.length = ns.length ∧ ∃ bm sv av rs xs,
    w.heap[gb]? = some (.cells #[.map (some bm), sv, av, .slice none 0 0, .map none, .map none] 63 (0, 0)) ∧ B ≤ bm ∧ MapAt w bm ns ∧
    w.ownsRow B 133 1 sv ns.length rs ∧ (∀ i, i < ns.length → (sp.getD i []).length ≤ 20 ∧ w.ownsRow B 3 1 (rs.getD i undef) (sp.getD i []).length (ints (sp.getD i []))) ∧
    w.ownsRow B 136 5 av ns.length xs ∧ ∀ i, i < ns.length → ∀ j, j < 5 → xs[i * 5 + j]? = some (.int .u64 ((wordsOf (ab.getD i []) j : Nat) : Int))

def AddPost (B : Nat) (w : World) (gb : Nat) (nm : Nm) (sups ns : List Nm) (sp ab : List (List Nat)) (err : Int) (e : Ending) (w' : World) : Prop :=
  e = .returned (.int .i64 err) ∧ Below B w w' ∧ (err = 0 → ∃ ys : List Nat, (∀ x, x ∈ ys ↔ Reach (fun i => (sp ++ [sups.map (ixOf ns)]).getD i []) ns.length x) ∧ GAt B w' gb (ns ++ [nm]) (sp ++ [sups.map (ixOf ns)]) (ab ++ [ys]))

theorem addErr {B : Nat} {w : World} {gb : Nat} {nm : Nm} {sups ns : List Nm} {sp ab : List (List Nat)} {err : Int} {w' : World} (h : err ≠ 0) (hb : Below B w w') : AddPost B w gb nm sups ns sp ab err (.returned (.int .i64 err)) w' :=
  ⟨rfl, hb, fun e => absurd e h⟩

set_option maxRecDepth 100000 in
set_option maxHeartbeats 4000000 in
theorem addClass_x (B : Nat) (sp ab : List (List Nat)) (gb bm : Nat) (sv av : Value) (nm : Nm) (sa : Option Addr) (scap : Nat) (sups ns : List Nm) (rs xs : List Value) (w : World) (hgb : gb < w.heap.size) (hBw : B ≤ w.heap.size) (hBg : B ≤ gb) (hBm : B ≤ bm) (hns : ns.length < 300) (hspl : sp.length = ns.length) (habl : ab.length = ns.length)
    (hsv : w.ownsRow B 133 1 sv ns.length rs) (hrows : ∀ i, i < ns.length → (sp.getD i []).length ≤ 20 ∧ w.ownsRow B 3 1 (rs.getD i undef) (sp.getD i []).length (ints (sp.getD i [])))
    (hav : w.ownsRow B 136 5 av ns.length xs) (hxs : ∀ i, i < ns.length → ∀ j, j < 5 → xs[i * 5 + j]? = some (.int .u64 ((wordsOf (ab.getD i []) j : Nat) : Int))) (hltS : ∀ i, i < ns.length → ∀ s ∈ sp.getD i [], s < i)

    (hG : w.heap[gb]? = some (.cells #[.map (some bm), sv, av, .slice none 0 0, .map none, .map none] 63 (0, 0))) (hm : MapAt w bm ns) (hs : SlS w (.slice sa sups.length scap) sups) (hnl : nm.length ≤ maxLen)
    (hname : isNameB (bs nm) = true) (hdup : inNs ns nm = false) (hl20 : sups.length ≤ 20) :
    CallsIn Fence.wide 8 Tryz.prog 51 #[.pointer (some ⟨gb, 0, none⟩), .agg #[.string (bs nm), .slice sa sups.length scap]] w (AddPost B w gb nm sups ns sp ab (supErr ns sups)) := by
  have hN := Lib.hid (isName_any (bs nm))
  have HSV := Lib.hid hsv
  have HROWS := Lib.hid hrows
  have HAV := Lib.hid hav
  have HXS := Lib.hid hxs
  have HLT := Lib.hid hltS
  have HSPL := Lib.hid hspl
  have HABL := Lib.hid habl
  clear hsv hrows hav hxs hltS hspl habl
  have HN := Lib.hid hname
  have HD := Lib.hid hdup
  have HG := Lib.hid hG
  have HM := Lib.hid hm
  have HS := Lib.hid hs
  have c0 : w.cell? ⟨gb, 0, none⟩ = some (.map (some bm)) := by rw [cell_of_row w gb 0 _ _ _ hG]; rfl
  clear hname hdup hG hm hs
  refine callsIn_of_wp_marks Tryz.func51 rfl trivial (wpIn_wide.2 ?_) rfl
  simp only [Tryz.ntmps51, List.size_toArray, List.length_cons, List.length_nil, Nat.reduceAdd, Nat.reduceSub, Array.replicate_succ, Array.replicate_zero, List.push_toArray, List.append_toArray, List.nil_append, List.cons_append]
  go_wp2_with fail
  refine (hN.out _ (by rw [bs_size]; exact hnl)).mono ?_
  rw [HN.out]
  rintro e w1 ⟨rfl, rfl⟩
  have hm1 := (HM.out.alloc (Obj.cells #[.pointer (some ⟨gb, 0, none⟩)] 104)).alloc (Obj.cells #[.string (bs nm), .slice sa sups.length scap] 48)
  have hlk := fun q => (hm1.drewN q).look hnl
  rw [HD.out] at hlk
  go_wp2_with fail
  go_quiet (fail)
  clear hlk
  have hl20' : decide (20 < ((sups.length : Nat) : Int)) = false := by simp; omega
  go_wp2_with fail
  obtain ⟨i0, hi, hq0, hq1, hq2⟩ := info_parts Tryz.info3
  have hWB : w.heap.size + 2 ≤ ((((w.alloc (Obj.cells #[.pointer (some ⟨gb, 0, none⟩)] 104)).alloc (Obj.cells #[.string (bs nm), .slice sa sups.length scap] 48)).drewN nq).heap.size) := by simp
  generalize hW0 : (((w.alloc (Obj.cells #[.pointer (some ⟨gb, 0, none⟩)] 104)).alloc (Obj.cells #[.string (bs nm), .slice sa sups.length scap] 48)).drewN nq) = W0 at *
  have hWB2 : W0.heap.size ≤ w.heap.size + 2 := by rw [← hW0]; simp
  have hbW : Below w.heap.size w W0 := by rw [← hW0]; exact below_drewN (((Below.refl _ w).alloc (Nat.le_refl _) _).alloc (by simp) _) nq
  have HM0 : Hid (MapAt W0 bm ns) := HM.out.below hbW HM.out.lt
  have HS0 : Hid (SlS W0 (.slice sa sups.length scap) sups) := HS.out.below hbW (Nat.le_refl _)
  have hx0 : W0.cell? ⟨w.heap.size, 0, none⟩ = some (.pointer (some ⟨gb, 0, none⟩)) := by rw [← hW0, (two_boxes w _ _ _ _ nq).1]; rfl
  have hx1 : W0.cell? ⟨w.heap.size + 1, 1, none⟩ = some (.slice sa sups.length scap) := by rw [← hW0, (two_boxes w _ _ _ _ nq).2]; rfl
  have hxn : W0.cell? ⟨w.heap.size + 1, 0, none⟩ = some (.string (bs nm)) := by rw [← hW0, (two_boxes w _ _ _ _ nq).2]; rfl
  have hx2 : W0.cell? ⟨gb, 0, none⟩ = some (.map (some bm)) := (hbW.cell (p := ⟨gb, 0, none⟩) hgb).trans c0
  have HBX0 : Hid (W0.heap[w.heap.size]? = some (.cells #[.pointer (some ⟨gb, 0, none⟩)] 104 (0, 0))) := by unfold Hid; rw [← hW0]; exact heap_alloc2_old w (.cells #[.pointer (some ⟨gb, 0, none⟩)] 104) (.cells #[.string (bs nm), .slice sa sups.length scap] 48)
  have HW0 := Lib.hid hW0
  clear hW0 hm1 c0
  go_loopw [7, 36] (fun v i wr => ∃ k : Nat, k ≤ sups.length ∧ i = .int .i64 k ∧ wr.ownsRow (w.heap.size + 2) 3 1 v k (ints ((sups.take k).map (ixOf ns))) ∧ Below (w.heap.size + 2) W0 wr ∧ Hid (supErr ns sups = supErrFrom ns sups (sups.length - k) k)) (fun _ i _ => sups.length - (intOf i).toNat)
  case atStart => exact ⟨0, by omega, rfl, World.ownsRow_nil _ _ _ _, Below.refl _ _, rfl⟩
  case round =>
    obtain ⟨k, hk, rfl, hown, hB, hE⟩ := hrel
    have hz : w.heap.size + 2 ≤ wr.heap.size := by have := hB.size; omega
    have hy0 := (hB.cell (p := ⟨w.heap.size, 0, none⟩) (by simp)).trans hx0
    have hy1 := (hB.cell (p := ⟨w.heap.size + 1, 1, none⟩) (by simp)).trans hx1
    have hy2 := (hB.cell (p := ⟨gb, 0, none⟩) (by simp; omega)).trans hx2
    by_cases hlt : k < sups.length
    · obtain ⟨_, sa', cap', hee, hsx⟩ := HS0.out.below hB (by omega)
      injection hee with hee _ _
      subst hee
      obtain ⟨b, off, rfl, hb, hc, hw⟩ := hsx (by omega)
      have hck := hc k hlt
      have hwk := hw _ (getD_mem sups [] k hlt)
      have hck1 : 0 < k → wr.cell? ⟨b, off + (k - 1), none⟩ = some (.string (bs (sups.getD (k - 1) []))) := fun _ => hc (k - 1) (by omega)
      have hlk := (HM0.out.below hB (by have := HM0.out.lt; omega)).look hwk
      have hstep : Hid (supErr ns sups = if supE ns sups k = 0 then supErrFrom ns sups (sups.length - (k + 1)) (k + 1) else supE ns sups k) := by
        unfold Hid; rw [hE.out]
        have : sups.length - k = (sups.length - (k + 1)) + 1 := by omega
        rw [this]; rfl
      clear hc hw hsx hE
      by_cases hin : inNs ns (sups.getD k []) = true
      · rw [hin] at hlk
        have htake : Hid (sups.take (k + 1) = sups.take k ++ [sups.getD k []]) := take_snocD sups [] k hlt
        have HIN := Lib.hid hin
        clear hin
        generalize hx : sups.getD k [] = x at *
        have HX := Lib.hid hx
        clear hx
        by_cases hk0 : 0 < k
        · have hk1 := hck1 hk0
          clear hck1
          generalize hyy : sups.getD (k - 1) [] = y at *
          have HY := Lib.hid hyy
          clear hyy
          by_cases hord : (!Op.bytesLess (bs y).toList (bs x).toList) = true
          · have hE17 : Hid (supErr ns sups = 17) := by
              unfold Hid; rw [hstep.out]
              have : supE ns sups k = 17 := by unfold supE; rw [HX.out, HY.out, HIN.out]; simp only [if_true]; rw [if_pos ⟨hk0, hord⟩]
              rw [this]; rfl
            clear hstep
            go_wp2_with fail
            rw [hE17.out]
            exact ⟨_, results_tmp rfl _ _ _, addErr (by decide) ((hbW.mono hBw).trans (hB.mono (by omega)))⟩
          · have hord' : (!Op.bytesLess (bs y).toList (bs x).toList) = false := by simpa using hord
            have hst2 : Hid (supErr ns sups = supErrFrom ns sups (sups.length - (k + 1)) (k + 1)) := by
              unfold Hid; rw [hstep.out]
              have : supE ns sups k = 0 := by unfold supE; rw [HX.out, HY.out, HIN.out]; simp only [if_true]; rw [if_neg (fun h => hord h.2)]
              rw [this]; rfl
            clear hstep hord
            go_wp2_with (at_builtin; refine wpList_append_own _ rfl _ _ 133 rfl (w.heap.size + 2) 3 i0 (.int .i64 0) 1 8 Tryz.underlying133 hi hq0 hq1 hq2 rfl (by decide) _ _ _ rfl (hown.alloc _) ⟨wr.heap.size, 0, none⟩ 1 1 [.int .i64 ((ixOf ns x : Nat) : Int)] rfl rfl (cell_one_new _ _ _) (by simp [Value.oneCell']) (by unfold maxLen; omega) (by omega) (by simp; omega) ?_; intro v' w5 hown5 hgrow5 _)
            have hOWN : Hid (w5.ownsRow (w.heap.size + 2) 3 1 v' (k + 1) (ints (List.take (k + 1) (List.map (ixOf ns) sups)))) := by
              unfold Hid
              rw [← List.map_take, htake.out]
              have e : ints (List.map (ixOf ns) (List.take k sups ++ [x])) = ints (List.map (ixOf ns) (List.take k sups)) ++ [.int .i64 ((ixOf ns x : Nat) : Int)] := by simp [ints]
              rw [e]; exact hown5
            have hBEL : Below (w.heap.size + 2) W0 w5 := by
                exact (hB.alloc hz _).grown hgrow5 (by simp; omega) (fun r er => ownBlock_ge hown er)
            (refine ⟨?_, by simp [intOf]; omega⟩; first | exact ⟨_, v', .int .i64 k, .string (bs x), .int .i64 ((ixOf ns x : Nat) : Int), .bool true, .int .i64 ((k : Int) + 1), ⟨k + 1, by omega, rfl, hOWN.out, hBEL, hst2⟩, rfl⟩ | exact ⟨_, v', .int .i64 k, .string (bs x), .int .i64 ((ixOf ns x : Nat) : Int), .bool true, .int .i64 ((k : Int) + 1), ⟨k + 1, by omega, rfl, hOWN.out, hBEL, hst2⟩, rfl, rfl, rfl, rfl, rfl, rfl, rfl⟩)
        · have hk00 : k ≤ 0 := by omega
          have hst2 : Hid (supErr ns sups = supErrFrom ns sups (sups.length - (k + 1)) (k + 1)) := by
            unfold Hid; rw [hstep.out]
            have : supE ns sups k = 0 := by unfold supE; rw [HX.out, HIN.out]; simp only [if_true]; rw [if_neg (fun h => by omega)]
            rw [this]; rfl
          clear hstep hck1
          go_wp2_with (at_builtin; refine wpList_append_own _ rfl _ _ 133 rfl (w.heap.size + 2) 3 i0 (.int .i64 0) 1 8 Tryz.underlying133 hi hq0 hq1 hq2 rfl (by decide) _ _ _ rfl (hown.alloc _) ⟨wr.heap.size, 0, none⟩ 1 1 [.int .i64 ((ixOf ns x : Nat) : Int)] rfl rfl (cell_one_new _ _ _) (by simp [Value.oneCell']) (by unfold maxLen; omega) (by omega) (by simp; omega) ?_; intro v' w5 hown5 hgrow5 _)
          have hOWN : Hid (w5.ownsRow (w.heap.size + 2) 3 1 v' (k + 1) (ints (List.take (k + 1) (List.map (ixOf ns) sups)))) := by
            unfold Hid
            rw [← List.map_take, htake.out]
            have e : ints (List.map (ixOf ns) (List.take k sups ++ [x])) = ints (List.map (ixOf ns) (List.take k sups)) ++ [.int .i64 ((ixOf ns x : Nat) : Int)] := by simp [ints]
            rw [e]; exact hown5
          have hBEL : Below (w.heap.size + 2) W0 w5 := by
              exact (hB.alloc hz _).grown hgrow5 (by simp; omega) (fun r er => ownBlock_ge hown er)
          (refine ⟨?_, by simp [intOf]; omega⟩; first | exact ⟨_, v', .int .i64 k, .string (bs x), .int .i64 ((ixOf ns x : Nat) : Int), .bool true, .int .i64 ((k : Int) + 1), ⟨k + 1, by omega, rfl, hOWN.out, hBEL, hst2⟩, rfl⟩ | exact ⟨_, v', .int .i64 k, .string (bs x), .int .i64 ((ixOf ns x : Nat) : Int), .bool true, .int .i64 ((k : Int) + 1), ⟨k + 1, by omega, rfl, hOWN.out, hBEL, hst2⟩, rfl, rfl, rfl, rfl, rfl, rfl, rfl⟩)
      · have hin' : inNs ns (sups.getD k []) = false := by simpa using hin
        have hE9 : Hid (supErr ns sups = 9) := by
          unfold Hid; rw [hstep.out]
          have : supE ns sups k = 9 := by unfold supE; rw [hin']; rfl
          rw [this]; rfl
        rw [hin'] at hlk
        clear hstep hin hin' hck1
        generalize sups.getD k [] = x at *
        go_wp2_with fail
        rw [hE9.out]
        exact ⟨_, results_tmp rfl _ _ _, addErr (by decide) ((hbW.mono hBw).trans (hB.mono (by omega)))⟩
    · have hkk : k = sups.length := by omega
      subst hkk
      have hE0 : Hid (supErr ns sups = 0) := by unfold Hid; rw [hE.out, Nat.sub_self]; rfl
      have HALL := Lib.hid (supErr_all ns sups hE0.out)
      rw [List.take_length] at hown
      clear hE
      have hBw1 : Below w.heap.size w wr := hbW.trans (hB.mono (by omega))
      have HG1 : wr.heap[gb]? = some (.cells #[.map (some bm), sv, av, .slice none 0 0, .map none, .map none] 63 (0, 0)) := (hBw1.block gb hgb).trans HG.out
      have hsv1 := ownsRow_below HSV.out hBw1 (Nat.le_refl _)
      have hav1 := ownsRow_below HAV.out hBw1 (Nat.le_refl _)
      have hrows1 : Hid (∀ i, i < ns.length → (sp.getD i []).length ≤ 20 ∧ wr.ownsRow B 3 1 (rs.getD i undef) (sp.getD i []).length (ints (sp.getD i []))) := fun i hi => ⟨(HROWS.out i hi).1, ownsRow_below (HROWS.out i hi).2 hBw1 (Nat.le_refl _)⟩
      have hnew1 := Lib.hid (ownsRow_base hown (show B ≤ w.heap.size + 2 by omega))
      have hm1 := Lib.hid (HM0.out.below hB (by have := HM0.out.lt; omega))
      clear HSV HAV HROWS HG HM HS HM0 HS0 hown
      obtain ⟨s1, k1, hsvf⟩ := ownsRow_form hsv1
      obtain ⟨s2, k2, havf⟩ := ownsRow_form hav1
      have hnm := (hB.cell (p := ⟨w.heap.size + 1, 0, none⟩) (by simp)).trans hxn
      subst hsvf
      subst havf
      have HSV1 := Lib.hid hsv1
      have HAV1 := Lib.hid hav1
      have g1 : wr.cell? ⟨gb, 1, none⟩ = some (.slice s1 ns.length k1) := by rw [cell_of_row wr gb 1 _ _ _ HG1]; rfl
      have HHG1 := Lib.hid HG1
      clear hsv1 hav1 HG1
      go_wp2_with fail
      refine still_tail 7 (by kernel_rfl) (by kernel_rfl) ?_
      intro w2 hw2
      have hb2 : Below wr.heap.size wr w2 := by rw [hw2]; exact (below_alloc wr _).drew
      have hz2 : wr.heap.size + 1 ≤ w2.heap.size := by rw [hw2]; show _ ≤ (wr.alloc _).heap.size; simp
      have hz2' : w2.heap.size ≤ wr.heap.size + 1 := by rw [hw2]; show (wr.alloc _).heap.size ≤ _; simp
      have p0 : w2.cell? ⟨wr.heap.size, 0, none⟩ = some (.int .i64 ((ns.length : Nat) : Int)) := by rw [hw2]; exact (cell_one_new_l wr _ _)
      have hbn2 : w2.heap[wr.heap.size]? = some (.cells #[.int .i64 ((ns.length : Nat) : Int)] 3 (0, 0)) := by rw [hw2]; exact World.alloc_heap_new wr _
      have HBN2 := Lib.hid hbn2
      clear hbn2
      have p1 := (hb2.cell (p := ⟨w.heap.size, 0, none⟩) (by simp; omega)).trans hy0
      have p2 := (hb2.cell (p := ⟨gb, 0, none⟩) (by simp; omega)).trans hy2
      have p3 := (hb2.cell (p := ⟨w.heap.size + 1, 0, none⟩) (by simp; omega)).trans hnm
      have hm2 := hm1.out.below hb2 hm1.out.lt
      have HW2 := Lib.hid hw2
      clear hw2
      simp only [List.take_succ_cons, List.take_zero, List.drop_succ_cons, List.drop_zero]
      repeat still_step
      refine wpStill_nil ?_
      refine wpList_mapAt_put _ rfl _ _ _ rfl bm rfl ns hm2 nm rfl hnl rfl (by omega) HD.out ?_
      intro w3 hm3 hg3
      have q1 := hm2.cellT hg3 p1
      have q4 := hm2.cellT hg3 p0
      have hHG2 : w2.heap[gb]? = some (.cells #[.map (some bm), .slice s1 ns.length k1, .slice s2 ns.length k2, .slice none 0 0, .map none, .map none] 63 (0, 0)) := (hb2.block gb (by omega)).trans HHG1.out
      have HHG3 := Lib.hid (hm2.turned hg3 hHG2 rfl)
      have HBX3 := Lib.hid (hm2.turned hg3 ((hb2.block w.heap.size (by omega)).trans ((hB.block w.heap.size (by omega)).trans HBX0.out)) rfl)
      have q2 : w3.cell? ⟨gb, 1, none⟩ = some (.slice s1 ns.length k1) := by rw [cell_of_row w3 gb 1 _ _ _ HHG3.out]; rfl
      have f2 : w3.frozen? ⟨gb, 1, none⟩ = false := frozen_of_row w3 gb 1 _ _ HHG3.out
      have HSV3 := Lib.hid (hm2.rowT hg3 (ownsRow_below HSV1.out hb2 (Nat.le_refl _)))
      have HAV3 := Lib.hid (hm2.rowT hg3 (ownsRow_below HAV1.out hb2 (Nat.le_refl _)))
      have HNEW3 := Lib.hid (hm2.rowT hg3 (ownsRow_below hnew1.out hb2 (Nat.le_refl _)))
      have HROW3 : Hid (∀ i, i < ns.length → (sp.getD i []).length ≤ 20 ∧ w3.ownsRow B 3 1 (rs.getD i undef) (sp.getD i []).length (ints (sp.getD i []))) := fun i hi => ⟨(hrows1.out i hi).1, hm2.rowT hg3 (ownsRow_below (hrows1.out i hi).2 hb2 (Nat.le_refl _))⟩
      have hz3 : wr.heap.size + 1 ≤ w3.heap.size := by have := hg3.size; omega
      have hB3 : Below B w w3 := ((hBw1.mono hBw).trans (hb2.mono (by omega))).grown hg3 (by omega) (fun r e => by cases e; exact hBm)
      have HM3 := Lib.hid hm3
      have HBN3 := Lib.hid (hm2.turned hg3 HBN2.out rfl)
      clear hm3 hg3 hHG2 p0 p1 p2 p3 hm2 HW2 hrows1 hnew1 HSV1 HAV1 HHG1 hm1 hy0 hy1 hy2 hnm g1 hx0 hx1 hx2 hxn HW0
      obtain ⟨i1, hj, hj0, hj1, hj2⟩ := info_parts Tryz.info133
      obtain ⟨s7, k7, hu7⟩ := ownsRow_form HNEW3.out
      subst hu7
      have hne1 := ownBlock_ne HSV3.out HHG3.out (by decide)
      have hne2 := ownBlock_ne HSV3.out HBX3.out (by decide)
      have rA : (w3.alloc (Obj.cells #[.slice s7 sups.length k7] 133)).cell? ⟨gb, 1, none⟩ = some (.slice s1 ns.length k1) := keep_c q2
      have rB : (w3.alloc (Obj.cells #[.slice s7 sups.length k7] 133)).cell? ⟨w.heap.size, 0, none⟩ = some (.pointer (some ⟨gb, 0, none⟩)) := keep_c q1
      go_upto_region 21 with (fail)
      simp only [Act.put]
      go_cut [] from 14 to 91 (fun w6 => ∃ g cap w5, w5.ownsRow B 133 1 (.slice (some ⟨g, 0, none⟩) (ns.length + 1) cap) (ns.length + 1) (rs ++ [.slice s7 sups.length k7]) ∧ (w3.alloc (Obj.cells #[.slice s7 sups.length k7] 133)).drew.grownBy w5 (Value.slice s1 ns.length k1).ownBlock ∧ w6 = w5.setCell ⟨gb, 1, none⟩ (.slice (some ⟨g, 0, none⟩) (ns.length + 1) cap))
      case first =>
        refine wp_region_noPanic ?_
        go_region_law ((refine step_append_lies _ (by rfl) _ _ _ (by rfl) B 133 i1 (.slice none 0 0) 1 24 Tryz.underlying59 hj hj0 hj1 hj2 rfl (by decide) _ ns.length rs (by rfl) ((HSV3.out.alloc _).drew) ⟨w3.heap.size, 0, none⟩ 1 1 [.slice s7 sups.length k7] (by rfl) (by rfl) (World.news_of_block (cs := #[.slice s7 sups.length k7]) (t := 133) (fr := (0, 0)) (heap_alloc_new w3 _)) (by simp [Value.oneCell']) (by decide) (by unfold maxLen; omega) (by omega) (by simp; omega) (w3.heap.size + 1) (by simp) ?_; intro g cap w5 hown5 hgrow5 hg5 hl5; have r1 : w5.cell? ⟨w.heap.size, 0, none⟩ = some (.pointer (some ⟨gb, 0, none⟩)) := (by rw [hgrow5.cell_far _ (by simp; omega) hne2]; exact keep_c q1); have r2 : w5.cell? ⟨gb, 1, none⟩ = some (.slice s1 ns.length k1) := (by rw [hgrow5.cell_far _ (by simp; omega) hne1]; exact keep_c q2); have rf : w5.frozen? ⟨gb, 1, none⟩ = false := (by rw [hgrow5.frozen_far _ (by simp; omega) hne1]; exact keep_f q2 f2)))
        all_goals
          refine NoPanic.normal ?_
          go_wp2_with fail
          go_meet
          case rel => exact ⟨g, cap, w5, hown5, hgrow5, rfl⟩
      case rest =>
        obtain ⟨g, cap, w5, hown5, hgrow5, rfl⟩ := hcut
        have S35 : StepT [133, 63] w3 w5 := (StepT.alloc _ w3 (Obj.cells #[.slice s7 sups.length k7] 133)).drew.trans (StepT.row hgrow5 ((HSV3.out.alloc _).drew) (by simp))
        have hHG5 : w5.heap[gb]? = some (.cells #[.map (some bm), .slice s1 ns.length k1, .slice s2 ns.length k2, .slice none 0 0, .map none, .map none] 63 (0, 0)) :=
          (StepT.row (T := [133]) hgrow5 ((HSV3.out.alloc _).drew) (by simp)).cells ((StepT.alloc [133] w3 (Obj.cells #[.slice s7 sups.length k7] 133)).drew.cells HHG3.out (by simp)) (by simp)
        generalize hw6 : w5.setCell ⟨gb, 1, none⟩ (.slice (some ⟨g, 0, none⟩) (ns.length + 1) cap) = w6
        have HHG6 : Hid (w6.heap[gb]? = some (.cells #[.map (some bm), .slice (some ⟨g, 0, none⟩) (ns.length + 1) cap, .slice s2 ns.length k2, .slice none 0 0, .map none, .map none] 63 (0, 0))) := by
          unfold Hid; rw [← hw6]; exact heap_setCell_same w5 gb 1 _ 63 _ hHG5
        have S36 : StepT [133, 63] w3 w6 := S35.trans (by rw [← hw6]; exact StepT.set hHG5 (by simp))
        have HSV6 : Hid (w6.ownsRow B 133 1 (.slice (some ⟨g, 0, none⟩) (ns.length + 1) cap) (ns.length + 1) (rs ++ [.slice s7 sups.length k7])) := by
          unfold Hid; rw [← hw6]; exact (StepT.set (T := [63]) hHG5 (by simp)).own hown5 (by simp)
        have hz6 : w3.heap.size ≤ w6.heap.size := S36.size
        have hB6 : Below B w w6 := by
          rw [← hw6]
          exact (((hB3.alloc (by omega) _).drew).grown hgrow5 (by show B ≤ (w3.alloc _).heap.size; simp; omega) (fun r e => ownBlock_ge HSV3.out e)).setCell hBg _
        have HM6 := Lib.hid (S36.map HM3.out)
        have HAV6 := Lib.hid (S36.own HAV3.out (by simp))
        have HNEW6 := Lib.hid (S36.own HNEW3.out (by simp))
        have HBX6 := Lib.hid (S36.cells HBX3.out (by simp))
        have HBN6 := Lib.hid (S36.cells HBN3.out (by simp))
        have HROW6 : Hid (∀ i, i < ns.length → (sp.getD i []).length ≤ 20 ∧ w6.ownsRow B 3 1 (rs.getD i undef) (sp.getD i []).length (ints (sp.getD i []))) := fun i hi => ⟨(HROW3.out i hi).1, S36.own (HROW3.out i hi).2 (by simp)⟩
        clear hown5 hgrow5 S35 hHG5 hw6 S36 HSV3 HAV3 HNEW3 HROW3 HM3 HHG3 HBX3 HBN3 q1 q2 q4 f2 rA rB hne1 hne2
        have q1 : w6.cell? ⟨w.heap.size, 0, none⟩ = some (.pointer (some ⟨gb, 0, none⟩)) := by rw [cell_of_row w6 _ 0 _ _ _ HBX6.out]; rfl
        have q2 : w6.cell? ⟨gb, 2, none⟩ = some (.slice s2 ns.length k2) := by rw [cell_of_row w6 gb 2 _ _ _ HHG6.out]; rfl
        have f2 : w6.frozen? ⟨gb, 2, none⟩ = false := frozen_of_row w6 gb 2 _ _ HHG6.out
        have hne1 := ownBlock_ne HAV6.out HHG6.out (by decide)
        have hne2 := ownBlock_ne HAV6.out HBX6.out (by decide)
        obtain ⟨i2, ho, ho0, ho1, ho2⟩ := info_parts Tryz.info136
        have rA : (w6.alloc (Obj.cells #[.int .u64 0, .int .u64 0, .int .u64 0, .int .u64 0, .int .u64 0] 136)).cell? ⟨gb, 2, none⟩ = some (.slice s2 ns.length k2) := keep_c q2
        have rB : (w6.alloc (Obj.cells #[.int .u64 0, .int .u64 0, .int .u64 0, .int .u64 0, .int .u64 0] 136)).cell? ⟨w.heap.size, 0, none⟩ = some (.pointer (some ⟨gb, 0, none⟩)) := keep_c q1
        go_upto_region 22 with (fail)
        go_cut [] from 14 to 101 (fun w8 => ∃ g2 cap2 w7, w7.ownsRow B 136 5 (.slice (some ⟨g2, 0, none⟩) (ns.length + 1) cap2) (ns.length + 1) (xs ++ [.int .u64 0, .int .u64 0, .int .u64 0, .int .u64 0, .int .u64 0]) ∧ (w6.alloc (Obj.cells #[.int .u64 0, .int .u64 0, .int .u64 0, .int .u64 0, .int .u64 0] 136)).drew.grownBy w7 (Value.slice s2 ns.length k2).ownBlock ∧ w8 = w7.setCell ⟨gb, 2, none⟩ (.slice (some ⟨g2, 0, none⟩) (ns.length + 1) cap2))
        case first =>
          refine wp_region_noPanic ?_
          go_region_law ((refine step_append_lies _ (by rfl) _ _ _ (by rfl) B 136 i2 (.agg #[.int .u64 0, .int .u64 0, .int .u64 0, .int .u64 0, .int .u64 0]) 5 40 Tryz.underlying60 ho ho0 ho1 ho2 rfl (by decide) _ ns.length xs (by rfl) ((HAV6.out.alloc _).drew) ⟨w6.heap.size, 0, none⟩ 1 1 [.int .u64 0, .int .u64 0, .int .u64 0, .int .u64 0, .int .u64 0] (by rfl) (by rfl) (World.news_of_block (cs := #[.int .u64 0, .int .u64 0, .int .u64 0, .int .u64 0, .int .u64 0]) (t := 136) (fr := (0, 0)) (heap_alloc_new w6 _)) (by simp [Value.oneCell']) (by decide) (by unfold maxLen; omega) (by omega) (by simp; omega) (w6.heap.size + 1) (by simp) ?_; intro g2 cap2 w7 hown7 hgrow7 hg7 hl7; have r1 : w7.cell? ⟨w.heap.size, 0, none⟩ = some (.pointer (some ⟨gb, 0, none⟩)) := (by rw [hgrow7.cell_far _ (by simp; omega) hne2]; exact keep_c q1); have r2 : w7.cell? ⟨gb, 2, none⟩ = some (.slice s2 ns.length k2) := (by rw [hgrow7.cell_far _ (by simp; omega) hne1]; exact keep_c q2); have rf : w7.frozen? ⟨gb, 2, none⟩ = false := (by rw [hgrow7.frozen_far _ (by simp; omega) hne1]; exact keep_f q2 f2)))
          all_goals
            refine NoPanic.normal ?_
            go_wp2_with fail
            go_meet
            case rel => exact ⟨g2, cap2, w7, hown7, hgrow7, rfl⟩
        case rest =>
          obtain ⟨g2, cap2, w7, hown7, hgrow7, rfl⟩ := hcut
          have S67 : StepT [136] w6 w7 := (StepT.alloc _ w6 (Obj.cells #[.int .u64 0, .int .u64 0, .int .u64 0, .int .u64 0, .int .u64 0] 136)).drew.trans (StepT.row hgrow7 ((HAV6.out.alloc _).drew) (by simp))
          have hHG7 := S67.cells HHG6.out (by simp)
          generalize hw8 : w7.setCell ⟨gb, 2, none⟩ (.slice (some ⟨g2, 0, none⟩) (ns.length + 1) cap2) = w8
          have HHG8 : Hid (w8.heap[gb]? = some (.cells #[.map (some bm), .slice (some ⟨g, 0, none⟩) (ns.length + 1) cap, .slice (some ⟨g2, 0, none⟩) (ns.length + 1) cap2, .slice none 0 0, .map none, .map none] 63 (0, 0))) := by
            unfold Hid; rw [← hw8]; exact heap_setCell_same w7 gb 2 _ 63 _ hHG7
          have S68 : StepT [136, 63] w6 w8 := (S67.mono (by simp)).trans (by rw [← hw8]; exact StepT.set hHG7 (by simp))
          have HAV8 : Hid (w8.ownsRow B 136 5 (.slice (some ⟨g2, 0, none⟩) (ns.length + 1) cap2) (ns.length + 1) (xs ++ [.int .u64 0, .int .u64 0, .int .u64 0, .int .u64 0, .int .u64 0])) := by
            unfold Hid; rw [← hw8]; exact (StepT.set (T := [63]) hHG7 (by simp)).own hown7 (by simp)
          have hz8 : w6.heap.size ≤ w8.heap.size := S68.size
          have hB8 : Below B w w8 := by
            rw [← hw8]
            exact (((hB6.alloc (by omega) _).drew).grown hgrow7 (by show B ≤ (w6.alloc _).heap.size; simp; omega) (fun r e => ownBlock_ge HAV6.out e)).setCell hBg _
          have HM8 := Lib.hid (S68.map HM6.out)
          have HSV8 := Lib.hid (S68.own HSV6.out (by simp))
          have HNEW8 := Lib.hid (S68.own HNEW6.out (by simp))
          have HBX8 := Lib.hid (S68.cells HBX6.out (by simp))
          have HBN8 := Lib.hid (S68.cells HBN6.out (by simp))
          have HROW8 : Hid (∀ i, i < ns.length → (sp.getD i []).length ≤ 20 ∧ w8.ownsRow B 3 1 (rs.getD i undef) (sp.getD i []).length (ints (sp.getD i []))) := fun i hi => ⟨(HROW6.out i hi).1, S68.own (HROW6.out i hi).2 (by simp)⟩
          clear hown7 hgrow7 S67 hHG7 hw8 S68 HSV6 HAV6 HNEW6 HROW6 HM6 HHG6 HBX6 HBN6 q1 q2 f2 rA rB hne1 hne2
          have q1 : w8.cell? ⟨w.heap.size, 0, none⟩ = some (.pointer (some ⟨gb, 0, none⟩)) := by rw [cell_of_row w8 _ 0 _ _ _ HBX8.out]; rfl
          have q4 : w8.cell? ⟨wr.heap.size, 0, none⟩ = some (.int .i64 ((ns.length : Nat) : Int)) := by rw [cell_of_row w8 _ 0 _ _ _ HBN8.out]; rfl
          go_wp2_with (go_at_call 54; refine (upward_any _ _ _).mono ?_; rintro e w9 ⟨rfl, rfl⟩)
          have S89 : ∀ T, StepT T w8 ((w8.alloc (Obj.cells #[.pointer (some ⟨gb, 0, none⟩)] 104)).alloc (Obj.cells #[.int .i64 ((ns.length : Nat) : Int)] 3)) := fun T => (StepT.alloc T _ _).trans (StepT.alloc T _ _)
          have hx9 := heap_alloc2_old w8 (.cells #[.pointer (some ⟨gb, 0, none⟩)] 104) (.cells #[.int .i64 ((ns.length : Nat) : Int)] 3)
          have hy9 := heap_alloc2_new w8 (.cells #[.pointer (some ⟨gb, 0, none⟩)] 104) (.cells #[.int .i64 ((ns.length : Nat) : Int)] 3)
          have hb89 : Below w8.heap.size w8 ((w8.alloc (Obj.cells #[.pointer (some ⟨gb, 0, none⟩)] 104)).alloc (Obj.cells #[.int .i64 ((ns.length : Nat) : Int)] 3)) := ((Below.refl _ w8).alloc (Nat.le_refl _) _).alloc (by simp) _
          have hs9 : w8.heap.size + 2 ≤ ((w8.alloc (Obj.cells #[.pointer (some ⟨gb, 0, none⟩)] 104)).alloc (Obj.cells #[.int .i64 ((ns.length : Nat) : Int)] 3)).heap.size := by simp
          generalize hw9 : ((w8.alloc (Obj.cells #[.pointer (some ⟨gb, 0, none⟩)] 104)).alloc (Obj.cells #[.int .i64 ((ns.length : Nat) : Int)] 3)) = w9 at *
          clear hw9
          have HG9 := Lib.hid ((S89 []).cells HHG8.out (by simp))
          have HAV9 := Lib.hid ((S89 []).own HAV8.out (by simp))
          have HSV9 := Lib.hid ((S89 []).own HSV8.out (by simp))
          have HM9 := Lib.hid ((S89 []).map HM8.out)
          have HNEW9 := Lib.hid ((S89 []).own HNEW8.out (by simp))
          have HBX9 := Lib.hid ((S89 []).cells HBX8.out (by simp))
          have HBN9 := Lib.hid ((S89 []).cells HBN8.out (by simp))
          have HROW9 : Hid (∀ i, i < ns.length → (sp.getD i []).length ≤ 20 ∧ w9.ownsRow B 3 1 (rs.getD i undef) (sp.getD i []).length (ints (sp.getD i []))) := fun i hi => ⟨(HROW8.out i hi).1, (S89 []).own (HROW8.out i hi).2 (by simp)⟩
          have hB9 : Below B w w9 := hB8.trans (hb89.mono (by omega))
          have HX9 := Lib.hid hx9
          have HY9 := Lib.hid hy9
          obtain ⟨hBg2, cur2, hg2o, hcap2, hcur2, htk2⟩ := own_obj HAV9.out
          have HO2 := Lib.hid hg2o
          have hg2lt : g2 < w8.heap.size := by
            obtain ⟨_, cur8, h8, _⟩ := own_obj HAV8.out
            exact (Array.getElem?_eq_some_iff.1 h8).1
          clear S89 hb89 HHG8 HAV8 HSV8 HM8 HNEW8 HBX8 HBN8 HROW8 hx9 hy9 hg2o q1 q4
          refine (wpIn_wide (n := 6)).1 (wpIn_rangeFunc_B (n := 6) (α := Nat) (ps := #[104]) rfl (by omega) (gf := 74) (lb := #[.pointer (some ⟨w8.heap.size + 1, 0, none⟩), .pointer (some ⟨w8.heap.size, 0, none⟩)]) rfl trivial (enters_of Tryz.func74 (by kernel_rfl) rfl)
            (encs := fun x : Nat => #[.int .i64 (x : Int)]) (Kp := KeepC g2) (Ok := fun x => x ≤ ns.length) (S := fun xs => ∀ x, x ∈ xs ↔ Reach (fun i => (sp ++ [sups.map (ixOf ns)]).getD i []) ns.length x) ?hseq
            (fun h k => h.trans k) (fun W l o o' _ hl ho => KeepC.put W l o o' hl ho) (fun _ => rfl)
            (fun pre W => W.ownsRow B 136 5 (.slice (some ⟨g2, 0, none⟩) (ns.length + 1) cap2) (ns.length + 1) (xs ++ words5 pre) ∧ (∀ k, k < w9.heap.size → k ≠ g2 → W.heap[k]? = w9.heap[k]?) ∧ Below B w W ∧ w9.heap.size ≤ W.heap.size)
            ?hI ?h0 ?a1 ?assign ?body ?done)
          case assign =>
            intro l x W K hK
            gi_wp2
            exact hK
          case hseq =>
            intro W hbW9
            have hrel : ∀ k o, w9.heap[k]? = some o → W.heap[k]? = some o := fun k o h => (hbW9.block k (Array.getElem?_eq_some_iff.1 h).1).trans h
            have hx := hrel _ _ HX9.out
            have hy := hrel _ _ HY9.out
            have hsz := hbW9.size
            refine up_seq g2 ns.length (w8.heap.size + 1) w8.heap.size gb _ W (by omega) (by omega) (by omega) (by omega) (by rw [cell_of_row W _ 0 _ _ _ hy]; rfl) (by rw [cell_of_row W _ 0 _ _ _ hx]; rfl) (by omega) ?_ ?_
            · refine supAt_of (hrel _ _ HG9.out) rfl (ownsRow_below HSV9.out hbW9 (Nat.le_refl _)) (hrel _ _ HO2.out) (fun i hi => ?_)
              by_cases hin : i < ns.length
              · have e1 : (sp ++ [sups.map (ixOf ns)]).getD i [] = sp.getD i [] := getD_left sp _ i (by rw [HSPL.out]; exact hin)
                have e2 : (rs ++ [Value.slice s7 sups.length k7]).getD i undef = rs.getD i undef := getD_leftV rs _ i (by have := HSV9.out.1; simp at this; omega)
                rw [e1, e2]
                exact ⟨(HROW9.out i hin).1, ownsRow_below (HROW9.out i hin).2 hbW9 (Nat.le_refl _)⟩
              · have hieq : i = ns.length := by omega
                have e1 : (sp ++ [sups.map (ixOf ns)]).getD i [] = sups.map (ixOf ns) := by rw [hieq, ← HSPL.out]; exact getD_last sp _
                have e2 : (rs ++ [Value.slice s7 sups.length k7]).getD i undef = .slice s7 sups.length k7 := by
                  have hl : rs.length = ns.length := by have := HSV9.out.1; simp at this; omega
                  rw [hieq, ← hl]; exact getD_lastV rs _
                rw [e1, e2]
                refine ⟨by simpa using hl20, ?_⟩
                rw [List.length_map]
                exact ownsRow_below HNEW9.out hbW9 (Nat.le_refl _)
            · intro i hi s hs
              by_cases hin : i < ns.length
              · have e1 : (sp ++ [sups.map (ixOf ns)]).getD i [] = sp.getD i [] := getD_left sp _ i (by rw [HSPL.out]; exact hin)
                simp only [e1] at hs
                exact HLT.out i hin s hs
              · have hieq : i = ns.length := by omega
                have e1 : (sp ++ [sups.map (ixOf ns)]).getD i [] = sups.map (ixOf ns) := by rw [hieq, ← HSPL.out]; exact getD_last sp _
                simp only [e1] at hs
                obtain ⟨t, ht, rfl⟩ := List.mem_map.1 hs
                rw [hieq]
                exact ixOf_lt (HALL.out t ht)
          case hI =>
            rintro pre A C ⟨h1, h2, h3, h4⟩ hb
            obtain ⟨_, curA, hA, _⟩ := own_obj h1
            refine ⟨ownsRow_block h1 (hb.block g2 (by have := HO2.out; exact (Array.getElem?_eq_some_iff.1 this).1)), fun k hk hne => (hb.block k hk).trans (h2 k hk hne), h3.trans (hb.mono (by omega)), by have := hb.size; omega⟩
          case h0 =>
            refine ⟨?_, fun _ _ _ => rfl, hB9, Nat.le_refl _⟩
            have e : words5 [] = [.int .u64 0, .int .u64 0, .int .u64 0, .int .u64 0, .int .u64 0] := by simp [words5, wordsOf]
            rw [e]; exact HAV9.out
          case body =>
            rintro l pre x W hox ⟨hI1, hI2, hI3, hI4⟩
            obtain ⟨hBg, cur, hgo, hcap, hcur, htk⟩ := own_obj hI1
            have hj5 : x / 64 < 5 := by omega
            have hcell : W.cell? ⟨g2, ns.length * 5 + x / 64, none⟩ = some (.int .u64 ((wordsOf pre (x / 64) : Nat) : Int)) := by
              have h1 := hI1.cellAt (ns.length * 5 + x / 64) (by omega)
              have hxl : xs.length = ns.length * 5 := by have := HAV9.out.1; simp at this; omega
              rw [h1, List.getElem?_append_right (by omega), hxl, Nat.add_sub_cancel_left]
              have : x / 64 = 0 ∨ x / 64 = 1 ∨ x / 64 = 2 ∨ x / 64 = 3 ∨ x / 64 = 4 := by omega
              rcases this with e | e | e | e | e <;> rw [e] <;> rfl
            have hfroz : W.frozen? ⟨g2, ns.length * 5 + x / 64, none⟩ = false := hI1.frozenAt _
            have e1 : W.cell? ⟨w.heap.size, 0, none⟩ = some (.pointer (some ⟨gb, 0, none⟩)) := by
              rw [cell_of_row W w.heap.size 0 _ 104 (0, 0) ((hI2 _ (by omega) (tag_ne HBX9.out HO2.out (by decide))).trans HBX9.out)]; rfl
            have e2 : W.cell? ⟨gb, 2, none⟩ = some (.slice (some ⟨g2, 0, none⟩) (ns.length + 1) cap2) := by
              rw [cell_of_row W gb 2 _ 63 (0, 0) ((hI2 _ (by omega) (tag_ne HG9.out HO2.out (by decide))).trans HG9.out)]; rfl
            have e3 : W.cell? ⟨wr.heap.size, 0, none⟩ = some (.int .i64 ((ns.length : Nat) : Int)) := by
              rw [cell_of_row W wr.heap.size 0 _ 3 (0, 0) ((hI2 _ (by omega) (tag_ne HBN9.out HO2.out (by decide))).trans HBN9.out)]; rfl
            have HI1 := Lib.hid hI1
            have HI2 := Lib.hid hI2
            have HGO := Lib.hid hgo
            clear hI1 hI2 hgo htk hcur
            have hP : Hid (KeepsFrom w9.heap.size W (W.drew.setCell ⟨g2, ns.length * 5 + x / 64, none⟩ (.int .u64 ((wordsOf pre (x / 64) ||| 2 ^ (x % 64) : Nat) : Int))).drew ∧ KeepC g2 W (W.drew.setCell ⟨g2, ns.length * 5 + x / 64, none⟩ (.int .u64 ((wordsOf pre (x / 64) ||| 2 ^ (x % 64) : Nat) : Int))).drew ∧
                ((W.drew.setCell ⟨g2, ns.length * 5 + x / 64, none⟩ (.int .u64 ((wordsOf pre (x / 64) ||| 2 ^ (x % 64) : Nat) : Int))).drew.ownsRow B 136 5 (.slice (some ⟨g2, 0, none⟩) (ns.length + 1) cap2) (ns.length + 1) (xs ++ words5 (pre ++ [x])) ∧ (∀ k, k < w9.heap.size → k ≠ g2 → (W.drew.setCell ⟨g2, ns.length * 5 + x / 64, none⟩ (.int .u64 ((wordsOf pre (x / 64) ||| 2 ^ (x % 64) : Nat) : Int))).drew.heap[k]? = w9.heap[k]?) ∧ Below B w (W.drew.setCell ⟨g2, ns.length * 5 + x / 64, none⟩ (.int .u64 ((wordsOf pre (x / 64) ||| 2 ^ (x % 64) : Nat) : Int))).drew ∧ w9.heap.size ≤ (W.drew.setCell ⟨g2, ns.length * 5 + x / 64, none⟩ (.int .u64 ((wordsOf pre (x / 64) ||| 2 ^ (x % 64) : Nat) : Int))).drew.heap.size)) := by
              obtain ⟨hst1, hst2⟩ := HI1.out.stored (ns.length * 5 + x / 64) (.int .u64 ((wordsOf pre (x / 64) ||| 2 ^ (x % 64) : Nat) : Int))
              have hxl : xs.length = ns.length * 5 := by have := HAV9.out.1; simp at this; omega
              have ho := (KeepsOthers.setCell W ⟨g2, ns.length * 5 + x / 64, none⟩ (.int .u64 ((wordsOf pre (x / 64) ||| 2 ^ (x % 64) : Nat) : Int))).from w9.heap.size
              have hc : KeepC g2 W (W.setCell ⟨g2, ns.length * 5 + x / 64, none⟩ (.int .u64 ((wordsOf pre (x / 64) ||| 2 ^ (x % 64) : Nat) : Int))) := KeepC.of_grown hst2 (fun r e => by cases e; left; rfl)
              refine ⟨⟨ho.size, ho.same⟩, ⟨hc.size, hc.obj⟩, ?_, fun k hk hne => ?_, ((hI3.drew).setCell (p := ⟨g2, ns.length * 5 + x / 64, none⟩) hBg2 _).drew, ?_⟩
              · have e : (xs ++ words5 pre).set (ns.length * 5 + x / 64) (.int .u64 ((wordsOf pre (x / 64) ||| 2 ^ (x % 64) : Nat) : Int)) = xs ++ words5 (pre ++ [x]) := by
                  rw [List.set_append_right _ _ (by omega), hxl, Nat.add_sub_cancel_left, words5_set pre x (x / 64) rfl hj5]
                rw [← e]; exact hst1
              · exact (Below.heap_setCell W _ _ _ hne).trans (HI2.out k hk hne)
              · show _ ≤ (W.setCell _ _).heap.size
                simp [World.setCell]; exact hI4
            gi_wp2_with fail
            gi_region_with ((refine ⟨trivial, ?_⟩; gi_at_call 72; refine (CallsIn.inRound l (callsIn_wide.2 (add_any g2 (ns.length * 5) x (wordsOf pre (x / 64)) _ (by omega) (wordsOf_lt _ _) (by exact hcell) (by exact hfroz)))).mono ?_; rintro e w' ⟨rfl, rfl⟩))
            all_goals exact hP.out
          case done =>
            rintro D ys W hD hS ⟨hI1, hI2, hI3, hI4⟩ hK
            have hWK : Below w9.heap.size W (W.putObj D (.deferred none)) := below_put W D _ hK hD
            have HEND : Hid (AddPost B w gb nm sups ns sp ab (supErr ns sups) (.returned (.int .i64 0)) (W.putObj D (.deferred none))) := by
              unfold Hid
              rw [hE0.out]
              refine ⟨rfl, hI3.trans (hWK.mono (by omega)), fun _ => ⟨ys, hS, hBg, ?_, ?_, ?_, ?_⟩⟩
              · have := HG9.out; have h1 := (Array.getElem?_eq_some_iff.1 this).1; have := hWK.size; omega
              · simp [HSPL.out]
              · simp [HABL.out]
              · have SW : StepT [136] w9 (W.putObj D (.deferred none)) := ⟨by have := hWK.size; omega, fun k o ho ht => by
                  have hk := (Array.getElem?_eq_some_iff.1 ho).1
                  refine (hWK.block k hk).trans ((hI2 k hk (fun e => ?_)).trans ho)
                  subst e
                  have := HO2.out
                  rw [this] at ho
                  injection ho with ho
                  exact ht _ _ _ ho.symm (by simp)⟩
                have hxl : xs.length = ns.length * 5 := by have := HAV9.out.1; simp at this; omega
                have hrl : rs.length = ns.length := by have := HSV9.out.1; simp at this; omega
                refine ⟨bm, .slice (some ⟨g, 0, none⟩) (ns.length + 1) cap, .slice (some ⟨g2, 0, none⟩) (ns.length + 1) cap2, rs ++ [.slice s7 sups.length k7], xs ++ words5 ys, ?_, hBm, ?_, ?_, fun i hi => ?_, ?_, fun i hi j hj => ?_⟩
                · exact SW.cells HG9.out (by decide)
                · exact SW.map HM9.out
                · rw [List.length_append]; exact SW.own HSV9.out (by decide)
                · by_cases hin : i < ns.length
                  · have e1 : (sp ++ [sups.map (ixOf ns)]).getD i [] = sp.getD i [] := getD_left sp _ i (by rw [HSPL.out]; exact hin)
                    have e2 : (rs ++ [Value.slice s7 sups.length k7]).getD i undef = rs.getD i undef := getD_leftV rs _ i (by omega)
                    rw [e1, e2]
                    exact ⟨(HROW9.out i hin).1, SW.own (HROW9.out i hin).2 (by decide)⟩
                  · have hieq : i = ns.length := by simp at hi; omega
                    have e1 : (sp ++ [sups.map (ixOf ns)]).getD i [] = sups.map (ixOf ns) := by rw [hieq, ← HSPL.out]; exact getD_last sp _
                    have e2 : (rs ++ [Value.slice s7 sups.length k7]).getD i undef = .slice s7 sups.length k7 := by rw [hieq, ← hrl]; exact getD_lastV rs _
                    rw [e1, e2]
                    refine ⟨by simpa using hl20, ?_⟩
                    rw [List.length_map]
                    exact SW.own HNEW9.out (by decide)
                · rw [List.length_append]
                  obtain ⟨_, curW, hWo, _⟩ := own_obj hI1
                  exact ownsRow_block hI1 (hWK.block g2 (by omega))
                · by_cases hin : i < ns.length
                  · have e1 : (ab ++ [ys]).getD i [] = ab.getD i [] := getD_left ab _ i (by rw [HABL.out]; exact hin)
                    rw [e1, List.getElem?_append_left (by omega)]
                    exact HXS.out i hin j hj
                  · have hieq : i = ns.length := by simp at hi; omega
                    have e1 : (ab ++ [ys]).getD i [] = ys := by rw [hieq, ← HABL.out]; exact getD_last ab _
                    rw [e1, List.getElem?_append_right (by omega), hieq, hxl, Nat.add_sub_cancel_left]
                    have : j = 0 ∨ j = 1 ∨ j = 2 ∨ j = 3 ∨ j = 4 := by omega
                    rcases this with e | e | e | e | e <;> rw [e] <;> rfl
            go_wp2_with fail
            refine ⟨by simp, .inl ⟨_, _, rfl, run_takeDeferred hK, ?_⟩⟩
            refine ⟨_, results_tmp rfl _ _ _, ?_⟩
            exact HEND.out
end Go.Proofs.YtehnikgdjnmfcaaGreat

/- The error cases of addClass, and its one contract. -/
namespace Go.Proofs.YtehnikgdjnmfcaaGreat
open Go.RowKit Go.WideMaps Go.Shelf

set_option maxRecDepth 100000 in
set_option maxHeartbeats 4000000 in
theorem addClass_name (B gb : Nat) (nm : Nm) (sl : Value) (w : World) (hBw : B ≤ w.heap.size) (hnl : nm.length ≤ maxLen) (hname : isNameB (bs nm) = false) :
    CallsIn Fence.wide 8 Tryz.prog 51 #[.pointer (some ⟨gb, 0, none⟩), .agg #[.string (bs nm), sl]] w (fun e w' => e = .returned (.int .i64 30) ∧ Below B w w') := by
  have hN := Lib.hid (isName_any (bs nm))
  have HN := Lib.hid hname
  clear hname
  refine callsIn_of_wp_marks Tryz.func51 rfl trivial (wpIn_wide.2 ?_) rfl
  simp only [Tryz.ntmps51, List.size_toArray, List.length_cons, List.length_nil, Nat.reduceAdd, Nat.reduceSub, Array.replicate_succ, Array.replicate_zero, List.push_toArray, List.append_toArray, List.nil_append, List.cons_append]
  go_wp2_with fail
  refine (hN.out _ (by rw [bs_size]; exact hnl)).mono ?_
  rw [HN.out]
  rintro e w1 ⟨rfl, rfl⟩
  go_wp2_with fail
  exact ⟨_, results_tmp rfl _ _ _, rfl, ((Below.refl B w).alloc hBw _).alloc (by simp; omega) _⟩

set_option maxRecDepth 100000 in
set_option maxHeartbeats 4000000 in
theorem addClass_dup (B gb bm : Nat) (nm : Nm) (sl : Value) (ns : List Nm) (w : World) (hgb : gb < w.heap.size) (hBw : B ≤ w.heap.size) (hnl : nm.length ≤ maxLen) (hname : isNameB (bs nm) = true) (hdup : inNs ns nm = true)
    (c0 : w.cell? ⟨gb, 0, none⟩ = some (.map (some bm))) (hm : MapAt w bm ns) :
    CallsIn Fence.wide 8 Tryz.prog 51 #[.pointer (some ⟨gb, 0, none⟩), .agg #[.string (bs nm), sl]] w (fun e w' => e = .returned (.int .i64 10) ∧ Below B w w') := by
  have hN := Lib.hid (isName_any (bs nm))
  have HN := Lib.hid hname
  have HD := Lib.hid hdup
  have HM := Lib.hid hm
  clear hname hdup hm
  refine callsIn_of_wp_marks Tryz.func51 rfl trivial (wpIn_wide.2 ?_) rfl
  simp only [Tryz.ntmps51, List.size_toArray, List.length_cons, List.length_nil, Nat.reduceAdd, Nat.reduceSub, Array.replicate_succ, Array.replicate_zero, List.push_toArray, List.append_toArray, List.nil_append, List.cons_append]
  go_wp2_with fail
  refine (hN.out _ (by rw [bs_size]; exact hnl)).mono ?_
  rw [HN.out]
  rintro e w1 ⟨rfl, rfl⟩
  have hm1 := (HM.out.alloc (Obj.cells #[.pointer (some ⟨gb, 0, none⟩)] 104)).alloc (Obj.cells #[.string (bs nm), sl] 48)
  have hlk := fun q => (hm1.drewN q).look hnl
  rw [HD.out] at hlk
  go_wp2_with fail
  go_quiet (fail)
  clear hlk
  go_wp2_with fail
  exact ⟨_, results_tmp rfl _ _ _, rfl, below_drewN (((Below.refl B w).alloc hBw _).alloc (by simp; omega) _) _⟩

set_option maxRecDepth 100000 in
set_option maxHeartbeats 4000000 in
theorem addClass_count (B gb bm : Nat) (nm : Nm) (sa : Option Addr) (n scap : Nat) (ns : List Nm) (w : World) (hgb : gb < w.heap.size) (hBw : B ≤ w.heap.size) (hnl : nm.length ≤ maxLen) (hname : isNameB (bs nm) = true) (hdup : inNs ns nm = false)
    (c0 : w.cell? ⟨gb, 0, none⟩ = some (.map (some bm))) (hm : MapAt w bm ns) (hl : 20 < n) :
    CallsIn Fence.wide 8 Tryz.prog 51 #[.pointer (some ⟨gb, 0, none⟩), .agg #[.string (bs nm), .slice sa n scap]] w (fun e w' => e = .returned (.int .i64 5) ∧ Below B w w') := by
  have hN := Lib.hid (isName_any (bs nm))
  have HN := Lib.hid hname
  have HD := Lib.hid hdup
  have HM := Lib.hid hm
  clear hname hdup hm
  refine callsIn_of_wp_marks Tryz.func51 rfl trivial (wpIn_wide.2 ?_) rfl
  simp only [Tryz.ntmps51, List.size_toArray, List.length_cons, List.length_nil, Nat.reduceAdd, Nat.reduceSub, Array.replicate_succ, Array.replicate_zero, List.push_toArray, List.append_toArray, List.nil_append, List.cons_append]
  go_wp2_with fail
  refine (hN.out _ (by rw [bs_size]; exact hnl)).mono ?_
  rw [HN.out]
  rintro e w1 ⟨rfl, rfl⟩
  have hm1 := (HM.out.alloc (Obj.cells #[.pointer (some ⟨gb, 0, none⟩)] 104)).alloc (Obj.cells #[.string (bs nm), .slice sa n scap] 48)
  have hlk := fun q => (hm1.drewN q).look hnl
  rw [HD.out] at hlk
  go_wp2_with fail
  go_quiet (fail)
  clear hlk
  have hl20' : decide (20 < ((n : Nat) : Int)) = true := by simp; omega
  go_wp2_with fail
  exact ⟨_, results_tmp rfl _ _ _, rfl, below_drewN (((Below.refl B w).alloc hBw _).alloc (by simp; omega) _) _⟩

/-- the error of a class -/
def classErr (ns : List Nm) (nm : Nm) (sups : List Nm) : Int :=
  if isNameB (bs nm) = false then 30 else if inNs ns nm = true then 10 else if 20 < sups.length then 5 else supErr ns sups

theorem addClass_any (B gb : Nat) (nm : Nm) (sa : Option Addr) (scap : Nat) (sups ns : List Nm) (sp ab : List (List Nat)) (w : World) (hBw : B ≤ w.heap.size) (hns : ns.length < 300)
    (hG : GAt B w gb ns sp ab) (hlt : ∀ i, i < ns.length → ∀ s ∈ sp.getD i [], s < i) (hs : SlS w (.slice sa sups.length scap) sups) (hnl : nm.length ≤ maxLen) :
    CallsIn Fence.wide 8 Tryz.prog 51 #[.pointer (some ⟨gb, 0, none⟩), .agg #[.string (bs nm), .slice sa sups.length scap]] w (AddPost B w gb nm sups ns sp ab (classErr ns nm sups)) := by
  obtain ⟨hBg, hgb, hspl, habl, bm, sv, av, rs, xs, hgo, hBm, hm, hsv, hrows, hav, hxs⟩ := hG
  have c0 : w.cell? ⟨gb, 0, none⟩ = some (.map (some bm)) := by rw [cell_of_row w gb 0 _ _ _ hgo]; rfl
  by_cases h1 : isNameB (bs nm) = false
  · have : classErr ns nm sups = 30 := by unfold classErr; rw [if_pos h1]
    rw [this]
    exact (addClass_name B gb nm _ w hBw hnl h1).mono (fun e w' ⟨h, hb⟩ => by subst h; exact addErr (by decide) hb)
  · have h1' : isNameB (bs nm) = true := by simpa using h1
    by_cases h2 : inNs ns nm = true
    · have : classErr ns nm sups = 10 := by unfold classErr; rw [if_neg h1, if_pos h2]
      rw [this]
      exact (addClass_dup B gb bm nm _ ns w hgb hBw hnl h1' h2 c0 hm).mono (fun e w' ⟨h, hb⟩ => by subst h; exact addErr (by decide) hb)
    · have h2' : inNs ns nm = false := by simpa using h2
      by_cases h3 : 20 < sups.length
      · have : classErr ns nm sups = 5 := by unfold classErr; rw [if_neg h1, if_neg h2, if_pos h3]
        rw [this]
        exact (addClass_count B gb bm nm sa _ scap ns w hgb hBw hnl h1' h2' c0 hm h3).mono (fun e w' ⟨h, hb⟩ => by subst h; exact addErr (by decide) hb)
      · have : classErr ns nm sups = supErr ns sups := by unfold classErr; rw [if_neg h1, if_neg h2, if_neg h3]
        rw [this]
        exact addClass_x B sp ab gb bm sv av nm sa scap sups ns rs xs w hgb hBw hBg hBm hns hspl habl hsv hrows hav hxs hlt hgo hm hs hnl h1' h2' (by omega)
end Go.Proofs.YtehnikgdjnmfcaaGreat
