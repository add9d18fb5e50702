/- The map of the arities, by pairs of names. -/
import Derived.Test.YtehnikgdjnmfcaaGreatMZ19
import Derived.DeepKeys4
namespace Go.Proofs.YtehnikgdjnmfcaaGreat
open Go.RowKit Go.WideMaps Go.Shelf Go.Lib

theorem Tryz.laidOutP : laidOutB Tryz.prog = true := by kernel_rfl
theorem Tryz.rowP111 : (111 : TypeId) < Tryz.prog.types.size := of_decide_eq_true (by kernel_rfl)
theorem Tryz.wideP111 : (match Tryz.prog.underlying 111 with | some (.array _ _) | some (.struct _) => true | _ => false) = true := by kernel_rfl
theorem Tryz.deepP111 : Tryz.prog.keyTypeAt 3 111 = true := by kernel_rfl
set_option maxRecDepth 100000 in
theorem Tryz.keyLaw111 : KeyLaw Tryz.prog 111 := deep_law_laid Tryz.laidOutP (m := 3) (by omega) Tryz.rowP111 Tryz.deepP111 Tryz.wideP111
theorem Tryz.keyed111 : Maps.Keyed Tryz.prog 111 := Maps.Keyed.of_law Tryz.keyLaw111
theorem Tryz.keyType111 : Tryz.prog.keyType 111 = true := by kernel_rfl
theorem Tryz.cellsP111 : Tryz.prog.cellsOf 111 = 2 := by kernel_rfl
theorem Tryz.cellsP9 : Tryz.prog.cellsOf 9 = 1 := by kernel_rfl
theorem Tryz.sizeP : ∃ n, Tryz.prog.types.size = n + 1 := Nat.exists_eq_succ_of_ne_zero (Nat.ne_of_gt (Nat.lt_of_le_of_lt (Nat.zero_le _) Tryz.rowP111))

/-- a pair of names as a key -/
def keyV (q : Nm × Nm) : Value := .agg #[.string (bs q.1), .string (bs q.2)]
def keyL (q : Nm × Nm) : Lit := .string (keyBytes [.string q.1, .string q.2])

theorem key_pair {q : Nm × Nm} (h1 : q.1.length ≤ maxLen) (h2 : q.2.length ≤ maxLen) : keyOf Tryz.prog 111 (keyV q) = some (keyL q) := by
  obtain ⟨n, hn⟩ := Tryz.sizeP
  unfold keyOf keyV keyL
  simp only [Tryz.underlying111, Tryz.keyType111, Value.formed, Tryz.cellsP111, hn]
  have b1 : (bs q.1).size ≤ maxLen := by rw [bs_size]; exact h1
  have b2 : (bs q.2).size ≤ maxLen := by rw [bs_size]; exact h2
  simp [Program.keyLits, Tryz.underlying111, Tryz.cellsP111, Tryz.cellsP9, Value.cells, Tryz.underlying9, b1, b2]
  rfl

theorem keyL_inj {q r : Nm × Nm} (h1 : q.1.length ≤ maxLen) (h2 : q.2.length ≤ maxLen) (h3 : r.1.length ≤ maxLen) (h4 : r.2.length ≤ maxLen) (h : keyL q = keyL r) : q = r := by
  have hq := key_pair h1 h2
  rw [h] at hq
  have e := Tryz.keyed111.inj hq (key_pair h3 h4)
  have e : #[Value.string (bs q.1), Value.string (bs q.2)] = #[Value.string (bs r.1), Value.string (bs r.2)] := by simpa [keyV] using e
  have e1 : bs q.1 = bs r.1 := by
    have := congrArg (fun a : Array Value => a[0]?) e
    simpa using this
  have e2 : bs q.2 = bs r.2 := by
    have := congrArg (fun a : Array Value => a[1]?) e
    simpa using this
  have f1 : q.1 = r.1 := by have := congrArg (fun b : ByteArray => b.data.toList) e1; simpa [bs] using this
  have f2 : q.2 = r.2 := by have := congrArg (fun b : ByteArray => b.data.toList) e2; simpa [bs] using this
  exact Prod.ext f1 f2

/-- an element is told by itself -/
def selfR (v : Value) : Option (DataW Value × List MemPlace) := some (.held v, [])

/-- the element at a key, nil for none -/
def valOf (ks : List (Nm × Nm)) (vs : List Value) (q : Nm × Nm) : Value := if inP ks q = true then vs.getD (ixP ks q) undef else .slice none 0 0

theorem valOf_snoc (ks : List (Nm × Nm)) (vs : List Value) (k q : Nm × Nm) (v : Value) (hl : vs.length = ks.length) (hn : inP ks k = false) :
    valOf (ks ++ [k]) (vs ++ [v]) q = if q = k then v else valOf ks vs q := by
  unfold valOf
  rw [inP_snoc]
  by_cases e : q = k
  · subst e
    rw [if_pos rfl, decide_eq_true rfl, Bool.or_true, if_pos rfl]
    have hx : ixP (ks ++ [q]) q = ks.length := (ixP_first (ks := ks ++ [q]) (k := ks.length) ([], []) (by simp) (by simpa using hn) (by simp)).2
    rw [hx, ← hl]; simp
  · rw [if_neg e, decide_eq_false e, Bool.or_false]
    by_cases hi : inP ks q = true
    · rw [if_pos hi, if_pos hi]
      have h2 := (ixP_take (ks := ks ++ [k]) (k := ks.length) (q := q) (by simpa using hi)).2
      rw [List.take_left'] at h2 <;> try rfl
      rw [h2]
      have hlt := ixP_lt hi
      rw [List.getD_eq_getElem?_getD, List.getElem?_append_left (by omega), ← List.getD_eq_getElem?_getD]
    · rw [if_neg hi, if_neg hi]

/-- block b is the map of the arities -/
def MapA (w : World) (b : Nat) (ks : List (Nm × Nm)) (vs : List Value) : Prop :=
  vs.length = ks.length ∧ (∀ q ∈ ks, q.1.length ≤ maxLen ∧ q.2.length ≤ maxLen) ∧ ∃ D : DataW Value, Maps.IsMap D ∧ w.ownsMap Tryz.prog 111 selfR b ks.length D ∧
    ∀ q : Nm × Nm, q.1.length ≤ maxLen → q.2.length ≤ maxLen → Maps.has D (keyL q) = inP ks q ∧ D.atKey (keyL q) (.held (.slice none 0 0)) = .held (valOf ks vs q)

theorem MapA.lt {w : World} {b : Nat} {ks : List (Nm × Nm)} {vs : List Value} (h : MapA w b ks vs) : b < w.heap.size := by
  obtain ⟨_, _, D, _, h, _⟩ := h; exact h.lt
theorem MapA.block {w w' : World} {b : Nat} {ks : List (Nm × Nm)} {vs : List Value} (h : MapA w b ks vs) (hb : w'.heap[b]? = w.heap[b]?) : MapA w' b ks vs := by
  obtain ⟨l1, l2, D, h1, ⟨es, cl, e1, e2⟩, h2⟩ := h; exact ⟨l1, l2, D, h1, ⟨es, cl, hb.trans e1, e2⟩, h2⟩
theorem MapA.below {w w' : World} {B b : Nat} {ks : List (Nm × Nm)} {vs : List Value} (h : MapA w b ks vs) (hb : Below B w w') (hB : b < B) : MapA w' b ks vs := h.block (hb.block b hB)
theorem MapA.drewN {w : World} {b : Nat} {ks : List (Nm × Nm)} {vs : List Value} (h : MapA w b ks vs) (q : Nat) : MapA (w.drewN q) b ks vs := h
theorem mapA_empty {w : World} {b : Nat} (h : w.heap[b]? = some (.map #[] 0)) : MapA w b [] [] := by
  refine ⟨rfl, fun q hq => (List.not_mem_nil hq).elim, .map [], Maps.isMap_empty, ⟨#[], 0, h, ⟨by simp, Go.MapKept.stamped_empty 0, by simp⟩, Nat.le_refl _, rfl⟩, fun q _ _ => ⟨by simp [inP, Maps.has], by simp [valOf, inP, DataW.atKey]⟩⟩

theorem zero46 (w : World) : (zeroValue 34).run Tryz.prog w = .ok (.slice none 0 0) w := by kernel_rfl

theorem MapA.look {w : World} {b : Nat} {ks : List (Nm × Nm)} {vs : List Value} (h : MapA w b ks vs) {q : Nm × Nm} (h1 : q.1.length ≤ maxLen) (h2 : q.2.length ≤ maxLen) :
    (Instr.lookup 61 (.map (some b)) (.agg #[.string (bs q.1), .string (bs q.2)]) true).run Tryz.prog w = .ok (.tuple #[valOf ks vs q, .bool (inP ks q)]) w := by
  obtain ⟨_, _, D, _, hown, hD⟩ := h
  obtain ⟨v, ps, hrun, hv⟩ := hown.look_ok Tryz.keyed111 Tryz.underlying61 (zero46 w) (zd := .held (.slice none 0 0)) (zp := []) rfl (key_pair h1 h2)
  obtain ⟨g1, g2⟩ := hD q h1 h2
  rw [g2] at hv
  have hv2 : v = valOf ks vs q ∧ ps = [] := by simpa [selfR] using hv
  rw [← g1, ← hv2.1]
  exact hrun

theorem wpList_mapA_put (w : World) {ops : Array Oper} {rest : List Oper} {o : Oper} {a : Act} {Q : Exit → Act → World → Prop}
    (hg : o.guard = none) (m x v : Operand) (hop : o.op = Op.mapUpdate 61 m x v) (b : Nat) (hm : a.eval m = .map (some b)) (ks : List (Nm × Nm)) (vs : List Value) (hown : MapA w b ks vs)
    (q : Nm × Nm) (hx : a.eval x = .agg #[.string (bs q.1), .string (bs q.2)]) (h1 : q.1.length ≤ maxLen) (h2 : q.2.length ≤ maxLen) (u : Value) (hv : a.eval v = u) (hn : ks.length < 9223372036854775807) (hnew : inP ks q = false)
    (hK : ∀ w', MapA w' b (ks ++ [q]) (vs ++ [u]) → w.grownBy w' (some b) → wpList Tryz.prog ops Q rest (a.put o.dst undef) w') :
    wpList Tryz.prog ops Q (o :: rest) a w := by
  obtain ⟨l1, l2, D, hI, hown, hD⟩ := hown
  refine wpList_mapUpdate_own w hg m x v 61 hop 111 34 Tryz.keyed111 Tryz.underlying61 selfR b ks.length D hm hown (by unfold maxLen; omega) _ _ _ hx hv (key_pair h1 h2) (.held u) [] rfl ?_
  intro w' hown' hg'
  refine hK w' ⟨by simp [l1], fun r hr => ?_, _, hI.put _ _, by simpa using hown', fun r hr1 hr2 => ?_⟩ hg'
  · rcases List.mem_append.1 hr with hr | hr
    · exact l2 r hr
    · rw [List.mem_singleton.1 hr]; exact ⟨h1, h2⟩
  · obtain ⟨g1, g2⟩ := hD r hr1 hr2
    rw [inP_snoc, valOf_snoc ks vs q r u l1 hnew]
    by_cases e : r = q
    · subst e
      rw [Maps.has_put_same hI (by trivial), Maps.atKey_put_same hI (by trivial)]
      simp
    · have hne : keyL r ≠ keyL q := fun h => e (keyL_inj hr1 hr2 h1 h2 h)
      rw [Maps.has_put_other hne, Maps.atKey_put_other hne, g1, g2]
      simp [e]
end Go.Proofs.YtehnikgdjnmfcaaGreat

/- addArity 71. -/
namespace Go.Proofs.YtehnikgdjnmfcaaGreat
open Go.RowKit Go.WideMaps Go.Shelf Go.Lib
attribute [local go_sem] Oper.semAt_some

/-- a signature with its arities so far -/
structure GAr (w : World) (gb bm mb ab : Nat) (c1 c3 : Value) (ga : Option Addr) (capa : Nat) (ns : List Nm) (abv : Nat → List Nat) (ds : List (Nm × Int)) (ks : List (Nm × Nm)) (vs : List Value) : Prop where
  row : w.heap[gb]? = some (.cells #[.map (some bm), c1, .slice ga ns.length capa, c3, .map (some mb), .map (some ab)] 63 (0, 0))
  sig : SigAt w (.agg #[.map (some bm), c1, .slice ga ns.length capa, c3, .map (some mb), .map (some ab)]) ns abv
  cls : MapAt w bm ns
  num : MapV w mb ds
  ars : MapA w ab ks vs
  ne1 : bm ≠ ab
  ne2 : mb ≠ ab

theorem mapObj {w : World} {b : Nat} {ks : List (Nm × Nm)} {vs : List Value} (h : MapA w b ks vs) : ∃ es cl, w.heap[b]? = some (.map es cl) := by
  obtain ⟨_, _, D, _, ⟨es, cl, e, _⟩, _⟩ := h; exact ⟨es, cl, e⟩
theorem ButG.cells {w w' : World} {b : Nat} {ks : List (Nm × Nm)} {vs : List Value} (h : ButG b w w') (hm : MapA w b ks vs) {k : Nat} {cs : Array Value} {t : TypeId} {fr : Nat × Nat} (hk : w.heap[k]? = some (.cells cs t fr)) : w'.heap[k]? = some (.cells cs t fr) := by
  obtain ⟨es, cl, e⟩ := mapObj hm
  rw [h.block k (Array.getElem?_eq_some_iff.1 hk).1 (fun e2 => by subst e2; rw [e] at hk; cases hk)]
  exact hk
theorem ButG.cellM {w w' : World} {b : Nat} {ks : List (Nm × Nm)} {vs : List Value} (h : ButG b w w') (hm : MapA w b ks vs) {a : Addr} {v : Value} (hv : w.cell? a = some v) : w'.heap[a.block]? = w.heap[a.block]? := by
  obtain ⟨es, cl, e⟩ := mapObj hm
  obtain ⟨o, h1, h2⟩ := cells_of_cell hv
  refine h.block _ (Array.getElem?_eq_some_iff.1 h1).1 (fun e2 => ?_)
  rw [e2, e] at h1; injection h1 with h1; subst h1; cases h2

theorem MapAt.block {w w' : World} {b : Nat} {ns : List Nm} (h : MapAt w b ns) (hb : w'.heap[b]? = w.heap[b]?) : MapAt w' b ns := by
  obtain ⟨D, h1, ⟨es, cl, e1, e2⟩, h2⟩ := h; exact ⟨D, h1, ⟨es, cl, hb.trans e1, e2⟩, h2⟩

theorem SlS.butM {w w' : World} {b : Nat} {ks : List (Nm × Nm)} {vs : List Value} (h : ButG b w w') (hm : MapA w b ks vs) {v : Value} {ss : List Nm} (hs : SlS w v ss) : SlS w' v ss := by
  obtain ⟨hl, a, cap, e, hx⟩ := hs
  refine ⟨hl, a, cap, e, fun hn => ?_⟩
  obtain ⟨b1, off, e1, hb, hc, hw⟩ := hx hn
  exact ⟨b1, off, e1, Nat.lt_of_lt_of_le hb h.size, fun j hj => (World.cell?_of_block (h.cellM hm (hc j hj))).trans (hc j hj), hw⟩

theorem SlSs.butM {w w' : World} {b : Nat} {ks : List (Nm × Nm)} {vs : List Value} (h : ButG b w w') (hm : MapA w b ks vs) {v : Value} {ls : List (List Nm)} (hs : SlSs w v ls) : SlSs w' v ls := by
  obtain ⟨hl, a, cap, e, hx⟩ := hs
  refine ⟨hl, a, cap, e, fun hn => ?_⟩
  obtain ⟨b1, off, e1, hb, hc⟩ := hx hn
  refine ⟨b1, off, e1, Nat.lt_of_lt_of_le hb h.size, fun k hk => ?_⟩
  obtain ⟨p, c, g1, g2⟩ := hc k hk
  exact ⟨p, c, (World.cell?_of_block (h.cellM hm g1)).trans g1, SlS.butM h hm g2⟩

theorem AbvAt.butM {w w' : World} {b n : Nat} {ks : List (Nm × Nm)} {vs : List Value} (h : ButG b w w') (hm : MapA w b ks vs) {s : Option Addr} {f : Nat → List Nat} (hs : AbvAt w s f n) : AbvAt w' s f n := by
  intro hn
  obtain ⟨b1, off, e1, hb, hc⟩ := hs hn
  refine ⟨b1, off, e1, Nat.lt_of_lt_of_le hb h.size, fun i hi j hj => ?_⟩
  obtain ⟨g1, g2, g3⟩ := hc i hi j hj
  have hbl := h.cellM hm g1
  refine ⟨(World.cell?_of_block hbl).trans g1, ?_, g3⟩
  unfold World.frozen? at g2 ⊢
  simp only at hbl g2 ⊢
  rw [hbl]; exact g2

theorem GAr.turn {w w' : World} {gb bm mb ab : Nat} {c1 c3 : Value} {ga : Option Addr} {capa : Nat} {ns : List Nm} {abv : Nat → List Nat} {ds : List (Nm × Int)} {ks ks' : List (Nm × Nm)} {vs vs' : List Value}
    (hg : GAr w gb bm mb ab c1 c3 ga capa ns abv ds ks vs) (h : ButG ab w w') (hm : MapA w' ab ks' vs') : GAr w' gb bm mb ab c1 c3 ga capa ns abv ds ks' vs' := by
  have hcl := hg.cls.block (h.block bm hg.cls.lt hg.ne1)
  obtain ⟨s0, _, _, _, _, _, _, _, se, _, s2⟩ := hg.sig
  injection se with se
  refine ⟨h.cells hg.ars hg.row, ⟨s0, bm, c1, ga, capa, c3, _, _, rfl, hcl, ?_⟩, hcl, hg.num.block (h.block mb hg.num.lt hg.ne2), hm, hg.ne1, hg.ne2⟩
  simp at se
  obtain ⟨_, _, ⟨rfl, _⟩, _⟩ := se
  exact s2.butM h hg.ars

theorem num_in {ds : List (Nm × Int)} {x : Nm} (h : inNs (ds.map Prod.fst) x = true) : (ds.getD (ixOf (ds.map Prod.fst) x) ([], 0)).2 = numOf ds x := by
  unfold numOf; rw [if_pos h]

theorem Tryz.info27 : (Tryz.prog.info? 27).map (fun i => (i.zero, i.size, i.bytes)) = some (some (.slice none 0 0), 1, 24) := by kernel_rfl

theorem SlO.set {w : World} {B b i : Nat} {v u : Value} {ss : List Nm} (h : SlO w B v ss) (hb : b < B) : SlO (w.setCell ⟨b, i, none⟩ u) B v ss := by
  obtain ⟨h1, h2, a, cap, e, h3⟩ := h
  refine ⟨h1, h2, a, cap, e, fun hn => ?_⟩
  obtain ⟨b1, e1, h4, h5, h6, h7⟩ := h3 hn
  refine ⟨b1, e1, h4, by simpa using h5, h6, holds_iff.2 fun j hj => ?_⟩
  obtain ⟨g1, g2⟩ := holds_iff.1 h7 j hj
  exact ⟨by rw [World.cell?_setCell_other _ _ _ _ (by intro hh; injection hh; omega)]; exact g1, by rw [World.frozen?_setCell]; exact g2⟩

/-- a row of slices of strings, of which the first k are set -/
def RowSs (w : World) (sb B : Nat) (ls : List (List Nm)) (k : Nat) : Prop :=
  ∀ j, j < ls.length → ∃ v, w.cell? ⟨sb, j, none⟩ = some v ∧ w.frozen? ⟨sb, j, none⟩ = false ∧ (j < k → SlO w B v (ls.getD j []))

theorem RowSs.set {w : World} {sb B k : Nat} {ls : List (List Nm)} {u : Value} (h : RowSs w sb B ls k) (hb : sb < B) (hu : SlO w B u (ls.getD k [])) : RowSs (w.setCell ⟨sb, k, none⟩ u) sb B ls (k + 1) := by
  intro j hj
  obtain ⟨v, h1, h2, h3⟩ := h j hj
  by_cases e : j = k
  · subst e
    exact ⟨u, World.cell?_setCell_same _ _ _ h1, by rw [World.frozen?_setCell]; exact h2, fun _ => hu.set hb⟩
  · exact ⟨v, by rw [World.cell?_setCell_other _ _ _ _ (by intro hh; injection hh with _ hh; omega)]; exact h1, by rw [World.frozen?_setCell]; exact h2, fun hk => (h3 (by omega)).set hb⟩

theorem RowSs.below {w w' : World} {sb B k : Nat} {ls : List (List Nm)} (h : RowSs w sb B ls k) (hb : Below w.heap.size w w') (hs : sb < w.heap.size) : RowSs w' sb B ls k := by
  intro j hj
  obtain ⟨v, h1, h2, h3⟩ := h j hj
  exact ⟨v, (hb.cell (p := ⟨sb, j, none⟩) hs).trans h1, (hb.frozen (p := ⟨sb, j, none⟩) hs).trans h2, fun hk => (h3 hk).below hb (Nat.le_refl _)⟩

theorem RowSs.all {w : World} {sb B c : Nat} {ls : List (List Nm)} (h : RowSs w sb B ls ls.length) (hs : sb < w.heap.size) (hl : ls.length ≤ maxLen) : SlSs w (.slice (some ⟨sb, 0, none⟩) ls.length c) ls := by
  refine ⟨hl, _, _, rfl, fun _ => ⟨sb, 0, rfl, hs, fun k hk => ?_⟩⟩
  obtain ⟨v, h1, _, h3⟩ := h k hk
  have hv := (h3 hk).sl
  have hv' := hv
  obtain ⟨_, a, cap, rfl, _⟩ := hv'
  exact ⟨a, cap, by rw [Nat.zero_add]; exact h1, hv⟩

/-- slices of strings in blocks from B on -/
def SlSsO (w : World) (B : Nat) (v : Value) (ls : List (List Nm)) : Prop :=
  ls.length ≤ maxLen ∧ ∃ a cap, v = .slice a ls.length cap ∧ (0 < ls.length → ∃ b, a = some ⟨b, 0, none⟩ ∧ B ≤ b ∧ b < w.heap.size ∧
    ∀ k, k < ls.length → ∃ p c, w.cell? ⟨b, k, none⟩ = some (.slice p (ls.getD k []).length c) ∧ SlO w B (.slice p (ls.getD k []).length c) (ls.getD k []))

theorem SlSsO.ss {w : World} {B : Nat} {v : Value} {ls : List (List Nm)} (h : SlSsO w B v ls) : SlSs w v ls := by
  obtain ⟨h1, a, cap, e, h2⟩ := h
  refine ⟨h1, a, cap, e, fun hn => ?_⟩
  obtain ⟨b, e1, _, hb, hc⟩ := h2 hn
  refine ⟨b, 0, e1, hb, fun k hk => ?_⟩
  obtain ⟨p, c, g1, g2⟩ := hc k hk
  exact ⟨p, c, by rw [Nat.zero_add]; exact g1, g2.sl⟩

theorem SlSsO.mono {w : World} {B C : Nat} {v : Value} {ls : List (List Nm)} (h : SlSsO w B v ls) (hC : C ≤ B) : SlSsO w C v ls := by
  obtain ⟨h1, a, cap, e, h2⟩ := h
  refine ⟨h1, a, cap, e, fun hn => ?_⟩
  obtain ⟨b, e1, hB, hb, hc⟩ := h2 hn
  refine ⟨b, e1, Nat.le_trans hC hB, hb, fun k hk => ?_⟩
  obtain ⟨p, c, g1, g2⟩ := hc k hk
  exact ⟨p, c, g1, g2.base hC⟩

/-- where all blocks from B on that hold cells are as they were -/
theorem SlO.kept {w w' : World} {B : Nat} {v : Value} {ss : List Nm} (h : SlO w B v ss) (hz : w.heap.size ≤ w'.heap.size) (hk : ∀ b j u, B ≤ b → w.cell? ⟨b, j, none⟩ = some u → w'.heap[b]? = w.heap[b]?) : SlO w' B v ss := by
  obtain ⟨h1, h2, a, cap, e, h3⟩ := h
  refine ⟨h1, h2, a, cap, e, fun hn => ?_⟩
  obtain ⟨b, e1, hB, hlt, hc, hh⟩ := h3 hn
  refine ⟨b, e1, hB, Nat.lt_of_lt_of_le hlt hz, hc, holds_iff.2 fun j hj => ?_⟩
  obtain ⟨c1, c2⟩ := holds_iff.1 hh j hj
  have hbl := hk b j _ hB c1
  exact ⟨(World.cell?_of_block (a := ⟨b, j, none⟩) hbl).trans c1, (World.frozen?_of_block (a := ⟨b, j, none⟩) hbl).trans c2⟩

theorem SlSsO.kept {w w' : World} {B : Nat} {v : Value} {ls : List (List Nm)} (h : SlSsO w B v ls) (hz : w.heap.size ≤ w'.heap.size) (hk : ∀ b j u, B ≤ b → w.cell? ⟨b, j, none⟩ = some u → w'.heap[b]? = w.heap[b]?) : SlSsO w' B v ls := by
  obtain ⟨h1, a, cap, e, h2⟩ := h
  refine ⟨h1, a, cap, e, fun hn => ?_⟩
  obtain ⟨b, e1, hB, hb, hc⟩ := h2 hn
  refine ⟨b, e1, hB, Nat.lt_of_lt_of_le hb hz, fun k hk' => ?_⟩
  obtain ⟨p, c, g1, g2⟩ := hc k hk'
  exact ⟨p, c, (World.cell?_of_block (a := ⟨b, k, none⟩) (hk b k _ hB g1)).trans g1, g2.kept hz hk⟩

theorem SlSsO.below {w w' : World} {B : Nat} {v : Value} {ls : List (List Nm)} (h : SlSsO w B v ls) (hb : Below w.heap.size w w') : SlSsO w' B v ls :=
  h.kept hb.size fun b _ _ _ hc => hb.block b (lt_of_cell (a := ⟨b, _, none⟩) hc)

theorem SlSsO.butM {w w' : World} {B b : Nat} {ks : List (Nm × Nm)} {vs : List Value} (h : ButG b w w') (hm : MapA w b ks vs) {v : Value} {ls : List (List Nm)} (hs : SlSsO w B v ls) : SlSsO w' B v ls :=
  hs.kept h.size fun b _ _ _ hc => h.cellM hm (a := ⟨b, _, none⟩) hc

theorem SlSsO.butG {w w' : World} {B g : Nat} (h : ButG g w w') {v : Value} {ls : List (List Nm)} (hs : SlSsO w B v ls) (hg : g < B) : SlSsO w' B v ls :=
  hs.kept h.size fun b _ _ hB hc => h.block b (lt_of_cell (a := ⟨b, _, none⟩) hc) (by omega)

theorem RowSs.allO {w : World} {sb B C c : Nat} {ls : List (List Nm)} (h : RowSs w sb B ls ls.length) (hC : C ≤ sb) (hCB : C ≤ B) (hs : sb < w.heap.size) (hl : ls.length ≤ maxLen) : SlSsO w C (.slice (some ⟨sb, 0, none⟩) ls.length c) ls := by
  refine ⟨hl, _, _, rfl, fun _ => ⟨sb, rfl, hC, hs, fun k hk => ?_⟩⟩
  obtain ⟨v, h1, _, h3⟩ := h k hk
  have hv := (h3 hk).base hCB
  have hv' := hv
  obtain ⟨_, _, a, cap, rfl, _⟩ := hv'
  exact ⟨a, cap, h1, hv⟩

def ArPost (w : World) (gb bm mb ab : Nat) (c1 c3 : Value) (ga : Option Addr) (capa : Nat) (ns : List Nm) (abv : Nat → List Nat) (ds : List (Nm × Int)) (ks : List (Nm × Nm)) (vs : List Value) (a : Ar) (e : Ending) (w' : World) : Prop :=
  e = .returned (.int .i64 (arErr ns abv ds ks a)) ∧ ButG ab w w' ∧
    (arErr ns abv ds ks a = 0 → ∃ v, GAr w' gb bm mb ab c1 c3 ga capa ns abv ds (ks ++ [arKey a]) (vs ++ [v]) ∧ SlSsO w' w.heap.size v a.2.2)

theorem arFail {w w' : World} {gb bm mb ab : Nat} {c1 c3 : Value} {ga : Option Addr} {capa : Nat} {ns : List Nm} {abv : Nat → List Nat} {ds : List (Nm × Int)} {ks : List (Nm × Nm)} {vs : List Value} {a : Ar} {er : Int}
    (h : arErr ns abv ds ks a = er) (h0 : er ≠ 0) (hb : Below w.heap.size w w') : ArPost w gb bm mb ab c1 c3 ga capa ns abv ds ks vs a (.returned (.int .i64 er)) w' :=
  ⟨by rw [h], ButG.of_below hb, fun e => absurd (h.symm.trans e) h0⟩

theorem made_nils (n j : Nat) (hj : j < n) : (madeCells (Value.cells (.slice none 0 0)) (n * 1)).toList[j]? = some (.slice none 0 0) := by
  have hs : (madeCells (Value.cells (.slice none 0 0)) (n * 1)).size = n * 1 := size_madeCells _ _
  rw [Array.getElem?_toList, Array.getElem?_eq_getElem (by omega)]
  unfold madeCells
  simp only [Array.getElem_map, Array.getElem_range]
  have e : Value.cells (.slice none 0 0) = #[.slice none 0 0] := rfl
  rw [e]
  simp [Nat.mod_one]

theorem rowSs_made {w : World} {base sb B n : Nat} {ls : List (List Nm)} (hn : ls.length = n) (h : w.ownsRow base 27 1 (.slice (some ⟨sb, 0, none⟩) n n) n (madeCells (Value.cells (.slice none 0 0)) (n * 1)).toList) : RowSs w sb B ls 0 :=
  fun j hj => ⟨_, (h.cellAt j (by omega)).trans (made_nils n j (by omega)), h.frozenAt j, fun h => absurd h (by omega)⟩

set_option maxRecDepth 100000 in
set_option maxHeartbeats 8000000 in
theorem addArity_any (gb bm mb ab : Nat) (c1 c3 : Value) (ga : Option Addr) (capa : Nat) (ns : List Nm) (abv : Nat → List Nat) (ds : List (Nm × Int)) (ks : List (Nm × Nm)) (vs : List Value) (x y : Nm) (p : Option Addr) (pc : Nat) (ls : List (List Nm)) (w : World)
    (hg : GAr w gb bm mb ab c1 c3 ga capa ns abv ds ks vs) (hx : x.length ≤ maxLen) (hy : y.length ≤ maxLen) (hls : SlSs w (.slice p ls.length pc) ls) (hks : ks.length ≤ 300) (hnum : ∀ s, 0 ≤ numOf ds s ∧ numOf ds s ≤ 10) :
    Calls Tryz.prog 53 #[.pointer (some ⟨gb, 0, none⟩), .agg #[.string (bs x), .string (bs y), .slice p ls.length pc]] w (ArPost w gb bm mb ab c1 c3 ga capa ns abv ds ks vs (x, y, ls)) := by
  have HG := Lib.hid hg
  have hgb : gb < w.heap.size := (Array.getElem?_eq_some_iff.1 hg.row).1
  have hrow := hg.row
  have hb0 := below_alloc w (Obj.cells #[.string (bs x), .string (bs y), .slice p ls.length pc] 50)
  have hm1 := hg.num.below hb0 hg.num.lt
  have hm2 := hg.cls.below hb0 hg.cls.lt
  have hlk1 := fun q => (hm1.drewN q).look hx
  have hlk2 := fun q => (hm2.drewN q).look hy
  obtain ⟨p0, p1, p2, p3, p4, p5⟩ := cells6 ((hb0.block gb hgb).trans hrow)
  have HLS := Lib.hid hls
  have HNUM := Lib.hid hnum
  clear hg hls hrow hm1 hm2 hnum
  generalize hi1 : inNs (ds.map Prod.fst) x = i1 at *
  generalize hi2 : inNs ns y = i2 at *
  have HI1 := Lib.hid hi1
  have HI2 := Lib.hid hi2
  clear hi1 hi2
  generalize hnn : numOf ds x = nn at *
  have HNN := Lib.hid hnn
  clear hnn
  go_enter Tryz.func53, Tryz.ntmps53
  go_wp2_with fail
  go_quiet (fail)
  generalize nq = q1 at *
  go_wp2_with fail
  go_quiet (fail)
  clear hlk1 hlk2
  cases i1 with
  | false =>
    have HE : Hid (arErr ns abv ds ks (x, y, ls) = 9) := by unfold Hid arErr; rw [if_pos HI1.out]
    go_wp2_with fail
    go_ret
    exact arFail HE.out (by decide) (below_drewN hb0 _)
  | true =>
    cases i2 with
    | false =>
      have HE : Hid (arErr ns abv ds ks (x, y, ls) = 9) := by unfold Hid arErr; rw [if_neg (by rw [HI1.out]; decide), if_pos HI2.out]
      go_wp2_with fail
      go_ret
      exact arFail HE.out (by decide) (below_drewN hb0 _)
    | true =>
      have hrx : (((w.alloc (Obj.cells #[.string (bs x), .string (bs y), .slice p ls.length pc] 50)).drewN q1).drewN nq).heap[w.heap.size]? = some (.cells #[.string (bs x), .string (bs y), .slice p ls.length pc] 50 (0, 0)) := heap_alloc_new w _
      have hbq : Below w.heap.size w (((w.alloc (Obj.cells #[.string (bs x), .string (bs y), .slice p ls.length pc] 50)).drewN q1).drewN nq) := below_drewN (below_drewN hb0 q1) nq
      have hzq : (((w.alloc (Obj.cells #[.string (bs x), .string (bs y), .slice p ls.length pc] 50)).drewN q1).drewN nq).heap.size = w.heap.size + 1 := by show (w.alloc _).heap.size = _; simp
      generalize (((w.alloc (Obj.cells #[.string (bs x), .string (bs y), .slice p ls.length pc] 50)).drewN q1).drewN nq) = W1 at *
      clear hb0 p0 p1 p2 p3 p4 p5
      have g0 : W1.cell? ⟨w.heap.size, 0, none⟩ = some (.string (bs x)) := by rw [cell_of_row _ _ 0 _ _ _ hrx]; rfl
      have g1 : W1.cell? ⟨w.heap.size, 1, none⟩ = some (.string (bs y)) := by rw [cell_of_row _ _ 1 _ _ _ hrx]; rfl
      have hb2 := below_alloc W1 (Obj.cells #[.string (bs x), .string (bs y)] 111)
      have hB2 : Below w.heap.size w (W1.alloc (Obj.cells #[.string (bs x), .string (bs y)] 111)) := hbq.trans (hb2.mono (by omega))
      have hm3 := HG.out.ars.below hB2 HG.out.ars.lt
      have hlk3 := fun q => (hm3.drewN q).look (q := (x, y)) hx hy
      obtain ⟨_, _, _, _, _, p5⟩ := cells6 ((hB2.block gb hgb).trans HG.out.row)
      have HRX := Lib.hid ((hb2.block w.heap.size (by omega)).trans hrx)
      have hzz : (W1.alloc (Obj.cells #[.string (bs x), .string (bs y)] 111)).heap.size = w.heap.size + 2 := by simp [hzq]
      have hkx : (W1.alloc (Obj.cells #[.string (bs x), .string (bs y)] 111)).heap[w.heap.size + 1]? = some (.cells #[.string (bs x), .string (bs y)] 111 (0, 0)) := by rw [← hzq]; exact heap_alloc_new _ _
      have HKX := Lib.hid hkx
      clear hb2 hm3 hrx hkx
      simp only [] at hlk3
      generalize hvo : valOf ks vs (x, y) = vo at *
      clear hvo
      by_cases a3 : inP ks (x, y) = true
      · have HE : Hid (arErr ns abv ds ks (x, y, ls) = 10) := by unfold Hid arErr; rw [if_neg (by rw [HI1.out]; decide), if_neg (by rw [HI2.out]; decide), if_pos a3]
        rw [a3] at hlk3
        clear a3
        go_wp2_with fail
        go_quiet (fail)
        go_wp2_with fail
        go_ret
        exact arFail HE.out (by decide) (below_drewN hB2 _)
      · have a3' : inP ks (x, y) = false := by simpa using a3
        have HNEW := Lib.hid a3'
        rw [a3'] at hlk3
        clear a3 a3'
        go_wp2_with fail
        go_quiet (fail)
        clear hlk3
        have hB2q := below_drewN hB2 nq
        have hrxq : ((W1.alloc (Obj.cells #[.string (bs x), .string (bs y)] 111)).drewN nq).heap[w.heap.size]? = some (.cells #[.string (bs x), .string (bs y), .slice p ls.length pc] 50 (0, 0)) := HRX.out
        have hkxq : ((W1.alloc (Obj.cells #[.string (bs x), .string (bs y)] 111)).drewN nq).heap[w.heap.size + 1]? = some (.cells #[.string (bs x), .string (bs y)] 111 (0, 0)) := HKX.out
        have hzzq : ((W1.alloc (Obj.cells #[.string (bs x), .string (bs y)] 111)).drewN nq).heap.size = w.heap.size + 2 := hzz
        generalize ((W1.alloc (Obj.cells #[.string (bs x), .string (bs y)] 111)).drewN nq) = W2 at *
        have HRX2 := Lib.hid hrxq
        have HKX2 := Lib.hid hkxq
        clear HRX HKX hB2 hzz p5 g0 g1 hbq hzq hkxq
        have g2 : W2.cell? ⟨w.heap.size, 2, none⟩ = some (.slice p ls.length pc) := by rw [cell_of_row _ _ 2 _ _ _ hrxq]; rfl
        clear hrxq
        by_cases a4 : ((ls.length : Nat) : Int) = nn
        · have hne : ((((ls.length : Nat) : Int)) != nn) = false := by rw [a4]; simp
          have h10 : ls.length ≤ 10 := by have := (HNUM.out x).2; rw [HNN.out] at this; omega
          have HE : Hid (arErr ns abv ds ks (x, y, ls) = sorts1 ns abv ls) := by
            unfold Hid arErr; rw [if_neg (by rw [HI1.out]; decide), if_neg (by rw [HI2.out]; decide), if_neg (by rw [HNEW.out]; decide), if_neg (by rw [num_in HI1.out, HNN.out]; simpa using a4)]
          obtain ⟨bi, hi, hq0, hq1, hq2⟩ := info_parts Tryz.info27
          have ha4 := Lib.hid a4
          subst a4
          go_wp2_with (refine wpList_make_full _ rfl _ _ 34 rfl W2.heap.size 27 bi (.slice none 0 0) 1 Tryz.underlying34 hi hq0 hq1 .i64 .i64 _ _ ls.length rfl rfl rfl rfl (by rw [hq2]; omega) (by unfold maxLen; omega) (Nat.le_refl _) ?_; intro w1 hown hg1; have hb1 : Below W2.heap.size W2 w1 := (Below.refl _ W2).grown hg1 (Nat.le_refl _) (fun r e => by cases e); have g3 := (hb1.cell (p := ⟨w.heap.size, 2, none⟩) (by simp; omega)).trans g2; have HOWN := Lib.hid hown; have HB1 := Lib.hid hb1; clear g2 hown hg1 hb1)
          have hown := HOWN.out
          rw [hzzq] at hown
          have HR0 : Hid (RowSs w1 (w.heap.size + 2) (w.heap.size + 3) ls 0) := rowSs_made rfl hown
          have hz1 : w.heap.size + 3 ≤ w1.heap.size := by
            rcases hown.2 with ⟨e, _⟩ | ⟨g', _, _, e, _, hh, _⟩
            · cases e
            · injection e with e; injection e with e; injection e with e; subst e
              have := (Array.getElem?_eq_some_iff.1 hh).1; omega
          have hbw1 : Below w.heap.size w w1 := hB2q.trans (HB1.out.mono (by omega))
          have HRX1 := Lib.hid ((HB1.out.block w.heap.size (by omega)).trans HRX2.out)
          have HKX1 := Lib.hid ((HB1.out.block (w.heap.size + 1) (by omega)).trans HKX2.out)
          clear hown HOWN HB1 HRX2 HKX2 hB2q hzzq
          have hE0 : Hid (arErr ns abv ds ks (x, y, ls) = sorts1 ns abv (ls.drop 0)) := HE.out
          clear HE
          go_loopw [66] (fun u wr => ∃ k : Nat, k ≤ ls.length ∧ u = .int .i64 k ∧ Hid (RowSs wr (w.heap.size + 2) (w.heap.size + 3) ls k) ∧ Below (w.heap.size + 2) w1 wr ∧ Hid (arErr ns abv ds ks (x, y, ls) = sorts1 ns abv (ls.drop k))) (fun u _ => ls.length - (intOf u).toNat)
          case atStart => exact ⟨0, by omega, rfl, HR0, Below.refl _ _, hE0⟩
          case round =>
            obtain ⟨k, hk, rfl, hR, hB, hE⟩ := hrel
            clear hE0 HR0
            have hz := hB.size
            have hBw : Below w.heap.size w wr := hbw1.trans (hB.mono (by omega))
            by_cases hlt : k < ls.length
            · obtain ⟨_, p', pc', hee, hsx⟩ := HLS.out
              injection hee with hee _ hee2
              subst hee hee2
              obtain ⟨b, off, rfl, hb, hcl⟩ := hsx (by omega)
              obtain ⟨q, qc, gsw, hs⟩ := hcl k hlt
              have gs := (hBw.cell (p := ⟨b, off + k, none⟩) hb).trans gsw
              have hss := hs.below hBw (Nat.le_refl _)
              have hdrop : Hid (ls.drop k = ls.getD k [] :: ls.drop (k + 1)) := drop_getD ls [] k hlt
              have hgk : Hid (∀ w' v, SlO w' (w.heap.size + 3) v (ls.getD k []) → SlO w' (w.heap.size + 3) v (ls.getD k [])) := fun _ _ h => h
              clear hcl hsx hs gsw
              obtain ⟨s, hsk⟩ : ∃ s, s = ls.getD k [] := ⟨_, rfl⟩
              rw [← hsk] at gs hss hdrop
              have HSK := Lib.hid hsk
              have HSS := Lib.hid hss
              clear hsk hss hgk
              have hstep : Hid (arErr ns abv ds ks (x, y, ls) = if sort1Err ns abv s = 0 then sorts1 ns abv (ls.drop (k + 1)) else sort1Err ns abv s) := by
                unfold Hid; rw [hE.out, hdrop.out]; rfl
              clear hdrop hE
              have hrowr := (hBw.block gb hgb).trans HG.out.row
              by_cases a5 : 20 < s.length
              · have hd5 : decide (20 < ((s.length : Nat) : Int)) = true := by simp; omega
                have HE : Hid (arErr ns abv ds ks (x, y, ls) = 5) := by
                  have e : sort1Err ns abv s = 5 := by unfold sort1Err; rw [if_pos a5]
                  unfold Hid; rw [hstep.out, e]; rfl
                clear hstep a5
                go_wp2_with fail
                go_ret
                exact arFail HE.out (by decide) hBw
              · have hd5 : decide (20 < ((s.length : Nat) : Int)) = false := by simp; omega
                obtain ⟨p0, p1, p2, p3, p4, p5⟩ := cells6 hrowr
                have KN := Lib.hid (known_any bm c1 (.slice ga ns.length capa) c3 (.map (some mb)) (.map (some ab)) _ s ns wr (HG.out.cls.below hBw HG.out.cls.lt) HSS.out)
                by_cases a6 : s.all (inNs ns) = true
                · rw [a6] at KN
                  have A6 := Lib.hid a6
                  have hN5 : normB ns abv s = decide (leastB ns abv s = s) := by
                    unfold normB; rw [a6, decide_eq_true (show s.length ≤ 20 by omega)]; rfl
                  clear a6
                  have hsig := HG.out.sig.below hBw (Nat.le_refl _)
                  have hbig : s.length * 16 ≤ 140737488355328 := by omega
                  by_cases a7 : leastB ns abv s = s
                  · have HSIG := Lib.hid hsig
                    have hst2 : Hid (arErr ns abv ds ks (x, y, ls) = sorts1 ns abv (ls.drop (k + 1))) := by
                      have e : sort1Err ns abv s = 0 := by unfold sort1Err; rw [if_neg a5, if_neg (by rw [A6.out]; decide), if_neg (by rw [hN5, decide_eq_true a7]; decide)]
                      unfold Hid; rw [hstep.out, if_pos e]
                    have hA7 : Hid (decide (leastB ns abv s = s) = true) := decide_eq_true a7
                    clear hstep a5 hN5 hsig a7
                    go_wp2_with fail
                    refine KN.out.mono ?_
                    rintro e w2 ⟨rfl, hb2⟩
                    have hBw2 : Below w.heap.size w w2 := hBw.trans (hb2.mono hBw.size)
                    have hbs2 : w.heap.size ≤ w2.heap.size := hBw2.size
                    clear p0 p1 p2 p3 p4 p5
                    obtain ⟨p0, p1, p2, p3, p4, p5⟩ := cells6 ((hBw2.block gb hgb).trans HG.out.row)
                    have NO := Lib.hid (isNormal_p _ _ s ns abv w2 (HSIG.out.below hb2 (Nat.le_refl _)) (HSS.out.below hb2 (Nat.le_refl _)) hbig A6.out)
                    rw [hA7.out] at NO
                    go_wp2_with fail
                    refine NO.out.mono ?_
                    rintro e w3 ⟨rfl, hb3⟩
                    have hb23 : Below wr.heap.size wr w3 := hb2.trans (hb3.mono hb2.size)
                    have HSS3 := Lib.hid (HSS.out.below hb23 (Nat.le_refl _))
                    have hR3 : Hid (RowSs w3 (w.heap.size + 2) (w.heap.size + 3) ls k) := hR.out.below hb23 (by omega)
                    have hB3 : Below (w.heap.size + 2) w1 w3 := hB.trans (hb23.mono (by omega))
                    have hz3 : wr.heap.size ≤ w3.heap.size := hb23.size
                    clear p0 p1 p2 p3 p4 p5 NO KN hb2 hb3 hb23 hrowr gs hR
                    go_wp2_with fail
                    refine (clone_any _ s w3 HSS3.out hbig).mono ?_
                    rintro e w4 ⟨v4, rfl, ho4, hb4⟩
                    have hR4 := hR3.out.below hb4 (by omega)
                    obtain ⟨vold, e1, e2, _⟩ := hR4 k hlt
                    have HR4 := Lib.hid hR4
                    have HO4 : Hid (SlO w4 (w.heap.size + 3) v4 (ls.getD k [])) := by unfold Hid; rw [← HSK.out]; exact ho4.base (by omega)
                    have hB4 : Below (w.heap.size + 2) w1 w4 := hB3.trans (hb4.mono (by omega))
                    obtain ⟨_, _, a4, cap4, rfl, _⟩ := ho4
                    clear hR4 hR3 HSS3
                    go_wp2_with fail
                    go_roundw
                    case rel => exact ⟨k + 1, by omega, by go_num, HR4.out.set (by omega) HO4.out, hB4.setCell (p := ⟨w.heap.size + 2, k, none⟩) (Nat.le_refl _) _, hst2⟩
                    case measure => simp [intOf]; omega
                  · have hA7 : Hid (decide (leastB ns abv s = s) = false) := decide_eq_false a7
                    have HE : Hid (arErr ns abv ds ks (x, y, ls) = 14) := by
                      have e : sort1Err ns abv s = 14 := by unfold sort1Err; rw [if_neg a5, if_neg (by rw [A6.out]; decide), if_pos (by rw [hN5]; exact hA7.out)]
                      unfold Hid; rw [hstep.out, e]; rfl
                    have HSIG := Lib.hid hsig
                    clear hstep a5 hN5 hsig a7
                    go_wp2_with fail
                    refine KN.out.mono ?_
                    rintro e w2 ⟨rfl, hb2⟩
                    have hBw2 : Below w.heap.size w w2 := hBw.trans (hb2.mono hBw.size)
                    have hbs2 : w.heap.size ≤ w2.heap.size := hBw2.size
                    clear p0 p1 p2 p3 p4 p5
                    obtain ⟨p0, p1, p2, p3, p4, p5⟩ := cells6 ((hBw2.block gb hgb).trans HG.out.row)
                    have NO := Lib.hid (isNormal_p _ _ s ns abv w2 (HSIG.out.below hb2 (Nat.le_refl _)) (HSS.out.below hb2 (Nat.le_refl _)) hbig A6.out)
                    rw [hA7.out] at NO
                    go_wp2_with fail
                    refine NO.out.mono ?_
                    rintro e w3 ⟨rfl, hb3⟩
                    go_wp2_with fail
                    go_ret
                    exact arFail HE.out (by decide) (hBw2.trans (hb3.mono hbs2))
                · have a6' : s.all (inNs ns) = false := by simpa using a6
                  have HE : Hid (arErr ns abv ds ks (x, y, ls) = 9) := by
                    have e : sort1Err ns abv s = 9 := by unfold sort1Err; rw [if_neg a5, if_pos a6']
                    unfold Hid; rw [hstep.out, e]; rfl
                  rw [a6'] at KN
                  clear hstep a5 a6 a6'
                  go_wp2_with fail
                  refine KN.out.mono ?_
                  rintro e w2 ⟨rfl, hb2⟩
                  go_wp2_with fail
                  go_ret
                  exact arFail HE.out (by decide) (hBw.trans (hb2.mono hBw.size))
            · have hkk : k = ls.length := by omega
              subst hkk
              have hE0 : Hid (arErr ns abv ds ks (x, y, ls) = 0) := by unfold Hid; rw [hE.out, List.drop_length]; rfl
              clear hE
              go_wp2_with fail
              refine still_tail 6 (by kernel_rfl) (by kernel_rfl) ?_
              intro w2 hw2
              have hb2 : Below wr.heap.size wr w2 := by rw [hw2]; exact (Below.refl _ _).drew
              have hBw2 : Below w.heap.size w w2 := hBw.trans (hb2.mono hBw.size)
              have q5 : w2.cell? ⟨gb, 5, none⟩ = some (.map (some ab)) := (cells6 ((hBw2.block gb hgb).trans HG.out.row)).2.2.2.2.2
              have hkx2 := (hb2.block (w.heap.size + 1) (by omega)).trans ((hB.block (w.heap.size + 1) (by omega)).trans HKX1.out)
              have q0 : w2.cell? ⟨w.heap.size + 1, 0, none⟩ = some (.string (bs x)) := by rw [cell_of_row _ _ 0 _ _ _ hkx2]; rfl
              have q1 : w2.cell? ⟨w.heap.size + 1, 1, none⟩ = some (.string (bs y)) := by rw [cell_of_row _ _ 1 _ _ _ hkx2]; rfl
              have hR2 := hR.out.below hb2 (by omega)
              have hz2 := hb2.size
              have HV := Lib.hid (hR2.allO (C := w.heap.size) (c := ls.length) (by omega) (by omega) (by omega) (by unfold maxLen; omega))
              have hm2 := HG.out.ars.below hBw2 HG.out.ars.lt
              clear hw2 hkx2 hR2 hR
              simp only [List.take_succ_cons, List.take_zero, List.drop_succ_cons, List.drop_zero]
              repeat still_step
              refine wpStill_nil ?_
              refine wpList_mapA_put _ rfl _ _ _ rfl ab rfl ks vs hm2 (x, y) rfl hx hy _ rfl (by omega) HNEW.out ?_
              intro w3 hm3 hg3
              have hB3 : ButG ab w2 w3 := ⟨hg3.os, hg3.tape, hg3.output, hg3.size, fun j hj hn => hg3.block j hj (by intro e; injection e; omega)⟩
              have HM3 := Lib.hid hm3
              have HM2 := Lib.hid hm2
              clear hm3 hm2 q0 q1 q5 hg3
              go_wp2_with fail
              go_ret
              exact ⟨by rw [hE0.out]; rfl, (ButG.of_below hBw2).trans hB3, fun _ => ⟨_, HG.out.turn ((ButG.of_below hBw2).trans hB3) HM3.out, HV.out.butM hB3 HM2.out⟩⟩
        · have hne : ((((ls.length : Nat) : Int)) != nn) = true := by simpa using a4
          have HE : Hid (arErr ns abv ds ks (x, y, ls) = 5) := by
            unfold Hid arErr; rw [if_neg (by rw [HI1.out]; decide), if_neg (by rw [HI2.out]; decide), if_neg (by rw [HNEW.out]; decide), if_pos (by rw [num_in HI1.out, HNN.out]; exact a4)]
          clear a4
          go_wp2_with fail
          go_ret
          exact arFail HE.out (by decide) hB2q
end Go.Proofs.YtehnikgdjnmfcaaGreat

/- addArities 53. -/
namespace Go.Proofs.YtehnikgdjnmfcaaGreat
open Go.RowKit Go.WideMaps Go.Shelf Go.Lib
attribute [local go_sem] Oper.semAt_some

theorem MapAt.butG {w w' : World} {gb bm : Nat} {ns : List Nm} (h : ButG gb w w') {c : Array Value} {t : TypeId} {fr : Nat × Nat} (hr : w.heap[gb]? = some (.cells c t fr)) (hm : MapAt w bm ns) : MapAt w' bm ns := by
  refine hm.block (h.block bm hm.lt (fun e => ?_))
  obtain ⟨D, _, ⟨es, cl, e1, _⟩, _⟩ := hm
  subst e; rw [e1] at hr; cases hr
theorem MapV.butG {w w' : World} {gb bm : Nat} {ds : List (Nm × Int)} (h : ButG gb w w') {c : Array Value} {t : TypeId} {fr : Nat × Nat} (hr : w.heap[gb]? = some (.cells c t fr)) (hm : MapV w bm ds) : MapV w' bm ds := by
  refine hm.block (h.block bm hm.lt (fun e => ?_))
  obtain ⟨D, _, ⟨es, cl, e1, _⟩, _⟩ := hm
  subst e; rw [e1] at hr; cases hr

theorem AbvAt.butG {w w' : World} {gb n : Nat} {s : Option Addr} {f : Nat → List Nat} {m0 m4 m5 : Option Nat} {c1 c3 : Value} {a2 : Option Addr} {n2 k2 : Nat} {t : TypeId} {fr : Nat × Nat} (h : ButG gb w w')
    (hr : w.heap[gb]? = some (.cells #[.map m0, c1, .slice a2 n2 k2, c3, .map m4, .map m5] t fr)) (hs : AbvAt w s f n) : AbvAt w' s f n := by
  intro hn
  obtain ⟨ba, off, e1, hb, hc⟩ := hs hn
  have hne : ba ≠ gb := by
    intro e
    subst e
    have w0 := (hc 0 hn 0 (by omega)).1
    have w1 := (hc 0 hn 1 (by omega)).1
    rw [cell_of_row w _ _ _ _ _ hr] at w0 w1
    simp only [Nat.zero_mul, Nat.add_zero] at w0 w1
    match off with
    | 0 => simp at w0
    | 1 => simp at w1
    | 2 => simp at w0
    | 3 => simp at w1
    | 4 => simp at w0
    | 5 => simp at w0
    | off + 6 => simp at w0
  refine ⟨ba, off, e1, Nat.lt_of_lt_of_le hb h.size, fun i hi j hj => ?_⟩
  obtain ⟨g1, g2, g3⟩ := hc i hi j hj
  have hbl := h.block ba hb hne
  refine ⟨(World.cell?_of_block (a := ⟨ba, _, none⟩) hbl).trans g1, ?_, g3⟩
  unfold World.frozen? at g2 ⊢
  simp only at g2 ⊢
  rw [hbl]; exact g2

/-- the error of arities, of at most 300 -/
def arsErr (cs : List (Nm × List Nm)) (ab : List (List Nat)) (ds : List (Nm × Int)) (rs : List Ar) : Int := if 300 < rs.length then 5 else arsErrFrom cs ab ds rs rs.length 0

def ArsPost (w : World) (gb bm mb : Nat) (c1 c3 : Value) (ga : Option Addr) (capa : Nat) (cs : List (Nm × List Nm)) (abl : List (List Nat)) (ds : List (Nm × Int)) (rs : List Ar) (e : Ending) (w' : World) : Prop :=
  e = .returned (.int .i64 (arsErr cs abl ds rs)) ∧ ButG gb w w' ∧
    (arsErr cs abl ds rs = 0 → ∃ ab vs, w.heap.size ≤ ab ∧ GAr w' gb bm mb ab c1 c3 ga capa (cs.map Prod.fst) (fun i => abl.getD i []) ds (rs.map arKey) vs ∧ ∀ j, j < rs.length → SlSsO w' w.heap.size (vs.getD j undef) (rs.getD j ar0).2.2)

set_option maxRecDepth 100000 in
set_option maxHeartbeats 8000000 in
theorem addArities_any (gb bm mb : Nat) (c1 c3 v : Value) (ga : Option Addr) (capa : Nat) (cs : List (Nm × List Nm)) (abl : List (List Nat)) (ds : List (Nm × Int)) (rs : List Ar) (w0 w : World)
    (hB0 : Below w0.heap.size w0 w) (hgb : w0.heap.size ≤ gb) (hgw : gb < w.heap.size)
    (hrow : w.heap[gb]? = some (.cells #[.map (some bm), c1, .slice ga (cs.map Prod.fst).length capa, c3, .map (some mb), .map none] 63 (0, 0)))
    (hsig : SigAt w (.agg #[.map (some bm), c1, .slice ga (cs.map Prod.fst).length capa, c3, .map (some mb), .map none]) (cs.map Prod.fst) (fun i => abl.getD i []))
    (hnum : MapV w mb ds) (hnb : ∀ s, 0 ≤ numOf ds s ∧ numOf ds s ≤ 10) (ha : SlAr w0 v rs) :
    Calls Tryz.prog 36 #[.pointer (some ⟨gb, 0, none⟩), v] w (ArsPost w gb bm mb c1 c3 ga capa cs abl ds rs) := by
  have HA := Lib.hid ha
  have HNB := Lib.hid hnb
  clear hnb
  obtain ⟨hl, aa, acap, rfl, _⟩ := ha
  unfold maxLen at hl
  by_cases h300 : 300 < rs.length
  · have hd3 : decide (300 < ((rs.length : Nat) : Int)) = true := by simp; omega
    have HE : Hid (arsErr cs abl ds rs = 5) := by unfold Hid arsErr; rw [if_pos h300]
    go_enter Tryz.func36, Tryz.ntmps36
    go_wp2_with fail
    go_ret
    exact ⟨by rw [HE.out]; rfl, ButG.refl _ _, fun e => absurd (HE.out.symm.trans e) (by decide)⟩
  · have hd3 : decide (300 < ((rs.length : Nat) : Int)) = false := by simp; omega
    have HE : Hid (arsErr cs abl ds rs = arsErrFrom cs abl ds rs (rs.length - 0) 0) := by unfold Hid arsErr; rw [if_neg h300]; rfl
    have hmk : ∀ (W : World) (n : Nat), (Instr.makeMap 61 (some (.int .i64 (n : Int)))).run Tryz.prog W = .ok (.map (some W.heap.size)) (W.alloc (.map #[] 0)) := fun W n => by
      simp [Instr.makeMap, run_underlying Tryz.underlying61, asInt, asIntOf, Result.andThen]
    have q5 : (w.alloc (.map #[] 0)).cell? ⟨gb, 5, none⟩ = some (.map none) := by rw [cell_of_row _ gb 5 _ _ _ (((below_alloc w _).block gb hgw).trans hrow)]; rfl
    have f5 : (w.alloc (.map #[] 0)).frozen? ⟨gb, 5, none⟩ = false := frozen_of_row _ gb 5 _ _ (((below_alloc w _).block gb hgw).trans hrow)
    obtain ⟨s0, bm', c1', ga', capa', c3', c4', c5', hse, hscl, hsab⟩ := hsig
    obtain ⟨rfl, rfl⟩ : bm' = bm ∧ ga' = ga := by
      injection hse with hse
      simp at hse
      obtain ⟨rfl, _, ⟨rfl, _⟩, _⟩ := hse
      exact ⟨rfl, rfl⟩
    clear hse
    go_enter Tryz.func36, Tryz.ntmps36
    go_wp2_with fail
    have hs1 : (w.setCell ⟨gb, 5, none⟩ (.map (some w.heap.size))).heap.size = w.heap.size := by simp
    have hB1 : ButG gb w ((w.setCell ⟨gb, 5, none⟩ (.map (some w.heap.size))).alloc (.map #[] 0)) := ((ButG.refl gb w).set 5 (.map (some w.heap.size))).trans (ButG.of_below (below_alloc _ _))
    have hr1 : ((w.setCell ⟨gb, 5, none⟩ (.map (some w.heap.size))).alloc (.map #[] 0)).heap[gb]? = some (.cells #[.map (some bm'), c1, .slice ga' (cs.map Prod.fst).length capa, c3, .map (some mb), .map (some w.heap.size)] 63 (0, 0)) :=
      ((below_alloc _ _).block gb (by rw [hs1]; exact hgw)).trans (heap_setCell_same _ gb 5 _ 63 _ hrow)
    have hm1 : MapA ((w.setCell ⟨gb, 5, none⟩ (.map (some w.heap.size))).alloc (.map #[] 0)) w.heap.size [] [] :=
      mapA_empty (by have := heap_alloc_new (w.setCell ⟨gb, 5, none⟩ (.map (some w.heap.size))) (.map #[] 0); rw [hs1] at this; exact this)
    have hz1 : w.heap.size + 1 ≤ ((w.setCell ⟨gb, 5, none⟩ (.map (some w.heap.size))).alloc (.map #[] 0)).heap.size := by simp
    generalize ((w.setCell ⟨gb, 5, none⟩ (.map (some w.heap.size))).alloc (.map #[] 0)) = W0 at *
    have hcl0 := MapAt.butG hB1 hrow hscl
    have hnu0 := MapV.butG hB1 hrow hnum
    have hG0 : Hid (GAr W0 gb bm' mb w.heap.size c1 c3 ga' capa (cs.map Prod.fst) (fun i => abl.getD i []) ds [] []) :=
      ⟨hr1, ⟨s0, bm', c1, ga', capa, c3, _, _, rfl, hcl0, AbvAt.butG hB1 hrow hsab⟩, hcl0, hnu0, hm1, by have := hscl.lt; omega, by have := hnum.lt; omega⟩
    have HB1 := Lib.hid hB1
    clear hr1 hm1 hcl0 hnu0 q5 f5 hmk hs1 hscl hsab hnum hB1
    go_loopw [19] (fun i wr => ∃ (k : Nat) (vs : List Value), k ≤ rs.length ∧ i = .int .i64 k ∧ Hid (GAr wr gb bm' mb w.heap.size c1 c3 ga' capa (cs.map Prod.fst) (fun i => abl.getD i []) ds ((rs.map arKey).take k) vs) ∧ Hid (∀ j, j < k → SlSsO wr w.heap.size (vs.getD j undef) (rs.getD j ar0).2.2) ∧ Hid (ButG gb w wr) ∧ Hid (arsErr cs abl ds rs = arsErrFrom cs abl ds rs (rs.length - k) k)) (fun i _ => rs.length - (intOf i).toNat)
    case atStart => exact ⟨0, [], by omega, rfl, hG0, fun j hj => absurd hj (by omega), HB1, HE⟩
    case round =>
      obtain ⟨k, vs, hk, rfl, hG, hV, hB, hE⟩ := hrel
      clear hG0 HE
      have hz := hB.out.size
      have hb0 : Below w0.heap.size w0 wr := hB0.trans (hB.out.below hgb hB0.size)
      by_cases hlt : k < rs.length
      · obtain ⟨_, aa', acap', hee, hsx⟩ := HA.out
        injection hee with hee _ hee2
        subst hee hee2
        obtain ⟨b, off, rfl, hb, hcl⟩ := hsx (by omega)
        obtain ⟨g0w, hx, g1w, hy, p, pc, g2w, hls⟩ := hcl k hlt
        have g0 := (hb0.cell (p := ⟨b, off + k * 3, none⟩) hb).trans g0w
        have g1 := (hb0.cell (p := ⟨b, off + k * 3 + 1, none⟩) hb).trans g1w
        have g2 := (hb0.cell (p := ⟨b, off + k * 3 + 2, none⟩) hb).trans g2w
        have htk := Lib.hid (keys_take rs k hlt)
        have hstep : Hid (arsErr cs abl ds rs = if arErr (cs.map Prod.fst) (fun i => abl.getD i []) ds ((rs.map arKey).take k) (rs.getD k ar0) = 0 then arsErrFrom cs abl ds rs (rs.length - (k + 1)) (k + 1) else arErr (cs.map Prod.fst) (fun i => abl.getD i []) ds ((rs.map arKey).take k) (rs.getD k ar0)) := by
          unfold Hid; rw [hE.out]
          have : rs.length - k = (rs.length - (k + 1)) + 1 := by omega
          rw [this]; rfl
        have hlsr := hls.below hb0 (Nat.le_refl _)
        have hRK : Hid (∀ (W : World) v, SlSs W v (rs.getD k ar0).2.2 → SlSs W v (rs.getD k ar0).2.2) := fun _ _ h => h
        clear hcl hsx hE g0w g1w g2w hls hRK
        obtain ⟨a, hak⟩ : ∃ a, a = rs.getD k ar0 := ⟨_, rfl⟩
        rw [← hak] at g0 g1 g2 hx hy htk hstep hlsr
        have HAK := Lib.hid hak
        clear hak
        obtain ⟨x, y, ls⟩ := a
        simp only at g0 g1 g2 hx hy hlsr
        have hbr := below_alloc wr (Obj.cells #[.string (bs x), .string (bs y), .slice p ls.length pc] 50)
        have hGr : GAr (wr.alloc (Obj.cells #[.string (bs x), .string (bs y), .slice p ls.length pc] 50)) gb bm' mb w.heap.size c1 c3 ga' capa (cs.map Prod.fst) (fun i => abl.getD i []) ds ((rs.map arKey).take k) vs :=
          hG.out.turn (ButG.of_below hbr) (hG.out.ars.below hbr hG.out.ars.lt)
        have hklen : ((rs.map arKey).take k).length = k := by rw [List.length_take, List.length_map]; omega
        have HC := Lib.hid (addArity_any gb bm' mb w.heap.size c1 c3 ga' capa (cs.map Prod.fst) (fun i => abl.getD i []) ds ((rs.map arKey).take k) vs x y p pc ls _ hGr hx hy (hlsr.below hbr (Nat.le_refl _)) (by rw [hklen]; omega) HNB.out)
        have HVL := Lib.hid (hG.out.ars.1.trans hklen)
        have HVR : Hid (∀ j, j < k → SlSsO (wr.alloc (Obj.cells #[.string (bs x), .string (bs y), .slice p ls.length pc] 50)) w.heap.size (vs.getD j undef) (rs.getD j ar0).2.2) := fun j hj => (hV.out j hj).below hbr
        have HGR := Lib.hid hGr
        have HBR := Lib.hid (ButG.of_below (gb := w.heap.size) hbr)
        have HBG := Lib.hid (hB.out.trans (ButG.of_below hbr))
        clear hGr hlsr hbr hG hklen hB
        obtain ⟨er, her⟩ : ∃ er, er = arErr (cs.map Prod.fst) (fun i => abl.getD i []) ds ((rs.map arKey).take k) (x, y, ls) := ⟨_, rfl⟩
        have HER := Lib.hid her
        rw [← her] at hstep
        clear her
        by_cases hz0 : er = 0
        · have hst2 : Hid (arsErr cs abl ds rs = arsErrFrom cs abl ds rs (rs.length - (k + 1)) (k + 1)) := by unfold Hid; rw [hstep.out, if_pos hz0]
          have HZ := Lib.hid hz0
          clear hstep hz0
          go_wp2_with fail
          refine HC.out.mono ?_
          rintro e w1 ⟨he, hB1, hk1⟩
          rw [← HER.out, HZ.out] at he
          subst he
          obtain ⟨v, hGv, hSv⟩ := hk1 (HER.out.symm.trans HZ.out)
          rw [← htk.out] at hGv
          have HGV := Lib.hid hGv
          have HSV := Lib.hid hSv
          have HB2 : Hid (ButG gb w w1) := ⟨hB1.os.trans HBG.out.os, hB1.tape.trans HBG.out.tape, hB1.output.trans HBG.out.output, Nat.le_trans HBG.out.size hB1.size, fun j hj hn => (hB1.block j (Nat.lt_of_lt_of_le hj HBG.out.size) (by omega)).trans (HBG.out.block j hj hn)⟩
          have HVN : Hid (∀ j, j < k + 1 → SlSsO w1 w.heap.size ((vs ++ [v]).getD j undef) (rs.getD j ar0).2.2) := by
            intro j hj
            by_cases hjk : j < k
            · rw [getD_leftV vs v j (by rw [HVL.out]; exact hjk)]
              exact SlSsO.butM hB1 HGR.out.ars (HVR.out j hjk)
            · have ejk : j = k := by omega
              subst ejk
              have e1 : (vs ++ [v]).getD j undef = v := by conv => lhs; rw [← HVL.out]
                                                           exact getD_lastV vs v
              rw [e1, ← HAK.out]; exact HSV.out.mono (Nat.le_trans hz (by simp))
          clear hGv hSv hk1 HGR HVR
          go_wp2_with fail
          go_roundw
          case rel => exact ⟨k + 1, vs ++ [v], by omega, by go_num, HGV, HVN, HB2, hst2⟩
          case measure => simp [intOf]; omega
        · have hst2 : Hid (arsErr cs abl ds rs = er) := by unfold Hid; rw [hstep.out, if_neg hz0]
          have hne : (er != 0) = true := by simpa using hz0
          have HZ : Hid (er ≠ 0) := hz0
          clear hstep hz0
          go_wp2_with fail
          refine HC.out.mono ?_
          rintro e w1 ⟨he, hB1, _⟩
          rw [← HER.out] at he
          subst he
          have HB2 : Hid (ButG gb w w1) := ⟨hB1.os.trans HBG.out.os, hB1.tape.trans HBG.out.tape, hB1.output.trans HBG.out.output, Nat.le_trans HBG.out.size hB1.size, fun j hj hn => (hB1.block j (Nat.lt_of_lt_of_le hj HBG.out.size) (by omega)).trans (HBG.out.block j hj hn)⟩
          go_wp2_with fail
          go_ret
          exact ⟨by rw [hst2.out]; rfl, HB2.out, fun e0 => absurd (hst2.out.symm.trans e0) HZ.out⟩
      · have hkk : k = rs.length := by omega
        subst hkk
        have hE0 : Hid (arsErr cs abl ds rs = 0) := by unfold Hid; rw [hE.out, Nat.sub_self]; rfl
        rw [List.take_of_length_le (by simp)] at hG
        clear hE
        go_wp2_with fail
        go_ret
        exact ⟨by rw [hE0.out]; rfl, hB.out, fun _ => ⟨_, vs, Nat.le_refl _, hG.out, hV.out⟩⟩
end Go.Proofs.YtehnikgdjnmfcaaGreat
