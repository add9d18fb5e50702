/- The map of what Ground has found: its keys are a text and a depth. -/
import Derived.Test.YtehnikgdjnmfcaaGreatMZ28
import Derived.Test.YtehnikgdjnmfcaaGreatMZ29
import Derived.DeepKeys4
import Derived.Maps.AppendAt
namespace Go.Proofs.YtehnikgdjnmfcaaGreat
open Go.RowKit Go.WideMaps Go.Shelf Go.Lib

theorem Tryz.rowP98 : (98 : TypeId) < Tryz.prog.types.size := of_decide_eq_true (by kernel_rfl)
theorem Tryz.wideP98 : (match Tryz.prog.underlying 98 with | some (.array _ _) | some (.struct _) => true | _ => false) = true := by kernel_rfl
theorem Tryz.deepP98 : Tryz.prog.keyTypeAt 3 98 = true := by kernel_rfl
set_option maxRecDepth 100000 in
theorem Tryz.keyLaw98 : KeyLaw Tryz.prog 98 := deep_law_laid Tryz.laidOutP (m := 3) (by omega) Tryz.rowP98 Tryz.deepP98 Tryz.wideP98
theorem Tryz.keyed98 : Maps.Keyed Tryz.prog 98 := Maps.Keyed.of_law Tryz.keyLaw98
theorem Tryz.keyType98 : Tryz.prog.keyType 98 = true := by kernel_rfl
theorem Tryz.cellsP98 : Tryz.prog.cellsOf 98 = 2 := by kernel_rfl
theorem Tryz.cellsP3 : Tryz.prog.cellsOf 3 = 1 := by kernel_rfl

/-- a text and a depth as a key -/
def keyK (q : Nm × Int) : Value := .agg #[.string (bs q.1), .int .i64 q.2]
def keyM (q : Nm × Int) : Lit := .string (keyBytes [.string q.1, .int .i64 q.2])
/-- a key that can be told -/
def okK (q : Nm × Int) : Prop := q.1.length ≤ maxLen ∧ (Lit.int .i64 q.2).wf = true

theorem key_k {q : Nm × Int} (h : okK q) : keyOf Tryz.prog 98 (keyK q) = some (keyM q) := by
  obtain ⟨h1, h2⟩ := h
  obtain ⟨n, hn⟩ := Tryz.sizeP
  unfold keyOf keyK keyM
  simp only [Tryz.underlying98, Tryz.keyType98, Value.formed, Tryz.cellsP98, hn]
  have b1 : (bs q.1).size ≤ maxLen := by rw [bs_size]; exact h1
  simp [Program.keyLits, Tryz.underlying98, Tryz.cellsP98, Tryz.cellsP9, Tryz.cellsP3, Value.cells, Tryz.underlying9, Tryz.underlying3, b1, h2]
  rfl

theorem keyM_inj {q r : Nm × Int} (h1 : okK q) (h2 : okK r) (h : keyM q = keyM r) : q = r := by
  have hq := key_k h1
  rw [h] at hq
  have e := Tryz.keyed98.inj hq (key_k h2)
  have e : #[Value.string (bs q.1), Value.int .i64 q.2] = #[Value.string (bs r.1), Value.int .i64 r.2] := by simpa [keyK] using e
  have e1 : bs q.1 = bs r.1 := by
    have := congrArg (fun a : Array Value => a[0]?) e
    simpa using this
  have e2 : q.2 = r.2 := by
    have := congrArg (fun a : Array Value => a[1]?) e
    simpa using this
  have f1 : q.1 = r.1 := by have := congrArg (fun b : ByteArray => b.data.toList) e1; simpa [bs] using this
  exact Prod.ext f1 e2

/-- the value of none -/
def noK : Value := .agg #[.int .i64 0, .string ByteArray.empty, .int .i64 0, .slice none 0 0, .slice none 0 0, .bool false]
theorem zero111 (w : World) : (zeroValue 100).run Tryz.prog w = .ok noK w := by kernel_rfl

/-- block b is the map of what has been found -/
def MapK (w : World) (b n : Nat) (f : Nm × Int → Option Value) : Prop :=
  ∃ D : DataW Value, Maps.IsMap D ∧ w.ownsMap Tryz.prog 98 selfR b n D ∧ ∀ q : Nm × Int, okK q → Maps.has D (keyM q) = (f q).isSome ∧ D.atKey (keyM q) (.held noK) = .held ((f q).getD noK)

theorem MapK.lt {w : World} {b n : Nat} {f : Nm × Int → Option Value} (h : MapK w b n f) : b < w.heap.size := by
  obtain ⟨D, _, h, _⟩ := h; exact h.lt
theorem MapK.block {w w' : World} {b n : Nat} {f : Nm × Int → Option Value} (h : MapK w b n f) (hb : w'.heap[b]? = w.heap[b]?) : MapK w' b n f := by
  obtain ⟨D, h1, ⟨es, cl, e1, e2⟩, h2⟩ := h; exact ⟨D, h1, ⟨es, cl, hb.trans e1, e2⟩, h2⟩
theorem MapK.below {w w' : World} {B b n : Nat} {f : Nm × Int → Option Value} (h : MapK w b n f) (hb : Below B w w') (hB : b < B) : MapK w' b n f := h.block (hb.block b hB)
theorem MapK.obj {w : World} {b n : Nat} {f : Nm × Int → Option Value} (h : MapK w b n f) : ∃ es cl, w.heap[b]? = some (.map es cl) := by
  obtain ⟨D, _, ⟨es, cl, e, _⟩, _⟩ := h; exact ⟨es, cl, e⟩
theorem mapK_empty {w : World} {b : Nat} (h : w.heap[b]? = some (.map #[] 0)) : MapK w b 0 (fun _ => none) := by
  refine ⟨.map [], Maps.isMap_empty, ⟨#[], 0, h, ⟨by simp, Go.MapKept.stamped_empty 0, by simp⟩, Nat.le_refl _, rfl⟩, fun q _ => ⟨by simp [Maps.has], by simp [DataW.atKey]⟩⟩

theorem MapK.look {w : World} {b n : Nat} {f : Nm × Int → Option Value} (h : MapK w b n f) {q : Nm × Int} (hq : okK q) :
    (Instr.lookup 93 (.map (some b)) (.agg #[.string (bs q.1), .int .i64 q.2]) true).run Tryz.prog w = .ok (.tuple #[(f q).getD noK, .bool (f q).isSome]) w := by
  obtain ⟨D, _, hown, hD⟩ := h
  obtain ⟨v, ps, hrun, hv⟩ := hown.look_ok Tryz.keyed98 Tryz.underlying93 (zero111 w) (zd := .held noK) (zp := []) rfl (key_k hq)
  obtain ⟨g1, g2⟩ := hD q hq
  rw [g2] at hv
  have hv2 : v = (f q).getD noK ∧ ps = [] := by simpa [selfR] using hv
  rw [← g1, ← hv2.1]
  exact hrun

theorem wpList_mapK_put (w : World) {ops : Array Oper} {rest : List Oper} {o : Oper} {a : Act} {Q : Exit → Act → World → Prop}
    (hg : o.guard = none) (m x v : Operand) (hop : o.op = Op.mapUpdate 93 m x v) (b n : Nat) (hm : a.eval m = .map (some b)) (f : Nm × Int → Option Value) (hown : MapK w b n f)
    (q : Nm × Int) (hx : a.eval x = .agg #[.string (bs q.1), .int .i64 q.2]) (hq : okK q) (u : Value) (hv : a.eval v = u) (hn : n < 9223372036854775807)
    (hK : ∀ w' n', n' ≤ n + 1 → MapK w' b n' (fun r => if r = q then some u else f r) → w.grownBy w' (some b) → wpList Tryz.prog ops Q rest (a.put o.dst undef) w') :
    wpList Tryz.prog ops Q (o :: rest) a w := by
  obtain ⟨D, hI, hown, hD⟩ := hown
  refine wpList_mapUpdate_own w hg m x v 93 hop 98 100 Tryz.keyed98 Tryz.underlying93 selfR b n D hm hown (by unfold maxLen; omega) _ _ _ hx hv (key_k hq) (.held u) [] rfl ?_
  intro w' hown' hg'
  refine hK w' (n + 1) (Nat.le_refl _) ⟨_, hI.put _ _, by simpa using hown', fun r hr => ?_⟩ hg'
  obtain ⟨g1, g2⟩ := hD r hr
  by_cases e : r = q
  · subst e
    rw [Maps.has_put_same hI (by trivial), Maps.atKey_put_same hI (by trivial)]
    simp
  · have hne : keyM r ≠ keyM q := fun h => e (keyM_inj hr hq h)
    rw [Maps.has_put_other hne, Maps.atKey_put_other hne, g1, g2]
    simp [e]
end Go.Proofs.YtehnikgdjnmfcaaGreat

/- Ground's types in memory, told; what a grounder has found. -/
namespace Go.Proofs.YtehnikgdjnmfcaaGreat
open Go.RowKit Go.WideMaps Go.Shelf Go.Lib

/-- a type without variables: what it is, its name, its arguments -/
def tyV (o : Int) (x : ByteArray) (a : Option Addr) (n c : Nat) : Value := .agg #[.int .i64 o, .string x, .int .i64 0, .slice none 0 0, .slice a n c]
def tyCells (o : Int) (x : ByteArray) (a : Option Addr) (n c : Nat) : List Value := [.int .i64 o, .string x, .int .i64 0, .slice none 0 0, .slice a n c]

/-- five cells that hold a type -/
def Five (w : World) (b i : Nat) (o : Int) (x : ByteArray) (a : Option Addr) (n c : Nat) : Prop :=
  w.cell? ⟨b, i, none⟩ = some (.int .i64 o) ∧ w.cell? ⟨b, i + 1, none⟩ = some (.string x) ∧ w.cell? ⟨b, i + 2, none⟩ = some (.int .i64 0) ∧ w.cell? ⟨b, i + 3, none⟩ = some (.slice none 0 0) ∧ w.cell? ⟨b, i + 4, none⟩ = some (.slice a n c)

/-- a type without variables: its kind, its name, its arguments -/
inductive GT where
  | mk (o : Int) (x : Nm) (l : List GT)
def GT.o : GT → Int | .mk o _ _ => o
def GT.x : GT → Nm | .mk _ x _ => x
def GT.l : GT → List GT | .mk _ _ l => l
def GT.zero : GT := .mk 0 [] []

/-- the type that Ground finds -/
def gT (cs : List (Nm × List Nm)) (abl : List (List Nat)) (ds : List (Nm × Int)) (rs : List Ar) : Nat → List Nm → GT
  | 0, _ => .zero
  | d + 1, s => match ds.find? (fun dc => hasAll rs dc.1 s && (wantC cs abl ds rs dc.1 s).all (gB cs abl ds rs d)) with
    | some dc => .mk 1 dc.1 ((wantC cs abl ds rs dc.1 s).map (gT cs abl ds rs d))
    | none => .zero

/-- types of at most a depth, in blocks that are not hot -/
def TyAt (w : World) (H : Nat → Prop) : Nat → List GT → Option Addr → Nat → Prop
  | 0, l, _, n => n = 0 ∧ l = []
  | d + 1, l, a, n => n = l.length ∧ n ≤ 10 ∧ (0 < n → ∃ b off, a = some ⟨b, off, none⟩ ∧ b < w.heap.size ∧ ¬ H b ∧ ∀ j, j < n → ∃ o x a' n' c', Five w b (off + j * 5) o x a' n' c' ∧ TyAt w H d (l.getD j .zero).l a' n' ∧ o = (l.getD j .zero).o ∧ x = bs (l.getD j .zero).x)

/-- a type, told by the parts of its value -/
def TyIs (w : World) (H : Nat → Prop) (d : Nat) (t : GT) (o : Int) (x : ByteArray) (a : Option Addr) (n : Nat) : Prop := TyAt w H d t.l a n ∧ o = t.o ∧ x = bs t.x

theorem tyAt_none (w : World) (H : Nat → Prop) : ∀ (d : Nat) (a : Option Addr), TyAt w H d [] a 0
  | 0, _ => ⟨rfl, rfl⟩
  | _ + 1, _ => ⟨rfl, by omega, fun h => absurd h (by omega)⟩

theorem tyIs_zero (w : World) (H : Nat → Prop) (d : Nat) (a : Option Addr) : TyIs w H d .zero 0 ByteArray.empty a 0 := ⟨tyAt_none w H d a, rfl, rfl⟩

theorem TyAt.turn {w w' : World} {H H' : Nat → Prop} (hz : w.heap.size ≤ w'.heap.size) (hk : ∀ b i u, ¬ H b → w.cell? ⟨b, i, none⟩ = some u → w'.cell? ⟨b, i, none⟩ = some u) (hH : ∀ b, b < w.heap.size → H' b → H b) :
    ∀ (d : Nat) (l : List GT) (a : Option Addr) (n : Nat), TyAt w H d l a n → TyAt w' H' d l a n
  | 0, _, _, _, h => h
  | d + 1, l, a, n, h => by
    obtain ⟨h0, h1, h2⟩ := h
    refine ⟨h0, h1, fun hn => ?_⟩
    obtain ⟨b, off, e, hb, hh, hc⟩ := h2 hn
    refine ⟨b, off, e, Nat.lt_of_lt_of_le hb hz, fun hx => hh (hH b hb hx), fun j hj => ?_⟩
    obtain ⟨o, x, a', n', c', ⟨g0, g1, g2, g3, g4⟩, ht, e1, e2⟩ := hc j hj
    exact ⟨o, x, a', n', c', ⟨hk _ _ _ hh g0, hk _ _ _ hh g1, hk _ _ _ hh g2, hk _ _ _ hh g3, hk _ _ _ hh g4⟩, TyAt.turn hz hk hH d _ a' n' ht, e1, e2⟩

theorem TyAt.below {w w' : World} {H : Nat → Prop} {d : Nat} {l : List GT} {a : Option Addr} {n : Nat} (h : TyAt w H d l a n) (hb : Below w.heap.size w w') : TyAt w' H d l a n :=
  TyAt.turn hb.size (fun b i _ _ hc => (hb.cell (p := ⟨b, i, none⟩) (lt_of_cell (a := ⟨b, i, none⟩) hc)).trans hc) (fun _ _ h => h) d l a n h

theorem TyIs.turn {w w' : World} {H H' : Nat → Prop} {d : Nat} {t : GT} {o : Int} {x : ByteArray} {a : Option Addr} {n : Nat} (h : TyIs w H d t o x a n) (hz : w.heap.size ≤ w'.heap.size)
    (hk : ∀ b i u, ¬ H b → w.cell? ⟨b, i, none⟩ = some u → w'.cell? ⟨b, i, none⟩ = some u) (hH : ∀ b, b < w.heap.size → H' b → H b) : TyIs w' H' d t o x a n := ⟨TyAt.turn hz hk hH d _ a n h.1, h.2⟩

theorem TyIs.below {w w' : World} {H : Nat → Prop} {d : Nat} {t : GT} {o : Int} {x : ByteArray} {a : Option Addr} {n : Nat} (h : TyIs w H d t o x a n) (hb : Below w.heap.size w w') : TyIs w' H d t o x a n := ⟨h.1.below hb, h.2⟩

/-- what has been found for the sorts and depths -/
def EntOk (w : World) (H : Nat → Prop) (cs : List (Nm × List Nm)) (abl : List (List Nat)) (ds : List (Nm × Int)) (rs : List Ar) (f : Nm × Int → Option Value) : Prop :=
  ∀ (s : List Nm) (d : Nat) (v : Value), s.all (inNs (cs.map Prod.fst)) = true → f (joinB s, (d : Int)) = some v →
    ∃ o x a n c, v = .agg #[.int .i64 o, .string x, .int .i64 0, .slice none 0 0, .slice a n c, .bool (gB cs abl ds rs d s)] ∧ TyIs w H d (gT cs abl ds rs d s) o x a n

theorem EntOk.turn {w w' : World} {H H' : Nat → Prop} {cs : List (Nm × List Nm)} {abl : List (List Nat)} {ds : List (Nm × Int)} {rs : List Ar} {f : Nm × Int → Option Value} (h : EntOk w H cs abl ds rs f)
    (hz : w.heap.size ≤ w'.heap.size) (hk : ∀ b i u, ¬ H b → w.cell? ⟨b, i, none⟩ = some u → w'.cell? ⟨b, i, none⟩ = some u) (hH : ∀ b, b < w.heap.size → H' b → H b) : EntOk w' H' cs abl ds rs f := by
  intro s d v hs hv
  obtain ⟨o, x, a, n, c, e, ht⟩ := h s d v hs hv
  exact ⟨o, x, a, n, c, e, ht.turn hz hk hH⟩

/-- a grounder -/
structure GrAt (w : World) (H : Nat → Prop) (rb kb : Nat) (bm : Nat) (c1 : Value) (ga : Option Addr) (capa : Nat) (c3 : Value) (mb am : Nat) (cs : List (Nm × List Nm)) (abl : List (List Nat)) (ds : List (Nm × Int)) (rs : List Ar) (n : Nat) (f : Nm × Int → Option Value) : Prop where
  row : w.heap[rb]? = some (.cells #[.map (some bm), c1, .slice ga cs.length capa, c3, .map (some mb), .map (some am), .map (some kb)] 95 (0, 0))
  sig : ∃ w0, SgF w0 (.agg #[.map (some bm), c1, .slice ga cs.length capa, c3, .map (some mb), .map (some am)]) cs abl ds rs ∧ Below w0.heap.size w0 w ∧ w0.heap.size ≤ kb
  map : MapK w kb n f
  ent : EntOk w H cs abl ds rs f

section
variable {w w' : World} {H H' : Nat → Prop} {rb kb bm capa mb am n n' : Nat} {c1 c3 : Value} {ga : Option Addr} {cs : List (Nm × List Nm)} {abl : List (List Nat)} {ds : List (Nm × Int)} {rs : List Ar} {f f' : Nm × Int → Option Value}

theorem GrAt.sgf (h : GrAt w H rb kb bm c1 ga capa c3 mb am cs abl ds rs n f) : SgF w (.agg #[.map (some bm), c1, .slice ga cs.length capa, c3, .map (some mb), .map (some am)]) cs abl ds rs := by
  obtain ⟨w0, h1, h2, _⟩ := h.sig
  exact h1.below h2

theorem SgF.types {g0 g1 g2 g3 g4 g5 : Value} (h : SgF w (.agg #[g0, g1, g2, g3, g4, g5]) cs abl ds rs) : SlT w g3 ds := by
  obtain ⟨_, _, _, _, _, _, _, _, e, _, _, _, _, ht⟩ := h
  injection e with e
  simp at e
  obtain ⟨_, _, _, rfl, _⟩ := e
  exact ht

theorem GrAt.ne (h : GrAt w H rb kb bm c1 ga capa c3 mb am cs abl ds rs n f) : rb ≠ kb := by
  obtain ⟨es, cl, e⟩ := h.map.obj
  intro e2
  have := h.row
  rw [e2, e] at this
  cases this

/-- a cell isn't the map's -/
theorem GrAt.cell (h : GrAt w H rb kb bm c1 ga capa c3 mb am cs abl ds rs n f) (hg : ButG kb w w') {b i : Nat} {u : Value} (hc : w.cell? ⟨b, i, none⟩ = some u) : w'.heap[b]? = w.heap[b]? := by
  obtain ⟨es, cl, e⟩ := h.map.obj
  obtain ⟨o, h1, h2⟩ := cells_of_cell hc
  refine hg.block b (lt_of_cell (a := ⟨b, i, none⟩) hc) (fun e2 => ?_)
  simp only at h1
  rw [e2, e] at h1; injection h1 with h1; subst h1; cases h2

theorem GrAt.keep (h : GrAt w H rb kb bm c1 ga capa c3 mb am cs abl ds rs n f) (hb : Below w.heap.size w w') : GrAt w' H rb kb bm c1 ga capa c3 mb am cs abl ds rs n f := by
  obtain ⟨w0, h1, h2, h3⟩ := h.sig
  have hlt := h.map.lt
  refine ⟨(hb.block rb (Array.getElem?_eq_some_iff.1 h.row).1).trans h.row, ⟨w0, h1, h2.trans (hb.mono h2.size), h3⟩, h.map.below hb hlt, h.ent.turn hb.size (fun b i u _ hc => (hb.cell (p := ⟨b, i, none⟩) (lt_of_cell (a := ⟨b, i, none⟩) hc)).trans hc) fun _ _ h => h⟩

/-- the same grounder, with other hot blocks -/
theorem GrAt.hot (h : GrAt w H rb kb bm c1 ga capa c3 mb am cs abl ds rs n f) (hH : ∀ b, b < w.heap.size → H' b → H b) : GrAt w H' rb kb bm c1 ga capa c3 mb am cs abl ds rs n f :=
  ⟨h.row, h.sig, h.map, h.ent.turn (Nat.le_refl _) (fun _ _ _ _ h => h) hH⟩

/-- one of the hot blocks has turned, and new ones have come -/
theorem GrAt.grown {r : Option Nat} (h : GrAt w H rb kb bm c1 ga capa c3 mb am cs abl ds rs n f) (hg : w.grownBy w' r) (hr : ∀ b, r = some b → H b) (hr1 : r ≠ some rb) (hr2 : r ≠ some kb) (hr3 : ∀ b, r = some b → kb ≤ b) :
    GrAt w' H rb kb bm c1 ga capa c3 mb am cs abl ds rs n f := by
  obtain ⟨w0, h1, h2, h3⟩ := h.sig
  refine ⟨(hg.block rb (Array.getElem?_eq_some_iff.1 h.row).1 (fun e => hr1 e.symm)).trans h.row, ⟨w0, h1, h2.grown hg h2.size (fun b e => by have := hr3 b e; omega), h3⟩, h.map.block (hg.block kb h.map.lt fun e => hr2 e.symm), h.ent.turn hg.size (fun b i u hh hc => ?_) fun _ _ h => h⟩
  exact (World.cell?_of_block (a := ⟨b, i, none⟩) (hg.block b (lt_of_cell (a := ⟨b, i, none⟩) hc) (fun e => hh (hr b e.symm)))).trans hc
end

/-- how many entries a search of a depth may bring -/
def NB : Nat → Nat
  | 0 => 0
  | d + 1 => 1 + 300 * (10 * NB d)

theorem NB_mono (d : Nat) : NB d ≤ NB (d + 1) := by
  show NB d ≤ 1 + 300 * (10 * NB d)
  omega

theorem NB_five {d : Nat} (h : d ≤ 5) : NB d ≤ 100000000000000 := by
  have : d = 0 ∨ d = 1 ∨ d = 2 ∨ d = 3 ∨ d = 4 ∨ d = 5 := by omega
  rcases this with rfl | rfl | rfl | rfl | rfl | rfl <;> decide

/-- what a search leaves -/
def GPost (w : World) (H : Nat → Prop) (rb kb bm : Nat) (c1 : Value) (ga : Option Addr) (capa : Nat) (c3 : Value) (mb am : Nat) (cs : List (Nm × List Nm)) (abl : List (List Nat)) (ds : List (Nm × Int)) (rs : List Ar) (m d : Nat) (t : GT) (ok : Bool) (e : Ending) (w' : World) : Prop :=
  ∃ o x a k c n' f', e = .returned (.tuple #[.agg #[.int .i64 o, .string x, .int .i64 0, .slice none 0 0, .slice a k c], .bool ok]) ∧ ButG kb w w' ∧ GrAt w' H rb kb bm c1 ga capa c3 mb am cs abl ds rs n' f' ∧ n' ≤ m ∧ TyIs w' H d t o x a k

def FirstC (d : Nat) : Prop :=
  ∀ (H : Nat → Prop) (rb kb bm : Nat) (c1 : Value) (ga : Option Addr) (capa : Nat) (c3 : Value) (mb am : Nat) (cs : List (Nm × List Nm)) (sp abl : List (List Nat)) (ds : List (Nm × Int)) (rs : List Ar) (n : Nat) (f : Nm × Int → Option Value) (v : Value) (s : List Nm) (w : World),
    (∀ b, H b → b < w.heap.size) → GrAt w H rb kb bm c1 ga capa c3 mb am cs abl ds rs n f → Built cs sp abl → cs.length ≤ 300 → arsErr cs abl ds rs = 0 → typesErr ds = 0 → SlO w 0 v s → s.all (inNs (cs.map Prod.fst)) = true → s.length ≤ 300 → d ≤ 5 → n + NB d ≤ 9000000000000000000 →
    Calls Tryz.prog 27 #[.pointer (some ⟨rb, 0, none⟩), v, .int .i64 d] w (GPost w H rb kb bm c1 ga capa c3 mb am cs abl ds rs (n + NB d) d (gT cs abl ds rs d s) (gB cs abl ds rs d s))

def SearchC (d : Nat) : Prop :=
  ∀ (H : Nat → Prop) (rb kb bm : Nat) (c1 : Value) (ga : Option Addr) (capa : Nat) (c3 : Value) (mb am : Nat) (cs : List (Nm × List Nm)) (sp abl : List (List Nat)) (ds : List (Nm × Int)) (rs : List Ar) (n : Nat) (f : Nm × Int → Option Value) (v : Value) (s : List Nm) (w : World),
    (∀ b, H b → b < w.heap.size) → GrAt w H rb kb bm c1 ga capa c3 mb am cs abl ds rs n f → Built cs sp abl → cs.length ≤ 300 → arsErr cs abl ds rs = 0 → typesErr ds = 0 → SlO w 0 v s → s.all (inNs (cs.map Prod.fst)) = true → s.length ≤ 300 → d + 1 ≤ 5 → n + NB (d + 1) ≤ 9000000000000000000 →
    Calls Tryz.prog 49 #[.pointer (some ⟨rb, 0, none⟩), v, .int .i64 ((d + 1 : Nat) : Int)] w (GPost w H rb kb bm c1 ga capa c3 mb am cs abl ds rs (n + 300 * (10 * NB d)) (d + 1) (gT cs abl ds rs (d + 1) s) (gB cs abl ds rs (d + 1) s))

/-- what the search of several sorts leaves -/
def FPost (w : World) (H : Nat → Prop) (rb kb bm : Nat) (c1 : Value) (ga : Option Addr) (capa : Nat) (c3 : Value) (mb am : Nat) (cs : List (Nm × List Nm)) (abl : List (List Nat)) (ds : List (Nm × Int)) (rs : List Ar) (m d : Nat) (lt : List GT) (ok : Bool) (e : Ending) (w' : World) : Prop :=
  ∃ a k c n' f', e = .returned (.tuple #[.slice a k c, .bool ok]) ∧ ButG kb w w' ∧ GrAt w' H rb kb bm c1 ga capa c3 mb am cs abl ds rs n' f' ∧ n' ≤ m ∧ TyAt w' H (d + 1) (if ok = true then lt else []) a k

def FirstsC (d : Nat) : Prop :=
  ∀ (H : Nat → Prop) (rb kb bm : Nat) (c1 : Value) (ga : Option Addr) (capa : Nat) (c3 : Value) (mb am : Nat) (cs : List (Nm × List Nm)) (sp abl : List (List Nat)) (ds : List (Nm × Int)) (rs : List Ar) (n : Nat) (f : Nm × Int → Option Value) (a : Option Addr) (c : Nat) (ls : List (List Nm)) (w : World),
    (∀ b, H b → b < w.heap.size) → GrAt w H rb kb bm c1 ga capa c3 mb am cs abl ds rs n f → Built cs sp abl → cs.length ≤ 300 → arsErr cs abl ds rs = 0 → typesErr ds = 0 → SlSsO w 0 (.slice a ls.length c) ls → (∀ s ∈ ls, s.all (inNs (cs.map Prod.fst)) = true ∧ s.length ≤ 300) → ls.length ≤ 10 → d ≤ 5 → n + ls.length * NB d ≤ 9000000000000000000 →
    Calls Tryz.prog 71 #[.pointer (some ⟨rb, 0, none⟩), .slice a ls.length c, .int .i64 d] w (FPost w H rb kb bm c1 ga capa c3 mb am cs abl ds rs (n + ls.length * NB d) d (ls.map (gT cs abl ds rs d)) (ls.all (gB cs abl ds rs d)))
end Go.Proofs.YtehnikgdjnmfcaaGreat

/- first 49. -/
namespace Go.Proofs.YtehnikgdjnmfcaaGreat
open Go.RowKit Go.WideMaps Go.Shelf Go.Lib
attribute [local go_sem] Oper.semAt_some

theorem row5 {w : World} {g : Nat} {a0 a1 a2 a3 a4 v0 v1 v2 v3 v4 : Value} {t : TypeId} (h : w.heap[g]? = some (.cells #[a0, a1, a2, a3, a4] t (0, 0))) :
    (((((w.setCell ⟨g, 0, none⟩ v0).setCell ⟨g, 1, none⟩ v1).setCell ⟨g, 2, none⟩ v2).setCell ⟨g, 3, none⟩ v3).setCell ⟨g, 4, none⟩ v4).heap[g]? = some (.cells #[v0, v1, v2, v3, v4] t (0, 0)) :=
  heap_setCell_same _ g 4 _ t _ (heap_setCell_same _ g 3 _ t _ (heap_setCell_same _ g 2 _ t _ (heap_setCell_same _ g 1 _ t _ (heap_setCell_same _ g 0 _ t _ h))))

theorem below5 {w0 w : World} {g B : Nat} {v0 v1 v2 v3 v4 : Value} (h : Below B w0 w) (hg : B ≤ g) :
    Below B w0 (((((w.setCell ⟨g, 0, none⟩ v0).setCell ⟨g, 1, none⟩ v1).setCell ⟨g, 2, none⟩ v2).setCell ⟨g, 3, none⟩ v3).setCell ⟨g, 4, none⟩ v4) :=
  ((((h.setCell (p := ⟨g, 0, none⟩) hg _).setCell (p := ⟨g, 1, none⟩) hg _).setCell (p := ⟨g, 2, none⟩) hg _).setCell (p := ⟨g, 3, none⟩) hg _).setCell (p := ⟨g, 4, none⟩) hg _

theorem five {w : World} {k : Nat} {a0 a1 a2 a3 a4 : Value} {t : TypeId} (h : w.heap[k]? = some (.cells #[a0, a1, a2, a3, a4] t (0, 0))) :
    (w.cell? ⟨k, 0, none⟩ = some a0 ∧ w.cell? ⟨k, 1, none⟩ = some a1 ∧ w.cell? ⟨k, 2, none⟩ = some a2 ∧ w.cell? ⟨k, 3, none⟩ = some a3 ∧ w.cell? ⟨k, 4, none⟩ = some a4) ∧
    (w.frozen? ⟨k, 0, none⟩ = false ∧ w.frozen? ⟨k, 1, none⟩ = false ∧ w.frozen? ⟨k, 2, none⟩ = false ∧ w.frozen? ⟨k, 3, none⟩ = false ∧ w.frozen? ⟨k, 4, none⟩ = false) :=
  ⟨⟨by rw [cell_of_row _ _ 0 _ _ _ h]; rfl, by rw [cell_of_row _ _ 1 _ _ _ h]; rfl, by rw [cell_of_row _ _ 2 _ _ _ h]; rfl, by rw [cell_of_row _ _ 3 _ _ _ h]; rfl, by rw [cell_of_row _ _ 4 _ _ _ h]; rfl⟩,
    frozen_of_row _ _ _ _ _ h, frozen_of_row _ _ _ _ _ h, frozen_of_row _ _ _ _ _ h, frozen_of_row _ _ _ _ _ h, frozen_of_row _ _ _ _ _ h⟩

abbrev noT5 : Array Value := #[.int .i64 0, .string ByteArray.empty, .int .i64 0, .slice none 0 0, .slice none 0 0]
theorem Tryz.size42 : (Tryz.prog.info? 42).map (·.size) = some 5 := by kernel_rfl

theorem ButG.thenBelow {gb : Nat} {w w' w'' : World} (h : ButG gb w w') (hb : Below w.heap.size w' w'') : ButG gb w w'' :=
  ⟨hb.os.trans h.os, hb.tape.trans h.tape, hb.output.trans h.output, Nat.le_trans h.size hb.size, fun k hk hn => (hb.block k hk).trans (h.block k hk hn)⟩

theorem block5 {w : World} {g k : Nat} {v0 v1 v2 v3 v4 : Value} (h : k ≠ g) : (((((w.setCell ⟨g, 0, none⟩ v0).setCell ⟨g, 1, none⟩ v1).setCell ⟨g, 2, none⟩ v2).setCell ⟨g, 3, none⟩ v3).setCell ⟨g, 4, none⟩ v4).heap[k]? = w.heap[k]? :=
  (heap_setCell_other _ _ _ _ h).trans ((heap_setCell_other _ _ _ _ h).trans ((heap_setCell_other _ _ _ _ h).trans ((heap_setCell_other _ _ _ _ h).trans (heap_setCell_other _ _ _ _ h))))

theorem step_mapK_put (w : World) {ops : Array Oper} {rest : List Oper} {o : Oper} {a : Act} {Q : Exit → Act → World → Prop}
    (hg : o.guard = none) (m x v : Operand) (hop : o.op = Op.mapUpdate 93 m x v) (b n : Nat) (hm : a.eval m = .map (some b)) (f : Nm × Int → Option Value) (hown : MapK w b n f)
    (q : Nm × Int) (hx : a.eval x = .agg #[.string (bs q.1), .int .i64 q.2]) (hq : okK q) (u : Value) (hv : a.eval v = u) (hn : n < 9223372036854775807)
    (hK : ∀ w' n', n' ≤ n + 1 → MapK w' b n' (fun r => if r = q then some u else f r) → ButG b w w' → wpList Tryz.prog ops Q rest (a.put o.dst undef) w') :
    wpList Tryz.prog ops Q (o :: rest) a w :=
  wpList_mapK_put w hg m x v hop b n hm f hown q hx hq u hv hn fun w' n' h1 h2 hg3 => hK w' n' h1 h2 ⟨hg3.os, hg3.tape, hg3.output, hg3.size, fun j hj hn => hg3.block j hj (by intro e; injection e; omega)⟩

set_option maxRecDepth 100000 in
set_option maxHeartbeats 2000000 in
theorem first_zero : FirstC 0 := by
  intro H rb kb bm c1 ga capa c3 mb am cs sp abl ds rs n f v s w hH hg hbu h300 har hty hs hkn hs300 _ hn
  have HG := Lib.hid hg
  obtain ⟨_, _, sa, scap, rfl, _⟩ := hs
  have hb0 := below_alloc w (Obj.cells noT5 42)
  have r0 := heap_alloc_new w (Obj.cells noT5 42)
  obtain ⟨⟨p0, p1, p2, p3, p4⟩, f0, f1, f2, f3, f4⟩ := five r0
  have hGB : Hid (gB cs abl ds rs 0 s = false) := rfl
  have hGT : Hid (gT cs abl ds rs 0 s = .zero) := rfl
  generalize gB cs abl ds rs 0 s = ok at *
  generalize gT cs abl ds rs 0 s = gt at *
  clear hg hH hbu har hty hkn hn
  go_enter Tryz.func27, Tryz.ntmps27
  go_wp2_with fail
  refine bodyPost_ret (results_row_tmp rfl _ _ w.heap.size 42 noT5 (0, 0) _ rfl r0 Tryz.underlying42 rfl Tryz.size42) rfl ?_
  refine ⟨0, ByteArray.empty, none, 0, 0, n, f, by rw [hGB.out]; rfl, ButG.of_below (hb0), HG.out.keep (hb0), by omega, by rw [hGT.out]; exact tyIs_zero _ _ _ _⟩

theorem join_any (v : Value) (s : List Nm) (w : World) (hs : SlO w 0 v s) (h300 : s.length ≤ 300) (h40 : ∀ x ∈ s, x.length ≤ 40) :
    Calls Tryz.prog 48 #[v, .string ⟨#[44]⟩] w fun e w' => e = .returned (.string (bs (joinB s))) ∧ Below w.heap.size w w' := by
  obtain ⟨_, _, a, cap, rfl, hx⟩ := hs
  cases s with
  | nil =>
    refine (Tryz.strings_Join_none a cap ⟨#[44]⟩ w).mono ?_
    rintro e w' ⟨rfl, rfl⟩
    exact ⟨by simp [joinB, Lib.join_nil, bs], Below.refl _ _⟩
  | cons x r =>
    obtain ⟨b, rfl, _, hb, hc, hh⟩ := hx (by simp)
    have hl : ((x :: r).map bs).length = (x :: r).length := by simp
    have hm : ((x :: r).map bs).map (fun y => y.data.toList) = x :: r := by
      rw [List.map_map]
      have : ((fun y : ByteArray => y.data.toList) ∘ bs) = id := by funext y; simp [bs]
      rw [this, List.map_id]
    have hj := Tryz.strings_Join b 0 cap ((x :: r).map bs) ⟨#[44]⟩ w (fun j y hj => ?_) hb (by rw [hl]; omega) (by rw [hl]; exact hc) (by
      rw [hm]
      have := join_len (x :: r) h40
      unfold joinB at this
      have e : ((⟨#[44]⟩ : ByteArray).data.toList) = [44] := rfl
      rw [e]; omega)
    · rw [hl, hm] at hj
      exact hj
    · have hjl : j < (x :: r).length := by
        have := (List.getElem?_eq_some_iff.1 hj).1
        simpa using this
      have e2 : bs ((x :: r).getD j []) = y := by
        rw [List.getElem?_map, List.getElem?_eq_getElem hjl] at hj
        injection hj with hj
        rw [← hj, List.getD_eq_getElem?_getD, List.getElem?_eq_getElem hjl, Option.getD_some]
      rw [Nat.zero_add, ← e2]
      exact (holds_iff.1 hh j hjl).1

theorem okK_of {s : List Nm} {d : Nat} (h300 : s.length ≤ 300) (h40 : ∀ x ∈ s, x.length ≤ 40) (hd : d ≤ 5) : okK (joinB s, (d : Int)) := by
  have := join_len s h40
  refine ⟨by show (joinB s).length ≤ maxLen; unfold maxLen; omega, WalkArith.wf_i64 (by omega)⟩

theorem known40 {cs : List (Nm × List Nm)} {sp abl : List (List Nat)} (hb : Built cs sp abl) {s : List Nm} (h : s.all (inNs (cs.map Prod.fst)) = true) : ∀ x ∈ s, x.length ≤ 40 := by
  intro x hx
  have hi := List.all_eq_true.1 h x hx
  exact hb.names x (of_decide_eq_true hi)

theorem two_new {w : World} {u v : Value} {t : TypeId} : (w.alloc (Obj.cells #[u, v] t)).cell? ⟨w.heap.size, 0, none⟩ = some u ∧ (w.alloc (Obj.cells #[u, v] t)).cell? ⟨w.heap.size, 1, none⟩ = some v := by
  have h := heap_alloc_new w (Obj.cells #[u, v] t)
  exact ⟨by rw [cell_of_row _ _ 0 _ _ _ h]; rfl, by rw [cell_of_row _ _ 1 _ _ _ h]; rfl⟩

set_option maxRecDepth 100000 in
set_option maxHeartbeats 2000000 in
theorem first_step {d : Nat} (HS : SearchC d) : FirstC (d + 1) := by
  intro H rb kb bm c1 ga capa c3 mb am cs sp abl ds rs n f v s w hH hg hbu h300 har hty hs hkn hs300 hd5 hn
  have HG := Lib.hid hg
  have HSL := Lib.hid hs
  have HBU := Lib.hid hbu
  have HKN := Lib.hid hkn
  have H40 := Lib.hid (known40 hbu hkn)
  have HAR := Lib.hid har
  have HTY := Lib.hid hty
  have HH := Lib.hid hH
  have HN := Lib.hid hn
  obtain ⟨_, _, sa, scap, rfl, _⟩ := hs
  have hb0 := below_alloc w (Obj.cells noT5 42)
  have r0 := heap_alloc_new w (Obj.cells noT5 42)
  have hz0 : (w.alloc (Obj.cells noT5 42)).heap.size = w.heap.size + 1 := by simp
  have J := Lib.hid (join_any _ s _ (HSL.out.below hb0 (Nat.le_refl _)) hs300 H40.out)
  have hd0 : (((d + 1 : Nat) : Int) == 0) = false := by simp; omega
  obtain ⟨dd, hdd⟩ : ∃ dd : Int, dd = ((d + 1 : Nat) : Int) := ⟨_, rfl⟩
  rw [← hdd] at hd0 ⊢
  have HDD := Lib.hid hdd
  obtain ⟨m, hm⟩ : ∃ m, m = n + NB (d + 1) := ⟨_, rfl⟩
  rw [← hm]
  have HM := Lib.hid hm
  generalize hGB : gB cs abl ds rs (d + 1) s = ok at *
  have HGB := Lib.hid hGB
  generalize hGT : gT cs abl ds rs (d + 1) s = gt at *
  have HGT := Lib.hid hGT
  clear hg hH hbu har hty hkn hn hdd hm hGB hGT
  go_enter Tryz.func27, Tryz.ntmps27
  go_wp2_with fail
  refine J.out.mono ?_
  rintro e w1 ⟨rfl, hb1⟩
  have hB1 : Below w.heap.size w w1 := hb0.trans (hb1.mono (by omega))
  have hz1 : w.heap.size + 1 ≤ w1.heap.size := by have := hb1.size; simpa using this
  have hb2 := below_alloc w1 (Obj.cells #[.string (bs (joinB s)), .int .i64 dd] 98)
  have hB2 : Below w.heap.size w (w1.alloc (Obj.cells #[.string (bs (joinB s)), .int .i64 dd] 98)) := hB1.trans (hb2.mono (by omega))
  have hg2 := HG.out.keep hB2
  have hok : okK (joinB s, dd) := by rw [HDD.out]; exact okK_of hs300 H40.out hd5
  have HOK := Lib.hid hok
  have HK1 := heap_alloc_new w1 (Obj.cells #[.string (bs (joinB s)), .int .i64 dd] 98)
  obtain ⟨k0, k1⟩ := two_new (w := w1) (u := .string (bs (joinB s))) (v := .int .i64 dd) (t := 98)
  have hlk : (Instr.lookup 93 (.map (some kb)) (.agg #[.string (bs (joinB s)), .int .i64 dd]) true).run Tryz.prog (w1.alloc (Obj.cells #[.string (bs (joinB s)), .int .i64 dd] 98)).drew = .ok (.tuple #[(f (joinB s, dd)).getD noK, .bool (f (joinB s, dd)).isSome]) (w1.alloc (Obj.cells #[.string (bs (joinB s)), .int .i64 dd] 98)).drew := MapK.look (w := (w1.alloc (Obj.cells #[.string (bs (joinB s)), .int .i64 dd] 98)).drew) hg2.map hok
  have hlk2 : (Instr.lookup 93 (.map (some kb)) (.agg #[.string (bs (joinB s)), .int .i64 dd]) true).run Tryz.prog ((w1.alloc (Obj.cells #[.string (bs (joinB s)), .int .i64 dd] 98)).alloc (Obj.cells #[.int .i64 0, .string ⟨#[]⟩, .int .i64 0, .slice none 0 0, .slice none 0 0, .bool false] 100)).drew = .ok (.tuple #[(f (joinB s, dd)).getD noK, .bool (f (joinB s, dd)).isSome]) ((w1.alloc (Obj.cells #[.string (bs (joinB s)), .int .i64 dd] 98)).alloc (Obj.cells #[.int .i64 0, .string ⟨#[]⟩, .int .i64 0, .slice none 0 0, .slice none 0 0, .bool false] 100)).drew := MapK.look (w := ((w1.alloc (Obj.cells #[.string (bs (joinB s)), .int .i64 dd] 98)).alloc (Obj.cells #[.int .i64 0, .string ⟨#[]⟩, .int .i64 0, .slice none 0 0, .slice none 0 0, .bool false] 100)).drew) (hg2.map.below (below_alloc _ _).drew hg2.map.lt) hok
  have k0' := ((below_alloc (w1.alloc (Obj.cells #[.string (bs (joinB s)), .int .i64 dd] 98)) (Obj.cells #[.int .i64 0, .string ⟨#[]⟩, .int .i64 0, .slice none 0 0, .slice none 0 0, .bool false] 100)).cell (p := ⟨w1.heap.size, 0, none⟩) (by simp)).trans k0
  have k1' := ((below_alloc (w1.alloc (Obj.cells #[.string (bs (joinB s)), .int .i64 dd] 98)) (Obj.cells #[.int .i64 0, .string ⟨#[]⟩, .int .i64 0, .slice none 0 0, .slice none 0 0, .bool false] 100)).cell (p := ⟨w1.heap.size, 1, none⟩) (by simp)).trans k1
  have p6 : (w1.alloc (Obj.cells #[.string (bs (joinB s)), .int .i64 dd] 98)).cell? ⟨rb, 6, none⟩ = some (.map (some kb)) := by rw [cell_of_row _ _ 6 _ _ _ hg2.row]; rfl
  have p6' := ((below_alloc (w1.alloc (Obj.cells #[.string (bs (joinB s)), .int .i64 dd] 98)) (Obj.cells #[.int .i64 0, .string ⟨#[]⟩, .int .i64 0, .slice none 0 0, .slice none 0 0, .bool false] 100)).cell (p := ⟨rb, 6, none⟩) (Array.getElem?_eq_some_iff.1 hg2.row).1).trans p6
  have HG2 := Lib.hid hg2
  have HB2 := Lib.hid hB2
  have HR2 : Hid ((w1.alloc (Obj.cells #[.string (bs (joinB s)), .int .i64 dd] 98)).heap[w.heap.size]? = some (.cells noT5 42 (0, 0))) := ((hb2.block w.heap.size (by omega)).trans (hb1.block w.heap.size (by simp))).trans r0
  have HEN : Hid (∀ u, f (joinB s, dd) = some u → ∃ o x a k c, u = .agg #[.int .i64 o, .string x, .int .i64 0, .slice none 0 0, .slice a k c, .bool ok] ∧ TyIs w H (d + 1) gt o x a k) := by
    intro u hu
    obtain ⟨o, x, a, k, c, e, ht⟩ := HG.out.ent s (d + 1) u HKN.out (by rw [← HDD.out]; exact hu)
    rw [HGB.out] at e
    rw [HGT.out] at ht
    exact ⟨o, x, a, k, c, e, ht⟩
  have HKEY : Hid (joinB s = joinB s) := rfl
  clear J hg2 hb2 hB2 hB1 hb1 hb0 hok
  generalize hkey : joinB s = key at *
  have HKE := Lib.hid hkey
  clear hkey HKEY
  by_cases hin : (f (key, dd)).isSome = true
  · obtain ⟨u, hu⟩ := Option.isSome_iff_exists.1 hin
    have HU := Lib.hid hu
    rw [hu] at hlk hlk2
    simp only [Option.getD_some, Option.isSome_some] at hlk hlk2
    obtain ⟨o', x', a', k', c', rfl, ht⟩ : ∃ o x a k c, u = .agg #[.int .i64 o, .string x, .int .i64 0, .slice none 0 0, .slice a k c, .bool ok] ∧ TyIs w H (d + 1) gt o x a k := HEN.out u hu
    have HT := Lib.hid ht
    clear hin hu ht HU
    go_wp2_with fail
    have hbV := below_alloc (w1.alloc (Obj.cells #[.string (bs key), .int .i64 dd] 98)) (Obj.cells #[.int .i64 o', .string x', .int .i64 0, .slice none 0 0, .slice a' k' c', .bool ok] 100)
    have hz2 : (w1.alloc (Obj.cells #[.string (bs key), .int .i64 dd] 98)).heap.size = w1.heap.size + 1 := by simp
    have hzV : ((w1.alloc (Obj.cells #[.string (bs key), .int .i64 dd] 98)).alloc (Obj.cells #[.int .i64 o', .string x', .int .i64 0, .slice none 0 0, .slice a' k' c', .bool ok] 100)).drew.heap.size = w1.heap.size + 2 := by show ((w1.alloc (Obj.cells #[.string (bs key), .int .i64 dd] 98)).alloc (Obj.cells #[.int .i64 o', .string x', .int .i64 0, .slice none 0 0, .slice a' k' c', .bool ok] 100)).heap.size = _; simp
    have rV : ((w1.alloc (Obj.cells #[.string (bs key), .int .i64 dd] 98)).alloc (Obj.cells #[.int .i64 o', .string x', .int .i64 0, .slice none 0 0, .slice a' k' c', .bool ok] 100)).drew.heap[w1.heap.size + 1]? = some (.cells #[.int .i64 o', .string x', .int .i64 0, .slice none 0 0, .slice a' k' c', .bool ok] 100 (0, 0)) := by rw [← hz2]; exact heap_alloc_new _ _
    have hBV : Below w.heap.size w ((w1.alloc (Obj.cells #[.string (bs key), .int .i64 dd] 98)).alloc (Obj.cells #[.int .i64 o', .string x', .int .i64 0, .slice none 0 0, .slice a' k' c', .bool ok] 100)).drew := (HB2.out.trans (hbV.mono (by omega))).drew
    have hRV : ((w1.alloc (Obj.cells #[.string (bs key), .int .i64 dd] 98)).alloc (Obj.cells #[.int .i64 o', .string x', .int .i64 0, .slice none 0 0, .slice a' k' c', .bool ok] 100)).drew.heap[w.heap.size]? = some (.cells noT5 42 (0, 0)) := ((hbV.block w.heap.size (by omega)).trans (HR2.out))
    go_region
    all_goals
      generalize ((w1.alloc (Obj.cells #[.string (bs key), .int .i64 dd] 98)).alloc (Obj.cells #[.int .i64 o', .string x', .int .i64 0, .slice none 0 0, .slice a' k' c', .bool ok] 100)).drew = V at *
      obtain ⟨⟨v0, v1, v2, v3, v4⟩, v5, v6, v7, v8, v9⟩ := five hRV
      obtain ⟨u0, u1, u2, u3, u4, u5⟩ := cells6 rV
      have HBV := Lib.hid hBV
      have HRV := Lib.hid hRV
      clear rV hRV hBV hbV HG2 HB2 HR2 k0 k1 k0' k1' p6 p6' hlk hlk2 hz2
      go_wp2_with fail
      go_region
    all_goals
      go_wp2_with fail
      have hBF := (below5 (v0 := .int .i64 o') (v1 := .string x') (v2 := .int .i64 0) (v3 := .slice none 0 0) (v4 := .slice a' k' c') HBV.out (Nat.le_refl _)).drew
      refine bodyPost_ret (results_row_tmp rfl _ _ w.heap.size 42 #[.int .i64 o', .string x', .int .i64 0, .slice none 0 0, .slice a' k' c'] (0, 0) _ rfl (row5 HRV.out) Tryz.underlying42 rfl Tryz.size42) rfl ?_
      exact ⟨o', x', a', k', c', n, f, rfl, ButG.of_below hBF, HG.out.keep hBF, by rw [HM.out]; omega, HT.out.below hBF⟩
  · have hnone : f (key, dd) = none := by simpa using hin
    rw [hnone] at hlk hlk2
    simp only [Option.getD_none, Option.isSome_none] at hlk hlk2
    unfold noK at hlk hlk2
    clear hin hnone HEN
    have hbV := below_alloc (w1.alloc (Obj.cells #[.string (bs key), .int .i64 dd] 98)) (Obj.cells #[.int .i64 0, .string ByteArray.empty, .int .i64 0, .slice none 0 0, .slice none 0 0, .bool false] 100)
    have hz2 : (w1.alloc (Obj.cells #[.string (bs key), .int .i64 dd] 98)).heap.size = w1.heap.size + 1 := by simp
    have hzV : ((w1.alloc (Obj.cells #[.string (bs key), .int .i64 dd] 98)).alloc (Obj.cells #[.int .i64 0, .string ByteArray.empty, .int .i64 0, .slice none 0 0, .slice none 0 0, .bool false] 100)).drew.heap.size = w1.heap.size + 2 := by show ((w1.alloc (Obj.cells #[.string (bs key), .int .i64 dd] 98)).alloc (Obj.cells #[.int .i64 0, .string ByteArray.empty, .int .i64 0, .slice none 0 0, .slice none 0 0, .bool false] 100)).heap.size = _; simp
    have hBV : Below w.heap.size w ((w1.alloc (Obj.cells #[.string (bs key), .int .i64 dd] 98)).alloc (Obj.cells #[.int .i64 0, .string ByteArray.empty, .int .i64 0, .slice none 0 0, .slice none 0 0, .bool false] 100)).drew := (HB2.out.trans (hbV.mono (by omega))).drew
    have hRV : ((w1.alloc (Obj.cells #[.string (bs key), .int .i64 dd] 98)).alloc (Obj.cells #[.int .i64 0, .string ByteArray.empty, .int .i64 0, .slice none 0 0, .slice none 0 0, .bool false] 100)).drew.heap[w.heap.size]? = some (.cells noT5 42 (0, 0)) := ((hbV.block w.heap.size (by omega)).trans (HR2.out))
    have hKV : ((w1.alloc (Obj.cells #[.string (bs key), .int .i64 dd] 98)).alloc (Obj.cells #[.int .i64 0, .string ByteArray.empty, .int .i64 0, .slice none 0 0, .slice none 0 0, .bool false] 100)).drew.heap[w1.heap.size]? = some (.cells #[.string (bs key), .int .i64 dd] 98 (0, 0)) := ((hbV.block w1.heap.size (by omega)).trans HK1)
    clear HK1
    go_wp2_with fail
    go_region
    all_goals
      generalize ((w1.alloc (Obj.cells #[.string (bs key), .int .i64 dd] 98)).alloc (Obj.cells #[.int .i64 0, .string ByteArray.empty, .int .i64 0, .slice none 0 0, .slice none 0 0, .bool false] 100)).drew = V at *
      have HBV := Lib.hid hBV
      have HRV := Lib.hid hRV
      have HKV := Lib.hid hKV
      have SC := Lib.hid (HS (fun b => H b ∨ b = w.heap.size) rb kb bm c1 ga capa c3 mb am cs sp abl ds rs n f _ s V (fun b hb => by rcases hb with hb | rfl; have := HH.out b hb; omega; omega) ((HG.out.hot (fun b hb hx => hx.elim id fun e => by omega)).keep hBV) HBU.out h300 HAR.out HTY.out (HSL.out.below hBV (Nat.le_refl _)) HKN.out hs300 hd5 HN.out)
      rw [HGB.out, HGT.out, ← HDD.out] at SC
      unfold GPost at SC
      clear hRV hBV hKV hbV HG2 HB2 HR2 k0 k1 k0' k1' p6 p6' hlk hlk2 hz2
      go_wp2_with fail
      refine SC.out.mono ?_
      rintro e w5 ⟨o', x', a', k', c', n', f', rfl, hbg, hg5, hn5, ht5⟩
      have HG5 := Lib.hid hg5
      have HBG := Lib.hid hbg
      have HT5 := Lib.hid ht5
      have HN5 := Lib.hid hn5
      clear SC hg5 hbg ht5 hn5
      have hBV := HBV.out
      have hzV2 : w1.heap.size + 2 ≤ V.heap.size := by omega
      have hz5 := HBG.out.size
      obtain ⟨⟨g0, g1, g2, g3, g4⟩, _⟩ := five HRV.out
      have hr5 := (HG.out.keep hBV).cell HBG.out g0
      have hr5 := hr5.trans HRV.out
      have hk0 : V.cell? ⟨w1.heap.size, 0, none⟩ = some (.string (bs key)) := by rw [cell_of_row _ _ 0 _ _ _ HKV.out]; rfl
      have hk5 := ((HG.out.keep hBV).cell HBG.out hk0).trans HKV.out
      have HR5 := Lib.hid hr5
      have HK5 := Lib.hid hk5
      clear hr5 hk5 hk0 g0 g1 g2 g3 g4 hBV
      go_wp2_with fail
      refine still_tail 8 (by kernel_rfl) (by kernel_rfl) ?_
      intro w6 hw6
      have hb6 : Below w5.heap.size w5 w6 := by rw [hw6]; exact (below_alloc w5 _).drew
      have hr6 : w6.heap[w5.heap.size]? = some (.cells #[.int .i64 o', .string x', .int .i64 0, .slice none 0 0, .slice a' k' c'] 42 (0, 0)) := by rw [hw6]; exact heap_alloc_new w5 _
      have hg6 := HG5.out.keep hb6
      have q6 : w6.cell? ⟨rb, 6, none⟩ = some (.map (some kb)) := by rw [cell_of_row _ _ 6 _ _ _ hg6.row]; rfl
      have hkk6 := (hb6.block w1.heap.size (by omega)).trans HK5.out
      have hrr6 := (hb6.block w.heap.size (by omega)).trans HR5.out
      have k0 : w6.cell? ⟨w1.heap.size, 0, none⟩ = some (.string (bs key)) := by rw [cell_of_row _ _ 0 _ _ _ hkk6]; rfl
      have k1 : w6.cell? ⟨w1.heap.size, 1, none⟩ = some (.int .i64 dd) := by rw [cell_of_row _ _ 1 _ _ _ hkk6]; rfl
      obtain ⟨⟨g0, g1, g2, g3, g4⟩, _⟩ := five hr6
      have HG6 := Lib.hid hg6
      have HR6 := Lib.hid hr6
      have HRR6 := Lib.hid hrr6
      have HB6 := Lib.hid hb6
      have hz6 := hb6.size
      clear hg6 hr6 hrr6 hkk6 hw6 hb6
      simp only [List.take_succ_cons, List.take_zero, List.drop_succ_cons, List.drop_zero]
      repeat still_step
      refine wpStill_nil ?_
      refine step_mapK_put _ rfl _ _ _ rfl kb n' rfl f' HG6.out.map (key, dd) rfl HOK.out (.agg #[.int .i64 o', .string x', .int .i64 0, .slice none 0 0, .slice a' k' c', .bool ok]) rfl (by have h1 := HN.out; have h2 := HN5.out; have h3 : NB (d + 1) = 1 + 300 * (10 * NB d) := rfl; omega) ?_
      intro w7 n7 hn7 hm7 hb7
      have hr7 := (HG6.out.cell hb7 g0).trans HR6.out
      obtain ⟨⟨x0, x1, x2, x3, x4⟩, _⟩ := five hr7
      obtain ⟨⟨y0, _⟩, _⟩ := five HRR6.out
      have hrr7 := (HG6.out.cell hb7 y0).trans HRR6.out
      have HRR7 := Lib.hid hrr7
      obtain ⟨⟨z0, z1, z2, z3, z4⟩, z5, z6, z7, z8, z9⟩ := five hrr7
      have HM7 := Lib.hid hm7
      have HB7 := Lib.hid hb7
      have HN7 := Lib.hid hn7
      clear hr7 hrr7 hm7 hb7 hn7 k0 k1 g0 g1 g2 g3 g4 q6 y0
      go_wp2_with fail
      refine bodyPost_ret (results_row_tmp rfl _ _ w.heap.size 42 #[.int .i64 o', .string x', .int .i64 0, .slice none 0 0, .slice a' k' c'] (0, 0) _ rfl (row5 HRR7.out) Tryz.underlying42 rfl Tryz.size42) rfl ?_
      have hB7 : ButG kb w w7 := (((ButG.of_below HBV.out).trans HBG.out).trans (ButG.of_below HB6.out)).trans HB7.out
      have hBF := hB7.thenBelow (below5 (v0 := .int .i64 o') (v1 := .string x') (v2 := .int .i64 0) (v3 := .slice none 0 0) (v4 := .slice a' k' c') (Below.refl w.heap.size w7) (Nat.le_refl _))
      have hsz7 := HB7.out.size
      have hkb := HG.out.map.lt
      have hcl : ∀ b i u, ¬ (H b ∨ b = w.heap.size) → w5.cell? ⟨b, i, none⟩ = some u → (((((w7.setCell ⟨w.heap.size, 0, none⟩ (.int .i64 o')).setCell ⟨w.heap.size, 1, none⟩ (.string x')).setCell ⟨w.heap.size, 2, none⟩ (.int .i64 0)).setCell ⟨w.heap.size, 3, none⟩ (.slice none 0 0)).setCell ⟨w.heap.size, 4, none⟩ (.slice a' k' c')).cell? ⟨b, i, none⟩ = some u := by
        intro b i u hh hc
        have hc6 := (HB6.out.cell (p := ⟨b, i, none⟩) (lt_of_cell (a := ⟨b, i, none⟩) hc)).trans hc
        exact (World.cell?_of_block (a := ⟨b, i, none⟩) ((block5 fun e => hh (.inr e)).trans (HG6.out.cell HB7.out hc6))).trans hc6
      have hzF : w5.heap.size ≤ (((((w7.setCell ⟨w.heap.size, 0, none⟩ (.int .i64 o')).setCell ⟨w.heap.size, 1, none⟩ (.string x')).setCell ⟨w.heap.size, 2, none⟩ (.int .i64 0)).setCell ⟨w.heap.size, 3, none⟩ (.slice none 0 0)).setCell ⟨w.heap.size, 4, none⟩ (.slice a' k' c')).heap.size := by
        simp; omega
      have hTF := HT5.out.turn (H' := H) hzF hcl (fun b _ hx => .inl hx)
      refine ⟨o', x', a', k', c', n7, (fun r => if r = (key, dd) then some (.agg #[.int .i64 o', .string x', .int .i64 0, .slice none 0 0, .slice a' k' c', .bool ok]) else f' r), rfl, hBF, ⟨?_, ?_, HM7.out.block (block5 (by omega)), ?_⟩, ?_, hTF⟩
      · exact (hBF.block rb (Array.getElem?_eq_some_iff.1 HG.out.row).1 HG.out.ne).trans HG.out.row
      · obtain ⟨w0, e1, e2, e3⟩ := HG.out.sig
        exact ⟨w0, e1, e2.trans (hBF.below e3 e2.size), e3⟩
      · intro s' d' v hs' hv
        by_cases e : (joinB s', (d' : Int)) = (key, dd)
        · have hv2 : (if (joinB s', (d' : Int)) = (key, dd) then some (.agg #[.int .i64 o', .string x', .int .i64 0, .slice none 0 0, .slice a' k' c', .bool ok]) else f' (joinB s', (d' : Int))) = some v := hv
          rw [if_pos e] at hv2
          injection hv2 with hv2
          injection e with ea eb
          have es : s' = s := join_inj (fun x hx => HBU.out.plain x (of_decide_eq_true (List.all_eq_true.1 hs' x hx))) (fun x hx => HBU.out.plain x (of_decide_eq_true (List.all_eq_true.1 HKN.out x hx))) (ea.trans HKE.out.symm)
          have ed : d' = d + 1 := by have := eb.trans HDD.out; omega
          subst es ed
          exact ⟨o', x', a', k', c', by rw [HGB.out]; exact hv2.symm, by rw [HGT.out]; exact hTF⟩
        · have hv2 : (if (joinB s', (d' : Int)) = (key, dd) then some (.agg #[.int .i64 o', .string x', .int .i64 0, .slice none 0 0, .slice a' k' c', .bool ok]) else f' (joinB s', (d' : Int))) = some v := hv
          rw [if_neg e] at hv2
          obtain ⟨o, x, a, k, c, e1, e2⟩ := HG5.out.ent s' d' v hs' hv2
          exact ⟨o, x, a, k, c, e1, e2.turn hzF hcl (fun b _ hx => .inl hx)⟩
      · have h1 := HN5.out
        have h2 := HN7.out
        have h3 : NB (d + 1) = 1 + 300 * (10 * NB d) := rfl
        have h4 := HM.out
        omega
end Go.Proofs.YtehnikgdjnmfcaaGreat
