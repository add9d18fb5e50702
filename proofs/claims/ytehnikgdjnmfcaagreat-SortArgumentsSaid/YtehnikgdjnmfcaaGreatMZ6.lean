/- upward; addClass. -/
import Derived.Test.YtehnikgdjnmfcaaGreatMZ5
import Derived.Maps.OwnIn
namespace Go.Proofs.YtehnikgdjnmfcaaGreat
open Go.RowKit Go.WideMaps Go.Shelf
attribute [local go_sem] Oper.semAt_some

theorem up_seq (No c cb gbx gb : Nat) (sup : Nat → List Nat) (W : World) (hcb : cb < W.heap.size) (hgx : gbx < W.heap.size) (hc300 : c < 300) (hNo : No < W.heap.size)
    (hc : W.cell? ⟨cb, 0, none⟩ = some (.int .i64 (c : Int))) (hgb : W.cell? ⟨gbx, 0, none⟩ = some (.pointer (some ⟨gb, 0, none⟩))) (hgxn : gbx ≠ No)
    (hsup : SupAt W No gb sup (c + 1)) (hlt : ∀ i, i ≤ c → ∀ s ∈ sup i, s < i) :
    SeqB Fence.wide 5 Tryz.prog 74 #[.pointer (some ⟨cb, 0, none⟩), .pointer (some ⟨gbx, 0, none⟩)] (fun x : Nat => #[.int .i64 (x : Int)]) (KeepC No) (fun x => x ≤ c) (fun xs => ∀ x, x ∈ xs ↔ Reach sup c x) W :=
  fun l J hJ hY h0 => up_body No l c cb gbx gb sup J W hcb hgx hc300 hNo hc hgb hgxn hsup hlt hJ hY h0

theorem upward_any (gb : Option Addr) (c : Nat) (w : World) :
    Calls Tryz.prog 54 #[.pointer gb, .int .i64 c] w fun e w' => e = .returned (.func (.func 74) #[] #[.pointer (some ⟨w.heap.size + 1, 0, none⟩), .pointer (some ⟨w.heap.size, 0, none⟩)]) ∧ w' = (w.alloc (.cells #[.pointer gb] 104)).alloc (.cells #[.int .i64 (c : Int)] 3) := by
  go_enter Tryz.func54, Tryz.ntmps54
  go_wp2
  go_ret
  exact ⟨rfl, rfl⟩

theorem wpListIn_mapAt_ok {F : Fence} {nF : Nat} (w : World) {ops : Array Oper} {rest : List Oper} {o : Oper} {a : Act} {Q : Exit → Act → World → Prop}
    (hg : o.guard = none) (m x : Operand) (hop : o.op = Op.lookup 58 m x true) (b : Nat) (hm : a.eval m = .map (some b)) (ns : List Nm) (hown : MapAt w b ns)
    (s : Nm) (hx : a.eval x = .string (bs s)) (hs : s.length ≤ maxLen)
    (hK : wpListIn F nF Tryz.prog ops Q rest (a.put o.dst (.tuple #[.int .i64 ((ixOf ns s : Nat) : Int), .bool (inNs ns s)])) w) :
    wpListIn F nF Tryz.prog ops Q (o :: rest) a w := by
  obtain ⟨D, _, hown, hD⟩ := hown
  refine wpListIn_lookup_own_ok_int w hg m x 58 hop 9 3 .i64 (Maps.string_keyed Tryz.underlying9) Tryz.underlying58 Tryz.underlying3 (zeroE _) b ns.length D hm hown _ _ hx (key_bs hs) ?_
  intro c hat _
  obtain ⟨h1, h2⟩ := hD s
  rw [h2] at hat
  injection hat with hat
  injection hat with _ hat
  rw [h1, ← hat]
  exact hK

theorem idx_snoc (ns : List Nm) (nm s : Nm) (hn : inNs ns nm = false) : inNs (ns ++ [nm]) s = (inNs ns s || decide (s = nm)) ∧ ixOf (ns ++ [nm]) s = if s = nm then ns.length else ixOf ns s := by
  have hn' : nm ∉ ns := of_decide_eq_false hn
  refine ⟨?_, ?_⟩
  · unfold inNs; rw [Bool.eq_iff_iff]; simp
  · unfold ixOf
    by_cases e : s = nm
    · subst e
      rw [if_pos (by simp), if_pos rfl, List.idxOf_append, if_neg hn']
      simp
    · rw [if_neg e]
      by_cases h : s ∈ ns
      · rw [if_pos (by simp [h]), if_pos h, List.idxOf_append, if_pos h]
      · rw [if_neg (by simp [h, e]), if_neg h]

theorem wpListIn_mapAt_put {F : Fence} {nF : Nat} (w : World) {ops : Array Oper} {rest : List Oper} {o : Oper} {a : Act} {Q : Exit → Act → World → Prop}
    (hg : o.guard = none) (m x v : Operand) (hop : o.op = Op.mapUpdate 58 m x v) (b : Nat) (hm : a.eval m = .map (some b)) (ns : List Nm) (hown : MapAt w b ns)
    (s : Nm) (hx : a.eval x = .string (bs s)) (hs : s.length ≤ maxLen) (hv : a.eval v = .int .i64 ((ns.length : Nat) : Int)) (hn : ns.length < 9223372036854775807) (hnew : inNs ns s = false)
    (hK : ∀ w', MapAt w' b (ns ++ [s]) → w.grownBy w' (some b) → wpListIn F nF Tryz.prog ops Q rest (a.put o.dst undef) w') :
    wpListIn F nF Tryz.prog ops Q (o :: rest) a w := by
  obtain ⟨D, hI, hown, hD⟩ := hown
  refine wpListIn_mapUpdate_own w hg m x v 58 hop 9 3 (Maps.string_keyed Tryz.underlying9) Tryz.underlying58 (plainElem Tryz.prog 3) b ns.length D hm hown (by unfold maxLen; omega) _ _ _ hx hv (key_bs hs)
    (.lit (.int .i64 ((ns.length : Nat) : Int))) [] (plainElem_int Tryz.underlying3 (WalkArith.wf_i64 (by omega))) ?_
  intro w' hown' hg'
  refine hK w' ⟨_, hI.put _ _, by simpa using hown', fun t => ?_⟩ hg'
  obtain ⟨e1, e2⟩ := idx_snoc ns s t hnew
  obtain ⟨h1, h2⟩ := hD t
  rw [e1, e2]
  by_cases e : t = s
  · subst e
    rw [Maps.has_put_same hI (by trivial), Maps.atKey_put_same hI (by trivial)]
    simp
  · have hne : (Lit.string t) ≠ Lit.string s := fun h => e (by injection h)
    rw [Maps.has_put_other hne, Maps.atKey_put_other hne, h1, h2]
    simp [e]

end Go.Proofs.YtehnikgdjnmfcaaGreat

/- Steps that turn blocks of some types of cells alone. -/
namespace Go.Proofs.YtehnikgdjnmfcaaGreat
open Go.RowKit Go.WideMaps Go.Shelf

/-- from w to w' only blocks of cells of the types in T have turned -/
structure StepT (T : List TypeId) (w w' : World) : Prop where
  size : w.heap.size ≤ w'.heap.size
  obj : ∀ (k : Nat) (o : Obj), w.heap[k]? = some o → (∀ cs t fr, o = Obj.cells cs t fr → t ∉ T) → w'.heap[k]? = some o

theorem StepT.refl (T : List TypeId) (w : World) : StepT T w w := ⟨Nat.le_refl _, fun _ _ h _ => h⟩
theorem StepT.trans {T : List TypeId} {a b c : World} (h : StepT T a b) (k : StepT T b c) : StepT T a c :=
  ⟨Nat.le_trans h.size k.size, fun x o ho ht => k.obj x o (h.obj x o ho ht) ht⟩
theorem StepT.mono {T T' : List TypeId} {a b : World} (h : StepT T a b) (hs : ∀ t ∈ T, t ∈ T') : StepT T' a b :=
  ⟨h.size, fun x o ho ht => h.obj x o ho (fun cs t fr e hm => ht cs t fr e (hs t hm))⟩
theorem StepT.of_grown {T : List TypeId} {w w' : World} {row : Option Nat} (hg : w.grownBy w' row) (hr : ∀ r, row = some r → ∃ cs t fr, w.heap[r]? = some (.cells cs t fr) ∧ t ∈ T) : StepT T w w' :=
  ⟨hg.size, fun k o ho ht => (hg.block k (Array.getElem?_eq_some_iff.1 ho).1 (fun e => by
    obtain ⟨cs, t, fr, h1, h2⟩ := hr k e.symm
    rw [h1] at ho; injection ho with ho
    exact ht cs t fr ho.symm h2)).trans ho⟩
theorem StepT.alloc (T : List TypeId) (w : World) (o : Obj) : StepT T w (w.alloc o) := .of_grown (World.grownBy_alloc w o none) (fun r e => by cases e)
theorem StepT.drew {T : List TypeId} {w w' : World} (h : StepT T w w') : StepT T w w'.drew := ⟨h.size, h.obj⟩
theorem StepT.set {T : List TypeId} {w : World} {b o : Nat} {v : Value} {cs : Array Value} {t : TypeId} {fr : Nat × Nat} (h : w.heap[b]? = some (.cells cs t fr)) (ht : t ∈ T) : StepT T w (w.setCell ⟨b, o, none⟩ v) :=
  .of_grown (grownBy_setCell w ⟨b, o, none⟩ v) (fun r e => by cases e; exact ⟨cs, t, fr, h, ht⟩)
theorem StepT.row {T : List TypeId} {w w' : World} {base : Nat} {e : TypeId} {size n : Nat} {v : Value} {xs : List Value} (hg : w.grownBy w' v.ownBlock) (hv : w.ownsRow base e size v n xs) (he : e ∈ T) : StepT T w w' := by
  refine .of_grown hg (fun r er => ?_)
  rcases hv.2 with ⟨e', _⟩ | ⟨g', cap', cur', e', hg', hh, _⟩
  · rw [e'] at er; cases er
  · rw [e'] at er; injection er with er; simp at er; subst er; exact ⟨_, _, _, hh, he⟩

theorem StepT.map {T : List TypeId} {w w' : World} (s : StepT T w w') {b : Nat} {ns : List Nm} (h : MapAt w b ns) : MapAt w' b ns := by
  obtain ⟨D, h1, ⟨es, cl, e1, e2⟩, h2⟩ := h
  exact ⟨D, h1, ⟨es, cl, s.obj _ _ e1 (fun _ _ _ e => by cases e), e2⟩, h2⟩
theorem StepT.own {T : List TypeId} {w w' : World} (s : StepT T w w') {base : Nat} {e : TypeId} {size n : Nat} {v : Value} {xs : List Value} (h : w.ownsRow base e size v n xs) (he : e ∉ T) : w'.ownsRow base e size v n xs := by
  refine ⟨h.1, ?_⟩
  rcases h.2 with h2 | ⟨g, cap, cur, hv, hg, hh, r⟩
  · exact .inl h2
  · exact .inr ⟨g, cap, cur, hv, hg, s.obj _ _ hh (fun _ _ _ e' => by injection e' with _ e2 _; rw [← e2]; exact he), r⟩
theorem StepT.cells {T : List TypeId} {w w' : World} (s : StepT T w w') {k : Nat} {cs : Array Value} {t : TypeId} {fr : Nat × Nat} (h : w.heap[k]? = some (.cells cs t fr)) (ht : t ∉ T) : w'.heap[k]? = some (.cells cs t fr) :=
  s.obj _ _ h (fun _ _ _ e => by injection e with _ e2 _; rw [← e2]; exact ht)

end Go.Proofs.YtehnikgdjnmfcaaGreat

/- Facts for the loop over upward. -/
namespace Go.Proofs.YtehnikgdjnmfcaaGreat
open Go.RowKit Go.WideMaps Go.Shelf

theorem tag_ne {w : World} {a b : Nat} {cs cs' : Array Value} {t t' : TypeId} {fr fr' : Nat × Nat} (h : w.heap[a]? = some (.cells cs t fr)) (h' : w.heap[b]? = some (.cells cs' t' fr')) (hne : t ≠ t') : a ≠ b := by
  intro e
  subst e
  rw [h] at h'
  injection h' with h'
  injection h' with _ h' _
  exact hne h'

theorem own_obj {w : World} {B g n cap size : Nat} {e : TypeId} {xs : List Value} (h : w.ownsRow B e size (.slice (some ⟨g, 0, none⟩) n cap) n xs) : B ≤ g ∧ ∃ cur, w.heap[g]? = some (.cells cur e (0, 0)) ∧ n ≤ cap ∧ cur.size = cap * size ∧ cur.toList.take (n * size) = xs := by
  rcases h.2 with ⟨h', _⟩ | ⟨g', cap', cur, h', hg, hh, hn, _, hs, ht⟩
  · cases h'
  · cases h'; exact ⟨hg, cur, hh, hn, hs, ht⟩

theorem ints_get (l : List Nat) (j : Nat) (hj : j < l.length) : (ints l)[j]? = some (.int .i64 ((l.getD j 0 : Nat) : Int)) := by
  unfold ints
  rw [List.getElem?_map, List.getElem?_eq_getElem hj, List.getD_eq_getElem?_getD, List.getElem?_eq_getElem hj]; rfl

theorem supAt_of {B No gb g cap m : Nat} {sp : List (List Nat)} {rs : List Value} {W : World} {cs cur : Array Value} (hG : W.heap[gb]? = some (.cells cs 63 (0, 0))) (h1 : cs[1]? = some (.slice (some ⟨g, 0, none⟩) m cap))
    (hsv : W.ownsRow B 133 1 (.slice (some ⟨g, 0, none⟩) m cap) m rs) (hNo : W.heap[No]? = some (.cells cur 136 (0, 0)))
    (hrows : ∀ i, i < m → (sp.getD i []).length ≤ 20 ∧ W.ownsRow B 3 1 (rs.getD i undef) (sp.getD i []).length (ints (sp.getD i []))) : SupAt W No gb (fun i => sp.getD i []) m := by
  obtain ⟨_, cur1, ho1, _⟩ := own_obj hsv
  refine ⟨tag_ne hG hNo (by decide), (Array.getElem?_eq_some_iff.1 hG).1, g, 0, cap, by rw [cell_of_row W gb 1 _ _ _ hG]; exact h1, tag_ne ho1 hNo (by decide), (Array.getElem?_eq_some_iff.1 ho1).1, fun i hi => ?_⟩
  obtain ⟨hl, hr⟩ := hrows i hi
  refine ⟨hl, ?_⟩
  have hrl : rs.length = m := by have := hsv.1; omega
  have hcell : W.cell? ⟨g, 0 + i, none⟩ = some (rs.getD i undef) := by
    have := hsv.cellAt i (by omega)
    rw [Nat.zero_add, this, List.getD_eq_getElem?_getD, List.getElem?_eq_getElem (by omega)]; rfl
  rcases hr.2 with ⟨e1, e2⟩ | ⟨rb, rcap, rcur, e1, _, hrb, hn, _, _, ht⟩
  · refine ⟨none, 0, by rw [hcell, e1, e2], fun h => by have h' : 0 < (sp.getD i []).length := h; omega⟩
  · refine ⟨some ⟨rb, 0, none⟩, rcap, by rw [hcell, e1], fun _ => ⟨rb, 0, rfl, tag_ne hrb hNo (by decide), (Array.getElem?_eq_some_iff.1 hrb).1, fun j hj0 => ?_⟩⟩
    have hj : j < (sp.getD i []).length := hj0
    rw [Nat.zero_add, cell_of_row W rb j _ _ _ hrb]
    have h2 : (rcur.toList.take ((sp.getD i []).length * 1))[j]? = (ints (sp.getD i []))[j]? := by rw [ht]
    rw [List.getElem?_take, if_pos (by omega)] at h2
    rw [← Array.getElem?_toList, h2]
    exact ints_get _ j hj

def words5 (ys : List Nat) : List Value := [.int .u64 ((wordsOf ys 0 : Nat) : Int), .int .u64 ((wordsOf ys 1 : Nat) : Int), .int .u64 ((wordsOf ys 2 : Nat) : Int), .int .u64 ((wordsOf ys 3 : Nat) : Int), .int .u64 ((wordsOf ys 4 : Nat) : Int)]

theorem wordsOf_lt (ys : List Nat) (j : Nat) : wordsOf ys j < 18446744073709551616 := by
  suffices h : ∀ n, ∀ ys : List Nat, ys.length = n → wordsOf ys j < 18446744073709551616 from h _ ys rfl
  intro n
  induction n with
  | zero => intro ys h; rw [List.length_eq_zero_iff.1 h]; simp [wordsOf]
  | succ n ih =>
    intro ys h
    rcases List.eq_nil_or_concat ys with rfl | ⟨zs, k, rfl⟩
    · simp at h
    · have hz : zs.length = n := by simp at h; omega
      rw [List.concat_eq_append, wordsOf_snoc]
      split
      · exact or_lt64 _ k (ih zs hz)
      · exact ih zs hz

theorem words5_set (ys : List Nat) (x j : Nat) (hx : x / 64 = j) (hj : j < 5) : (words5 ys).set j (.int .u64 ((wordsOf ys j ||| 2 ^ (x % 64) : Nat) : Int)) = words5 (ys ++ [x]) := by
  have e : ∀ i, wordsOf (ys ++ [x]) i = if x / 64 = i then wordsOf ys i ||| 2 ^ (x % 64) else wordsOf ys i := wordsOf_snoc ys x
  unfold words5
  simp only [e]
  have : j = 0 ∨ j = 1 ∨ j = 2 ∨ j = 3 ∨ j = 4 := by omega
  rcases this with rfl | rfl | rfl | rfl | rfl <;> simp [hx]

end Go.Proofs.YtehnikgdjnmfcaaGreat
