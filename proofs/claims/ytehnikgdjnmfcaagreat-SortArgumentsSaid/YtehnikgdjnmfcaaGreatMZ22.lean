/- complete 54: the row of the classes' names. -/
import Derived.Test.YtehnikgdjnmfcaaGreatMZ21
import Derived.Maps.RangeWalk
import Derived.StillTailTactics
namespace Go.Proofs.YtehnikgdjnmfcaaGreat
open Go.RowKit Go.WideMaps Go.Shelf
attribute [local go_sem] Oper.semAt_some

/-- a row of strings in which the names that have come stand at their places -/
def NmRow (w : World) (nb : Nat) (ns : List Nm) (left : Lit → Bool) : Prop :=
  ∀ j, j < ns.length → ∃ v, w.cell? ⟨nb, j, none⟩ = some v ∧ w.frozen? ⟨nb, j, none⟩ = false ∧ (left (.string (ns.getD j [])) = false → v = .string (bs (ns.getD j [])))

theorem getD_some (ns : List Nm) (i : Nat) (h : i < ns.length) : ns[i]? = some (ns.getD i []) := by
  rw [List.getD_eq_getElem?_getD, List.getElem?_eq_getElem h]; rfl

theorem ixN_at {ns : List Nm} {s : Nm} (h : inNs ns s = true) : ns.getD (ixOf ns s) [] = s := by
  have hi : s ∈ ns := of_decide_eq_true h
  have hl := ixOf_lt h
  rw [List.getD_eq_getElem?_getD, List.getElem?_eq_getElem hl, Option.getD_some]
  unfold ixOf
  simp only [hi, if_true]
  exact List.getElem_idxOf _

theorem ix_nodup {ns : List Nm} (hn : ns.Nodup) {j : Nat} (hj : j < ns.length) : ixOf ns (ns.getD j []) = j := by
  have hm : ns.getD j [] ∈ ns := List.mem_of_getElem? (getD_some ns j hj)
  have hi : inNs ns (ns.getD j []) = true := decide_eq_true hm
  have hl := ixOf_lt hi
  have he := ixN_at hi
  have h1 : ns[ixOf ns (ns.getD j [])]? = ns[j]? := by rw [getD_some ns _ hl, getD_some ns j hj, he]
  exact (List.getElem?_inj hl hn).1 h1

theorem NmRow.set {w : World} {nb : Nat} {ns : List Nm} {left : Lit → Bool} (h : NmRow w nb ns left) (hn : ns.Nodup) {s : Nm} (hs : inNs ns s = true) :
    NmRow (w.setCell ⟨nb, ixOf ns s, none⟩ (.string (bs s))) nb ns (fun z => left z && !z.sameKey (.string s)) := by
  intro j hj
  obtain ⟨v, h1, h2, h3⟩ := h j hj
  have hjx := ix_nodup hn hj
  by_cases e : j = ixOf ns s
  · have hsn : ns.getD j [] = s := by
      rw [e]
      exact ixN_at hs
    refine ⟨.string (bs s), ?_, by rw [World.frozen?_setCell]; exact h2, fun _ => by rw [hsn]⟩
    rw [← e]; exact World.cell?_setCell_same _ _ _ h1
  · refine ⟨v, by rw [World.cell?_setCell_other _ _ _ _ (by intro hh; injection hh with _ hh; omega)]; exact h1, by rw [World.frozen?_setCell]; exact h2, fun hl => h3 ?_⟩
    have hne : ns.getD j [] ≠ s := fun e2 => e (by rw [← hjx, e2])
    cases hlv : left (.string (ns.getD j [])) with
    | false => rfl
    | true =>
      simp only [hlv, Bool.true_and, Bool.not_eq_false'] at hl
      have := WideAt.sameKey_eq hl
      injection this with this
      exact absurd this hne

theorem NmRow.below {w w' : World} {nb : Nat} {ns : List Nm} {left : Lit → Bool} (h : NmRow w nb ns left) (hb : w'.heap[nb]? = w.heap[nb]?) : NmRow w' nb ns left := by
  intro j hj
  obtain ⟨v, h1, h2, h3⟩ := h j hj
  exact ⟨v, (World.cell?_of_block (a := ⟨nb, j, none⟩) hb).trans h1, (World.frozen?_of_block (a := ⟨nb, j, none⟩) hb).trans h2, h3⟩

theorem results_cell_int {fn : Func} {p : Tmp} (h : fn.results = #[.cell p 35]) (tmps : Array Value) (w : World) (g : Nat) (x : Int)
    (hp : tmps.getD p undef = .pointer (some ⟨g, 0, none⟩)) (hc : w.cell? ⟨g, 0, none⟩ = some (.int .i64 x)) :
    (results fn tmps).run Tryz.prog w = .ok (.int .i64 x) w := by
  have hp' : tmps[p]?.getD undef = .pointer (some ⟨g, 0, none⟩) := by simpa using hp
  simp [results, h, hp', asAddr, loadVar, go_sem, hc]
end Go.Proofs.YtehnikgdjnmfcaaGreat

/- complete 54: what a round of the arities decides; the superclasses for upward. -/
namespace Go.Proofs.YtehnikgdjnmfcaaGreat
open Go.RowKit Go.WideMaps Go.Shelf

theorem getDmem {α : Type} (l : List α) (d : α) (i : Nat) (h : i < l.length) : l.getD i d ∈ l := by
  rw [List.getD_eq_getElem?_getD, List.getElem?_eq_getElem h]; exact List.getElem_mem h

theorem Built.names {cs : List (Nm × List Nm)} {sp abl : List (List Nat)} (h : Built cs sp abl) : ∀ x ∈ cs.map Prod.fst, x.length ≤ 40 := by
  induction h with
  | nil => intro x hx; exact absurd hx (by simp)
  | @snoc cs sp ab nm sups ys hb he hy ih =>
    intro x hx
    rw [List.map_append, List.mem_append] at hx
    rcases hx with hx | hx
    · exact ih x hx
    · have hx : x = nm := by simpa using hx
      subst hx
      have h1 := (classErr_zero he).1
      unfold isNameB at h1
      simp only [Bool.and_eq_true, decide_eq_true_eq] at h1
      have := h1.1.1.2
      rw [bs_size] at this; exact this

theorem Built.name_len {cs : List (Nm × List Nm)} {sp abl : List (List Nat)} (h : Built cs sp abl) (q : Nat) : ((cs.map Prod.fst).getD q []).length ≤ maxLen := by
  by_cases hq : q < (cs.map Prod.fst).length
  · have := h.names _ (getDmem _ [] q hq)
    unfold maxLen; omega
  · rw [List.getD_eq_getElem?_getD, List.getElem?_eq_none (by omega)]; unfold maxLen; simp

set_option maxRecDepth 100000 in
theorem MapAt.look0 {w : World} {b : Nat} {ns : List Nm} (h : MapAt w b ns) {s : Nm} (hs : s.length ≤ maxLen) :
    (Instr.lookup 58 (.map (some b)) (.string (bs s)) false).run Tryz.prog w = .ok (.int .i64 ((ixOf ns s : Nat) : Int)) w := by
  obtain ⟨D, _, hown, hD⟩ := h
  obtain ⟨c, hrun, hat, _⟩ := hown.lookup_int (Maps.string_keyed Tryz.underlying9) Tryz.underlying58 Tryz.underlying3 (zeroE w) (key_bs hs)
  obtain ⟨h1, h2⟩ := hD s
  rw [h2] at hat
  injection hat with hat
  injection hat with _ hat
  rw [hrun, ← hat]

theorem cname_at (cs : List (Nm × List Nm)) (k : Nat) : (cs.getD k ([], [])).1 = (cs.map Prod.fst).getD k [] := by
  rw [List.getD_eq_getElem?_getD, List.getD_eq_getElem?_getD, List.getElem?_map]
  cases cs[k]? <;> rfl

theorem lessAll_with {ns : List Nm} {abv : Nat → List Nat} {l m : List (List Nm)} (hl : ∀ s ∈ l, s.all (inNs ns) = true) (hm : ∀ s ∈ m, s.all (inNs ns) = true) (hlm : l.length ≤ m.length) : lessAllB ns abv l m = withAll ns abv l m := by
  unfold lessAllB withAll
  have key : ∀ q ∈ List.range l.length, lessB ns abv (l.getD q []) (m.getD q []) = withB ns abv (l.getD q []) (m.getD q []) := by
    intro q hq
    have hq : q < l.length := List.mem_range.1 hq
    rw [lessB_with, hl _ (getDmem l [] q hq), hm _ (getDmem m [] q (by omega)), Bool.true_and, Bool.true_and]
  rw [Bool.eq_iff_iff, List.all_eq_true, List.all_eq_true]
  exact ⟨fun h q hq => by rw [← key q hq]; exact h q hq, fun h q hq => by rw [key q hq]; exact h q hq⟩

theorem ars_at {cs : List (Nm × List Nm)} {abl : List (List Nat)} {ds : List (Nm × Int)} {rs : List Ar} (h : arsErr cs abl ds rs = 0) {j : Nat} (hj : j < rs.length) :
    arErr (cs.map Prod.fst) (fun i => abl.getD i []) ds ((rs.map arKey).take j) (rs.getD j ar0) = 0 := by
  unfold arsErr at h
  by_cases h3 : 300 < rs.length
  · rw [if_pos h3] at h; exact absurd h (by decide)
  · rw [if_neg h3] at h; exact arsErr_zero rs.length 0 h j (Nat.zero_le _) (by omega)

theorem regOne_no {cs : List (Nm × List Nm)} {abl : List (List Nat)} {rs : List Ar} {a : Ar} {x : Nat} (h : inP (rs.map arKey) (a.1, (cs.map Prod.fst).getD x []) = false) : regOne cs abl rs a x = false := by
  unfold regOne; rw [cname_at, h]; rfl

theorem regOne_yes {cs : List (Nm × List Nm)} {abl : List (List Nat)} {ds : List (Nm × Int)} {rs : List Ar} {k x : Nat} (h : arsErr cs abl ds rs = 0) (hk : k < rs.length)
    (hi : inP (rs.map arKey) ((rs.getD k ar0).1, (cs.map Prod.fst).getD x []) = true) :
    ixP (rs.map arKey) ((rs.getD k ar0).1, (cs.map Prod.fst).getD x []) < rs.length ∧
    (rs.getD k ar0).2.2.length ≤ (rs.getD (ixP (rs.map arKey) ((rs.getD k ar0).1, (cs.map Prod.fst).getD x [])) ar0).2.2.length ∧
    regOne cs abl rs (rs.getD k ar0) x = lessAllB (cs.map Prod.fst) (fun i => abl.getD i []) (rs.getD k ar0).2.2 (rs.getD (ixP (rs.map arKey) ((rs.getD k ar0).1, (cs.map Prod.fst).getD x [])) ar0).2.2 := by
  have hlt := ixP_lt hi
  rw [List.length_map] at hlt
  have hat := ixP_at hi ([], [])
  rw [key_at rs _ hlt] at hat
  have h1 : (rs.getD (ixP (rs.map arKey) ((rs.getD k ar0).1, (cs.map Prod.fst).getD x [])) ar0).1 = (rs.getD k ar0).1 := by
    have h1' := congrArg Prod.fst hat
    exact h1'
  obtain ⟨_, _, _, e1, g1⟩ := arErr_zero (ars_at h hk)
  obtain ⟨_, _, _, e2, g2⟩ := arErr_zero (ars_at h hlt)
  rw [h1] at e2
  have hlen : (rs.getD k ar0).2.2.length ≤ (rs.getD (ixP (rs.map arKey) ((rs.getD k ar0).1, (cs.map Prod.fst).getD x [])) ar0).2.2.length := by
    have : (((rs.getD k ar0).2.2.length : Nat) : Int) = (((rs.getD (ixP (rs.map arKey) ((rs.getD k ar0).1, (cs.map Prod.fst).getD x [])) ar0).2.2.length : Nat) : Int) := e1.trans e2.symm
    omega
  refine ⟨hlt, hlen, ?_⟩
  unfold regOne
  rw [cname_at, hi, Bool.true_and]
  exact (lessAll_with g1 g2 hlen).symm

theorem reg_true {cs : List (Nm × List Nm)} {sp abl : List (List Nat)} {rs : List Ar} {a : Ar} {xs : List Nat} (hb : Built cs sp abl) (hin : inNs (cs.map Prod.fst) a.2.1 = true)
    (hx : ∀ x, x ∈ xs ↔ Reach (fun i => sp.getD i []) (ixOf (cs.map Prod.fst) a.2.1) x) (hall : ∀ x ∈ xs, regOne cs abl rs a x = true) : regB cs abl rs a = true := by
  have hix := ixOf_lt hin
  rw [List.length_map] at hix
  unfold regB
  refine List.all_eq_true.2 fun k _ => ?_
  by_cases hm : k ∈ abl.getD (ixOf (cs.map Prod.fst) a.2.1) []
  · rw [hall k ((hx k).2 ((hb.mem _ hix k).1 hm)), Bool.or_true]
  · rw [decide_eq_false hm]; rfl

theorem reg_false {cs : List (Nm × List Nm)} {sp abl : List (List Nat)} {rs : List Ar} {a : Ar} {x : Nat} (hb : Built cs sp abl) (hin : inNs (cs.map Prod.fst) a.2.1 = true)
    (hx : Reach (fun i => sp.getD i []) (ixOf (cs.map Prod.fst) a.2.1) x) (ho : regOne cs abl rs a x = false) : regB cs abl rs a = false := by
  have hix := ixOf_lt hin
  rw [List.length_map] at hix
  have hle := Reach.le hb.lt' hx
  refine Bool.eq_false_iff.2 fun h => ?_
  have h1 := List.all_eq_true.1 h x (List.mem_range.2 (by omega))
  rw [ho, Bool.or_false, decide_eq_true ((hb.mem _ hix x).2 hx)] at h1
  cases h1

/-- the superclasses as upward reads them, where No is a block of another kind -/
theorem supAt_of2 {B No gb g cap m : Nat} {sp : List (List Nat)} {rs : List Value} {W : World} {cs cur : Array Value} {t : TypeId} (hG : W.heap[gb]? = some (.cells cs 63 (0, 0))) (h1 : cs[1]? = some (.slice (some ⟨g, 0, none⟩) m cap))
    (hsv : W.ownsRow B 133 1 (.slice (some ⟨g, 0, none⟩) m cap) m rs) (hNo : W.heap[No]? = some (.cells cur t (0, 0))) (t1 : (63 : TypeId) ≠ t) (t2 : (133 : TypeId) ≠ t) (t3 : (3 : TypeId) ≠ t)
    (hrows : ∀ i, i < m → (sp.getD i []).length ≤ 20 ∧ W.ownsRow B 3 1 (rs.getD i undef) (sp.getD i []).length (ints (sp.getD i []))) : SupAt W No gb (fun i => sp.getD i []) m := by
  obtain ⟨_, cur1, ho1, _⟩ := own_obj hsv
  refine ⟨tag_ne hG hNo t1, (Array.getElem?_eq_some_iff.1 hG).1, g, 0, cap, by rw [cell_of_row W gb 1 _ _ _ hG]; exact h1, tag_ne ho1 hNo t2, (Array.getElem?_eq_some_iff.1 ho1).1, fun i hi => ?_⟩
  obtain ⟨hl, hr⟩ := hrows i hi
  refine ⟨hl, ?_⟩
  have hrl : rs.length = m := by have := hsv.1; omega
  have hcell : W.cell? ⟨g, 0 + i, none⟩ = some (rs.getD i undef) := by
    have := hsv.cellAt i (by omega)
    rw [Nat.zero_add, this, List.getD_eq_getElem?_getD, List.getElem?_eq_getElem (by omega)]; rfl
  rcases hr.2 with ⟨e1, e2⟩ | ⟨rb, rcap, rcur, e1, _, hrb, hn, _, _, ht⟩
  · refine ⟨none, 0, by rw [hcell, e1, e2], fun h => by have h' : 0 < (sp.getD i []).length := h; omega⟩
  · refine ⟨some ⟨rb, 0, none⟩, rcap, by rw [hcell, e1], fun _ => ⟨rb, 0, rfl, tag_ne hrb hNo t3, (Array.getElem?_eq_some_iff.1 hrb).1, fun j hj0 => ?_⟩⟩
    have hj : j < (sp.getD i []).length := hj0
    rw [Nat.zero_add, cell_of_row W rb j _ _ _ hrb]
    have h2 : (rcur.toList.take ((sp.getD i []).length * 1))[j]? = (ints (sp.getD i []))[j]? := by rw [ht]
    rw [List.getElem?_take, if_pos (by omega)] at h2
    rw [← Array.getElem?_toList, h2]
    exact ints_get _ j hj

/-- the same off SupO -/
theorem supAt_of3 {B No gb n k1 : Nat} {a1 : Option Addr} {sp : List (List Nat)} {W : World} {cs cur : Array Value} {t : TypeId} (hn : 0 < n) (hG : W.heap[gb]? = some (.cells cs 63 (0, 0))) (h1 : cs[1]? = some (.slice a1 n k1))
    (hs : SupO W B (.slice a1 n k1) sp n) (hNo : W.heap[No]? = some (.cells cur t (0, 0))) (t1 : (63 : TypeId) ≠ t) (t2 : (133 : TypeId) ≠ t) (t3 : (3 : TypeId) ≠ t) : SupAt W No gb (fun i => sp.getD i []) n := by
  obtain ⟨rs, h2, h3⟩ := hs
  have h4 := h2
  rcases h2.2 with ⟨e1, e2⟩ | ⟨g, cap, cur2, e1, _⟩
  · omega
  · injection e1 with e1 _ e3
    subst e1
    subst e3
    exact supAt_of2 hG h1 h4 hNo t1 t2 t3 h3

theorem SupO.below {w w' : World} {B n : Nat} {sv : Value} {sp : List (List Nat)} (h : SupO w B sv sp n) (hb : Below w.heap.size w w') : SupO w' B sv sp n := by
  obtain ⟨rs, h1, h2⟩ := h
  exact ⟨rs, ownsRow_below h1 hb (Nat.le_refl _), fun i hi => ⟨(h2 i hi).1, ownsRow_below (h2 i hi).2 hb (Nat.le_refl _)⟩⟩
end Go.Proofs.YtehnikgdjnmfcaaGreat

/- Wanted 66: what it asks for; append of a slice of strings onto one's own, with the block it lies in. -/
namespace Go.Proofs.YtehnikgdjnmfcaaGreat
open Go.RowKit Go.WideMaps Go.Shelf

/-- the sorts of an arity -/
def arAt (rs : List Ar) (q : Nm × Nm) : List (List Nm) := (rs.getD (ixP (rs.map arKey) q) ar0).2.2
/-- all that the i-th argument must have -/
def wantL (rs : List Ar) (name : Nm) (s : List Nm) (i : Nat) : List Nm := s.flatMap fun c => (arAt rs (name, c)).getD i []
def hasAll (rs : List Ar) (name : Nm) (s : List Nm) : Bool := s.all fun c => inP (rs.map arKey) (name, c)
def wantB (ns : List Nm) (abv : Nat → List Nat) (ds : List (Nm × Int)) (rs : List Ar) (name : Nm) (s : List Nm) : List (List Nm) := (List.range (numOf ds name).toNat).map fun i => leastB ns abv (wantL rs name s i)

theorem wantL_snoc (rs : List Ar) (name : Nm) (s : List Nm) (c : Nm) (i : Nat) : wantL rs name (s ++ [c]) i = wantL rs name s i ++ (arAt rs (name, c)).getD i [] := by
  unfold wantL; simp

set_option maxRecDepth 100000 in
theorem op_append_strs2 {w : World} {o : Oper} {a : Act} {K : Act → World → Prop} {Q : Exit → Act → World → Prop} (s x : Operand) (ho : o.op = .call { callee := .builtin .append, args := #[s, x], argTypes := #[27, 27] })
    (B n : Nat) (u v : Value) (xs : List Value) (ss : List Nm) (hs : a.eval s = v) (hown : w.ownsRow B 9 1 v n xs) (hx : a.eval x = u) (hu : SlS w u ss) (hn : n + ss.length ≤ 8000000000) (hB : B ≤ w.heap.size)
    (h : ∀ a' c' w', w'.ownsRow B 9 1 (.slice a' (n + ss.length) c') (n + ss.length) (xs ++ ss.map encStr) → w.grownBy w' v.ownBlock → ((Value.slice a' (n + ss.length) c').ownBlock = v.ownBlock ∨ (Value.slice a' (n + ss.length) c').ownBlock = some w.heap.size) → K (a.put o.dst (.slice a' (n + ss.length) c')) w') : o.wp Tryz.prog a w K Q := by
  obtain ⟨i0, hi, hq0, hq1, hq2⟩ := info_parts Tryz.info9
  obtain ⟨_, sa, c, rfl, hsx⟩ := hu
  cases sa with
  | none =>
    have h0 : ss = [] := by
      by_cases hp : 0 < ss.length
      · obtain ⟨b, off, e, _⟩ := hsx hp; cases e
      · exact List.eq_nil_of_length_eq_zero (by omega)
    subst h0
    have hrun := run_append_nothing (c := c) o.type i0 hi hown
    unfold Oper.wp
    simp only [List.length_nil] at hx
    simp [execOp, ho, resolve, invoke, builtin, hs, hx, hrun, Result.andThen]
    obtain ⟨a', c', rfl⟩ := ownsRow_form hown
    exact h a' c' w (by simpa using hown) (World.grownBy.refl w _) (.inl rfl)
  | some ad =>
    have hnews : ∀ j u, (ss.map encStr)[j]? = some u → w.cell? (ad.add j) = some u := by
      intro j u hj
      have hjl : j < ss.length := by
        have := (List.getElem?_eq_some_iff.1 hj).1
        simpa using this
      obtain ⟨b, off, e, _, hc, _⟩ := hsx (by omega)
      injection e with e
      subst e
      have e1 : (Addr.add ⟨b, off, none⟩ j) = ⟨b, off + j, none⟩ := by
        unfold Addr.add
        by_cases h : j = 0
        · subst h; simp
        · simp [h]
      have e2 : encStr (ss.getD j []) = u := by
        rw [List.getElem?_map, List.getElem?_eq_getElem hjl] at hj
        injection hj with hj
        rw [← hj, List.getD_eq_getElem?_getD, List.getElem?_eq_getElem hjl, Option.getD_some]
      rw [e1, hc j hjl]
      exact congrArg some e2
    have hone : ∀ u ∈ ss.map encStr, u.oneCell' = true := by
      intro u hu
      obtain ⟨y, _, rfl⟩ := List.mem_map.1 hu
      rfl
    obtain ⟨v', w', hr, h2, h3, _, h5⟩ := run_append_own_at (P := Tryz.prog) w B 27 o.type 9 i0 (.string ByteArray.empty) 1 16 Tryz.underlying27 hi hq0 hq1 hq2 rfl (by decide) v n xs hown ad ss.length c (ss.map encStr) (by simp) hnews hone (by unfold maxLen; omega) (by omega) hB
    obtain ⟨a', c', rfl⟩ := ownsRow_form h2
    unfold Oper.wp execOp
    simp only [ho, resolve, invoke, builtin, Sem.run_bind, Sem.run_pure, Result.andThen_ok, List.map_toArray, List.map_cons, List.map_nil, hs, hx, hr]
    exact h a' c' w' h2 h3 h5

theorem step_append_strs2 {ops : Array Oper} {w : World} {o : Oper} {a : Act} {K : Act → World → Prop} {Q : Exit → Act → World → Prop} {E : Prop} (hgd : o.guard = none) (s x : Operand) (ho : o.op = .call { callee := .builtin .append, args := #[s, x], argTypes := #[27, 27] })
    (B n : Nat) (u v : Value) (xs : List Value) (ss : List Nm) (hs : a.eval s = v) (hown : w.ownsRow B 9 1 v n xs) (hx : a.eval x = u) (hu : SlS w u ss) (hn : n + ss.length ≤ 8000000000) (hB : B ≤ w.heap.size)
    (h : ∀ a' c' w', w'.ownsRow B 9 1 (.slice a' (n + ss.length) c') (n + ss.length) (xs ++ ss.map encStr) → w.grownBy w' v.ownBlock → ((Value.slice a' (n + ss.length) c').ownBlock = v.ownBlock ∨ (Value.slice a' (n + ss.length) c').ownBlock = some w.heap.size) → K (a.put o.dst (.slice a' (n + ss.length) c')) w') :
    if Region.wanted o (yielded ops a.tmps) = true then Oper.wp Tryz.prog o a w K Q else E := by
  have hw : Region.wanted o (yielded ops a.tmps) = true := by simp [Region.wanted, hgd]
  rw [if_pos hw]
  exact op_append_strs2 s x ho B n u v xs ss hs hown hx hu hn hB h
end Go.Proofs.YtehnikgdjnmfcaaGreat

/- Wanted 66: facts. -/
namespace Go.Proofs.YtehnikgdjnmfcaaGreat
open Go.RowKit Go.WideMaps Go.Shelf

set_option maxRecDepth 100000 in
theorem MapV.look0 {w : World} {b : Nat} {ds : List (Nm × Int)} (h : MapV w b ds) {s : Nm} (hs : s.length ≤ maxLen) :
    (Instr.lookup 58 (.map (some b)) (.string (bs s)) false).run Tryz.prog w = .ok (.int .i64 (numOf ds s)) w := by
  obtain ⟨D, _, hown, hD⟩ := h
  obtain ⟨c, hrun, hat, _⟩ := hown.lookup_int (Maps.string_keyed Tryz.underlying9) Tryz.underlying58 Tryz.underlying3 (zeroE w) (key_bs hs)
  obtain ⟨h1, h2⟩ := hD s
  rw [h2] at hat
  injection hat with hat
  injection hat with _ hat
  rw [hrun, ← hat]

theorem arErr_sorts {ns : List Nm} {abv : Nat → List Nat} {ds : List (Nm × Int)} {pre : List (Nm × Nm)} {a : Ar} (h : arErr ns abv ds pre a = 0) : sorts1 ns abv a.2.2 = 0 := by
  unfold arErr at h
  by_cases h1 : inNs (ds.map Prod.fst) a.1 = false
  · rw [if_pos h1] at h; exact absurd h (by decide)
  · rw [if_neg h1] at h
    by_cases h2 : inNs ns a.2.1 = false
    · rw [if_pos h2] at h; exact absurd h (by decide)
    · rw [if_neg h2] at h
      by_cases h3 : inP pre (a.1, a.2.1) = true
      · rw [if_pos h3] at h; exact absurd h (by decide)
      · rw [if_neg h3] at h
        by_cases h4 : ((a.2.2.length : Nat) : Int) ≠ (ds.getD (ixOf (ds.map Prod.fst) a.1) ([], 0)).2
        · rw [if_pos h4] at h; exact absurd h (by decide)
        · rw [if_neg h4] at h; exact h

theorem arAt_facts {cs : List (Nm × List Nm)} {abl : List (List Nat)} {ds : List (Nm × Int)} {rs : List Ar} {q : Nm × Nm} (h : arsErr cs abl ds rs = 0) (hi : inP (rs.map arKey) q = true) :
    ixP (rs.map arKey) q < rs.length ∧ (((arAt rs q).length : Nat) : Int) = numOf ds q.1 ∧ ∀ s ∈ arAt rs q, s.all (inNs (cs.map Prod.fst)) = true ∧ s.length ≤ 20 := by
  have hlt := ixP_lt hi
  rw [List.length_map] at hlt
  have hat := ixP_at hi ([], [])
  rw [key_at rs _ hlt] at hat
  have h1 : (rs.getD (ixP (rs.map arKey) q) ar0).1 = q.1 := by
    have h1' := congrArg Prod.fst hat
    exact h1'
  obtain ⟨g1, _, _, e1, _⟩ := arErr_zero (ars_at h hlt)
  have hs := arErr_sorts (ars_at h hlt)
  rw [num_in g1, h1] at e1
  refine ⟨hlt, e1, fun s hm => ?_⟩
  obtain ⟨k1, _, k3⟩ := sorts1_zero hs s hm
  exact ⟨k1, k3⟩

theorem arAt_get {cs : List (Nm × List Nm)} {abl : List (List Nat)} {ds : List (Nm × Int)} {rs : List Ar} {q : Nm × Nm} (h : arsErr cs abl ds rs = 0) (hi : inP (rs.map arKey) q = true) (i : Nat) :
    ((arAt rs q).getD i []).all (inNs (cs.map Prod.fst)) = true ∧ ((arAt rs q).getD i []).length ≤ 20 := by
  by_cases hl : i < (arAt rs q).length
  · exact (arAt_facts h hi).2.2 _ (getDmem _ [] i hl)
  · rw [List.getD_eq_getElem?_getD, List.getElem?_eq_none (by omega)]; simp

theorem wantL_facts {cs : List (Nm × List Nm)} {abl : List (List Nat)} {ds : List (Nm × Int)} {rs : List Ar} {name : Nm} (h : arsErr cs abl ds rs = 0) (i : Nat) : ∀ (s : List Nm), hasAll rs name s = true →
    (wantL rs name s i).all (inNs (cs.map Prod.fst)) = true ∧ (wantL rs name s i).length ≤ s.length * 20
  | [], _ => by simp [wantL]
  | c :: s, hh => by
    unfold hasAll at hh
    simp only [List.all_cons, Bool.and_eq_true] at hh
    obtain ⟨h1, h2⟩ := arAt_get (cs := cs) (abl := abl) (ds := ds) h hh.1 i
    obtain ⟨k1, k2⟩ := wantL_facts (cs := cs) (abl := abl) (ds := ds) h i s hh.2
    have e : wantL rs name (c :: s) i = (arAt rs (name, c)).getD i [] ++ wantL rs name s i := by simp [wantL]
    rw [e, List.all_append, h1, k1, List.length_append]
    refine ⟨rfl, ?_⟩
    simp only [List.length_cons]
    omega

theorem hasAll_snoc (rs : List Ar) (name : Nm) (s : List Nm) (c : Nm) : hasAll rs name (s ++ [c]) = (hasAll rs name s && inP (rs.map arKey) (name, c)) := by
  unfold hasAll; simp

theorem hasAll_take {rs : List Ar} {name : Nm} {s : List Nm} {k : Nat} (hk : k < s.length) (h : inP (rs.map arKey) (name, s.getD k []) = false) : hasAll rs name s = false := by
  unfold hasAll
  refine Bool.eq_false_iff.2 fun hh => ?_
  have := List.all_eq_true.1 hh _ (getDmem s [] k hk)
  rw [h] at this; cases this

theorem known_words {cs : List (Nm × List Nm)} {sp abl : List (List Nat)} (hb : Built cs sp abl) {s : List Nm} (h : s.all (inNs (cs.map Prod.fst)) = true) : ∀ x ∈ s, x.length ≤ maxLen := by
  intro x hx
  have hi := List.all_eq_true.1 h x hx
  have := hb.names x (of_decide_eq_true hi)
  unfold maxLen; omega

/-- rows of strings of one's own, apart from each other, behind a row of slices -/
def WRows (w : World) (sb n : Nat) (f : Nat → List Nm) (vals : List Value) : Prop :=
  w.ownsRow sb 27 1 (.slice (some ⟨sb, 0, none⟩) n n) n vals ∧ (∀ i, i < n → w.ownsRow (sb + 1) 9 1 (vals.getD i undef) (f i).length ((f i).map encStr)) ∧
    ∀ i j, i < n → j < n → i ≠ j → ∀ g, (vals.getD i undef).ownBlock = some g → (vals.getD j undef).ownBlock ≠ some g

theorem WRows.start {w : World} {sb n : Nat} {f : Nat → List Nm} (hf : ∀ i, f i = []) (h : w.ownsRow sb 27 1 (.slice (some ⟨sb, 0, none⟩) n n) n (madeCells (Value.cells (.slice none 0 0)) (n * 1)).toList) :
    WRows w sb n f (madeCells (Value.cells (.slice none 0 0)) (n * 1)).toList := by
  have hv : ∀ i, i < n → (madeCells (Value.cells (.slice none 0 0)) (n * 1)).toList.getD i undef = .slice none 0 0 := fun i hi => by
    rw [List.getD_eq_getElem?_getD, made_nils n i hi]; rfl
  refine ⟨h, fun i hi => ?_, fun i j hi _ _ g hg => ?_⟩
  · rw [hv i hi, hf i]; exact World.ownsRow_nil _ _ _ _
  · rw [hv i hi] at hg; cases hg

theorem WRows.len {w : World} {sb n : Nat} {f : Nat → List Nm} {vals : List Value} (h : WRows w sb n f vals) : vals.length = n := by
  have := h.1.1; omega

theorem WRows.cell {w : World} {sb n : Nat} {f : Nat → List Nm} {vals : List Value} (h : WRows w sb n f vals) {i : Nat} (hi : i < n) : w.cell? ⟨sb, i, none⟩ = some (vals.getD i undef) ∧ w.frozen? ⟨sb, i, none⟩ = false := by
  have hl := h.len
  refine ⟨?_, h.1.frozenAt i⟩
  rw [h.1.cellAt i (by omega), List.getD_eq_getElem?_getD, List.getElem?_eq_getElem (by omega)]; rfl

theorem WRows.congr {w : World} {sb n : Nat} {f f' : Nat → List Nm} {vals : List Value} (h : WRows w sb n f vals) (he : ∀ i, i < n → f i = f' i) : WRows w sb n f' vals :=
  ⟨h.1, fun i hi => by rw [← he i hi]; exact h.2.1 i hi, h.2.2⟩

theorem WRows.below {w w' : World} {sb n : Nat} {f : Nat → List Nm} {vals : List Value} (h : WRows w sb n f vals) (hb : Below w.heap.size w w') : WRows w' sb n f vals :=
  ⟨ownsRow_below h.1 hb (Nat.le_refl _), fun i hi => ownsRow_below (h.2.1 i hi) hb (Nat.le_refl _), h.2.2⟩

theorem WRows.lt {w : World} {sb n : Nat} {f : Nat → List Nm} {vals : List Value} (h : WRows w sb n f vals) : sb < w.heap.size := by
  obtain ⟨_, cur, h1, _⟩ := own_obj h.1
  exact (Array.getElem?_eq_some_iff.1 h1).1

/-- one of the rows has grown, and is stored -/
theorem WRows.step {w w' : World} {sb n j : Nat} {f : Nat → List Nm} {vals : List Value} {a' : Option Addr} {c' : Nat} {new : List Nm} (h : WRows w sb n f vals) (hj : j < n)
    (hown : w'.ownsRow (sb + 1) 9 1 (.slice a' ((f j).length + new.length) c') ((f j).length + new.length) ((f j).map encStr ++ new.map encStr)) (hg : w.grownBy w' (vals.getD j undef).ownBlock)
    (hblk : (Value.slice a' ((f j).length + new.length) c').ownBlock = (vals.getD j undef).ownBlock ∨ (Value.slice a' ((f j).length + new.length) c').ownBlock = some w.heap.size) :
    WRows (w'.setCell ⟨sb, j, none⟩ (.slice a' ((f j).length + new.length) c')) sb n (fun i => if i = j then f i ++ new else f i) (vals.set j (.slice a' ((f j).length + new.length) c')) := by
  have hl := h.len
  have hsb : w'.ownsRow sb 27 1 (.slice (some ⟨sb, 0, none⟩) n n) n vals := by
    refine h.1.kept hg (.inr fun e => ?_)
    have e' : (vals.getD j undef).ownBlock = some sb := by rw [← e]; rfl
    have := ownBlock_ge (h.2.1 j hj) e'
    omega
  have hget : ∀ i, i < n → (vals.set j (.slice a' ((f j).length + new.length) c')).getD i undef = if i = j then .slice a' ((f j).length + new.length) c' else vals.getD i undef := by
    intro i hi
    by_cases e : i = j
    · subst e; rw [if_pos rfl, List.getD_eq_getElem?_getD, List.getElem?_set_self (by omega)]; rfl
    · rw [if_neg e, List.getD_eq_getElem?_getD, List.getElem?_set_ne (fun e2 => e e2.symm), ← List.getD_eq_getElem?_getD]
  have hblkne : ∀ i, i < n → i ≠ j → (vals.getD i undef).ownBlock = none ∨ (vals.getD i undef).ownBlock ≠ (vals.getD j undef).ownBlock := by
    intro i hi hne
    cases hb : (vals.getD i undef).ownBlock with
    | none => exact .inl rfl
    | some g => exact .inr fun e => h.2.2 i j hi hj hne g hb e.symm
  have hlt : ∀ i, i < n → ∀ g, (vals.getD i undef).ownBlock = some g → g < w.heap.size := by
    intro i hi g hb
    rcases (h.2.1 i hi).2 with ⟨e, _⟩ | ⟨g', cap', cur', e, _, hh, _⟩
    · rw [e] at hb; cases hb
    · rw [e] at hb
      have e2 : g' = g := by simpa [Value.ownBlock] using hb
      subst e2; exact (Array.getElem?_eq_some_iff.1 hh).1
  refine ⟨(hsb.stored j _).1, fun i hi => ?_, fun i k hi hk hne g hgi => ?_⟩
  · rw [hget i hi]
    have hst : ∀ {v : Value} {m : Nat} {xs : List Value}, w'.ownsRow (sb + 1) 9 1 v m xs → (w'.setCell ⟨sb, j, none⟩ (.slice a' ((f j).length + new.length) c')).ownsRow (sb + 1) 9 1 v m xs := by
      intro v m xs ho
      refine ho.kept (hsb.stored j _).2 (.inr fun e => ?_)
      have := ownBlock_ge ho e
      omega
    by_cases e : i = j
    · subst e
      simp only [if_true, List.length_append, List.map_append]
      exact hst hown
    · simp only [if_neg e]
      exact hst ((h.2.1 i hi).kept hg (hblkne i hi e))
  · rw [hget i hi] at hgi
    rw [hget k hk]
    by_cases ei : i = j
    · rw [if_pos ei] at hgi
      have ek : k ≠ j := fun e => hne (by omega)
      rw [if_neg ek]
      rcases hblk with hb | hb
      · rw [hb] at hgi
        exact h.2.2 j k hj hk (fun e => ek e.symm) g hgi
      · intro e2
        have := hlt k hk g e2
        rw [hb] at hgi; injection hgi with hgi; omega
    · rw [if_neg ei] at hgi
      by_cases ek : k = j
      · rw [if_pos ek]
        rcases hblk with hb | hb
        · rw [hb]; exact h.2.2 i j hi hj ei g hgi
        · rw [hb]; intro e2; injection e2 with e2
          have := hlt i hi g hgi; omega
      · rw [if_neg ek]; exact h.2.2 i k hi hk hne g hgi
end Go.Proofs.YtehnikgdjnmfcaaGreat

/- Wanted 66. -/
namespace Go.Proofs.YtehnikgdjnmfcaaGreat
open Go.RowKit Go.WideMaps Go.Shelf Go.Lib
attribute [local go_sem] Oper.semAt_some

/-- a signature of a theory without an error, whole -/
def SgF (w : World) (g : Value) (cs : List (Nm × List Nm)) (abl : List (List Nat)) (ds : List (Nm × Int)) (rs : List Ar) : Prop :=
  ∃ bm c1 ga capa c3 mb am vs, g = .agg #[.map (some bm), c1, .slice ga cs.length capa, c3, .map (some mb), .map (some am)] ∧ SigAt w g (cs.map Prod.fst) (fun i => abl.getD i []) ∧ MapV w mb ds ∧ MapA w am (rs.map arKey) vs ∧
    (∀ j, j < rs.length → SlSs w (vs.getD j undef) (rs.getD j ar0).2.2) ∧ SlT w c3 ds

theorem SgF.below {w w' : World} {g : Value} {cs : List (Nm × List Nm)} {abl : List (List Nat)} {ds : List (Nm × Int)} {rs : List Ar} (h : SgF w g cs abl ds rs) (hb : Below w.heap.size w w') : SgF w' g cs abl ds rs := by
  obtain ⟨bm, c1, ga, capa, c3, mb, am, vs, e, h1, h2, h3, h4, h5⟩ := h
  exact ⟨bm, c1, ga, capa, c3, mb, am, vs, e, h1.below hb (Nat.le_refl _), h2.below hb h2.lt, h3.below hb h3.lt, fun j hj => (h4 j hj).below hb (Nat.le_refl _), h5.below hb (Nat.le_refl _)⟩

def WPost (w : World) (l : List (List Nm)) (ok : Bool) (e : Ending) (w' : World) : Prop :=
  ∃ a c, e = .returned (.tuple #[.slice a l.length c, .bool ok]) ∧ Below w.heap.size w w' ∧ SlSsO w' w.heap.size (.slice a l.length c) l

/-- rows of strings behind a row of slices: the first k are what they are to be -/
def WLeast (w : World) (sb n : Nat) (f f' : Nat → List Nm) (k : Nat) : Prop :=
  ∀ i, i < n → ∃ v, w.cell? ⟨sb, i, none⟩ = some v ∧ w.frozen? ⟨sb, i, none⟩ = false ∧ SlO w (sb + 1) v (if i < k then f' i else f i)

theorem WLeast.step {w w' : World} {sb n j : Nat} {f f' : Nat → List Nm} {v : Value} (h : WLeast w sb n f f' j) (hb : Below w.heap.size w w') (hsb : sb < w.heap.size) (ho : SlO w' (sb + 1) v (f' j)) :
    WLeast (w'.setCell ⟨sb, j, none⟩ v) sb n f f' (j + 1) := by
  intro i hi
  obtain ⟨u, h1, h2, h3⟩ := h i hi
  have g1 := (hb.cell (p := ⟨sb, i, none⟩) hsb).trans h1
  have g2 := (hb.frozen (p := ⟨sb, i, none⟩) hsb).trans h2
  by_cases e : i = j
  · subst e
    exact ⟨v, World.cell?_setCell_same _ _ _ g1, by rw [World.frozen?_setCell]; exact g2, by rw [if_pos (Nat.lt_succ_self _)]; exact ho.set (Nat.lt_succ_self _)⟩
  · refine ⟨u, by rw [World.cell?_setCell_other _ _ _ _ (by intro hh; injection hh with _ hh; omega)]; exact g1, by rw [World.frozen?_setCell]; exact g2, ?_⟩
    have h4 := (h3.below hb (Nat.le_refl _)).set (i := j) (u := v) (b := sb) (Nat.lt_succ_self _)
    by_cases e2 : i < j
    · rw [if_pos e2] at h4; rw [if_pos (by omega)]; exact h4
    · rw [if_neg e2] at h4; rw [if_neg (by omega)]; exact h4

theorem WLeast.all {w : World} {sb n c B : Nat} {f f' : Nat → List Nm} {L : List (List Nm)} (h : WLeast w sb n f f' n) (hB : B ≤ sb) (hsb : sb < w.heap.size) (hl : L.length = n) (hn : n ≤ maxLen) (he : ∀ i, i < n → L.getD i [] = f' i) : SlSsO w B (.slice (some ⟨sb, 0, none⟩) L.length c) L := by
  refine ⟨by omega, _, c, rfl, fun _ => ⟨sb, rfl, hB, hsb, fun k hk => ?_⟩⟩
  obtain ⟨v, h1, _, h3⟩ := h k (by omega)
  rw [if_pos (by omega), ← he k (by omega)] at h3
  have hv := h3.base (show B ≤ sb + 1 by omega)
  have hv' := hv
  obtain ⟨_, _, a, cap, rfl, _⟩ := hv'
  exact ⟨a, cap, h1, hv⟩

set_option maxRecDepth 100000 in
set_option maxHeartbeats 2000000 in
theorem wanted_any (g v : Value) (cs : List (Nm × List Nm)) (sp abl : List (List Nat)) (ds : List (Nm × Int)) (rs : List Ar) (name : Nm) (ss : List Nm) (w : World) (hg : SgF w g cs abl ds rs) (hbu : Built cs sp abl) (har : arsErr cs abl ds rs = 0)
    (hty : typesErr ds = 0) (hnl : name.length ≤ maxLen) (hs : SlS w v ss) (h300 : ss.length ≤ 300) :
    Calls Tryz.prog 38 #[g, .string (bs name), v] w (WPost w (if hasAll rs name ss = true then wantB (cs.map Prod.fst) (fun i => abl.getD i []) ds rs name ss else []) (hasAll rs name ss)) := by
  have HSG := Lib.hid hg
  have HS := Lib.hid hs
  have HBU := Lib.hid hbu
  have HAR := Lib.hid har
  have HWS := Lib.hid hs.words
  obtain ⟨bm, c1, ga, capa, c3, mb, am, vs, rfl, hsig, hmv, hma, hvs, _⟩ := hg
  obtain ⟨_, sa, scap, rfl, _⟩ := hs
  have HSIG := Lib.hid hsig
  have HMV := Lib.hid hmv
  have HMA := Lib.hid hma
  have HVS := Lib.hid hvs
  obtain ⟨n, hn⟩ : ∃ n : Nat, numOf ds name = (n : Int) := ⟨(numOf ds name).toNat, by have := (types_num hty name).1; omega⟩
  have hn10 : n ≤ 10 := by have := (types_num hty name).2; omega
  have HN := Lib.hid hn
  have hb0 := below_alloc w (Obj.cells #[.map (some bm), c1, .slice ga cs.length capa, c3, .map (some mb), .map (some am)] 63)
  have r0 := heap_alloc_new w (Obj.cells #[.map (some bm), c1, .slice ga cs.length capa, c3, .map (some mb), .map (some am)] 63)
  have hz0 : (w.alloc (Obj.cells #[.map (some bm), c1, .slice ga cs.length capa, c3, .map (some mb), .map (some am)] 63)).heap.size = w.heap.size + 1 := by simp
  have hlk := (hmv.below hb0 hmv.lt).look0 hnl
  rw [hn] at hlk
  have R0 := Lib.hid r0
  have hvL : Hid (∀ l : List (List Nm), l = wantB (cs.map Prod.fst) (fun i => abl.getD i []) ds rs name ss → l.length = n) := by
    intro l hl; rw [hl]; unfold wantB; rw [List.length_map, List.length_range, HN.out]; rfl
  obtain ⟨p0, p1, p2, p3, p4, p5⟩ := cells6 r0
  obtain ⟨bi, hi, hq0, hq1, hq2⟩ := info_parts Tryz.info27
  clear hsig hmv hma hvs hn r0 hbu har hty
  generalize hLL : (if hasAll rs name ss = true then wantB (cs.map Prod.fst) (fun i => abl.getD i []) ds rs name ss else []) = L at *
  generalize hOK : hasAll rs name ss = ok at *
  have HLL := Lib.hid hLL
  have HOK := Lib.hid hOK
  clear hLL hOK
  go_enter Tryz.func38, Tryz.ntmps38
  go_wp2_with (refine wpList_make_full _ rfl _ _ 34 rfl (w.alloc (Obj.cells #[.map (some bm), c1, .slice ga cs.length capa, c3, .map (some mb), .map (some am)] 63)).heap.size 27 bi (.slice none 0 0) 1 Tryz.underlying34 hi hq0 hq1 .i64 .i64 _ _ n rfl rfl rfl rfl (by rw [hq2]; omega) (by unfold maxLen; omega) (Nat.le_refl _) ?_; intro w1 hown hg1; have hb1 : Below (w.alloc (Obj.cells #[.map (some bm), c1, .slice ga cs.length capa, c3, .map (some mb), .map (some am)] 63)).heap.size (w.alloc (Obj.cells #[.map (some bm), c1, .slice ga cs.length capa, c3, .map (some mb), .map (some am)] 63)) w1 := (Below.refl _ _).grown hg1 (Nat.le_refl _) (fun r e => by cases e); have HOWN := Lib.hid hown; have HB1 := Lib.hid hb1; clear hown hg1 hb1)
  have hown := HOWN.out
  rw [hz0] at hown
  have hb1 := HB1.out
  rw [hz0] at hb1
  have HW0 : Hid (WRows w1 (w.heap.size + 1) n (fun i => wantL rs name (ss.take 0) i) (madeCells (Value.cells (.slice none 0 0)) (n * 1)).toList) := WRows.start (fun i => by simp [wantL]) hown
  have hBW1 : Below w.heap.size w w1 := hb0.trans (hb1.mono (by omega))
  have hA0 : Hid (hasAll rs name (ss.take 0) = true) := by unfold Hid hasAll; simp
  have R1 := Lib.hid ((hb1.block w.heap.size (by omega)).trans R0.out)
  have hz1 : w.heap.size + 1 ≤ w1.heap.size := by have := hb1.size; omega
  clear hown HOWN HB1 hb1 hlk p0 p1 p2 p3 p4 p5 hb0 R0 hz0
  go_loopw [22] (fun i wr => ∃ (k : Nat) (vals : List Value), k ≤ ss.length ∧ i = .int .i64 k ∧ Hid (WRows wr (w.heap.size + 1) n (fun i => wantL rs name (ss.take k) i) vals) ∧ Hid (hasAll rs name (ss.take k) = true) ∧ Below (w.heap.size + 1) w1 wr) (fun i _ => ss.length - (intOf i).toNat)
  case atStart => exact ⟨0, _, by omega, rfl, HW0, hA0, Below.refl _ _⟩
  case round =>
    obtain ⟨k, vals, hk, rfl, hW, hA, hB⟩ := hrel
    clear HW0 hA0
    have hz := hB.size
    have hBw : Below w.heap.size w wr := hBW1.trans (hB.mono (by omega))
    have r3 := (hB.block w.heap.size (by omega)).trans R1.out
    by_cases hlt : k < ss.length
    · obtain ⟨b, off, x, rfl, hb, hck0, hwk, hx⟩ := HS.out.at hlt
      have hcx := (hBw.cell (p := ⟨b, off + k, none⟩) hb).trans hck0
      have hlk2 := (HMA.out.below hBw HMA.out.lt).look (q := (name, x)) hnl hwk
      have R3 := Lib.hid r3
      have HX := Lib.hid hx
      obtain ⟨p0, p1, p2, p3, p4, p5⟩ := cells6 r3
      have hVO : inP (rs.map arKey) (name, x) = true → valOf (rs.map arKey) vs (name, x) = vs.getD (ixP (rs.map arKey) (name, x)) undef := fun h => by unfold valOf; rw [if_pos h]
      simp only [] at hlk2
      clear hx hck0 r3
      by_cases hin : inP (rs.map arKey) (name, x) = true
      · obtain ⟨hixl, hlen, _⟩ := arAt_facts HAR.out hin
        have hsl := HVS.out _ hixl
        rw [← hVO hin] at hsl
        have HIN := Lib.hid hin
        rw [hin] at hlk2
        rw [HN.out] at hlen
        have hlen' : (arAt rs (name, x)).length = n := by omega
        obtain ⟨_, p, pc, hsv, hrows⟩ := hsl
        have e1 : (rs.getD (ixP (rs.map arKey) (name, x)) ar0).2.2 = arAt rs (name, x) := rfl
        rw [e1, hlen'] at hsv hrows
        rw [hsv] at hlk2
        have HR := Lib.hid hrows
        have hA2 : Hid (hasAll rs name (ss.take (k + 1)) = true) := by
          unfold Hid; rw [take_snocD ss [] k hlt, hasAll_snoc, hA.out, ← HX.out, HIN.out]; rfl
        have HWL := fun i => Lib.hid (wantL_facts (cs := cs) (abl := abl) (ds := ds) HAR.out i (ss.take k) hA.out).2
        have HST : Hid (∀ i, wantL rs name (ss.take (k + 1)) i = wantL rs name (ss.take k) i ++ (arAt rs (name, x)).getD i []) := fun i => by rw [take_snocD ss [] k hlt, wantL_snoc, ← HX.out]
        have HAL : Hid (∀ i, ((arAt rs (name, x)).getD i []).length ≤ 20) := fun i => (arAt_get HAR.out HIN.out i).2
        clear hVO hin hixl hlen hlen' hsv hrows e1
        go_wp2_with fail
        obtain ⟨wo, rfl⟩ : ∃ wo : World, wo = wr := ⟨_, rfl⟩
        have hWS : Hid (WRows wo (w.heap.size + 1) n (fun i => if i < 0 then wantL rs name (ss.take (k + 1)) i else wantL rs name (ss.take k) i) vals) := hW.out.congr fun i _ => by rw [if_neg (Nat.not_lt_zero _)]
        go_loopw [39] (fun i wr => ∃ (j : Nat) (vals' : List Value), j ≤ n ∧ i = .int .i64 j ∧ Hid (WRows wr (w.heap.size + 1) n (fun i => if i < j then wantL rs name (ss.take (k + 1)) i else wantL rs name (ss.take k) i) vals') ∧ Below (w.heap.size + 1) wo wr) (fun i _ => n - (intOf i).toNat)
        case atStart => exact ⟨0, vals, by omega, rfl, hWS, Below.refl _ _⟩
        case round =>
          obtain ⟨j, vals', hj, rfl, hW2, hB2⟩ := hrel
          clear hWS
          have hz2 := hB2.size
          have hBw2 : Below w.heap.size w wr := hBw.trans (hB2.mono (by omega))
          by_cases hltj : j < n
          · obtain ⟨b2, off2, rfl, hb2, hcl2⟩ := HR.out (by omega)
            obtain ⟨p', c', g1w, gs⟩ := hcl2 j (by omega)
            have g1 := (hBw2.cell (p := ⟨b2, off2 + j, none⟩) hb2).trans g1w
            have hgs := gs.below hBw2 (Nat.le_refl _)
            obtain ⟨q1, q2⟩ := hW2.out.cell hltj
            have hoj := hW2.out.2.1 j hltj
            simp only [if_neg (Nat.lt_irrefl j)] at hoj
            obtain ⟨aj, cj, huj⟩ := ownsRow_form hoj
            have HUJ := Lib.hid huj
            rw [huj] at hoj q1
            have HOJ := Lib.hid hoj
            have HGS := Lib.hid hgs
            have hl1 := (HWL j).out
            have hl2 := HAL.out j
            have hl3 : (ss.take k).length ≤ 300 := by rw [List.length_take]; omega
            clear hcl2 g1w gs huj hoj hgs
            generalize hso : (arAt rs (name, x)).getD j [] = so at *
            have HSO := Lib.hid hso
            clear hso
            generalize hol : wantL rs name (ss.take k) j = ol at *
            have HOL := Lib.hid hol
            clear hol
            go_wp2_with fail
            have h11 : w.heap.size + 1 + 1 ≤ wr.heap.size := by have := hW2.out.lt; omega
            have hod := (HOJ.out).drew
            have hsd := HGS.out.below (Below.refl _ wr).drew (Nat.le_refl _)
            have q1d : wr.drew.cell? ⟨w.heap.size + 1, j, none⟩ = some (.slice aj ol.length cj) := q1
            have g1d : wr.drew.cell? ⟨b2, off2 + j, none⟩ = some (.slice p' so.length c') := g1
            have hne : (Value.slice aj ol.length cj).ownBlock ≠ some (w.heap.size + 1) := fun e => by have := ownBlock_ge hod e; omega
            have hlt1 : w.heap.size + 1 < wr.drew.heap.size := by show w.heap.size + 1 < wr.heap.size; omega
            refine wp_region_noPanic ?_
            go_region_law ((refine step_append_strs2 (by rfl) _ _ (by rfl) (w.heap.size + 1 + 1) ol.length _ _ (ol.map encStr) so (by rfl) hod (by rfl) hsd (by omega) (by show _ ≤ wr.heap.size; omega) ?_; intro a7 c7 w7 hown7 hgrow7 hblk7; have r1 : w7.cell? ⟨w.heap.size + 1, j, none⟩ = some (.slice aj ol.length cj) := (by rw [hgrow7.cell_far ⟨w.heap.size + 1, j, none⟩ hlt1 hne.symm]; exact q1); have rf : w7.frozen? ⟨w.heap.size + 1, j, none⟩ = false := (by rw [hgrow7.frozen_far ⟨w.heap.size + 1, j, none⟩ hlt1 hne.symm]; exact q2)))
            all_goals
              refine NoPanic.normal ?_
              have hW3 := WRows.step (f := fun i => if i < j then wantL rs name (ss.take (k + 1)) i else wantL rs name (ss.take k) i) (a' := a7) (c' := c7) (new := so) (hW2.out.below (Below.refl _ wr).drew) hltj (by simp only [if_neg (Nat.lt_irrefl j)]; rw [HOL.out]; exact hown7) (by rw [HUJ.out]; exact hgrow7) (by simp only [if_neg (Nat.lt_irrefl j)]; rw [HOL.out, HUJ.out]; exact hblk7)
              simp only [if_neg (Nat.lt_irrefl j)] at hW3
              rw [HOL.out] at hW3
              have HW3 : Hid (WRows (w7.setCell ⟨w.heap.size + 1, j, none⟩ (.slice a7 (ol.length + so.length) c7)) (w.heap.size + 1) n (fun i => if i < j + 1 then wantL rs name (ss.take (k + 1)) i else wantL rs name (ss.take k) i) (vals'.set j (.slice a7 (ol.length + so.length) c7))) := by
                refine hW3.congr fun i hi => ?_
                by_cases e : i = j
                · subst e
                  rw [if_pos rfl, if_pos (Nat.lt_succ_self _), HST.out i, HSO.out]
                  try rw [if_neg (Nat.lt_irrefl i)]
                · rw [if_neg e]
                  by_cases e2 : i < j
                  · rw [if_pos e2, if_pos (by omega)]
                  · rw [if_neg e2, if_neg (by omega)]
              have hB3 : Below (w.heap.size + 1) wo (w7.setCell ⟨w.heap.size + 1, j, none⟩ (.slice a7 (ol.length + so.length) c7)) := (((hB2.drew).grown hgrow7 (by show w.heap.size + 1 ≤ wr.heap.size; omega) (fun r e => by have := ownBlock_ge hod e; omega))).setCell (p := ⟨w.heap.size + 1, j, none⟩) (Nat.le_refl _) _
              clear hW3 hown7 hgrow7 hblk7 r1 rf
              go_wp2_with fail
              go_roundw
              case rel => exact ⟨j + 1, _, by omega, by go_num, HW3, hB3⟩
              case measure => simp [intOf]; omega
          · have hW4 : Hid (WRows wr (w.heap.size + 1) n (fun i => wantL rs name (ss.take (k + 1)) i) vals') := hW2.out.congr fun i hi => by rw [if_pos (by omega)]
            clear hW2
            go_wp2_with fail
            go_roundw
            case rel => exact ⟨k + 1, vals', by omega, by go_num, hW4, hA2, hB.trans hB2⟩
            case measure => simp [intOf]; omega
      · have hin' : inP (rs.map arKey) (name, x) = false := by simpa using hin
        rw [hin'] at hlk2
        have hok : Hid (ok = false) := by unfold Hid; rw [← HOK.out]; exact hasAll_take hlt (by rw [← HX.out]; exact hin')
        have hL : Hid (L = []) := by unfold Hid; rw [← HLL.out, hok.out]; rfl
        clear hin hin' hVO
        generalize valOf (rs.map arKey) vs (name, x) = sv at *
        go_wp2_with fail
        go_ret2
        exact ⟨none, 0, by rw [hok.out, hL.out]; rfl, hBw, by rw [hL.out]; exact ⟨by decide, none, 0, rfl, fun h => absurd h (by decide)⟩⟩
    · have hkk : k = ss.length := by omega
      subst hkk
      have hW' := hW.out
      have hA' := hA.out
      rw [List.take_length] at hW' hA'
      have hok : Hid (ok = true) := by unfold Hid; rw [← HOK.out]; exact hA'
      have hL : Hid (L = wantB (cs.map Prod.fst) (fun i => abl.getD i []) ds rs name ss) := by unfold Hid; rw [← HLL.out, hok.out]; rfl
      have HLn : Hid (L.length = n) := hvL.out L hL.out
      have HWF := fun i => Lib.hid (wantL_facts (cs := cs) (abl := abl) (ds := ds) HAR.out i ss hA')
      have HSBL := Lib.hid hW'.lt
      have hWL : Hid (WLeast wr (w.heap.size + 1) n (fun i => wantL rs name ss i) (fun i => leastB (cs.map Prod.fst) (fun i => abl.getD i []) (wantL rs name ss i)) 0) := by
        intro i hi
        obtain ⟨q1, q2⟩ := hW'.cell hi
        refine ⟨_, q1, q2, ?_⟩
        rw [if_neg (Nat.not_lt_zero _)]
        obtain ⟨g1, g2⟩ := (HWF i).out
        exact slO_of_own (hW'.2.1 i hi) (show (wantL rs name ss i).length * 16 ≤ _ by omega) (known_words HBU.out g1)
      clear hW' hW hA hA' r3 hvL
      go_wp2_with fail
      obtain ⟨wo, rfl⟩ : ∃ wo : World, wo = wr := ⟨_, rfl⟩
      go_loopw [58] (fun i wr => ∃ j : Nat, j ≤ n ∧ i = .int .i64 j ∧ Hid (WLeast wr (w.heap.size + 1) n (fun i => wantL rs name ss i) (fun i => leastB (cs.map Prod.fst) (fun i => abl.getD i []) (wantL rs name ss i)) j) ∧ Below (w.heap.size + 1) wo wr) (fun i _ => n - (intOf i).toNat)
      case atStart => exact ⟨0, by omega, rfl, hWL, Below.refl _ _⟩
      case round =>
        obtain ⟨j, hj, rfl, hW2, hB2⟩ := hrel
        clear hWL
        have hz2 := hB2.size
        have hBw2 : Below w.heap.size w wr := hBw.trans (hB2.mono (by omega))
        by_cases hltj : j < n
        · obtain ⟨u, q1, q2, hu⟩ := hW2.out j hltj
          rw [if_neg (Nat.lt_irrefl j)] at hu
          have HU := Lib.hid hu
          obtain ⟨_, _, aj, cj, rfl, _⟩ := hu
          obtain ⟨g1, g2⟩ := (HWF j).out
          have r4 := (hB2.block w.heap.size (by omega)).trans ((hB.block w.heap.size (by omega)).trans R1.out)
          have R4 := Lib.hid r4
          obtain ⟨p0, p1, p2, p3, p4, p5⟩ := cells6 r4
          have hd := (Below.refl wr.heap.size wr).drew
          have LE := Lib.hid (least_any _ _ (wantL rs name ss j) _ _ wr.drew (HSIG.out.below (hBw2.drew) (Nat.le_refl _)) (HU.out.sl.below hd (Nat.le_refl _)) (by omega) g1)
          have HSB := HSBL.out
          generalize hwl : wantL rs name ss j = wl at *
          have HWLE := Lib.hid hwl
          clear hwl r4 g1 g2
          have hsbw : w.heap.size + 1 < wr.heap.size := by omega
          go_wp2_with fail
          refine wp_region_noPanic ?_
          go_region_law ((go_simp; go_at_call 47; (with_reducible refine LE.out.mono ?_); rintro e w7 ⟨v7, rfl, ho7, hb7⟩; have hb8 : Below wr.heap.size wr w7 := hd.trans hb7; have r1 := (hb8.cell (p := ⟨w.heap.size + 1, j, none⟩) hsbw).trans q1; have rf := (hb8.frozen (p := ⟨w.heap.size + 1, j, none⟩) hsbw).trans q2; have HO7 := Lib.hid ho7; obtain ⟨_, _, a7, c7, rfl, _⟩ := ho7))
          all_goals
            refine NoPanic.normal ?_
            have hW3 := Lib.hid (hW2.out.step (v := .slice a7 (leastB (cs.map Prod.fst) (fun i => abl.getD i []) wl).length c7) hb8 hsbw (by show SlO w7 _ _ (leastB _ _ (wantL rs name ss j)); rw [HWLE.out]; exact HO7.out.base (show w.heap.size + 1 + 1 ≤ wr.heap.size by omega)))
            have hB3 : Below (w.heap.size + 1) wo (w7.setCell ⟨w.heap.size + 1, j, none⟩ (.slice a7 (leastB (cs.map Prod.fst) (fun i => abl.getD i []) wl).length c7)) := (hB2.trans (hb8.mono (by omega))).setCell (p := ⟨w.heap.size + 1, j, none⟩) (Nat.le_refl _) _
            clear r1 rf hb7 hb8
            go_wp2_with fail
            go_roundw
            case rel => exact ⟨j + 1, by omega, by go_num, hW3, hB3⟩
            case measure => simp [intOf]; omega
        · have hjn : j = n := by omega
          subst hjn
          have hLg : ∀ i, i < j → L.getD i [] = leastB (cs.map Prod.fst) (fun i => abl.getD i []) (wantL rs name ss i) := by
            intro i hi
            rw [hL.out]
            unfold wantB
            rw [List.getD_eq_getElem?_getD, List.getElem?_map, List.getElem?_range (by rw [HN.out]; exact hi)]
            rfl
          have HALL := Lib.hid (hW2.out.all (c := j) (B := w.heap.size) (by omega) (by have := HSBL.out; omega) HLn.out (by unfold maxLen; omega) hLg)
          clear hLg hW2
          go_wp2_with fail
          go_ret2
          exact ⟨some ⟨w.heap.size + 1, 0, none⟩, j, by rw [HLn.out, hok.out]; rfl, hBw2, HALL.out⟩
end Go.Proofs.YtehnikgdjnmfcaaGreat
