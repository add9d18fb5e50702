/- complete 54: the row of the classes' names. -/
import Derived.Test.YtehnikgdjnmfcaaM23
import Derived.Maps.RangeWalk
namespace Go.Proofs.Ytehnikgdjnmfcaa
open Go.RowKit Go.WideMaps Go.Shelf
attribute [local go_sem] Oper.semAt_some

/-- a row of strings in which the names that have come stand at their places -/
def NmRow (w : World) (nb : Nat) (ns : List Nm) (left : Lit → Bool) : Prop :=
  ∀ j, j < ns.length → ∃ v, w.cell? ⟨nb, j, none⟩ = some v ∧ w.frozen? ⟨nb, j, none⟩ = false ∧ (left (.string (ns.getD j [])) = false → v = .string (bs (ns.getD j [])))

theorem getD_some (ns : List Nm) (i : Nat) (h : i < ns.length) : ns[i]? = some (ns.getD i []) := by
  rw [List.getD_eq_getElem?_getD, List.getElem?_eq_getElem h]; rfl

theorem ixN_at {ns : List Nm} {s : Nm} (h : inNs ns s = true) : ns.getD (ixOf ns s) [] = s := by
  have hi : s ∈ ns := of_decide_eq_true h
  have hl := ixOf_lt h
  rw [List.getD_eq_getElem?_getD, List.getElem?_eq_getElem hl, Option.getD_some]
  unfold ixOf
  simp only [hi, if_true]
  exact List.getElem_idxOf _

theorem ix_nodup {ns : List Nm} (hn : ns.Nodup) {j : Nat} (hj : j < ns.length) : ixOf ns (ns.getD j []) = j := by
  have hm : ns.getD j [] ∈ ns := List.mem_of_getElem? (getD_some ns j hj)
  have hi : inNs ns (ns.getD j []) = true := decide_eq_true hm
  have hl := ixOf_lt hi
  have he := ixN_at hi
  have h1 : ns[ixOf ns (ns.getD j [])]? = ns[j]? := by rw [getD_some ns _ hl, getD_some ns j hj, he]
  exact (List.getElem?_inj hl hn).1 h1

theorem NmRow.set {w : World} {nb : Nat} {ns : List Nm} {left : Lit → Bool} (h : NmRow w nb ns left) (hn : ns.Nodup) {s : Nm} (hs : inNs ns s = true) :
    NmRow (w.setCell ⟨nb, ixOf ns s, none⟩ (.string (bs s))) nb ns (fun z => left z && !z.sameKey (.string s)) := by
  intro j hj
  obtain ⟨v, h1, h2, h3⟩ := h j hj
  have hjx := ix_nodup hn hj
  by_cases e : j = ixOf ns s
  · have hsn : ns.getD j [] = s := by
      rw [e]
      exact ixN_at hs
    refine ⟨.string (bs s), ?_, by rw [World.frozen?_setCell]; exact h2, fun _ => by rw [hsn]⟩
    rw [← e]; exact World.cell?_setCell_same _ _ _ h1
  · refine ⟨v, by rw [World.cell?_setCell_other _ _ _ _ (by intro hh; injection hh with _ hh; omega)]; exact h1, by rw [World.frozen?_setCell]; exact h2, fun hl => h3 ?_⟩
    have hne : ns.getD j [] ≠ s := fun e2 => e (by rw [← hjx, e2])
    cases hlv : left (.string (ns.getD j [])) with
    | false => rfl
    | true =>
      simp only [hlv, Bool.true_and, Bool.not_eq_false'] at hl
      have := WideAt.sameKey_eq hl
      injection this with this
      exact absurd this hne

theorem NmRow.below {w w' : World} {nb : Nat} {ns : List Nm} {left : Lit → Bool} (h : NmRow w nb ns left) (hb : w'.heap[nb]? = w.heap[nb]?) : NmRow w' nb ns left := by
  intro j hj
  obtain ⟨v, h1, h2, h3⟩ := h j hj
  exact ⟨v, (World.cell?_of_block (a := ⟨nb, j, none⟩) hb).trans h1, (World.frozen?_of_block (a := ⟨nb, j, none⟩) hb).trans h2, h3⟩

theorem results_cell_int {fn : Func} {p : Tmp} (h : fn.results = #[.cell p 33]) (tmps : Array Value) (w : World) (g : Nat) (x : Int)
    (hp : tmps.getD p undef = .pointer (some ⟨g, 0, none⟩)) (hc : w.cell? ⟨g, 0, none⟩ = some (.int .i64 x)) :
    (results fn tmps).run Try.prog w = .ok (.int .i64 x) w := by
  have hp' : tmps[p]?.getD undef = .pointer (some ⟨g, 0, none⟩) := by simpa using hp
  simp [results, h, hp', asAddr, loadVar, go_sem, hc]
end Go.Proofs.Ytehnikgdjnmfcaa

/- complete 54: what a round of the arities decides; the superclasses for upward. -/
namespace Go.Proofs.Ytehnikgdjnmfcaa
open Go.RowKit Go.WideMaps Go.Shelf

theorem getDmem {α : Type} (l : List α) (d : α) (i : Nat) (h : i < l.length) : l.getD i d ∈ l := by
  rw [List.getD_eq_getElem?_getD, List.getElem?_eq_getElem h]; exact List.getElem_mem h

theorem Built.names {cs : List (Nm × List Nm)} {sp abl : List (List Nat)} (h : Built cs sp abl) : ∀ x ∈ cs.map Prod.fst, x.length ≤ 40 := by
  induction h with
  | nil => intro x hx; exact absurd hx (by simp)
  | @snoc cs sp ab nm sups ys hb he hy ih =>
    intro x hx
    rw [List.map_append, List.mem_append] at hx
    rcases hx with hx | hx
    · exact ih x hx
    · have hx : x = nm := by simpa using hx
      subst hx
      have h1 := (classErr_zero he).1
      unfold isNameB at h1
      simp only [Bool.and_eq_true, decide_eq_true_eq] at h1
      have := h1.1.1.2
      rw [bs_size] at this; exact this

theorem Built.name_len {cs : List (Nm × List Nm)} {sp abl : List (List Nat)} (h : Built cs sp abl) (q : Nat) : ((cs.map Prod.fst).getD q []).length ≤ maxLen := by
  by_cases hq : q < (cs.map Prod.fst).length
  · have := h.names _ (getDmem _ [] q hq)
    unfold maxLen; omega
  · rw [List.getD_eq_getElem?_getD, List.getElem?_eq_none (by omega)]; unfold maxLen; simp

set_option maxRecDepth 100000 in
theorem MapAt.look0 {w : World} {b : Nat} {ns : List Nm} (h : MapAt w b ns) {s : Nm} (hs : s.length ≤ maxLen) :
    (Instr.lookup 61 (.map (some b)) (.string (bs s)) false).run Try.prog w = .ok (.int .i64 ((ixOf ns s : Nat) : Int)) w := by
  obtain ⟨D, _, hown, hD⟩ := h
  obtain ⟨c, hrun, hat, _⟩ := hown.lookup_int (Maps.string_keyed Try.underlying9) Try.underlying61 Try.underlying3 (zeroE w) (key_bs hs)
  obtain ⟨h1, h2⟩ := hD s
  rw [h2] at hat
  injection hat with hat
  injection hat with _ hat
  rw [hrun, ← hat]

theorem cname_at (cs : List (Nm × List Nm)) (k : Nat) : (cs.getD k ([], [])).1 = (cs.map Prod.fst).getD k [] := by
  rw [List.getD_eq_getElem?_getD, List.getD_eq_getElem?_getD, List.getElem?_map]
  cases cs[k]? <;> rfl

theorem lessAll_with {ns : List Nm} {abv : Nat → List Nat} {l m : List (List Nm)} (hl : ∀ s ∈ l, s.all (inNs ns) = true) (hm : ∀ s ∈ m, s.all (inNs ns) = true) (hlm : l.length ≤ m.length) : lessAllB ns abv l m = withAll ns abv l m := by
  unfold lessAllB withAll
  have key : ∀ q ∈ List.range l.length, lessB ns abv (l.getD q []) (m.getD q []) = withB ns abv (l.getD q []) (m.getD q []) := by
    intro q hq
    have hq : q < l.length := List.mem_range.1 hq
    rw [lessB_with, hl _ (getDmem l [] q hq), hm _ (getDmem m [] q (by omega)), Bool.true_and, Bool.true_and]
  rw [Bool.eq_iff_iff, List.all_eq_true, List.all_eq_true]
  exact ⟨fun h q hq => by rw [← key q hq]; exact h q hq, fun h q hq => by rw [key q hq]; exact h q hq⟩

theorem ars_at {cs : List (Nm × List Nm)} {abl : List (List Nat)} {ds : List (Nm × Int)} {rs : List Ar} (h : arsErr cs abl ds rs = 0) {j : Nat} (hj : j < rs.length) :
    arErr (cs.map Prod.fst) (fun i => abl.getD i []) ds ((rs.map arKey).take j) (rs.getD j ar0) = 0 := by
  unfold arsErr at h
  by_cases h3 : 300 < rs.length
  · rw [if_pos h3] at h; exact absurd h (by decide)
  · rw [if_neg h3] at h; exact arsErr_zero rs.length 0 h j (Nat.zero_le _) (by omega)

theorem regOne_no {cs : List (Nm × List Nm)} {abl : List (List Nat)} {rs : List Ar} {a : Ar} {x : Nat} (h : inP (rs.map arKey) (a.1, (cs.map Prod.fst).getD x []) = false) : regOne cs abl rs a x = false := by
  unfold regOne; rw [cname_at, h]; rfl

theorem regOne_yes {cs : List (Nm × List Nm)} {abl : List (List Nat)} {ds : List (Nm × Int)} {rs : List Ar} {k x : Nat} (h : arsErr cs abl ds rs = 0) (hk : k < rs.length)
    (hi : inP (rs.map arKey) ((rs.getD k ar0).1, (cs.map Prod.fst).getD x []) = true) :
    ixP (rs.map arKey) ((rs.getD k ar0).1, (cs.map Prod.fst).getD x []) < rs.length ∧
    (rs.getD k ar0).2.2.length ≤ (rs.getD (ixP (rs.map arKey) ((rs.getD k ar0).1, (cs.map Prod.fst).getD x [])) ar0).2.2.length ∧
    regOne cs abl rs (rs.getD k ar0) x = lessAllB (cs.map Prod.fst) (fun i => abl.getD i []) (rs.getD k ar0).2.2 (rs.getD (ixP (rs.map arKey) ((rs.getD k ar0).1, (cs.map Prod.fst).getD x [])) ar0).2.2 := by
  have hlt := ixP_lt hi
  rw [List.length_map] at hlt
  have hat := ixP_at hi ([], [])
  rw [key_at rs _ hlt] at hat
  have h1 : (rs.getD (ixP (rs.map arKey) ((rs.getD k ar0).1, (cs.map Prod.fst).getD x [])) ar0).1 = (rs.getD k ar0).1 := by
    have h1' := congrArg Prod.fst hat
    exact h1'
  obtain ⟨_, _, _, e1, g1⟩ := arErr_zero (ars_at h hk)
  obtain ⟨_, _, _, e2, g2⟩ := arErr_zero (ars_at h hlt)
  rw [h1] at e2
  have hlen : (rs.getD k ar0).2.2.length ≤ (rs.getD (ixP (rs.map arKey) ((rs.getD k ar0).1, (cs.map Prod.fst).getD x [])) ar0).2.2.length := by
    have : (((rs.getD k ar0).2.2.length : Nat) : Int) = (((rs.getD (ixP (rs.map arKey) ((rs.getD k ar0).1, (cs.map Prod.fst).getD x [])) ar0).2.2.length : Nat) : Int) := e1.trans e2.symm
    omega
  refine ⟨hlt, hlen, ?_⟩
  unfold regOne
  rw [cname_at, hi, Bool.true_and]
  exact (lessAll_with g1 g2 hlen).symm

theorem reg_true {cs : List (Nm × List Nm)} {sp abl : List (List Nat)} {rs : List Ar} {a : Ar} {xs : List Nat} (hb : Built cs sp abl) (hin : inNs (cs.map Prod.fst) a.2.1 = true)
    (hx : ∀ x, x ∈ xs ↔ Reach (fun i => sp.getD i []) (ixOf (cs.map Prod.fst) a.2.1) x) (hall : ∀ x ∈ xs, regOne cs abl rs a x = true) : regB cs abl rs a = true := by
  have hix := ixOf_lt hin
  rw [List.length_map] at hix
  unfold regB
  refine List.all_eq_true.2 fun k _ => ?_
  by_cases hm : k ∈ abl.getD (ixOf (cs.map Prod.fst) a.2.1) []
  · rw [hall k ((hx k).2 ((hb.mem _ hix k).1 hm)), Bool.or_true]
  · rw [decide_eq_false hm]; rfl

theorem reg_false {cs : List (Nm × List Nm)} {sp abl : List (List Nat)} {rs : List Ar} {a : Ar} {x : Nat} (hb : Built cs sp abl) (hin : inNs (cs.map Prod.fst) a.2.1 = true)
    (hx : Reach (fun i => sp.getD i []) (ixOf (cs.map Prod.fst) a.2.1) x) (ho : regOne cs abl rs a x = false) : regB cs abl rs a = false := by
  have hix := ixOf_lt hin
  rw [List.length_map] at hix
  have hle := Reach.le hb.lt' hx
  refine Bool.eq_false_iff.2 fun h => ?_
  have h1 := List.all_eq_true.1 h x (List.mem_range.2 (by omega))
  rw [ho, Bool.or_false, decide_eq_true ((hb.mem _ hix x).2 hx)] at h1
  cases h1

/-- the superclasses as upward reads them, where No is a block of another kind -/
theorem supAt_of2 {B No gb g cap m : Nat} {sp : List (List Nat)} {rs : List Value} {W : World} {cs cur : Array Value} {t : TypeId} (hG : W.heap[gb]? = some (.cells cs 66 (0, 0))) (h1 : cs[1]? = some (.slice (some ⟨g, 0, none⟩) m cap))
    (hsv : W.ownsRow B 123 1 (.slice (some ⟨g, 0, none⟩) m cap) m rs) (hNo : W.heap[No]? = some (.cells cur t (0, 0))) (t1 : (66 : TypeId) ≠ t) (t2 : (123 : TypeId) ≠ t) (t3 : (3 : TypeId) ≠ t)
    (hrows : ∀ i, i < m → (sp.getD i []).length ≤ 20 ∧ W.ownsRow B 3 1 (rs.getD i undef) (sp.getD i []).length (ints (sp.getD i []))) : SupAt W No gb (fun i => sp.getD i []) m := by
  obtain ⟨_, cur1, ho1, _⟩ := own_obj hsv
  refine ⟨tag_ne hG hNo t1, (Array.getElem?_eq_some_iff.1 hG).1, g, 0, cap, by rw [cell_of_row W gb 1 _ _ _ hG]; exact h1, tag_ne ho1 hNo t2, (Array.getElem?_eq_some_iff.1 ho1).1, fun i hi => ?_⟩
  obtain ⟨hl, hr⟩ := hrows i hi
  refine ⟨hl, ?_⟩
  have hrl : rs.length = m := by have := hsv.1; omega
  have hcell : W.cell? ⟨g, 0 + i, none⟩ = some (rs.getD i undef) := by
    have := hsv.cellAt i (by omega)
    rw [Nat.zero_add, this, List.getD_eq_getElem?_getD, List.getElem?_eq_getElem (by omega)]; rfl
  rcases hr.2 with ⟨e1, e2⟩ | ⟨rb, rcap, rcur, e1, _, hrb, hn, _, _, ht⟩
  · refine ⟨none, 0, by rw [hcell, e1, e2], fun h => by have h' : 0 < (sp.getD i []).length := h; omega⟩
  · refine ⟨some ⟨rb, 0, none⟩, rcap, by rw [hcell, e1], fun _ => ⟨rb, 0, rfl, tag_ne hrb hNo t3, (Array.getElem?_eq_some_iff.1 hrb).1, fun j hj0 => ?_⟩⟩
    have hj : j < (sp.getD i []).length := hj0
    rw [Nat.zero_add, cell_of_row W rb j _ _ _ hrb]
    have h2 : (rcur.toList.take ((sp.getD i []).length * 1))[j]? = (ints (sp.getD i []))[j]? := by rw [ht]
    rw [List.getElem?_take, if_pos (by omega)] at h2
    rw [← Array.getElem?_toList, h2]
    exact ints_get _ j hj

/-- the same off SupO -/
theorem supAt_of3 {B No gb n k1 : Nat} {a1 : Option Addr} {sp : List (List Nat)} {W : World} {cs cur : Array Value} {t : TypeId} (hn : 0 < n) (hG : W.heap[gb]? = some (.cells cs 66 (0, 0))) (h1 : cs[1]? = some (.slice a1 n k1))
    (hs : SupO W B (.slice a1 n k1) sp n) (hNo : W.heap[No]? = some (.cells cur t (0, 0))) (t1 : (66 : TypeId) ≠ t) (t2 : (123 : TypeId) ≠ t) (t3 : (3 : TypeId) ≠ t) : SupAt W No gb (fun i => sp.getD i []) n := by
  obtain ⟨rs, h2, h3⟩ := hs
  have h4 := h2
  rcases h2.2 with ⟨e1, e2⟩ | ⟨g, cap, cur2, e1, _⟩
  · omega
  · injection e1 with e1 _ e3
    subst e1
    subst e3
    exact supAt_of2 hG h1 h4 hNo t1 t2 t3 h3

theorem SupO.below {w w' : World} {B n : Nat} {sv : Value} {sp : List (List Nat)} (h : SupO w B sv sp n) (hb : Below w.heap.size w w') : SupO w' B sv sp n := by
  obtain ⟨rs, h1, h2⟩ := h
  exact ⟨rs, ownsRow_below h1 hb (Nat.le_refl _), fun i hi => ⟨(h2 i hi).1, ownsRow_below (h2 i hi).2 hb (Nat.le_refl _)⟩⟩
end Go.Proofs.Ytehnikgdjnmfcaa
