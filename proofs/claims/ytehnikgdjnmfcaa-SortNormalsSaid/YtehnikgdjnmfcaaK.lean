/- upward; addClass. -/
import Derived.Test.YtehnikgdjnmfcaaJ
import Derived.Maps.OwnIn
namespace Go.Proofs.Ytehnikgdjnmfcaa
open Go.RowKit Go.WideMaps Go.Shelf
attribute [local go_sem] Oper.semAt_some

theorem up_seq (No c cb gbx gb : Nat) (sup : Nat → List Nat) (W : World) (hcb : cb < W.heap.size) (hgx : gbx < W.heap.size) (hc300 : c < 300) (hNo : No < W.heap.size)
    (hc : W.cell? ⟨cb, 0, none⟩ = some (.int .i64 (c : Int))) (hgb : W.cell? ⟨gbx, 0, none⟩ = some (.pointer (some ⟨gb, 0, none⟩))) (hgxn : gbx ≠ No)
    (hsup : SupAt W No gb sup (c + 1)) (hlt : ∀ i, i ≤ c → ∀ s ∈ sup i, s < i) :
    SeqB Fence.wide 5 Try.prog 85 #[.pointer (some ⟨cb, 0, none⟩), .pointer (some ⟨gbx, 0, none⟩)] (fun x : Nat => #[.int .i64 (x : Int)]) (KeepC No) (fun x => x ≤ c) (fun xs => ∀ x, x ∈ xs ↔ Reach sup c x) W :=
  fun l J hJ hY h0 => up_body No l c cb gbx gb sup J W hcb hgx hc300 hNo hc hgb hgxn hsup hlt hJ hY h0

theorem upward_any (gb : Option Addr) (c : Nat) (w : World) :
    Calls Try.prog 72 #[.pointer gb, .int .i64 c] w fun e w' => e = .returned (.func (.func 85) #[] #[.pointer (some ⟨w.heap.size + 1, 0, none⟩), .pointer (some ⟨w.heap.size, 0, none⟩)]) ∧ w' = (w.alloc (.cells #[.pointer gb] 114)).alloc (.cells #[.int .i64 (c : Int)] 3) := by
  go_enter Try.func72, Try.ntmps72
  go_wp2
  go_ret
  exact ⟨rfl, rfl⟩

theorem wpListIn_mapAt_ok {F : Fence} {nF : Nat} (w : World) {ops : Array Oper} {rest : List Oper} {o : Oper} {a : Act} {Q : Exit → Act → World → Prop}
    (hg : o.guard = none) (m x : Operand) (hop : o.op = Op.lookup 61 m x true) (b : Nat) (hm : a.eval m = .map (some b)) (ns : List Nm) (hown : MapAt w b ns)
    (s : Nm) (hx : a.eval x = .string (bs s)) (hs : s.length ≤ maxLen)
    (hK : wpListIn F nF Try.prog ops Q rest (a.put o.dst (.tuple #[.int .i64 ((ixOf ns s : Nat) : Int), .bool (inNs ns s)])) w) :
    wpListIn F nF Try.prog ops Q (o :: rest) a w := by
  obtain ⟨D, _, hown, hD⟩ := hown
  refine wpListIn_lookup_own_ok_int w hg m x 61 hop 9 3 .i64 (Maps.string_keyed Try.underlying9) Try.underlying61 Try.underlying3 (zeroE _) b ns.length D hm hown _ _ hx (key_bs hs) ?_
  intro c hat _
  obtain ⟨h1, h2⟩ := hD s
  rw [h2] at hat
  injection hat with hat
  injection hat with _ hat
  rw [h1, ← hat]
  exact hK

theorem idx_snoc (ns : List Nm) (nm s : Nm) (hn : inNs ns nm = false) : inNs (ns ++ [nm]) s = (inNs ns s || decide (s = nm)) ∧ ixOf (ns ++ [nm]) s = if s = nm then ns.length else ixOf ns s := by
  have hn' : nm ∉ ns := of_decide_eq_false hn
  refine ⟨?_, ?_⟩
  · unfold inNs; rw [Bool.eq_iff_iff]; simp
  · unfold ixOf
    by_cases e : s = nm
    · subst e
      rw [if_pos (by simp), if_pos rfl, List.idxOf_append, if_neg hn']
      simp
    · rw [if_neg e]
      by_cases h : s ∈ ns
      · rw [if_pos (by simp [h]), if_pos h, List.idxOf_append, if_pos h]
      · rw [if_neg (by simp [h, e]), if_neg h]

theorem wpListIn_mapAt_put {F : Fence} {nF : Nat} (w : World) {ops : Array Oper} {rest : List Oper} {o : Oper} {a : Act} {Q : Exit → Act → World → Prop}
    (hg : o.guard = none) (m x v : Operand) (hop : o.op = Op.mapUpdate 61 m x v) (b : Nat) (hm : a.eval m = .map (some b)) (ns : List Nm) (hown : MapAt w b ns)
    (s : Nm) (hx : a.eval x = .string (bs s)) (hs : s.length ≤ maxLen) (hv : a.eval v = .int .i64 ((ns.length : Nat) : Int)) (hn : ns.length < 9223372036854775807) (hnew : inNs ns s = false)
    (hK : ∀ w', MapAt w' b (ns ++ [s]) → w.grownBy w' (some b) → wpListIn F nF Try.prog ops Q rest (a.put o.dst undef) w') :
    wpListIn F nF Try.prog ops Q (o :: rest) a w := by
  obtain ⟨D, hI, hown, hD⟩ := hown
  refine wpListIn_mapUpdate_own w hg m x v 61 hop 9 3 (Maps.string_keyed Try.underlying9) Try.underlying61 (plainElem Try.prog 3) b ns.length D hm hown (by unfold maxLen; omega) _ _ _ hx hv (key_bs hs)
    (.lit (.int .i64 ((ns.length : Nat) : Int))) [] (plainElem_int Try.underlying3 (WalkArith.wf_i64 (by omega))) ?_
  intro w' hown' hg'
  refine hK w' ⟨_, hI.put _ _, by simpa using hown', fun t => ?_⟩ hg'
  obtain ⟨e1, e2⟩ := idx_snoc ns s t hnew
  obtain ⟨h1, h2⟩ := hD t
  rw [e1, e2]
  by_cases e : t = s
  · subst e
    rw [Maps.has_put_same hI (by trivial), Maps.atKey_put_same hI (by trivial)]
    simp
  · have hne : (Lit.string t) ≠ Lit.string s := fun h => e (by injection h)
    rw [Maps.has_put_other hne, Maps.atKey_put_other hne, h1, h2]
    simp [e]

end Go.Proofs.Ytehnikgdjnmfcaa
