/- The order of classes: pure facts. -/
import Derived.Test.YtehnikgdjnmfcaaR
namespace Go.Proofs.Ytehnikgdjnmfcaa
open Go.RowKit Go.WideMaps Go.Shelf Go.Sort Go.Lib

/-! ### Reach -/
theorem Reach.trans {sup : Nat → List Nat} {a b c : Nat} (h : Reach sup a b) (k : Reach sup b c) : Reach sup a c := by
  induction k with
  | self => exact h
  | step _ hs ih => exact .step ih hs

theorem Reach.le {sup : Nat → List Nat} (hs : ∀ i, ∀ s ∈ sup i, s < i) {a b : Nat} (h : Reach sup a b) : b ≤ a := by
  induction h with
  | self => exact Nat.le_refl _
  | step _ hm ih => have := hs _ _ hm; omega

theorem Reach.congr {sup sup' : Nat → List Nat} (hs : ∀ i, ∀ s ∈ sup i, s < i) {a b : Nat} (h : Reach sup a b) (he : ∀ i, i ≤ a → sup i = sup' i) : Reach sup' a b := by
  induction h with
  | self => exact .self
  | step hr hm ih => exact .step ih (by rw [← he _ (Reach.le hs hr)]; exact hm)

theorem Built.lt' {cs : List (Nm × List Nm)} {sp ab : List (List Nat)} (h : Built cs sp ab) : ∀ i, ∀ s ∈ sp.getD i [], s < i := by
  intro i s hs
  by_cases hi : i < cs.length
  · exact h.lt i hi s hs
  · rw [List.getD_eq_getElem?_getD, List.getElem?_eq_none (by have := h.len.1; omega)] at hs
    simp at hs

theorem Built.mem {cs : List (Nm × List Nm)} {sp ab : List (List Nat)} (h : Built cs sp ab) : ∀ i, i < cs.length → ∀ x, x ∈ ab.getD i [] ↔ Reach (fun i => sp.getD i []) i x := by
  induction h with
  | nil => intro i hi; simp at hi
  | @snoc cs sp ab nm sups ys hb he hy ih =>
    intro i hi x
    have hl := hb.len
    have hlt := hb.lt'
    have hlt2 := (Built.snoc hb he hy).lt'
    by_cases hin : i < cs.length
    · rw [getD_left ab _ i (by omega), ih i hin x]
      have he : ∀ k, k ≤ i → (fun i => sp.getD i []) k = (fun i => (sp ++ [sups.map (ixOf (cs.map Prod.fst))]).getD i []) k := fun k hk => (getD_left sp _ k (by omega)).symm
      exact ⟨fun h => h.congr hlt he, fun h => h.congr hlt2 (fun k hk => (he k hk).symm)⟩
    · have hieq : i = ab.length := by simp at hi; omega
      rw [hieq, getD_last, hl.2]
      exact hy x

theorem Built.det {cs : List (Nm × List Nm)} {sp ab : List (List Nat)} (h : Built cs sp ab) : ∀ {sp' ab' : List (List Nat)}, Built cs sp' ab' → sp = sp' := by
  induction h with
  | nil =>
    intro sp' ab' k
    have := k.len.1
    exact (List.eq_nil_of_length_eq_zero (by simpa using this)).symm
  | @snoc cs sp ab nm sups ys hb he hy ih =>
    intro sp' ab' k
    generalize hc : cs ++ [(nm, sups)] = cs2 at k
    cases k with
    | nil => simp at hc
    | @snoc cs' sp2 ab2 nm' sups' ys' hb' he' hy' =>
      obtain ⟨e1, e2⟩ := List.append_inj' hc rfl
      injection e2 with e3 _
      injection e3 with e4 e5
      subst e1 e4 e5
      rw [ih hb']

theorem Built.nodup {cs : List (Nm × List Nm)} {sp ab : List (List Nat)} (h : Built cs sp ab) : (cs.map Prod.fst).Nodup := by
  induction h with
  | nil => simp
  | @snoc cs sp ab nm sups ys hb he hy ih =>
    have h2 := (classErr_zero he).2.1
    have h3 : nm ∉ cs.map Prod.fst := of_decide_eq_false h2
    rw [List.map_append, List.nodup_append]
    refine ⟨ih, by simp, fun a ha b hb2 e => ?_⟩
    simp at hb2
    subst e
    rw [hb2] at ha
    exact h3 ha

/-! ### strictly ascending lists -/
def ascB (l : List Nm) : Prop := l.Pairwise fun x y => Lib.compareBytes x y < 0

theorem cb_irr (a : Nm) : ¬ Lib.compareBytes a a < 0 := by rw [cb_refl]; decide

theorem ascB.uniq : ∀ {l m : List Nm}, ascB l → ascB m → (∀ x, x ∈ l ↔ x ∈ m) → l = m
  | [], [], _, _, _ => rfl
  | [], b :: m, _, _, h => absurd ((h b).2 (by simp)) (by simp)
  | a :: l, [], _, _, h => absurd ((h a).1 (by simp)) (by simp)
  | a :: l, b :: m, h1, h2, h => by
    obtain ⟨ha, hl⟩ := List.pairwise_cons.1 h1
    obtain ⟨hb, hm⟩ := List.pairwise_cons.1 h2
    have e : a = b := by
      rcases List.mem_cons.1 ((h a).1 (by simp)) with e | e
      · exact e
      · rcases List.mem_cons.1 ((h b).2 (by simp)) with e' | e'
        · exact e'.symm
        · have x1 := hb a e
          have x2 := ha b e'
          have := cb_swap a b
          omega
    subst e
    rw [ascB.uniq (l := l) (m := m) hl hm (fun x => ⟨fun hx => ?_, fun hx => ?_⟩)]
    · rcases List.mem_cons.1 ((h x).1 (by simp [hx])) with e | e
      · subst e; exact absurd (ha _ hx) (cb_irr _)
      · exact e
    · rcases List.mem_cons.1 ((h x).2 (by simp [hx])) with e | e
      · subst e; exact absurd (hb _ hx) (cb_irr _)
      · exact e

theorem sortB_sorted (ss : List Nm) : (sortB ss).Pairwise fun x y => ¬ Lib.compareBytes y x < 0 := by
  have h := List.pairwise_mergeSort (le := fun x y : Nm => !ltOf Lib.compareBytes y x) (fun a b c h1 h2 => by
      have h1' : ltOf Lib.compareBytes b a = false := by simpa using h1
      have h2' : ltOf Lib.compareBytes c b = false := by simpa using h2
      rw [swoB.ntrans c b a h2' h1']; rfl)
    (fun a b => by
      by_cases h : ltOf Lib.compareBytes b a = true
      · have : ltOf Lib.compareBytes a b = false := by
          by_cases h' : ltOf Lib.compareBytes a b = true
          · have := swoB.trans _ _ _ h h'
            rw [swoB.irrefl] at this; cases this
          · simpa using h'
        simp [this]
      · have : ltOf Lib.compareBytes b a = false := by simpa using h
        simp [this]) ss
  exact h.imp (fun {a b} h => by
    have : ltOf Lib.compareBytes b a = false := by simpa using h
    exact of_decide_eq_false this)

theorem compactUpTo_asc (zs : List Nm) (hs : zs.Pairwise fun x y => ¬ Lib.compareBytes y x < 0) : ∀ m, m ≤ zs.length → (∀ x, x ∈ compactUpTo zs.toArray m ↔ ∃ j, j < m ∧ zs[j]! = x) ∧ ascB (compactUpTo zs.toArray m)
  | 0, _ => ⟨fun x => by simp [compactUpTo], by simp [compactUpTo, ascB]⟩
  | m + 1, hm => by
    obtain ⟨h1, h2⟩ := compactUpTo_asc zs hs m (by omega)
    have hle : ∀ j, j < m → ¬ Lib.compareBytes zs[m]! zs[j]! < 0 := fun j hj => by
      rw [getElem!_pos zs m (by omega), getElem!_pos zs j (by omega)]
      exact List.pairwise_iff_getElem.1 hs j m (by omega) (by omega) hj
    rw [compactUpTo_succ]
    by_cases hk : keeps zs.toArray m = true
    · rw [if_pos hk]
      constructor
      · intro x
        rw [List.mem_append, h1]
        simp only [List.getElem!_toArray, List.mem_singleton]
        constructor
        · rintro (⟨j, hj, e⟩ | e)
          · exact ⟨j, by omega, e⟩
          · exact ⟨m, by omega, e.symm⟩
        · rintro ⟨j, hj, e⟩
          by_cases hjm : j = m
          · subst hjm; exact .inr e.symm
          · exact .inl ⟨j, by omega, e⟩
      · refine List.pairwise_append.2 ⟨h2, by simp, fun x hx y hy => ?_⟩
        simp only [List.getElem!_toArray, List.mem_singleton] at hy
        subst hy
        obtain ⟨j, hj, rfl⟩ := (h1 x).1 hx
        have hk' : zs[m]! ≠ zs[m - 1]! := by
          have := of_decide_eq_true hk
          simp only [List.getElem!_toArray] at this
          rcases this with e | e
          · omega
          · exact e
        have l1 := hle (m - 1) (by omega)
        have l2 : ¬ Lib.compareBytes zs[m - 1]! zs[j]! < 0 := by
          by_cases e : j = m - 1
          · rw [e]; exact cb_irr _
          · rw [getElem!_pos zs (m - 1) (by omega), getElem!_pos zs j (by omega)]
            exact List.pairwise_iff_getElem.1 hs j (m - 1) (by omega) (by omega) (by omega)
        have s1 := cb_swap zs[m - 1]! zs[m]!
        have n1 : Lib.compareBytes zs[m - 1]! zs[m]! ≠ 0 := fun e => hk' (cb_eq _ _ e).symm
        have t1 : Lib.compareBytes zs[m - 1]! zs[m]! < 0 := by omega
        by_cases e : Lib.compareBytes zs[j]! zs[m - 1]! = 0
        · rw [cb_eq _ _ e]; exact t1
        · have s2 := cb_swap zs[j]! zs[m - 1]!
          exact cb_trans _ _ _ (by omega) t1
    · rw [if_neg hk, List.append_nil]
      refine ⟨fun x => ?_, h2⟩
      rw [h1]
      have hk2 := of_decide_eq_false (by simpa using hk : keeps zs.toArray m = false)
      simp only [List.getElem!_toArray] at hk2
      have hm0 : m ≠ 0 := fun e => hk2 (.inl e)
      have hmm : zs[m]! = zs[m - 1]! := Classical.byContradiction fun e => hk2 (.inr e)
      constructor
      · rintro ⟨j, hj, e⟩; exact ⟨j, by omega, e⟩
      · rintro ⟨j, hj, e⟩
        by_cases hjm : j = m
        · subst hjm; exact ⟨j - 1, by omega, by rw [← hmm]; exact e⟩
        · exact ⟨j, by omega, e⟩

theorem onceB_asc (ss : List Nm) : ascB (onceB ss) := (compactUpTo_asc (sortB ss) (sortB_sorted ss) _ (Nat.le_refl _)).2
theorem onceB_mem (ss : List Nm) (x : Nm) : x ∈ onceB ss ↔ x ∈ ss := by
  rw [← (sortB_perm ss).mem_iff]
  refine ((compactUpTo_asc (sortB ss) (sortB_sorted ss) _ (Nat.le_refl _)).1 x).trans ⟨?_, fun h => ?_⟩
  · rintro ⟨j, hj, rfl⟩
    rw [getElem!_pos (sortB ss) j hj]; exact List.getElem_mem hj
  · obtain ⟨j, hj, e⟩ := List.mem_iff_getElem.1 h
    exact ⟨j, hj, by rw [getElem!_pos (sortB ss) j hj]; exact e⟩

theorem leastB_asc (ns : List Nm) (abv : Nat → List Nat) (ss : List Nm) : ascB (leastB ns abv ss) := (onceB_asc ss).filter _

end Go.Proofs.Ytehnikgdjnmfcaa
