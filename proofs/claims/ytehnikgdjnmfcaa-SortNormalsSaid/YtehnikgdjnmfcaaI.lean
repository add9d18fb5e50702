/- upward: the closure hands out what is above a class. -/
import Derived.Test.YtehnikgdjnmfcaaH
import Derived.WalkSmall
namespace Go.Proofs.Ytehnikgdjnmfcaa
open Go.RowKit Go.WideMaps Go.Shelf
attribute [local go_sem] Oper.semAt_some

/-- a class is above another one -/
inductive Reach (sup : Nat → List Nat) (c : Nat) : Nat → Prop
  | self : Reach sup c c
  | step {k s : Nat} : Reach sup c k → s ∈ sup k → Reach sup c s

/-- what holds between two rounds: handed out, waiting, seen -/
structure UpInv (sup : Nat → List Nat) (c : Nat) (pre wk seen : List Nat) : Prop where
  nodup : seen.Nodup
  le : ∀ x ∈ seen, x ≤ c
  perm : (wk ++ pre).Perm seen
  mem : c ∈ seen
  closed : ∀ x ∈ pre, ∀ s ∈ sup x, s ∈ seen
  reach : ∀ x ∈ seen, Reach sup c x

theorem nodup_le (c : Nat) : ∀ l : List Nat, l.Nodup → (∀ x ∈ l, x ≤ c) → l.length ≤ c + 1 := by
  induction c with
  | zero =>
    intro l hn hl
    match l with
    | [] => simp
    | [x] => simp
    | x :: y :: r =>
      have h1 := hl x (by simp); have h2 := hl y (by simp)
      have : x = y := by omega
      simp [this] at hn
  | succ c ih =>
    intro l hn hl
    have h1 := ih (l.erase (c + 1)) (hn.erase _) (fun x hx => by
      have h2 := hl x (List.mem_of_mem_erase hx)
      have h3 : x ≠ c + 1 := fun e => by subst e; exact (List.Nodup.not_mem_erase hn) hx
      omega)
    have := List.length_erase_le (a := c + 1) (l := l)
    have h4 : l.length ≤ (l.erase (c + 1)).length + 1 := by
      by_cases hm : c + 1 ∈ l
      · rw [List.length_erase_of_mem hm]; omega
      · rw [List.erase_of_not_mem hm]; omega
    omega

theorem UpInv.len {sup : Nat → List Nat} {c : Nat} {pre wk seen : List Nat} (h : UpInv sup c pre wk seen) : seen.length ≤ c + 1 ∧ wk.length + pre.length = seen.length := by
  refine ⟨nodup_le c seen h.nodup h.le, ?_⟩
  have := h.perm.length_eq
  simpa using this

theorem UpInv.start (sup : Nat → List Nat) (c : Nat) : UpInv sup c [] [c] [c] :=
  ⟨by simp, by simp, by simp, by simp, by simp, by intro x hx; simp at hx; subst hx; exact .self⟩

/-- what holds within a round: the class that was handed out last has given its first j supers -/
structure RowInv (sup : Nat → List Nat) (c : Nat) (pre : List Nat) (k j : Nat) (wk seen : List Nat) : Prop where
  nodup : seen.Nodup
  le : ∀ x ∈ seen, x ≤ c
  perm : (wk ++ (pre ++ [k])).Perm seen
  mem : c ∈ seen
  closed : ∀ x ∈ pre, ∀ s ∈ sup x, s ∈ seen
  row : ∀ s ∈ (sup k).take j, s ∈ seen
  reach : ∀ x ∈ seen, Reach sup c x

theorem UpInv.pop {sup : Nat → List Nat} {c : Nat} {pre wk seen : List Nat} {k : Nat} (h : UpInv sup c pre (wk ++ [k]) seen) : RowInv sup c pre k 0 wk seen :=
  ⟨h.nodup, h.le, by
    refine List.Perm.trans ?_ h.perm
    rw [List.append_assoc]
    exact List.Perm.append_left _ (List.perm_append_comm), h.mem, h.closed, by simp, h.reach⟩

theorem RowInv.len {sup : Nat → List Nat} {c k j : Nat} {pre wk seen : List Nat} (h : RowInv sup c pre k j wk seen) : seen.length ≤ c + 1 ∧ wk.length + pre.length + 1 = seen.length := by
  refine ⟨nodup_le c seen h.nodup h.le, ?_⟩
  have := h.perm.length_eq
  simp at this; omega

theorem RowInv.kmem {sup : Nat → List Nat} {c k j : Nat} {pre wk seen : List Nat} (h : RowInv sup c pre k j wk seen) : k ∈ seen := h.perm.subset (by simp)

theorem RowInv.skip {sup : Nat → List Nat} {c k j : Nat} {pre wk seen : List Nat} (h : RowInv sup c pre k j wk seen) (hj : j < (sup k).length) (hs : (sup k).getD j 0 ∈ seen) : RowInv sup c pre k (j + 1) wk seen :=
  ⟨h.nodup, h.le, h.perm, h.mem, h.closed, fun s hs' => by
    rw [take_snocD _ 0 _ hj] at hs'
    rcases List.mem_append.1 hs' with h1 | h1
    · exact h.row s h1
    · simp at h1; rw [h1]; simpa using hs, h.reach⟩

theorem RowInv.add {sup : Nat → List Nat} {c k j : Nat} {pre wk seen : List Nat} (h : RowInv sup c pre k j wk seen) (hj : j < (sup k).length) (hs : (sup k).getD j 0 ∉ seen) (hle : (sup k).getD j 0 ≤ c) :
    RowInv sup c pre k (j + 1) (wk ++ [(sup k).getD j 0]) (seen ++ [(sup k).getD j 0]) :=
  ⟨by rw [List.nodup_append]; exact ⟨h.nodup, by simp, fun a ha b hb => by simp at hb; subst hb; intro e; subst e; exact hs ha⟩,
   fun x hx => (List.mem_append.1 hx).elim (h.le x) (fun e => by simp at e; rw [e]; exact hle),
   by
    have h1 : ((wk ++ [(sup k).getD j 0]) ++ (pre ++ [k])).Perm ((wk ++ (pre ++ [k])) ++ [(sup k).getD j 0]) := by
      rw [List.append_assoc, List.append_assoc wk]
      exact List.Perm.append_left _ List.perm_append_comm
    exact h1.trans (h.perm.append_right _),
   List.mem_append_left _ h.mem, fun x hx s hs' => List.mem_append_left _ (h.closed x hx s hs'),
   fun s hs' => by
    rw [take_snocD _ 0 _ hj] at hs'
    rcases List.mem_append.1 hs' with h1 | h1
    · exact List.mem_append_left _ (h.row s h1)
    · exact List.mem_append_right _ h1,
   fun x hx => (List.mem_append.1 hx).elim (h.reach x) (fun e => by
    simp at e; rw [e]; exact .step (h.reach k h.kmem) (by simpa using getD_mem (sup k) 0 j hj))⟩

theorem RowInv.close {sup : Nat → List Nat} {c k : Nat} {pre wk seen : List Nat} (h : RowInv sup c pre k (sup k).length wk seen) : UpInv sup c (pre ++ [k]) wk seen :=
  ⟨h.nodup, h.le, h.perm, h.mem, fun x hx s hs => by
    rcases List.mem_append.1 hx with h1 | h1
    · exact h.closed x h1 s hs
    · simp at h1; subst h1; exact h.row s (by simpa using hs), h.reach⟩

theorem UpInv.done {sup : Nat → List Nat} {c : Nat} {pre seen : List Nat} (h : UpInv sup c pre [] seen) : ∀ x, x ∈ pre ↔ Reach sup c x := by
  have hp : pre.Perm seen := by simpa using h.perm
  intro x
  refine ⟨fun hx => h.reach x (hp.subset hx), fun hr => ?_⟩
  induction hr with
  | self => exact hp.symm.subset h.mem
  | step _ hs ih => exact hp.symm.subset (h.closed _ ih _ hs)

end Go.Proofs.Ytehnikgdjnmfcaa
