/- Ground: what it finds; keys of sorts. -/
import Derived.Test.YtehnikgdjnmfcaaGreatMZ26
import Derived.Lib.Join
namespace Go.Proofs.YtehnikgdjnmfcaaGreat
open Go.RowKit Go.WideMaps Go.Shelf

/-- whether there is a type of at most a depth that has a sort -/
def gB (cs : List (Nm × List Nm)) (abl : List (List Nat)) (ds : List (Nm × Int)) (rs : List Ar) : Nat → List Nm → Bool
  | 0, _ => false
  | d + 1, s => ds.any fun dc => hasAll rs dc.1 s && (wantC cs abl ds rs dc.1 s).all (gB cs abl ds rs d)

theorem gB_mono {cs : List (Nm × List Nm)} {abl : List (List Nat)} {ds : List (Nm × Int)} {rs : List Ar} : ∀ (d : Nat) (s : List Nm), gB cs abl ds rs d s = true → gB cs abl ds rs (d + 1) s = true
  | 0, _, h => by cases h
  | d + 1, s, h => by
    unfold gB at h ⊢
    obtain ⟨dc, h1, h2⟩ := List.any_eq_true.1 h
    refine List.any_eq_true.2 ⟨dc, h1, ?_⟩
    rw [Bool.and_eq_true] at h2 ⊢
    refine ⟨h2.1, List.all_eq_true.2 fun x hx => gB_mono d x (List.all_eq_true.1 h2.2 x hx)⟩

/-- a name: not empty, and without commas -/
def plainN (x : Nm) : Prop := x ≠ [] ∧ ∀ c ∈ x, c ≠ 44

theorem inB_comma {c : UInt8} (h : inB (byteI c) = true) : c ≠ 44 := by
  intro e
  subst e
  revert h
  decide

theorem name_plain {x : Nm} (h : isNameB (bs x) = true) : plainN x := by
  unfold isNameB at h
  simp only [Bool.and_eq_true, decide_eq_true_eq] at h
  obtain ⟨⟨⟨h1, _⟩, h3⟩, h4⟩ := h
  rw [bs_size] at h1
  have hd : (bs x).data.toList = x := by simp [bs]
  rw [hd] at h3 h4
  match x, h1, h3, h4 with
  | a :: r, _, h3, h4 =>
    refine ⟨by simp, fun c hc => ?_⟩
    rcases List.mem_cons.1 hc with rfl | hc
    · refine inB_comma ?_
      unfold inB
      have e : (c :: r).getD 0 0 = c := rfl
      rw [e] at h3
      rw [h3]; rfl
    · exact inB_comma (List.all_eq_true.1 h4 c (by simpa using hc))

theorem Built.plain {cs : List (Nm × List Nm)} {sp abl : List (List Nat)} (h : Built cs sp abl) : ∀ x ∈ cs.map Prod.fst, plainN x := by
  induction h with
  | nil => intro x hx; exact absurd hx (by simp)
  | @snoc cs sp ab nm sups ys hb he hy ih =>
    intro x hx
    rw [List.map_append, List.mem_append] at hx
    rcases hx with hx | hx
    · exact ih x hx
    · have hx : x = nm := by simpa using hx
      subst hx
      exact name_plain (classErr_zero he).1

def joinB (s : List Nm) : Nm := Lib.join s [44]

theorem split_comma : ∀ {x y u v : List UInt8}, (∀ c ∈ x, c ≠ 44) → (∀ c ∈ y, c ≠ 44) → x ++ 44 :: u = y ++ 44 :: v → x = y ∧ u = v
  | [], [], _, _, _, _, h => by simpa using h
  | [], b :: y, _, _, _, hy, h => by
    simp only [List.nil_append, List.cons_append] at h
    injection h with h
    exact absurd h.symm (hy b (by simp))
  | a :: x, [], _, _, hx, _, h => by
    simp only [List.nil_append, List.cons_append] at h
    injection h with h
    exact absurd h (hx a (by simp))
  | a :: x, b :: y, u, v, hx, hy, h => by
    simp only [List.cons_append] at h
    injection h with h1 h2
    obtain ⟨e1, e2⟩ := split_comma (fun c hc => hx c (by simp [hc])) (fun c hc => hy c (by simp [hc])) h2
    exact ⟨by rw [h1, e1], e2⟩

theorem tail_none {x : List UInt8} {v : List UInt8} {y : List UInt8} (hx : ∀ c ∈ x, c ≠ 44) (h : x = y ++ 44 :: v) : False :=
  hx 44 (by rw [h]; simp) rfl

theorem joinT_cons (x : Nm) (r : List Nm) : Lib.joinTail [44] (x :: r) = 44 :: (x ++ Lib.joinTail [44] r) := by
  simp [Lib.joinTail]

theorem join_inj : ∀ {s t : List Nm}, (∀ x ∈ s, plainN x) → (∀ x ∈ t, plainN x) → joinB s = joinB t → s = t
  | [], [], _, _, _ => rfl
  | [], y :: t, _, ht, h => by
    unfold joinB at h
    rw [Lib.join_nil, Lib.join_cons] at h
    have := (ht y (by simp)).1
    rcases y with _ | ⟨b, y⟩
    · exact absurd rfl this
    · simp at h
  | x :: s, [], hs, _, h => by
    unfold joinB at h
    rw [Lib.join_nil, Lib.join_cons] at h
    have := (hs x (by simp)).1
    rcases x with _ | ⟨b, x⟩
    · exact absurd rfl this
    · simp at h
  | [x], [y], _, _, h => by
    unfold joinB at h
    rw [Lib.join_one, Lib.join_one] at h
    rw [h]
  | [x], y :: z :: t, hs, _, h => by
    unfold joinB at h
    rw [Lib.join_one, Lib.join_cons, joinT_cons] at h
    exact (tail_none (hs x (by simp)).2 h).elim
  | x :: z :: s, [y], _, ht, h => by
    unfold joinB at h
    rw [Lib.join_one, Lib.join_cons, joinT_cons] at h
    exact (tail_none (ht y (by simp)).2 h.symm).elim
  | x :: z :: s, y :: z' :: t, hs, ht, h => by
    unfold joinB at h
    rw [Lib.join_cons, Lib.join_cons, joinT_cons, joinT_cons] at h
    obtain ⟨e1, e2⟩ := split_comma (hs x (by simp)).2 (ht y (by simp)).2 h
    have e3 : joinB (z :: s) = joinB (z' :: t) := by unfold joinB; rw [Lib.join_cons, Lib.join_cons]; exact e2
    rw [e1, join_inj (fun u hu => hs u (by simp at hu ⊢; exact .inr hu)) (fun u hu => ht u (by simp at hu ⊢; exact .inr hu)) e3]

theorem join_len : ∀ (s : List Nm), (∀ x ∈ s, x.length ≤ 40) → (joinB s).length ≤ s.length * 41
  | [], _ => by simp [joinB, Lib.join_nil]
  | x :: r, h => by
    unfold joinB
    rw [Lib.join_cons, List.length_append]
    have h1 := h x (by simp)
    have h2 : (Lib.joinTail [44] r).length ≤ r.length * 41 := by
      have hr : ∀ y ∈ r, y.length ≤ 40 := fun y hy => h y (by simp [hy])
      clear h h1
      induction r with
      | nil => simp [Lib.joinTail]
      | cons y r ih =>
        rw [joinT_cons, List.length_cons, List.length_append, List.length_cons]
        have := hr y (by simp)
        have := ih (fun z hz => hr z (by simp [hz]))
        omega
    rw [List.length_cons]; omega
end Go.Proofs.YtehnikgdjnmfcaaGreat

