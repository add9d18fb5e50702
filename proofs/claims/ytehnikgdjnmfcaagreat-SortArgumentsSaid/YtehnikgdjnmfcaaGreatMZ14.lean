/- Less and Meet: pure facts. -/
import Derived.Test.YtehnikgdjnmfcaaGreatMZ11
namespace Go.Proofs.YtehnikgdjnmfcaaGreat
open Go.RowKit Go.WideMaps Go.Shelf Go.Sort Go.Lib

section
variable {cs : List (Nm × List Nm)} {sp ab : List (List Nat)}

theorem lessB_eq (hb : Built cs sp ab) {sp' ab' : List (List Nat)} (hb' : Built cs sp' ab') {ss ts : List Nm} (hs : ∀ x ∈ ss, inNs (cs.map Prod.fst) x = true) (ht : ∀ x ∈ ts, inNs (cs.map Prod.fst) x = true) :
    lessB (cs.map Prod.fst) (fun i => ab'.getD i []) ss ts = lessB (cs.map Prod.fst) (fun i => ab.getD i []) ss ts := by
  have e := hb.det hb'
  subst e
  rw [Bool.eq_iff_iff, lessB_iff hb' hs ht, lessB_iff hb hs ht]

theorem less_refl (hb : Built cs sp ab) {ss : List Nm} (hs : ∀ x ∈ ss, inNs (cs.map Prod.fst) x = true) : lessB (cs.map Prod.fst) (fun i => ab.getD i []) ss ss = true :=
  (lessB_iff hb hs hs).2 fun c hc => ⟨c, hc, Reach.self⟩

theorem least_known (hb : Built cs sp ab) {ss : List Nm} (hs : ∀ x ∈ ss, inNs (cs.map Prod.fst) x = true) : ∀ x ∈ leastB (cs.map Prod.fst) (fun i => ab.getD i []) ss, inNs (cs.map Prod.fst) x = true :=
  fun x hx => hs x (least_sub hb x hx)

theorem least_less (hb : Built cs sp ab) {ss : List Nm} (hs : ∀ x ∈ ss, inNs (cs.map Prod.fst) x = true) : lessB (cs.map Prod.fst) (fun i => ab.getD i []) (leastB (cs.map Prod.fst) (fun i => ab.getD i []) ss) ss = true :=
  (lessB_iff hb (least_known hb hs) hs).2 fun c hc => below_least hb hs _ c hc (Nat.le_refl _)

theorem less_least (hb : Built cs sp ab) {ss : List Nm} (hs : ∀ x ∈ ss, inNs (cs.map Prod.fst) x = true) : lessB (cs.map Prod.fst) (fun i => ab.getD i []) ss (leastB (cs.map Prod.fst) (fun i => ab.getD i []) ss) = true :=
  (lessB_iff hb hs (least_known hb hs)).2 fun c hc => ⟨c, least_sub hb c hc, Reach.self⟩

theorem less_trans (hb : Built cs sp ab) {ss ts us : List Nm} (hs : ∀ x ∈ ss, inNs (cs.map Prod.fst) x = true) (ht : ∀ x ∈ ts, inNs (cs.map Prod.fst) x = true) (hu : ∀ x ∈ us, inNs (cs.map Prod.fst) x = true)
    (h1 : lessB (cs.map Prod.fst) (fun i => ab.getD i []) ss ts = true) (h2 : lessB (cs.map Prod.fst) (fun i => ab.getD i []) ts us = true) : lessB (cs.map Prod.fst) (fun i => ab.getD i []) ss us = true := by
  rw [lessB_iff hb hs ht] at h1
  rw [lessB_iff hb ht hu] at h2
  rw [lessB_iff hb hs hu]
  intro c hc
  obtain ⟨d, hd, l1⟩ := h2 c hc
  obtain ⟨e, he, l2⟩ := h1 d hd
  exact ⟨e, he, Reach.trans l2 l1⟩

theorem meet_less (hb : Built cs sp ab) {ss ts us : List Nm} (hs : ∀ x ∈ ss, inNs (cs.map Prod.fst) x = true) (hu : ∀ x ∈ us, inNs (cs.map Prod.fst) x = true) (hsub : ∀ x ∈ us, x ∈ ss) (_ : ts = ts) :
    lessB (cs.map Prod.fst) (fun i => ab.getD i []) (leastB (cs.map Prod.fst) (fun i => ab.getD i []) ss) us = true :=
  (lessB_iff hb (least_known hb hs) hu).2 fun c hc => below_least hb hs _ c (hsub c hc) (Nat.le_refl _)

theorem less_meet (hb : Built cs sp ab) {ss ts us : List Nm} (hs : ∀ x ∈ ss, inNs (cs.map Prod.fst) x = true) (ht : ∀ x ∈ ts, inNs (cs.map Prod.fst) x = true) (hu : ∀ x ∈ us, inNs (cs.map Prod.fst) x = true) :
    lessB (cs.map Prod.fst) (fun i => ab.getD i []) us (leastB (cs.map Prod.fst) (fun i => ab.getD i []) (ss ++ ts)) = (lessB (cs.map Prod.fst) (fun i => ab.getD i []) us ss && lessB (cs.map Prod.fst) (fun i => ab.getD i []) us ts) := by
  have hst : ∀ x ∈ ss ++ ts, inNs (cs.map Prod.fst) x = true := fun x hx => (List.mem_append.1 hx).elim (hs x) (ht x)
  rw [Bool.eq_iff_iff, Bool.and_eq_true, lessB_iff hb hu (least_known hb hst), lessB_iff hb hu hs, lessB_iff hb hu ht]
  constructor
  · intro h
    constructor
    · intro c hc
      obtain ⟨m, hm, l1⟩ := below_least hb hst _ c (List.mem_append_left _ hc) (Nat.le_refl _)
      obtain ⟨d, hd, l2⟩ := h m hm
      exact ⟨d, hd, Reach.trans l2 l1⟩
    · intro c hc
      obtain ⟨m, hm, l1⟩ := below_least hb hst _ c (List.mem_append_right _ hc) (Nat.le_refl _)
      obtain ⟨d, hd, l2⟩ := h m hm
      exact ⟨d, hd, Reach.trans l2 l1⟩
  · rintro ⟨h1, h2⟩ c hc
    exact (List.mem_append.1 (least_sub hb c hc)).elim (h1 c) (h2 c)
end
end Go.Proofs.YtehnikgdjnmfcaaGreat

