/- The least classes: pure facts. -/
import Derived.Test.YtehnikgdjnmfcaaV
namespace Go.Proofs.Ytehnikgdjnmfcaa
open Go.RowKit Go.WideMaps Go.Shelf Go.Sort Go.Lib

def leN (ns : List Nm) (sp : List (List Nat)) (d c : Nm) : Prop := Reach (fun i => sp.getD i []) (ixOf ns d) (ixOf ns c)

theorem ix_inj {ns : List Nm} {c d : Nm} (hc : inNs ns c = true) (hd : inNs ns d = true) (h : ixOf ns c = ixOf ns d) : c = d := by
  have hc := of_decide_eq_true hc
  have hd := of_decide_eq_true hd
  unfold ixOf at h
  rw [if_pos hc, if_pos hd] at h
  have e1 := List.getElem_idxOf (List.idxOf_lt_length_of_mem hc)
  have e2 := List.getElem_idxOf (List.idxOf_lt_length_of_mem hd)
  rw [← e1, ← e2]
  simp only [h]

theorem leN.anti {cs : List (Nm × List Nm)} {sp ab : List (List Nat)} (hb : Built cs sp ab) {ns : List Nm} {d c : Nm} (hd : inNs ns d = true) (hc : inNs ns c = true) (h : leN ns sp d c) (k : leN ns sp c d) : d = c :=
  ix_inj hd hc (by have := Reach.le hb.lt' h; have := Reach.le hb.lt' k; omega)

section
variable {cs : List (Nm × List Nm)} {sp ab : List (List Nat)}

theorem belowB_iff (hb : Built cs sp ab) {d c : Nm} (hd : inNs (cs.map Prod.fst) d = true) : belowB (cs.map Prod.fst) (fun i => ab.getD i []) d c = true ↔ leN (cs.map Prod.fst) sp d c := by
  unfold belowB leN
  rw [wordsOf_mem, decide_eq_true_iff]
  exact hb.mem _ (by have := ixOf_lt hd; simpa using this) _

theorem dropB_iff (hb : Built cs sp ab) {d c : Nm} (hd : inNs (cs.map Prod.fst) d = true) (hc : inNs (cs.map Prod.fst) c = true) : dropB (cs.map Prod.fst) (fun i => ab.getD i []) c d = true ↔ d ≠ c ∧ leN (cs.map Prod.fst) sp d c := by
  unfold dropB
  rw [Bool.and_eq_true, belowB_iff hb hd]
  refine and_congr_left fun _ => ⟨fun h e => ?_, fun h => ?_⟩
  · subst e; simp at h
  · simp only [Bool.not_eq_true', beq_eq_false_iff_ne, ne_eq]
    exact fun e => h (ix_inj hd hc e)

theorem mem_least (hb : Built cs sp ab) {ss : List Nm} (hk : ∀ x ∈ ss, inNs (cs.map Prod.fst) x = true) (x : Nm) :
    x ∈ leastB (cs.map Prod.fst) (fun i => ab.getD i []) ss ↔ x ∈ ss ∧ ∀ d ∈ ss, leN (cs.map Prod.fst) sp d x → d = x := by
  unfold leastB
  rw [List.mem_filter, onceB_mem]
  refine and_congr_right fun hx => ?_
  rw [Bool.not_eq_true', List.any_eq_false]
  constructor
  · intro h d hd hle
    refine Classical.byContradiction fun hne => h d ((onceB_mem ss d).2 hd) ((dropB_iff hb (hk d hd) (hk x hx)).2 ⟨hne, hle⟩)
  · intro h d hd hdr
    have hd' := (onceB_mem ss d).1 hd
    obtain ⟨h1, h2⟩ := (dropB_iff hb (hk d hd') (hk x hx)).1 hdr
    exact h1 (h d hd' h2)

theorem least_eq (hb : Built cs sp ab) {sp' ab' : List (List Nat)} (hb' : Built cs sp' ab') {ss tt : List Nm} (hk : ∀ x ∈ ss, inNs (cs.map Prod.fst) x = true) (he : ∀ x, x ∈ ss ↔ x ∈ tt) :
    leastB (cs.map Prod.fst) (fun i => ab.getD i []) ss = leastB (cs.map Prod.fst) (fun i => ab'.getD i []) tt := by
  have hsp := hb.det hb'
  subst hsp
  refine ascB.uniq (leastB_asc _ _ _) (leastB_asc _ _ _) fun x => ?_
  rw [mem_least hb hk, mem_least hb' (fun x hx => hk x ((he x).2 hx)), he]
  exact and_congr_right fun _ => ⟨fun h d hd => h d ((he d).2 hd), fun h d hd => h d ((he d).1 hd)⟩

theorem least_sub (_hb : Built cs sp ab) {ss : List Nm} : ∀ x ∈ leastB (cs.map Prod.fst) (fun i => ab.getD i []) ss, x ∈ ss := fun x hx => (onceB_mem ss x).1 (List.mem_filter.1 hx).1

theorem least_least (hb : Built cs sp ab) {sp' ab' : List (List Nat)} (hb' : Built cs sp' ab') {ss : List Nm} (hk : ∀ x ∈ ss, inNs (cs.map Prod.fst) x = true) :
    leastB (cs.map Prod.fst) (fun i => ab'.getD i []) (leastB (cs.map Prod.fst) (fun i => ab.getD i []) ss) = leastB (cs.map Prod.fst) (fun i => ab.getD i []) ss := by
  have hsp := hb.det hb'
  subst hsp
  refine ascB.uniq (leastB_asc _ _ _) (leastB_asc _ _ _) fun x => ?_
  rw [mem_least hb' (fun x hx => hk x (least_sub hb x hx))]
  refine ⟨fun h => h.1, fun h => ⟨h, fun d hd hle => ?_⟩⟩
  exact ((mem_least hb hk x).1 h).2 d (least_sub hb d hd) hle

theorem below_least (hb : Built cs sp ab) {ss : List Nm} (hk : ∀ x ∈ ss, inNs (cs.map Prod.fst) x = true) : ∀ (n : Nat) (c : Nm), c ∈ ss → (cs.map Prod.fst).length - ixOf (cs.map Prod.fst) c ≤ n →
    ∃ m ∈ leastB (cs.map Prod.fst) (fun i => ab.getD i []) ss, leN (cs.map Prod.fst) sp m c
  | n, c, hc, hn => by
    by_cases h : ∀ d ∈ ss, leN (cs.map Prod.fst) sp d c → d = c
    · exact ⟨c, (mem_least hb hk c).2 ⟨hc, h⟩, Reach.self⟩
    · obtain ⟨d, hd⟩ := Classical.not_forall.1 h
      obtain ⟨hd, h2⟩ := Classical.not_imp.1 hd
      obtain ⟨hle, hne⟩ := Classical.not_imp.1 h2
      have hix := Reach.le hb.lt' hle
      have hne' : ixOf (cs.map Prod.fst) d ≠ ixOf (cs.map Prod.fst) c := fun e => hne (ix_inj (hk d hd) (hk c hc) e)
      have hl := ixOf_lt (hk d hd)
      cases n with
      | zero => omega
      | succ n =>
        obtain ⟨m, hm, hl2⟩ := below_least hb hk n d hd (by omega)
        exact ⟨m, hm, Reach.trans hl2 hle⟩

theorem upW_bit (ns : List Nm) (abv : Nat → List Nat) (j m : Nat) (l : List Nm) : (upW ns abv l j).testBit m = l.any fun c => (wordsOf (abv (ixOf ns c)) j).testBit m := by
  unfold upW
  suffices h : ∀ a : Nat, (l.foldl (fun a c => a ||| wordsOf (abv (ixOf ns c)) j) a).testBit m = (a.testBit m || l.any fun c => (wordsOf (abv (ixOf ns c)) j).testBit m) by
    rw [h 0]; simp
  induction l with
  | nil => intro a; simp
  | cons x l ih => intro a; rw [List.foldl_cons, ih, Nat.testBit_or, List.any_cons, Bool.or_assoc]

theorem lessB_iff (hb : Built cs sp ab) {ss ts : List Nm} (hs : ∀ x ∈ ss, inNs (cs.map Prod.fst) x = true) (ht : ∀ x ∈ ts, inNs (cs.map Prod.fst) x = true) :
    lessB (cs.map Prod.fst) (fun i => ab.getD i []) ss ts = true ↔ ∀ c ∈ ts, ∃ d ∈ ss, leN (cs.map Prod.fst) sp d c := by
  unfold lessB
  rw [List.all_eq_true.2 hs, List.all_eq_true.2 ht, Bool.true_and, Bool.true_and, List.all_eq_true]
  refine forall_congr' fun c => forall_congr' fun hc => ?_
  unfold upHas
  rw [upW_bit, List.any_eq_true]
  refine exists_congr fun d => and_congr_right fun hd => ?_
  exact belowB_iff hb (hs d hd)

theorem less_both (hb : Built cs sp ab) {sp1 sp2 sp3 ab1 ab2 ab3 : List (List Nat)} (hb1 : Built cs sp1 ab1) (hb2 : Built cs sp2 ab2) (hb3 : Built cs sp3 ab3) {ss ts : List Nm}
    (hs : ∀ x ∈ ss, inNs (cs.map Prod.fst) x = true) (ht : ∀ x ∈ ts, inNs (cs.map Prod.fst) x = true) :
    (lessB (cs.map Prod.fst) (fun i => ab.getD i []) ss ts && lessB (cs.map Prod.fst) (fun i => ab1.getD i []) ts ss) = decide (leastB (cs.map Prod.fst) (fun i => ab2.getD i []) ss = leastB (cs.map Prod.fst) (fun i => ab3.getD i []) ts) := by
  have e1 := hb.det hb1
  have e2 := hb.det hb2
  have e3 := hb.det hb3
  subst e1 e2 e3
  rw [Bool.eq_iff_iff, Bool.and_eq_true, lessB_iff hb hs ht, lessB_iff hb1 ht hs, decide_eq_true_iff]
  constructor
  · rintro ⟨h1, h2⟩
    refine ascB.uniq (leastB_asc _ _ _) (leastB_asc _ _ _) fun x => ?_
    rw [mem_least hb2 hs, mem_least hb3 ht]
    constructor
    · rintro ⟨hx, hm⟩
      obtain ⟨d, hd, hdx⟩ := h2 x hx
      obtain ⟨e, he, hed⟩ := h1 d hd
      have hex := hm e he (Reach.trans hed hdx)
      subst hex
      have hdd := leN.anti hb (ht d hd) (hs e he) hdx hed
      subst hdd
      refine ⟨hd, fun d' hd' hle => ?_⟩
      obtain ⟨e', he', hed'⟩ := h1 d' hd'
      have := hm e' he' (Reach.trans hed' hle)
      subst this
      exact leN.anti hb (ht d' hd') (hs _ he') hle hed'
    · rintro ⟨hx, hm⟩
      obtain ⟨d, hd, hdx⟩ := h1 x hx
      obtain ⟨e, he, hed⟩ := h2 d hd
      have hex := hm e he (Reach.trans hed hdx)
      subst hex
      have hdd := leN.anti hb (hs d hd) (ht e he) hdx hed
      subst hdd
      refine ⟨hd, fun d' hd' hle => ?_⟩
      obtain ⟨e', he', hed'⟩ := h2 d' hd'
      have := hm e' he' (Reach.trans hed' hle)
      subst this
      exact leN.anti hb (hs d' hd') (ht _ he') hle hed'
  · intro h
    constructor
    · intro c hc
      obtain ⟨m, hm, hle⟩ := below_least hb3 ht _ c hc (Nat.le_refl _)
      rw [← h] at hm
      exact ⟨m, least_sub hb2 m hm, hle⟩
    · intro c hc
      obtain ⟨m, hm, hle⟩ := below_least hb2 hs _ c hc (Nat.le_refl _)
      rw [h] at hm
      exact ⟨m, least_sub hb3 m hm, hle⟩
end
end Go.Proofs.Ytehnikgdjnmfcaa
