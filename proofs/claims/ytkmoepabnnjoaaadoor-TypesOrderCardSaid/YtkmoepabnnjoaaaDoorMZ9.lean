/- Slices of strings of one's own: Clone, SortFunc, Compact, Equal, Reverse. -/
import Derived.Test.YtkmoepabnnjoaaaDoorMZ7
import Derived.Test.YtkmoepabnnjoaaaDoorMZ8
import Derived.Lib.SortBridge
import Derived.Sort.OwnSorted
namespace Go.Proofs.YtkmoepabnnjoaaaDoor
open Go.RowKit Go.WideMaps Go.Shelf Go.Sort Go.Lib

/-! ### the order of bytes -/
theorem cb_refl : ∀ a : Nm, Lib.compareBytes a a = 0
  | [] => rfl
  | a :: u => by unfold Lib.compareBytes; simp [cb_refl u]

theorem cb_swap : ∀ a b : Nm, Lib.compareBytes b a = - Lib.compareBytes a b
  | [], [] => rfl
  | [], _ :: _ => rfl
  | _ :: _, [] => rfl
  | a :: u, b :: v => by
    unfold Lib.compareBytes
    by_cases h1 : a < b
    · have h2 : ¬ b < a := UInt8.lt_asymm h1
      simp [h1, h2]
    · by_cases h2 : b < a
      · simp [h1, h2]
      · simp [h1, h2, cb_swap u v]

theorem cb_eq : ∀ a b : Nm, Lib.compareBytes a b = 0 → a = b
  | [], [], _ => rfl
  | [], _ :: _, h => by simp [Lib.compareBytes] at h
  | _ :: _, [], h => by simp [Lib.compareBytes] at h
  | a :: u, b :: v, h => by
    unfold Lib.compareBytes at h
    by_cases h1 : a < b
    · simp [h1] at h
    · by_cases h2 : b < a
      · simp [h1, h2] at h
      · simp [h1, h2] at h
        have e : a = b := by
          apply UInt8.toNat.inj
          have h1' : ¬ a.toNat < b.toNat := h1
          have h2' : ¬ b.toNat < a.toNat := h2
          omega
        rw [e, cb_eq u v h]

theorem cb_trans : ∀ a b c : Nm, Lib.compareBytes a b < 0 → Lib.compareBytes b c < 0 → Lib.compareBytes a c < 0
  | [], [], _, h, _ => by simp [Lib.compareBytes] at h
  | [], _ :: _, [], _, h => by simp [Lib.compareBytes] at h
  | [], _ :: _, _ :: _, _, _ => by simp [Lib.compareBytes]
  | _ :: _, [], _, h, _ => by simp [Lib.compareBytes] at h
  | _ :: _, _ :: _, [], _, h => by simp [Lib.compareBytes] at h
  | a :: u, b :: v, c :: z, h, k => by
    unfold Lib.compareBytes at h k ⊢
    have T : ∀ x y : UInt8, (x < y) = (x.toNat < y.toNat) := fun _ _ => rfl
    simp only [T] at h k ⊢
    by_cases h1 : a.toNat < b.toNat
    · by_cases k1 : b.toNat < c.toNat
      · rw [if_pos (by omega)]; decide
      · rw [if_neg k1] at k
        by_cases k2 : c.toNat < b.toNat
        · rw [if_pos k2] at k; exact absurd k (by decide)
        · rw [if_pos (by omega)]; decide
    · rw [if_neg h1] at h
      by_cases h2 : b.toNat < a.toNat
      · rw [if_pos h2] at h; exact absurd h (by decide)
      · rw [if_neg h2] at h
        by_cases k1 : b.toNat < c.toNat
        · rw [if_pos (by omega)]; decide
        · rw [if_neg k1] at k
          by_cases k2 : c.toNat < b.toNat
          · rw [if_pos k2] at k; exact absurd k (by decide)
          · rw [if_neg k2] at k
            rw [if_neg (by omega), if_neg (by omega)]
            exact cb_trans u v z h k

theorem lt_cb (x y : Nm) : ltOf Lib.compareBytes x y = decide (Lib.compareBytes x y < 0) := rfl
theorem swoB : SWO (ltOf (α := Nm) Lib.compareBytes) where
  irrefl x := by rw [lt_cb, cb_refl]; rfl
  trans x y z h1 h2 := by
    rw [lt_cb] at *
    exact decide_eq_true (cb_trans x y z (of_decide_eq_true h1) (of_decide_eq_true h2))
  ntrans x y z h1 h2 := by
    rw [lt_cb] at *
    have h1 := of_decide_eq_false h1
    have h2 := of_decide_eq_false h2
    refine decide_eq_false (fun h => ?_)
    have s1 := cb_swap x y
    have s2 := cb_swap y z
    by_cases e1 : Lib.compareBytes x y = 0
    · rw [cb_eq x y e1] at h; exact h2 h
    · by_cases e2 : Lib.compareBytes y z = 0
      · rw [← cb_eq y z e2] at h; exact h1 h
      · have := cb_trans z y x (by omega) (by omega)
        have s3 := cb_swap x z
        omega
theorem totB (x y : Nm) (h1 : ltOf Lib.compareBytes x y = false) (h2 : ltOf Lib.compareBytes y x = false) : x = y := by
  rw [lt_cb] at *
  have h1 := of_decide_eq_false h1
  have h2 := of_decide_eq_false h2
  have := cb_swap x y
  exact cb_eq x y (by omega)

/-- sorted as bytes -/
def sortB (ss : List Nm) : List Nm := ss.mergeSort fun x y => !ltOf Lib.compareBytes y x

/-- a slice of strings that is one's own -/
def SlO (w : World) (B : Nat) (v : Value) (ss : List Nm) : Prop :=
  ss.length * 16 ≤ 140737488355328 ∧ (∀ s ∈ ss, s.length ≤ maxLen) ∧ ∃ a cap, v = .slice a ss.length cap ∧ (0 < ss.length → ∃ b, a = some ⟨b, 0, none⟩ ∧ B ≤ b ∧ b < w.heap.size ∧ ss.length ≤ cap ∧ Holds encStr w b 0 ss.toArray)

theorem holds_iff {w : World} {b : Nat} {ss : List Nm} : Holds encStr w b 0 ss.toArray ↔ ∀ j, j < ss.length → w.cell? ⟨b, j, none⟩ = some (.string (bs (ss.getD j []))) ∧ w.frozen? ⟨b, j, none⟩ = false := by
  unfold Holds
  constructor
  · intro h j hj
    have := h j (by simpa using hj)
    rw [Nat.zero_add] at this
    rw [List.getElem!_toArray] at this
    rw [List.getElem!_eq_getElem?_getD] at this
    rw [List.getD_eq_getElem?_getD]
    exact this
  · intro h j hj
    have := h j (by simpa using hj)
    rw [Nat.zero_add, List.getElem!_toArray, List.getElem!_eq_getElem?_getD]
    rw [List.getD_eq_getElem?_getD] at this
    exact this

theorem SlO.sl {w : World} {B : Nat} {v : Value} {ss : List Nm} (h : SlO w B v ss) : SlS w v ss := by
  obtain ⟨h1, h2, a, cap, e, h3⟩ := h
  refine ⟨by unfold maxLen; omega, a, cap, e, fun hn => ?_⟩
  obtain ⟨b, e1, _, hb, _, hh⟩ := h3 hn
  exact ⟨b, 0, e1, hb, fun j hj => by rw [Nat.zero_add]; exact (holds_iff.1 hh j hj).1, h2⟩

theorem SlO.below {w w' : World} {B C : Nat} {v : Value} {ss : List Nm} (h : SlO w B v ss) (hb : Below C w w') (hC : w.heap.size ≤ C) : SlO w' B v ss := by
  obtain ⟨h1, h2, a, cap, e, h3⟩ := h
  refine ⟨h1, h2, a, cap, e, fun hn => ?_⟩
  obtain ⟨b, e1, hB, hlt, hc, hh⟩ := h3 hn
  refine ⟨b, e1, hB, by have := hb.size; omega, hc, holds_iff.2 fun j hj => ?_⟩
  obtain ⟨c1, c2⟩ := holds_iff.1 hh j hj
  exact ⟨(hb.cell (p := ⟨b, j, none⟩) (by simp; omega)).trans c1, (hb.frozen (p := ⟨b, j, none⟩) (by simp; omega)).trans c2⟩

theorem clone_any (v : Value) (ss : List Nm) (w : World) (hs : SlS w v ss) (hbig : ss.length * 16 ≤ 140737488355328) :
    Calls Tryd.prog 48 #[v] w fun e w' => ∃ v', e = .returned v' ∧ SlO w' w.heap.size v' ss ∧ Below w.heap.size w w' := by
  obtain ⟨hl, a, cap, rfl, hsx⟩ := hs
  by_cases hn : 0 < ss.length
  · obtain ⟨b, off, rfl, hb, hc, hw⟩ := hsx hn
    have hg : ∀ j, j < ss.length → (ss.map bs).getD j ByteArray.empty = bs (ss.getD j []) := fun j hj => by
      rw [List.getD_eq_getElem?_getD, List.getD_eq_getElem?_getD, List.getElem?_map, List.getElem?_eq_getElem hj]; rfl
    refine (Tryd.slices_Clone_string b off ss.length cap (ss.map bs) w (by simp) hbig (fun j hj => by rw [hg j (by simpa using hj)]; exact hc j (by simpa using hj))).mono ?_
    rintro e w' ⟨v', rfl, hown, hne, hbl⟩
    refine ⟨v', rfl, ⟨hbig, hw, ?_⟩, hbl⟩
    rcases hown.2 with ⟨e1, _⟩ | ⟨g, cap', cur, e1, hg1, hh, hc1, hc2, hc3⟩
    · exact absurd e1 hne
    · subst e1
      refine ⟨_, cap', rfl, fun _ => ⟨g, rfl, hg1, (Array.getElem?_eq_some_iff.1 hh).1, by omega, holds_iff.2 fun j hj => ⟨?_, hown.frozenAt j⟩⟩⟩
      rw [hown.cellAt j (by omega)]
      rw [List.take_of_length_le (by simp), List.getElem?_map, List.getElem?_map, List.getElem?_eq_getElem hj, List.getD_eq_getElem?_getD, List.getElem?_eq_getElem hj]; rfl
  · have h0 : ss = [] := List.eq_nil_of_length_eq_zero (by omega)
    subst h0
    have hE : ∀ W : World, ∀ a c, SlO W w.heap.size (.slice a 0 c) [] := fun W a c => ⟨hbig, by simp, a, c, rfl, fun h => absurd h (by simp)⟩
    cases a with
    | none =>
      refine (Tryd.slices_Clone_string_nil 0 cap w).mono ?_
      rintro e w' ⟨rfl, rfl⟩
      exact ⟨_, rfl, hE _ _ _, Below.refl _ _⟩
    | some a =>
      refine (Tryd.slices_Clone_string_zero a cap w).mono ?_
      rintro e w' ⟨v', rfl, hown, _, hbl⟩
      obtain ⟨p, c, rfl⟩ := ownsRow_form hown
      exact ⟨_, rfl, hE _ _ _, hbl⟩

theorem sortB_perm (ss : List Nm) : (sortB ss).Perm ss := List.mergeSort_perm _ _

theorem compactUpTo_len (d : Array Nm) : ∀ m, (compactUpTo d m).length ≤ m
  | 0 => by simp [compactUpTo]
  | m + 1 => by
    rw [compactUpTo_succ, List.length_append]
    have := compactUpTo_len d m
    split <;> simp <;> omega

theorem compactUpTo_mem (d : Array Nm) (x : Nm) : ∀ m, x ∈ compactUpTo d m → ∃ j, j < m ∧ d[j]! = x
  | 0, h => by simp [compactUpTo] at h
  | m + 1, h => by
    rw [compactUpTo_succ, List.mem_append] at h
    rcases h with h | h
    · obtain ⟨j, hj, e⟩ := compactUpTo_mem d x m h
      exact ⟨j, by omega, e⟩
    · split at h
      · simp at h; exact ⟨m, by omega, h.symm⟩
      · simp at h

theorem compact_sub (ss : List Nm) : ∀ x ∈ Lib.compact ss, x ∈ ss := by
  intro x hx
  obtain ⟨j, hj, e⟩ := compactUpTo_mem _ _ _ hx
  rw [List.getElem!_toArray] at e
  rw [getElem!_pos ss j hj] at e
  rw [← e]; exact List.getElem_mem hj

theorem compact_len (ss : List Nm) : (Lib.compact ss).length ≤ ss.length := compactUpTo_len _ _

theorem below_drewN' {w : World} (q : Nat) : Below w.heap.size w (w.drewN q) := below_drewN (Below.refl _ _) q

theorem equal_any (u v : Value) (ss ts : List Nm) (w : World) (hs : SlS w u ss) (ht : SlS w v ts) :
    Calls Tryd.prog 21 #[u, v] w fun e w' => e = .returned (.bool (decide (ss = ts))) ∧ Below w.heap.size w w' := by
  obtain ⟨hl, a, cap, rfl, hsx⟩ := hs
  obtain ⟨hl2, a2, cap2, rfl, htx⟩ := ht
  unfold maxLen at hl hl2
  have inj : ∀ x y : Nm, bs x = bs y → x = y := fun x y e => by have := congrArg (fun b : ByteArray => b.data.toList) e; exact this
  by_cases hne : ss.length = ts.length
  · by_cases hn : 0 < ss.length
    · obtain ⟨b, off, rfl, hb, hc, hw⟩ := hsx hn
      obtain ⟨b2, off2, rfl, hb2, hc2, hw2⟩ := htx (by omega)
      have hg : ∀ (ss : List Nm) j, j < ss.length → (ss.map bs).getD j ByteArray.empty = bs (ss.getD j []) := fun ss j hj => by
        rw [List.getD_eq_getElem?_getD, List.getD_eq_getElem?_getD, List.getElem?_map, List.getElem?_eq_getElem hj]; rfl
      refine (Tryd.slices_Equal_string b off ss.length cap b2 off2 ts.length cap2 (ss.map bs) (ts.map bs) w (by simp) (by simp) (by omega) (by omega) (fun j hj => by rw [hg ss j (by simpa using hj)]; exact hc j (by simpa using hj))
        (fun j hj => by rw [hg ts j (by simpa using hj)]; exact hc2 j (by simpa using hj))).mono ?_
      rintro e w' ⟨rfl, q, rfl⟩
      refine ⟨?_, below_drewN' q⟩
      rw [List.take_of_length_le (by simp), List.take_of_length_le (by simp)]
      congr 2
      refine decide_eq_decide.2 ⟨fun h => ?_, fun h => by rw [h]⟩
      exact (List.map_inj_right inj).1 h
    · have h0 : ss = [] := List.eq_nil_of_length_eq_zero (by omega)
      have h1 : ts = [] := List.eq_nil_of_length_eq_zero (by omega)
      subst h0 h1
      refine (Tryd.slices_Equal_string_empty a a2 cap 0 cap2 w (by omega)).mono ?_
      rintro e w' ⟨rfl, rfl⟩
      exact ⟨rfl, Below.refl _ _⟩
  · refine (Tryd.slices_Equal_string_lens a a2 ss.length cap ts.length cap2 w hne).mono ?_
    rintro e w' ⟨rfl, rfl⟩
    refine ⟨?_, Below.refl _ _⟩
    rw [decide_eq_false (fun h => hne (by rw [h]))]

end Go.Proofs.YtkmoepabnnjoaaaDoor

/- least, the walk. -/
namespace Go.Proofs.YtkmoepabnnjoaaaDoor
open Go.RowKit Go.WideMaps Go.Shelf Go.Sort Go.Lib

/-- the classes that are there once, ascending -/
def onceB (ss : List Nm) : List Nm := Lib.compact (sortB ss)

/-- the least classes -/
def leastB (ns : List Nm) (abv : Nat → List Nat) (ss : List Nm) : List Nm := (onceB ss).filter fun c => !(onceB ss).any (dropB ns abv c)

theorem onceB_sub (ss : List Nm) : ∀ x ∈ onceB ss, x ∈ ss := fun x hx => (sortB_perm ss).mem_iff.1 (compact_sub _ x hx)

theorem onceB_len (ss : List Nm) : (onceB ss).length ≤ ss.length := by
  have := compact_len (sortB ss)
  rw [(sortB_perm ss).length_eq] at this
  exact this

theorem Tryd.info9 : (Tryd.prog.info? 9).map (fun i => (i.zero, i.size, i.bytes)) = some (some (.string ByteArray.empty), 1, 16) := by kernel_rfl

theorem slO_of_own {w : World} {B : Nat} {v : Value} {ss : List Nm} (h : w.ownsRow B 9 1 v ss.length (ss.map encStr)) (h1 : ss.length * 16 ≤ 140737488355328) (h2 : ∀ s ∈ ss, s.length ≤ maxLen) : SlO w B v ss := by
  refine ⟨h1, h2, ?_⟩
  rcases h.2 with ⟨e1, e2⟩ | ⟨g, cap', cur, e1, hg1, hh, hc1, hc2, hc3⟩
  · rw [e1]; exact ⟨none, 0, by rw [e2], fun hn => by omega⟩
  · subst e1
    refine ⟨_, cap', rfl, fun hn => ⟨g, rfl, hg1, (Array.getElem?_eq_some_iff.1 hh).1, by omega, holds_iff.2 fun j hj => ⟨?_, h.frozenAt j⟩⟩⟩
    rw [h.cellAt j (by omega), List.getElem?_map, List.getElem?_eq_getElem hj, List.getD_eq_getElem?_getD, List.getElem?_eq_getElem hj]; rfl

theorem filter_snoc (p : Nm → Bool) (l : List Nm) (k : Nat) (hk : k < l.length) : (l.take (k + 1)).filter p = (l.take k).filter p ++ (if p (l.getD k []) = true then [l.getD k []] else []) := by
  rw [take_snocD l [] k hk, List.filter_append, List.filter_cons]
  simp

end Go.Proofs.YtkmoepabnnjoaaaDoor

/- The order of classes: pure facts. -/
namespace Go.Proofs.YtkmoepabnnjoaaaDoor
open Go.RowKit Go.WideMaps Go.Shelf Go.Sort Go.Lib

/-! ### Reach -/
theorem Reach.trans {sup : Nat → List Nat} {a b c : Nat} (h : Reach sup a b) (k : Reach sup b c) : Reach sup a c := by
  induction k with
  | self => exact h
  | step _ hs ih => exact .step ih hs

theorem Reach.le {sup : Nat → List Nat} (hs : ∀ i, ∀ s ∈ sup i, s < i) {a b : Nat} (h : Reach sup a b) : b ≤ a := by
  induction h with
  | self => exact Nat.le_refl _
  | step _ hm ih => have := hs _ _ hm; omega

theorem Reach.congr {sup sup' : Nat → List Nat} (hs : ∀ i, ∀ s ∈ sup i, s < i) {a b : Nat} (h : Reach sup a b) (he : ∀ i, i ≤ a → sup i = sup' i) : Reach sup' a b := by
  induction h with
  | self => exact .self
  | step hr hm ih => exact .step ih (by rw [← he _ (Reach.le hs hr)]; exact hm)

theorem Built.lt' {cs : List (Nm × List Nm)} {sp ab : List (List Nat)} (h : Built cs sp ab) : ∀ i, ∀ s ∈ sp.getD i [], s < i := by
  intro i s hs
  by_cases hi : i < cs.length
  · exact h.lt i hi s hs
  · rw [List.getD_eq_getElem?_getD, List.getElem?_eq_none (by have := h.len.1; omega)] at hs
    simp at hs

theorem Built.mem {cs : List (Nm × List Nm)} {sp ab : List (List Nat)} (h : Built cs sp ab) : ∀ i, i < cs.length → ∀ x, x ∈ ab.getD i [] ↔ Reach (fun i => sp.getD i []) i x := by
  induction h with
  | nil => intro i hi; simp at hi
  | @snoc cs sp ab nm sups ys hb he hy ih =>
    intro i hi x
    have hl := hb.len
    have hlt := hb.lt'
    have hlt2 := (Built.snoc hb he hy).lt'
    by_cases hin : i < cs.length
    · rw [getD_left ab _ i (by omega), ih i hin x]
      have he : ∀ k, k ≤ i → (fun i => sp.getD i []) k = (fun i => (sp ++ [sups.map (ixOf (cs.map Prod.fst))]).getD i []) k := fun k hk => (getD_left sp _ k (by omega)).symm
      exact ⟨fun h => h.congr hlt he, fun h => h.congr hlt2 (fun k hk => (he k hk).symm)⟩
    · have hieq : i = ab.length := by simp at hi; omega
      rw [hieq, getD_last, hl.2]
      exact hy x

theorem Built.det {cs : List (Nm × List Nm)} {sp ab : List (List Nat)} (h : Built cs sp ab) : ∀ {sp' ab' : List (List Nat)}, Built cs sp' ab' → sp = sp' := by
  induction h with
  | nil =>
    intro sp' ab' k
    have := k.len.1
    exact (List.eq_nil_of_length_eq_zero (by simpa using this)).symm
  | @snoc cs sp ab nm sups ys hb he hy ih =>
    intro sp' ab' k
    generalize hc : cs ++ [(nm, sups)] = cs2 at k
    cases k with
    | nil => simp at hc
    | @snoc cs' sp2 ab2 nm' sups' ys' hb' he' hy' =>
      obtain ⟨e1, e2⟩ := List.append_inj' hc rfl
      injection e2 with e3 _
      injection e3 with e4 e5
      subst e1 e4 e5
      rw [ih hb']

theorem Built.nodup {cs : List (Nm × List Nm)} {sp ab : List (List Nat)} (h : Built cs sp ab) : (cs.map Prod.fst).Nodup := by
  induction h with
  | nil => simp
  | @snoc cs sp ab nm sups ys hb he hy ih =>
    have h2 := (classErr_zero he).2.1
    have h3 : nm ∉ cs.map Prod.fst := of_decide_eq_false h2
    rw [List.map_append, List.nodup_append]
    refine ⟨ih, by simp, fun a ha b hb2 e => ?_⟩
    simp at hb2
    subst e
    rw [hb2] at ha
    exact h3 ha

/-! ### strictly ascending lists -/
def ascB (l : List Nm) : Prop := l.Pairwise fun x y => Lib.compareBytes x y < 0

theorem cb_irr (a : Nm) : ¬ Lib.compareBytes a a < 0 := by rw [cb_refl]; decide

theorem ascB.uniq : ∀ {l m : List Nm}, ascB l → ascB m → (∀ x, x ∈ l ↔ x ∈ m) → l = m
  | [], [], _, _, _ => rfl
  | [], b :: m, _, _, h => absurd ((h b).2 (by simp)) (by simp)
  | a :: l, [], _, _, h => absurd ((h a).1 (by simp)) (by simp)
  | a :: l, b :: m, h1, h2, h => by
    obtain ⟨ha, hl⟩ := List.pairwise_cons.1 h1
    obtain ⟨hb, hm⟩ := List.pairwise_cons.1 h2
    have e : a = b := by
      rcases List.mem_cons.1 ((h a).1 (by simp)) with e | e
      · exact e
      · rcases List.mem_cons.1 ((h b).2 (by simp)) with e' | e'
        · exact e'.symm
        · have x1 := hb a e
          have x2 := ha b e'
          have := cb_swap a b
          omega
    subst e
    rw [ascB.uniq (l := l) (m := m) hl hm (fun x => ⟨fun hx => ?_, fun hx => ?_⟩)]
    · rcases List.mem_cons.1 ((h x).1 (by simp [hx])) with e | e
      · subst e; exact absurd (ha _ hx) (cb_irr _)
      · exact e
    · rcases List.mem_cons.1 ((h x).2 (by simp [hx])) with e | e
      · subst e; exact absurd (hb _ hx) (cb_irr _)
      · exact e

theorem sortB_sorted (ss : List Nm) : (sortB ss).Pairwise fun x y => ¬ Lib.compareBytes y x < 0 := by
  have h := List.pairwise_mergeSort (le := fun x y : Nm => !ltOf Lib.compareBytes y x) (fun a b c h1 h2 => by
      have h1' : ltOf Lib.compareBytes b a = false := by simpa using h1
      have h2' : ltOf Lib.compareBytes c b = false := by simpa using h2
      rw [swoB.ntrans c b a h2' h1']; rfl)
    (fun a b => by
      by_cases h : ltOf Lib.compareBytes b a = true
      · have : ltOf Lib.compareBytes a b = false := by
          by_cases h' : ltOf Lib.compareBytes a b = true
          · have := swoB.trans _ _ _ h h'
            rw [swoB.irrefl] at this; cases this
          · simpa using h'
        simp [this]
      · have : ltOf Lib.compareBytes b a = false := by simpa using h
        simp [this]) ss
  exact h.imp (fun {a b} h => by
    have : ltOf Lib.compareBytes b a = false := by simpa using h
    exact of_decide_eq_false this)

theorem compactUpTo_asc (zs : List Nm) (hs : zs.Pairwise fun x y => ¬ Lib.compareBytes y x < 0) : ∀ m, m ≤ zs.length → (∀ x, x ∈ compactUpTo zs.toArray m ↔ ∃ j, j < m ∧ zs[j]! = x) ∧ ascB (compactUpTo zs.toArray m)
  | 0, _ => ⟨fun x => by simp [compactUpTo], by simp [compactUpTo, ascB]⟩
  | m + 1, hm => by
    obtain ⟨h1, h2⟩ := compactUpTo_asc zs hs m (by omega)
    have hle : ∀ j, j < m → ¬ Lib.compareBytes zs[m]! zs[j]! < 0 := fun j hj => by
      rw [getElem!_pos zs m (by omega), getElem!_pos zs j (by omega)]
      exact List.pairwise_iff_getElem.1 hs j m (by omega) (by omega) hj
    rw [compactUpTo_succ]
    by_cases hk : keeps zs.toArray m = true
    · rw [if_pos hk]
      constructor
      · intro x
        rw [List.mem_append, h1]
        simp only [List.getElem!_toArray, List.mem_singleton]
        constructor
        · rintro (⟨j, hj, e⟩ | e)
          · exact ⟨j, by omega, e⟩
          · exact ⟨m, by omega, e.symm⟩
        · rintro ⟨j, hj, e⟩
          by_cases hjm : j = m
          · subst hjm; exact .inr e.symm
          · exact .inl ⟨j, by omega, e⟩
      · refine List.pairwise_append.2 ⟨h2, by simp, fun x hx y hy => ?_⟩
        simp only [List.getElem!_toArray, List.mem_singleton] at hy
        subst hy
        obtain ⟨j, hj, rfl⟩ := (h1 x).1 hx
        have hk' : zs[m]! ≠ zs[m - 1]! := by
          have := of_decide_eq_true hk
          simp only [List.getElem!_toArray] at this
          rcases this with e | e
          · omega
          · exact e
        have l1 := hle (m - 1) (by omega)
        have l2 : ¬ Lib.compareBytes zs[m - 1]! zs[j]! < 0 := by
          by_cases e : j = m - 1
          · rw [e]; exact cb_irr _
          · rw [getElem!_pos zs (m - 1) (by omega), getElem!_pos zs j (by omega)]
            exact List.pairwise_iff_getElem.1 hs j (m - 1) (by omega) (by omega) (by omega)
        have s1 := cb_swap zs[m - 1]! zs[m]!
        have n1 : Lib.compareBytes zs[m - 1]! zs[m]! ≠ 0 := fun e => hk' (cb_eq _ _ e).symm
        have t1 : Lib.compareBytes zs[m - 1]! zs[m]! < 0 := by omega
        by_cases e : Lib.compareBytes zs[j]! zs[m - 1]! = 0
        · rw [cb_eq _ _ e]; exact t1
        · have s2 := cb_swap zs[j]! zs[m - 1]!
          exact cb_trans _ _ _ (by omega) t1
    · rw [if_neg hk, List.append_nil]
      refine ⟨fun x => ?_, h2⟩
      rw [h1]
      have hk2 := of_decide_eq_false (by simpa using hk : keeps zs.toArray m = false)
      simp only [List.getElem!_toArray] at hk2
      have hm0 : m ≠ 0 := fun e => hk2 (.inl e)
      have hmm : zs[m]! = zs[m - 1]! := Classical.byContradiction fun e => hk2 (.inr e)
      constructor
      · rintro ⟨j, hj, e⟩; exact ⟨j, by omega, e⟩
      · rintro ⟨j, hj, e⟩
        by_cases hjm : j = m
        · subst hjm; exact ⟨j - 1, by omega, by rw [← hmm]; exact e⟩
        · exact ⟨j, by omega, e⟩

theorem onceB_asc (ss : List Nm) : ascB (onceB ss) := (compactUpTo_asc (sortB ss) (sortB_sorted ss) _ (Nat.le_refl _)).2
theorem onceB_mem (ss : List Nm) (x : Nm) : x ∈ onceB ss ↔ x ∈ ss := by
  rw [← (sortB_perm ss).mem_iff]
  refine ((compactUpTo_asc (sortB ss) (sortB_sorted ss) _ (Nat.le_refl _)).1 x).trans ⟨?_, fun h => ?_⟩
  · rintro ⟨j, hj, rfl⟩
    rw [getElem!_pos (sortB ss) j hj]; exact List.getElem_mem hj
  · obtain ⟨j, hj, e⟩ := List.mem_iff_getElem.1 h
    exact ⟨j, hj, by rw [getElem!_pos (sortB ss) j hj]; exact e⟩

theorem leastB_asc (ns : List Nm) (abv : Nat → List Nat) (ss : List Nm) : ascB (leastB ns abv ss) := (onceB_asc ss).filter _

end Go.Proofs.YtkmoepabnnjoaaaDoor

/- The least classes: pure facts. -/
namespace Go.Proofs.YtkmoepabnnjoaaaDoor
open Go.RowKit Go.WideMaps Go.Shelf Go.Sort Go.Lib

def leN (ns : List Nm) (sp : List (List Nat)) (d c : Nm) : Prop := Reach (fun i => sp.getD i []) (ixOf ns d) (ixOf ns c)

theorem ix_inj {ns : List Nm} {c d : Nm} (hc : inNs ns c = true) (hd : inNs ns d = true) (h : ixOf ns c = ixOf ns d) : c = d := by
  have hc := of_decide_eq_true hc
  have hd := of_decide_eq_true hd
  unfold ixOf at h
  rw [if_pos hc, if_pos hd] at h
  have e1 := List.getElem_idxOf (List.idxOf_lt_length_of_mem hc)
  have e2 := List.getElem_idxOf (List.idxOf_lt_length_of_mem hd)
  rw [← e1, ← e2]
  simp only [h]

theorem leN.anti {cs : List (Nm × List Nm)} {sp ab : List (List Nat)} (hb : Built cs sp ab) {ns : List Nm} {d c : Nm} (hd : inNs ns d = true) (hc : inNs ns c = true) (h : leN ns sp d c) (k : leN ns sp c d) : d = c :=
  ix_inj hd hc (by have := Reach.le hb.lt' h; have := Reach.le hb.lt' k; omega)

section
variable {cs : List (Nm × List Nm)} {sp ab : List (List Nat)}

theorem belowB_iff (hb : Built cs sp ab) {d c : Nm} (hd : inNs (cs.map Prod.fst) d = true) : belowB (cs.map Prod.fst) (fun i => ab.getD i []) d c = true ↔ leN (cs.map Prod.fst) sp d c := by
  unfold belowB leN
  rw [wordsOf_mem, decide_eq_true_iff]
  exact hb.mem _ (by have := ixOf_lt hd; simpa using this) _

theorem dropB_iff (hb : Built cs sp ab) {d c : Nm} (hd : inNs (cs.map Prod.fst) d = true) (hc : inNs (cs.map Prod.fst) c = true) : dropB (cs.map Prod.fst) (fun i => ab.getD i []) c d = true ↔ d ≠ c ∧ leN (cs.map Prod.fst) sp d c := by
  unfold dropB
  rw [Bool.and_eq_true, belowB_iff hb hd]
  refine and_congr_left fun _ => ⟨fun h e => ?_, fun h => ?_⟩
  · subst e; simp at h
  · simp only [Bool.not_eq_true', beq_eq_false_iff_ne, ne_eq]
    exact fun e => h (ix_inj hd hc e)

theorem mem_least (hb : Built cs sp ab) {ss : List Nm} (hk : ∀ x ∈ ss, inNs (cs.map Prod.fst) x = true) (x : Nm) :
    x ∈ leastB (cs.map Prod.fst) (fun i => ab.getD i []) ss ↔ x ∈ ss ∧ ∀ d ∈ ss, leN (cs.map Prod.fst) sp d x → d = x := by
  unfold leastB
  rw [List.mem_filter, onceB_mem]
  refine and_congr_right fun hx => ?_
  rw [Bool.not_eq_true', List.any_eq_false]
  constructor
  · intro h d hd hle
    refine Classical.byContradiction fun hne => h d ((onceB_mem ss d).2 hd) ((dropB_iff hb (hk d hd) (hk x hx)).2 ⟨hne, hle⟩)
  · intro h d hd hdr
    have hd' := (onceB_mem ss d).1 hd
    obtain ⟨h1, h2⟩ := (dropB_iff hb (hk d hd') (hk x hx)).1 hdr
    exact h1 (h d hd' h2)

theorem least_eq (hb : Built cs sp ab) {sp' ab' : List (List Nat)} (hb' : Built cs sp' ab') {ss tt : List Nm} (hk : ∀ x ∈ ss, inNs (cs.map Prod.fst) x = true) (he : ∀ x, x ∈ ss ↔ x ∈ tt) :
    leastB (cs.map Prod.fst) (fun i => ab.getD i []) ss = leastB (cs.map Prod.fst) (fun i => ab'.getD i []) tt := by
  have hsp := hb.det hb'
  subst hsp
  refine ascB.uniq (leastB_asc _ _ _) (leastB_asc _ _ _) fun x => ?_
  rw [mem_least hb hk, mem_least hb' (fun x hx => hk x ((he x).2 hx)), he]
  exact and_congr_right fun _ => ⟨fun h d hd => h d ((he d).2 hd), fun h d hd => h d ((he d).1 hd)⟩

theorem least_sub (_hb : Built cs sp ab) {ss : List Nm} : ∀ x ∈ leastB (cs.map Prod.fst) (fun i => ab.getD i []) ss, x ∈ ss := fun x hx => (onceB_mem ss x).1 (List.mem_filter.1 hx).1

theorem least_least (hb : Built cs sp ab) {sp' ab' : List (List Nat)} (hb' : Built cs sp' ab') {ss : List Nm} (hk : ∀ x ∈ ss, inNs (cs.map Prod.fst) x = true) :
    leastB (cs.map Prod.fst) (fun i => ab'.getD i []) (leastB (cs.map Prod.fst) (fun i => ab.getD i []) ss) = leastB (cs.map Prod.fst) (fun i => ab.getD i []) ss := by
  have hsp := hb.det hb'
  subst hsp
  refine ascB.uniq (leastB_asc _ _ _) (leastB_asc _ _ _) fun x => ?_
  rw [mem_least hb' (fun x hx => hk x (least_sub hb x hx))]
  refine ⟨fun h => h.1, fun h => ⟨h, fun d hd hle => ?_⟩⟩
  exact ((mem_least hb hk x).1 h).2 d (least_sub hb d hd) hle

theorem below_least (hb : Built cs sp ab) {ss : List Nm} (hk : ∀ x ∈ ss, inNs (cs.map Prod.fst) x = true) : ∀ (n : Nat) (c : Nm), c ∈ ss → (cs.map Prod.fst).length - ixOf (cs.map Prod.fst) c ≤ n →
    ∃ m ∈ leastB (cs.map Prod.fst) (fun i => ab.getD i []) ss, leN (cs.map Prod.fst) sp m c
  | n, c, hc, hn => by
    by_cases h : ∀ d ∈ ss, leN (cs.map Prod.fst) sp d c → d = c
    · exact ⟨c, (mem_least hb hk c).2 ⟨hc, h⟩, Reach.self⟩
    · obtain ⟨d, hd⟩ := Classical.not_forall.1 h
      obtain ⟨hd, h2⟩ := Classical.not_imp.1 hd
      obtain ⟨hle, hne⟩ := Classical.not_imp.1 h2
      have hix := Reach.le hb.lt' hle
      have hne' : ixOf (cs.map Prod.fst) d ≠ ixOf (cs.map Prod.fst) c := fun e => hne (ix_inj (hk d hd) (hk c hc) e)
      have hl := ixOf_lt (hk d hd)
      cases n with
      | zero => omega
      | succ n =>
        obtain ⟨m, hm, hl2⟩ := below_least hb hk n d hd (by omega)
        exact ⟨m, hm, Reach.trans hl2 hle⟩

theorem upW_bit (ns : List Nm) (abv : Nat → List Nat) (j m : Nat) (l : List Nm) : (upW ns abv l j).testBit m = l.any fun c => (wordsOf (abv (ixOf ns c)) j).testBit m := by
  unfold upW
  suffices h : ∀ a : Nat, (l.foldl (fun a c => a ||| wordsOf (abv (ixOf ns c)) j) a).testBit m = (a.testBit m || l.any fun c => (wordsOf (abv (ixOf ns c)) j).testBit m) by
    rw [h 0]; simp
  induction l with
  | nil => intro a; simp
  | cons x l ih => intro a; rw [List.foldl_cons, ih, Nat.testBit_or, List.any_cons, Bool.or_assoc]

theorem lessB_iff (hb : Built cs sp ab) {ss ts : List Nm} (hs : ∀ x ∈ ss, inNs (cs.map Prod.fst) x = true) (ht : ∀ x ∈ ts, inNs (cs.map Prod.fst) x = true) :
    lessB (cs.map Prod.fst) (fun i => ab.getD i []) ss ts = true ↔ ∀ c ∈ ts, ∃ d ∈ ss, leN (cs.map Prod.fst) sp d c := by
  unfold lessB
  rw [List.all_eq_true.2 hs, List.all_eq_true.2 ht, Bool.true_and, Bool.true_and, List.all_eq_true]
  refine forall_congr' fun c => forall_congr' fun hc => ?_
  unfold upHas
  rw [upW_bit, List.any_eq_true]
  refine exists_congr fun d => and_congr_right fun hd => ?_
  exact belowB_iff hb (hs d hd)

theorem less_both (hb : Built cs sp ab) {sp1 sp2 sp3 ab1 ab2 ab3 : List (List Nat)} (hb1 : Built cs sp1 ab1) (hb2 : Built cs sp2 ab2) (hb3 : Built cs sp3 ab3) {ss ts : List Nm}
    (hs : ∀ x ∈ ss, inNs (cs.map Prod.fst) x = true) (ht : ∀ x ∈ ts, inNs (cs.map Prod.fst) x = true) :
    (lessB (cs.map Prod.fst) (fun i => ab.getD i []) ss ts && lessB (cs.map Prod.fst) (fun i => ab1.getD i []) ts ss) = decide (leastB (cs.map Prod.fst) (fun i => ab2.getD i []) ss = leastB (cs.map Prod.fst) (fun i => ab3.getD i []) ts) := by
  have e1 := hb.det hb1
  have e2 := hb.det hb2
  have e3 := hb.det hb3
  subst e1 e2 e3
  rw [Bool.eq_iff_iff, Bool.and_eq_true, lessB_iff hb hs ht, lessB_iff hb1 ht hs, decide_eq_true_iff]
  constructor
  · rintro ⟨h1, h2⟩
    refine ascB.uniq (leastB_asc _ _ _) (leastB_asc _ _ _) fun x => ?_
    rw [mem_least hb2 hs, mem_least hb3 ht]
    constructor
    · rintro ⟨hx, hm⟩
      obtain ⟨d, hd, hdx⟩ := h2 x hx
      obtain ⟨e, he, hed⟩ := h1 d hd
      have hex := hm e he (Reach.trans hed hdx)
      subst hex
      have hdd := leN.anti hb (ht d hd) (hs e he) hdx hed
      subst hdd
      refine ⟨hd, fun d' hd' hle => ?_⟩
      obtain ⟨e', he', hed'⟩ := h1 d' hd'
      have := hm e' he' (Reach.trans hed' hle)
      subst this
      exact leN.anti hb (ht d' hd') (hs _ he') hle hed'
    · rintro ⟨hx, hm⟩
      obtain ⟨d, hd, hdx⟩ := h1 x hx
      obtain ⟨e, he, hed⟩ := h2 d hd
      have hex := hm e he (Reach.trans hed hdx)
      subst hex
      have hdd := leN.anti hb (hs d hd) (ht e he) hdx hed
      subst hdd
      refine ⟨hd, fun d' hd' hle => ?_⟩
      obtain ⟨e', he', hed'⟩ := h2 d' hd'
      have := hm e' he' (Reach.trans hed' hle)
      subst this
      exact leN.anti hb (hs d' hd') (ht _ he') hle hed'
  · intro h
    constructor
    · intro c hc
      obtain ⟨m, hm, hle⟩ := below_least hb3 ht _ c hc (Nat.le_refl _)
      rw [← h] at hm
      exact ⟨m, least_sub hb2 m hm, hle⟩
    · intro c hc
      obtain ⟨m, hm, hle⟩ := below_least hb2 hs _ c hc (Nat.le_refl _)
      rw [h] at hm
      exact ⟨m, least_sub hb3 m hm, hle⟩
end
end Go.Proofs.YtkmoepabnnjoaaaDoor

/- Normal, Less. -/
namespace Go.Proofs.YtkmoepabnnjoaaaDoor
open Go.RowKit Go.WideMaps Go.Shelf

def normErr (ns ss : List Nm) : Int := if 20 < ss.length then 5 else if ss.all (inNs ns) = true then 0 else 9

def NormPost (w : World) (ns : List Nm) (abv : Nat → List Nat) (ss : List Nm) (e : Ending) (w' : World) : Prop :=
  ∃ v', e = .returned (.tuple #[v', .int .i64 (normErr ns ss)]) ∧ Below w.heap.size w w' ∧ (normErr ns ss = 0 → SlO w' w.heap.size v' (leastB ns abv ss)) ∧ (normErr ns ss ≠ 0 → v' = .slice none 0 0)

theorem SlO.base {w : World} {B C : Nat} {v : Value} {ss : List Nm} (h : SlO w B v ss) (hC : C ≤ B) : SlO w C v ss := by
  obtain ⟨h1, h2, a, cap, e, h3⟩ := h
  exact ⟨h1, h2, a, cap, e, fun hn => let ⟨b, e1, h4, h5⟩ := h3 hn; ⟨b, e1, by omega, h5⟩⟩

theorem cells6 {w : World} {k : Nat} {a0 a1 a2 a3 a4 a5 : Value} {t : TypeId} {fr : Nat × Nat} (h : w.heap[k]? = some (.cells #[a0, a1, a2, a3, a4, a5] t fr)) :
    w.cell? ⟨k, 0, none⟩ = some a0 ∧ w.cell? ⟨k, 1, none⟩ = some a1 ∧ w.cell? ⟨k, 2, none⟩ = some a2 ∧ w.cell? ⟨k, 3, none⟩ = some a3 ∧ w.cell? ⟨k, 4, none⟩ = some a4 ∧ w.cell? ⟨k, 5, none⟩ = some a5 :=
  ⟨by rw [cell_of_row w _ 0 _ _ _ h]; rfl, by rw [cell_of_row w _ 1 _ _ _ h]; rfl, by rw [cell_of_row w _ 2 _ _ _ h]; rfl, by rw [cell_of_row w _ 3 _ _ _ h]; rfl, by rw [cell_of_row w _ 4 _ _ _ h]; rfl, by rw [cell_of_row w _ 5 _ _ _ h]; rfl⟩

/-- a theory in memory: its classes -/
def ThAt (w : World) (t : Value) (cs : List (Nm × List Nm)) : Prop :=
  ∃ n c t2 t3 t4 t5 t6, t = .agg #[n, c, t2, t3, t4, t5, t6] ∧ SlC w c cs

theorem ThAt.below {w w' : World} {B : Nat} {t : Value} {cs : List (Nm × List Nm)} (h : ThAt w t cs) (hb : Below B w w') (hB : w.heap.size ≤ B) : ThAt w' t cs := by
  obtain ⟨n, c, t2, t3, t4, t5, t6, e, h⟩ := h
  exact ⟨n, c, t2, t3, t4, t5, t6, e, h.below hb hB⟩

/-- what Normal returns -/
def NormalPost (w : World) (cs : List (Nm × List Nm)) (ss : List Nm) (e : Ending) (w' : World) : Prop :=
  ∃ v' er, e = .returned (.tuple #[v', .int .i64 er]) ∧ Below w.heap.size w w' ∧ (clsErr cs ≠ 0 → er = clsErr cs) ∧
    (clsErr cs = 0 → ∃ sp ab, Built cs sp ab ∧ er = normErr (cs.map Prod.fst) ss ∧ (er = 0 → SlO w' w.heap.size v' (leastB (cs.map Prod.fst) (fun i => ab.getD i []) ss)))

/-- what Less returns -/
def LessPost (w : World) (cs : List (Nm × List Nm)) (ss ts : List Nm) (e : Ending) (w' : World) : Prop :=
  ∃ r, e = .returned (.bool r) ∧ Below w.heap.size w w' ∧ (clsErr cs ≠ 0 → r = false) ∧
    (clsErr cs = 0 → ∃ sp ab, Built cs sp ab ∧ r = lessB (cs.map Prod.fst) (fun i => ab.getD i []) ss ts)

end Go.Proofs.YtkmoepabnnjoaaaDoor

/- Few, fewSorts. -/
namespace Go.Proofs.YtkmoepabnnjoaaaDoor
open Go.RowKit Go.WideMaps Go.Shelf

/-- a slice of slices, whatever they hold -/
def SlSS (w : World) (v : Value) : Prop :=
  ∃ a n cap, v = .slice a n cap ∧ n ≤ maxLen ∧ (0 < n → ∃ b off, a = some ⟨b, off, none⟩ ∧ b < w.heap.size ∧ ∀ k, k < n → ∃ p m c, w.cell? ⟨b, off + k, none⟩ = some (.slice p m c))

theorem SlSS.below {w w' : World} {B : Nat} {v : Value} (h : SlSS w v) (hb : Below B w w') (hB : w.heap.size ≤ B) : SlSS w' v := by
  obtain ⟨a, n, cap, e, h1, h2⟩ := h
  refine ⟨a, n, cap, e, h1, fun hn => ?_⟩
  obtain ⟨b, off, e1, h3, h4⟩ := h2 hn
  refine ⟨b, off, e1, by have := hb.size; omega, fun k hk => ?_⟩
  obtain ⟨p, m, c, h5⟩ := h4 k hk
  exact ⟨p, m, c, (hb.cell (p := ⟨b, off + k, none⟩) (by simp; omega)).trans h5⟩

def AB (w : World) (e : Ending) (w' : World) : Prop := ∃ r, e = .returned (.bool r) ∧ Below w.heap.size w w'
def AI (w : World) (e : Ending) (w' : World) : Prop := ∃ r : Int, e = .returned (.int .i64 r) ∧ Below w.heap.size w w'

/-- a slice of arities, whatever they say -/
def SlA (w : World) (v : Value) : Prop :=
  ∃ a n cap, v = .slice a n cap ∧ n ≤ maxLen ∧ (0 < n → ∃ b off, a = some ⟨b, off, none⟩ ∧ b < w.heap.size ∧ ∀ k, k < n → ∃ s1 s2 v3, w.cell? ⟨b, off + k * 3, none⟩ = some (.string s1) ∧ w.cell? ⟨b, off + k * 3 + 1, none⟩ = some (.string s2) ∧ w.cell? ⟨b, off + k * 3 + 2, none⟩ = some v3 ∧ SlSS w v3)

theorem SlA.below {w w' : World} {B : Nat} {v : Value} (h : SlA w v) (hb : Below B w w') (hB : w.heap.size ≤ B) : SlA w' v := by
  obtain ⟨a, n, cap, e, h1, h2⟩ := h
  refine ⟨a, n, cap, e, h1, fun hn => ?_⟩
  obtain ⟨b, off, e1, h3, h4⟩ := h2 hn
  refine ⟨b, off, e1, by have := hb.size; omega, fun k hk => ?_⟩
  obtain ⟨s1, s2, v3, g1, g2, g3, g4⟩ := h4 k hk
  exact ⟨s1, s2, v3, (hb.cell (p := ⟨b, _, none⟩) (by simp; omega)).trans g1, (hb.cell (p := ⟨b, _, none⟩) (by simp; omega)).trans g2, (hb.cell (p := ⟨b, _, none⟩) (by simp; omega)).trans g3, g4.below hb hB⟩

end Go.Proofs.YtkmoepabnnjoaaaDoor

/- awake. -/
namespace Go.Proofs.YtkmoepabnnjoaaaDoor
open Go.RowKit Go.WideMaps Go.Shelf

def cs0 : List (Nm × List Nm) := [([97], []), ([98], []), ([99], [[97], [98]])]

theorem built0 : Built cs0 [[], [], [0, 1]] [[0], [1], [2, 0, 1]] := by
  have h1 : Built ([] ++ [(([97] : Nm), ([] : List Nm))]) ([] ++ [([] : List Nm).map (ixOf (([] : List (Nm × List Nm)).map Prod.fst))]) ([] ++ [[0]]) := by
    refine .snoc .nil (by kernel_rfl) fun x => ⟨fun h => ?_, fun h => ?_⟩
    · simp at h; subst h; exact .self
    · cases h with
      | self => simp
      | step _ hs => rename_i k _; cases k <;> simp at hs
  have h2 : Built ([([97], [])] ++ [(([98] : Nm), ([] : List Nm))]) ([[]] ++ [([] : List Nm).map (ixOf ([(([97] : Nm), ([] : List Nm))].map Prod.fst))]) ([[0]] ++ [[1]]) := by
    refine .snoc h1 (by kernel_rfl) fun x => ⟨fun h => ?_, fun h => ?_⟩
    · simp at h; subst h; exact .self
    · cases h with
      | self => simp
      | step _ hs => rename_i k _; rcases k with _ | _ | k <;> simp at hs
  have e : ([[97], [98]] : List Nm).map (ixOf ([([97], []), (([98] : Nm), ([] : List Nm))].map Prod.fst)) = [0, 1] := by kernel_rfl
  have h3 := Built.snoc (nm := [99]) (sups := [[97], [98]]) (ys := [2, 0, 1]) h2 (by kernel_rfl) (by
    intro x
    have e' : (([] : List (List Nat)) ++ [([] : List Nm).map (ixOf ([(([97] : Nm), ([] : List Nm))].map Prod.fst))] ++ [([[97], [98]] : List Nm).map (ixOf ([([97], []), (([98] : Nm), ([] : List Nm))].map Prod.fst))]) = [[], [0, 1]] := by kernel_rfl
    show x ∈ [2, 0, 1] ↔ Reach (fun i => [[], [], ([[97], [98]] : List Nm).map (ixOf ([([97], []), (([98] : Nm), ([] : List Nm))].map Prod.fst))].getD i []) 2 x
    rw [e]
    constructor
    · intro h
      have : x = 2 ∨ x = 0 ∨ x = 1 := by simpa using h
      rcases this with rfl | rfl | rfl
      · exact .self
      · exact .step .self (by simp)
      · exact .step .self (by simp)
    · intro h
      induction h with
      | self => simp
      | step _ hs ih =>
        rename_i k s _
        have : k = 2 ∨ k = 0 ∨ k = 1 := by simpa using ih
        rcases this with rfl | rfl | rfl <;> simp at hs
        rcases hs with rfl | rfl <;> simp)
  exact h3

theorem least0 {sp ab : List (List Nat)} (hb : Built cs0 sp ab) : leastB (cs0.map Prod.fst) (fun i => ab.getD i []) [[98], [99], [97]] = [[99]] := by
  have hsp := built0.det hb
  subst hsp
  refine ascB.uniq (leastB_asc _ _ _) (by simp [ascB]) fun x => ?_
  rw [mem_least hb (by intro x hx; simp at hx; rcases hx with rfl | rfl | rfl <;> kernel_rfl)]
  have hlt := hb.lt'
  have i1 : ixOf (cs0.map Prod.fst) [97] = 0 := by kernel_rfl
  have i2 : ixOf (cs0.map Prod.fst) [98] = 1 := by kernel_rfl
  have i3 : ixOf (cs0.map Prod.fst) [99] = 2 := by kernel_rfl
  constructor
  · rintro ⟨hx, hm⟩
    simp at hx
    rcases hx with rfl | rfl | rfl
    · have := hm [99] (by simp) (by unfold leN; rw [i2, i3]; exact .step .self (by simp))
      simp at this
    · simp
    · have := hm [99] (by simp) (by unfold leN; rw [i1, i3]; exact .step .self (by simp))
      simp at this
  · intro hx
    have hx' : x = [99] := by simpa using hx
    subst hx'
    refine ⟨by simp, fun d hd hle => ?_⟩
    simp at hd
    have := Reach.le hlt hle
    rcases hd with rfl | rfl | rfl
    · rw [i2, i3] at this; omega
    · rfl
    · rw [i1, i3] at this; omega

theorem cells2X {w : World} {k : Nat} {a0 a1 : Value} {t : TypeId} {fr : Nat × Nat} (h : w.heap[k]? = some (.cells #[a0, a1] t fr)) : w.cell? ⟨k, 0, none⟩ = some a0 ∧ w.cell? ⟨k, 1, none⟩ = some a1 :=
  ⟨by rw [cell_of_row w _ 0 _ _ _ h]; rfl, by rw [cell_of_row w _ 1 _ _ _ h]; rfl⟩

theorem slS3 {w : World} {k c : Nat} {a0 a1 a2 : Nm} (h : w.heap[k]? = some (.cells #[.string (bs a0), .string (bs a1), .string (bs a2)] 9 (0, 0))) (h0 : a0.length ≤ maxLen) (h1 : a1.length ≤ maxLen) (h2 : a2.length ≤ maxLen) : SlS w (.slice (some ⟨k, 0, none⟩) 3 c) [a0, a1, a2] := by
  refine ⟨by simp [maxLen], _, c, rfl, fun _ => ⟨k, 0, rfl, (Array.getElem?_eq_some_iff.1 h).1, fun j hj => ?_, fun s hs => ?_⟩⟩
  · rw [cell_of_row w _ _ _ _ _ h]
    have : j = 0 ∨ j = 1 ∨ j = 2 := by simp at hj; omega
    rcases this with rfl | rfl | rfl <;> rfl
  · simp at hs
    rcases hs with rfl | rfl | rfl <;> assumption

theorem slS2 {w : World} {k c : Nat} {a0 a1 : Nm} (h : w.heap[k]? = some (.cells #[.string (bs a0), .string (bs a1)] 9 (0, 0))) (h0 : a0.length ≤ maxLen) (h1 : a1.length ≤ maxLen) : SlS w (.slice (some ⟨k, 0, none⟩) 2 c) [a0, a1] := by
  refine ⟨by simp [maxLen], _, c, rfl, fun _ => ⟨k, 0, rfl, (Array.getElem?_eq_some_iff.1 h).1, fun j hj => ?_, fun s hs => ?_⟩⟩
  · rw [cell_of_row w _ _ _ _ _ h]
    have : j = 0 ∨ j = 1 := by simp at hj; omega
    rcases this with rfl | rfl <;> rfl
  · simp at hs
    rcases hs with rfl | rfl <;> assumption

theorem slS1 {w : World} {k c : Nat} {a0 : Nm} (h : w.heap[k]? = some (.cells #[.string (bs a0)] 9 (0, 0))) (h0 : a0.length ≤ maxLen) : SlS w (.slice (some ⟨k, 0, none⟩) 1 c) [a0] := by
  refine ⟨by simp [maxLen], _, c, rfl, fun _ => ⟨k, 0, rfl, (Array.getElem?_eq_some_iff.1 h).1, fun j hj => ?_, fun s hs => ?_⟩⟩
  · rw [cell_of_row w _ _ _ _ _ h]
    have : j = 0 := by simp at hj; omega
    subst this; rfl
  · simp at hs
    subst hs; exact h0

theorem slS0 {w : World} : SlS w (.slice none 0 0) [] := ⟨by decide, none, 0, rfl, fun h => absurd h (by decide)⟩

end Go.Proofs.YtkmoepabnnjoaaaDoor

/- The law of least sorts. -/
namespace Go.Proofs.YtkmoepabnnjoaaaDoor
open Go.RowKit Go.WideMaps Go.Shelf

/-- a theory in memory, as far as the law looks at it -/
def ThF (w : World) (t : Value) (cs : List (Nm × List Nm)) : Prop :=
  ∃ n c p2 n2 k2 t3 t4 t5 t6, t = .agg #[n, c, .slice p2 n2 k2, t3, t4, t5, t6] ∧ SlC w c cs ∧ SlA w t3

theorem ThF.below {w w' : World} {B : Nat} {t : Value} {cs : List (Nm × List Nm)} (h : ThF w t cs) (hb : Below B w w') (hB : w.heap.size ≤ B) : ThF w' t cs := by
  obtain ⟨n, c, p2, n2, k2, t3, t4, t5, t6, e, h1, h2⟩ := h
  exact ⟨n, c, p2, n2, k2, t3, t4, t5, t6, e, h1.below hb hB, h2.below hb hB⟩

theorem ThF.th {w : World} {t : Value} {cs : List (Nm × List Nm)} (h : ThF w t cs) : ThAt w t cs := by
  obtain ⟨n, c, p2, n2, k2, t3, t4, t5, t6, e, h1, h2⟩ := h
  exact ⟨n, c, _, t3, t4, t5, t6, e, h1⟩

theorem normErr_zero {ns ss : List Nm} (h : normErr ns ss = 0) : ss.length ≤ 20 ∧ ss.all (inNs ns) = true := by
  unfold normErr at h
  by_cases h1 : 20 < ss.length
  · rw [if_pos h1] at h; exact absurd h (by decide)
  · rw [if_neg h1] at h
    by_cases h2 : ss.all (inNs ns) = true
    · exact ⟨by omega, h2⟩
    · rw [if_neg h2] at h; exact absurd h (by decide)

theorem cells7 {w : World} {k : Nat} {a0 a1 a2 a3 a4 a5 a6 : Value} {t : TypeId} {fr : Nat × Nat} (h : w.heap[k]? = some (.cells #[a0, a1, a2, a3, a4, a5, a6] t fr)) :
    w.cell? ⟨k, 0, none⟩ = some a0 ∧ w.cell? ⟨k, 1, none⟩ = some a1 ∧ w.cell? ⟨k, 2, none⟩ = some a2 ∧ w.cell? ⟨k, 3, none⟩ = some a3 ∧ w.cell? ⟨k, 4, none⟩ = some a4 ∧ w.cell? ⟨k, 5, none⟩ = some a5 ∧ w.cell? ⟨k, 6, none⟩ = some a6 :=
  ⟨by rw [cell_of_row w _ 0 _ _ _ h]; rfl, by rw [cell_of_row w _ 1 _ _ _ h]; rfl, by rw [cell_of_row w _ 2 _ _ _ h]; rfl, by rw [cell_of_row w _ 3 _ _ _ h]; rfl, by rw [cell_of_row w _ 4 _ _ _ h]; rfl, by rw [cell_of_row w _ 5 _ _ _ h]; rfl, by rw [cell_of_row w _ 6 _ _ _ h]; rfl⟩

theorem slSS2 {w : World} {k c : Nat} {p1 p2 : Option Addr} {n1 c1 n2 c2 : Nat} {fr : Nat × Nat} (h : w.heap[k]? = some (.cells #[.slice p1 n1 c1, .slice p2 n2 c2] 22 fr)) : SlSS w (.slice (some ⟨k, 0, none⟩) 2 c) := by
  refine ⟨_, 2, c, rfl, by decide, fun _ => ⟨k, 0, rfl, (Array.getElem?_eq_some_iff.1 h).1, fun j hj => ?_⟩⟩
  rw [cell_of_row w _ _ _ _ _ h]
  have : j = 0 ∨ j = 1 := by omega
  rcases this with rfl | rfl
  · exact ⟨_, _, _, rfl⟩
  · exact ⟨_, _, _, rfl⟩

end Go.Proofs.YtkmoepabnnjoaaaDoor

/- The order of types: pure facts. -/
namespace Go.Proofs.YtkmoepabnnjoaaaDoor
open Go.RowKit Go.WideMaps Go.Shelf
/-- a type: its kind, name, index, sort and arguments -/
inductive TY where
  | mk (o : Int) (x : Nm) (i : Int) (s : List Nm) (l : List TY)
def TY.o : TY → Int | .mk o _ _ _ _ => o
def TY.x : TY → Nm | .mk _ x _ _ _ => x
def TY.i : TY → Int | .mk _ _ i _ _ => i
def TY.s : TY → List Nm | .mk _ _ _ s _ => s
def TY.l : TY → List TY | .mk _ _ _ _ l => l

theorem TY.ext {a b : TY} (h1 : a.o = b.o) (h2 : a.x = b.x) (h3 : a.i = b.i) (h4 : a.s = b.s) (h5 : a.l = b.l) : a = b := by
  cases a; cases b
  simp only [TY.o, TY.x, TY.i, TY.s, TY.l] at *
  subst h1 h2 h3 h4 h5; rfl

mutual
/-- the number of nodes -/
def TY.size : TY → Nat
  | .mk _ _ _ _ l => 1 + TY.sizes l
def TY.sizes : List TY → Nat
  | [] => 0
  | t :: l => t.size + TY.sizes l
end

/-- a total order, as a comparison of the elements of P -/
structure TotOn {α : Type} (P : α → Prop) (f : α → α → Int) : Prop where
  eq : ∀ a b, P a → P b → (f a b = 0 ↔ a = b)
  anti : ∀ a b, P a → P b → f a b = - f b a
  rng : ∀ a b, P a → P b → f a b = -1 ∨ f a b = 0 ∨ f a b = 1
  tr : ∀ a b c, P a → P b → P c → f a b ≤ 0 → f b c ≤ 0 → f a c ≤ 0

theorem TotOn.lt {α : Type} {P : α → Prop} {f : α → α → Int} (h : TotOn P f) {a b c : α} (ha : P a) (hb : P b) (hc : P c) (h1 : f a b < 0) (h2 : f b c < 0) : f a c < 0 := by
  have h3 := h.tr a b c ha hb hc (by omega) (by omega)
  have h4 : f a c ≠ 0 := fun e => by
    have := (h.eq a c ha hc).1 e
    subst this
    have := h.anti b a hb ha
    omega
  omega

/-- one after the other -/
def thenI (x y : Int) : Int := if x ≠ 0 then x else y

theorem TotOn.lex {α β γ : Type} {P : γ → Prop} {A : α → Prop} {B : β → Prop} {f : α → α → Int} {g : β → β → Int} (p : γ → α) (q : γ → β) (hf : TotOn A f) (hg : TotOn B g) (hA : ∀ t, P t → A (p t)) (hB : ∀ t, P t → B (q t)) (hpq : ∀ a b : γ, P a → P b → p a = p b → q a = q b → a = b) :
    TotOn P fun a b => thenI (f (p a) (p b)) (g (q a) (q b)) := by
  refine ⟨fun a b ha hb => ?_, fun a b ha hb => ?_, fun a b ha hb => ?_, fun a b c ha hb hc => ?_⟩
  · have h1 := hf.eq _ _ (hA a ha) (hA b hb)
    have h2 := hg.eq _ _ (hB a ha) (hB b hb)
    unfold thenI
    constructor
    · intro h
      by_cases h0 : f (p a) (p b) = 0
      · rw [if_neg (fun hn => hn h0)] at h
        exact hpq a b ha hb (h1.1 h0) (h2.1 h)
      · rw [if_pos h0] at h; exact absurd h h0
    · intro e
      subst e
      rw [if_neg (fun hn => hn (h1.2 rfl))]
      exact h2.2 rfl
  · have h1 := hf.anti _ _ (hA a ha) (hA b hb)
    have h2 := hg.anti _ _ (hB a ha) (hB b hb)
    unfold thenI
    by_cases h0 : f (p a) (p b) = 0
    · rw [if_neg (fun hn => hn h0), if_neg (fun hn => hn (by omega)), h2]
    · rw [if_pos h0, if_pos (by omega), h1]
  · have h1 := hf.rng _ _ (hA a ha) (hA b hb)
    have h2 := hg.rng _ _ (hB a ha) (hB b hb)
    unfold thenI
    by_cases h0 : f (p a) (p b) = 0
    · rw [if_neg (fun hn => hn h0)]; exact h2
    · rw [if_pos h0]; exact h1
  · unfold thenI
    have e1 := hf.eq _ _ (hA a ha) (hA b hb)
    have e2 := hf.eq _ _ (hA b hb) (hA c hc)
    intro h1 h2
    by_cases hab : f (p a) (p b) = 0
    · rw [if_neg (fun hn => hn hab)] at h1
      have pe := e1.1 hab
      rw [pe]
      by_cases hbc : f (p b) (p c) = 0
      · rw [if_neg (fun hn => hn hbc)] at h2 ⊢
        exact hg.tr _ _ _ (hB a ha) (hB b hb) (hB c hc) h1 h2
      · rw [if_pos hbc] at h2 ⊢
        exact h2
    · rw [if_pos hab] at h1
      by_cases hbc : f (p b) (p c) = 0
      · rw [← e2.1 hbc, if_pos hab]; exact h1
      · rw [if_pos hbc] at h2
        have h3 := hf.lt (hA a ha) (hA b hb) (hA c hc) (show f (p a) (p b) < 0 by omega) (show f (p b) (p c) < 0 by omega)
        rw [if_pos (by omega)]
        omega

/-- lists, by their elements: the shorter one is ahead -/
def cmpL {α : Type} (f : α → α → Int) : List α → List α → Int
  | [], [] => 0
  | [], _ :: _ => -1
  | _ :: _, [] => 1
  | a :: l, b :: m => thenI (f a b) (cmpL f l m)

theorem cmpL_tot {α : Type} {P : α → Prop} {f : α → α → Int} (h : TotOn P f) : TotOn (fun l : List α => ∀ x ∈ l, P x) (cmpL f) := by
  refine ⟨?_, ?_, ?_, ?_⟩
  · intro a
    induction a with
    | nil => intro b _ _; cases b <;> simp [cmpL]
    | cons x l ih =>
      intro b ha hb
      cases b with
      | nil => simp [cmpL]
      | cons y m =>
        have h1 := h.eq x y (ha x (by simp)) (hb y (by simp))
        have h2 := ih m (fun z hz => ha z (by simp [hz])) (fun z hz => hb z (by simp [hz]))
        unfold cmpL thenI
        constructor
        · intro h3
          by_cases h0 : f x y = 0
          · rw [if_neg (fun hn => hn h0)] at h3
            rw [h1.1 h0, h2.1 h3]
          · rw [if_pos h0] at h3; exact absurd h3 h0
        · intro e
          injection e with e3 e4
          subst e3 e4
          rw [if_neg (fun hn => hn (h1.2 rfl))]
          exact h2.2 rfl
  · intro a
    induction a with
    | nil => intro b _ _; cases b <;> simp [cmpL]
    | cons x l ih =>
      intro b ha hb
      cases b with
      | nil => simp [cmpL]
      | cons y m =>
        have h1 := h.anti x y (ha x (by simp)) (hb y (by simp))
        have h2 := ih m (fun z hz => ha z (by simp [hz])) (fun z hz => hb z (by simp [hz]))
        unfold cmpL thenI
        by_cases h0 : f x y = 0
        · rw [if_neg (fun hn => hn h0), if_neg (fun hn => hn (by omega)), h2]
        · rw [if_pos h0, if_pos (by omega), h1]
  · intro a
    induction a with
    | nil => intro b _ _; cases b <;> simp [cmpL]
    | cons x l ih =>
      intro b ha hb
      cases b with
      | nil => simp [cmpL]
      | cons y m =>
        have h1 := h.rng x y (ha x (by simp)) (hb y (by simp))
        have h2 := ih m (fun z hz => ha z (by simp [hz])) (fun z hz => hb z (by simp [hz]))
        unfold cmpL thenI
        by_cases h0 : f x y = 0
        · rw [if_neg (fun hn => hn h0)]; exact h2
        · rw [if_pos h0]; exact h1
  · intro a
    induction a with
    | nil => intro b c _ _ _ _ _; cases c <;> simp [cmpL]
    | cons x l ih =>
      intro b c ha hb hc h1 h2
      cases b with
      | nil => simp [cmpL] at h1
      | cons y m =>
        cases c with
        | nil => simp [cmpL] at h2
        | cons z k =>
          have hx := ha x (by simp)
          have hy := hb y (by simp)
          have hz := hc z (by simp)
          unfold cmpL thenI at h1 h2 ⊢
          by_cases hab : f x y = 0
          · rw [if_neg (fun hn => hn hab)] at h1
            rw [(h.eq x y hx hy).1 hab]
            by_cases hbc : f y z = 0
            · rw [if_neg (fun hn => hn hbc)] at h2 ⊢
              exact ih m k (fun w hw => ha w (by simp [hw])) (fun w hw => hb w (by simp [hw])) (fun w hw => hc w (by simp [hw])) h1 h2
            · rw [if_pos hbc] at h2 ⊢
              exact h2
          · rw [if_pos hab] at h1
            by_cases hbc : f y z = 0
            · rw [← (h.eq y z hy hz).1 hbc, if_pos hab]; exact h1
            · rw [if_pos hbc] at h2
              have h3 := h.lt hx hy hz (show f x y < 0 by omega) (show f y z < 0 by omega)
              rw [if_pos (by omega)]
              omega

def cmpI (a b : Int) : Int := if a < b then -1 else if b < a then 1 else 0

theorem cmpI_tot : TotOn (fun _ : Int => True) cmpI := by
  refine ⟨fun a b _ _ => ?_, fun a b _ _ => ?_, fun a b _ _ => ?_, fun a b c _ _ _ => ?_⟩ <;> unfold cmpI
  · by_cases h1 : a < b
    · rw [if_pos h1]; constructor <;> intro h <;> omega
    · rw [if_neg h1]
      by_cases h2 : b < a
      · rw [if_pos h2]; constructor <;> intro h <;> omega
      · rw [if_neg h2]; constructor <;> intro h <;> omega
  · by_cases h1 : a < b
    · rw [if_pos h1, if_neg (by omega), if_pos h1]
    · rw [if_neg h1]
      by_cases h2 : b < a
      · rw [if_pos h2, if_pos h2]; rfl
      · rw [if_neg h2, if_neg h2, if_neg h1]; rfl
  · by_cases h1 : a < b
    · rw [if_pos h1]; simp
    · rw [if_neg h1]
      by_cases h2 : b < a
      · rw [if_pos h2]; simp
      · rw [if_neg h2]; simp
  · intro h1 h2
    have g1 : ¬ b < a := fun h => by rw [if_neg (by omega), if_pos h] at h1; omega
    have g2 : ¬ c < b := fun h => by rw [if_neg (by omega), if_pos h] at h2; omega
    by_cases h3 : a < c
    · rw [if_pos h3]; omega
    · rw [if_neg h3, if_neg (by omega)]; omega
theorem cb_rng : ∀ a b : Nm, Lib.compareBytes a b = -1 ∨ Lib.compareBytes a b = 0 ∨ Lib.compareBytes a b = 1
  | [], [] => by simp [Lib.compareBytes]
  | [], _ :: _ => by simp [Lib.compareBytes]
  | _ :: _, [] => by simp [Lib.compareBytes]
  | a :: x, b :: y => by
    have ih := cb_rng x y
    unfold Lib.compareBytes
    split
    · simp
    · split
      · simp
      · exact ih

theorem cb_tot : TotOn (fun _ : Nm => True) Lib.compareBytes := by
  refine ⟨fun a b _ _ => ⟨cb_eq a b, fun e => by rw [e]; exact cb_refl b⟩, fun a b _ _ => cb_swap b a, fun a b _ _ => cb_rng a b, fun a b c _ _ _ h1 h2 => ?_⟩
  by_cases h3 : Lib.compareBytes a b = 0
  · rw [cb_eq a b h3]; exact h2
  · by_cases h4 : Lib.compareBytes b c = 0
    · rw [← cb_eq b c h4]; exact h1
    · have := cb_trans a b c (by omega) (by omega)
      omega

mutual
/-- the order of types -/
def cmpT : TY → TY → Int
  | .mk o x i s l, b => thenI (cmpI o b.o) (thenI (Lib.compareBytes x b.x) (thenI (cmpI i b.i) (thenI (cmpL Lib.compareBytes s b.s) (cmpTs l b.l))))
def cmpTs : List TY → List TY → Int
  | [], [] => 0
  | [], _ :: _ => -1
  | _ :: _, [] => 1
  | a :: l, b :: m => thenI (cmpT a b) (cmpTs l m)
end

theorem cmpTs_eq : ∀ l m : List TY, cmpTs l m = cmpL cmpT l m
  | [], [] => by simp [cmpTs, cmpL]
  | [], _ :: _ => by simp [cmpTs, cmpL]
  | _ :: _, [] => by simp [cmpTs, cmpL]
  | a :: l, b :: m => by
    rw [cmpTs, cmpL, cmpTs_eq l m]

theorem cmpT_eq (a b : TY) : cmpT a b = thenI (cmpI a.o b.o) (thenI (Lib.compareBytes a.x b.x) (thenI (cmpI a.i b.i) (thenI (cmpL Lib.compareBytes a.s b.s) (cmpL cmpT a.l b.l)))) := by
  cases a with
  | mk o x i s l => rw [cmpT, cmpTs_eq]; rfl

theorem sizes_mem : ∀ (l : List TY) (t : TY), t ∈ l → t.size ≤ TY.sizes l
  | [], _, h => absurd h (by simp)
  | a :: l, t, h => by
    unfold TY.sizes
    rcases List.mem_cons.1 h with rfl | h
    · omega
    · have := sizes_mem l t h; omega

theorem size_kids (t : TY) {n : Nat} (h : t.size ≤ n + 1) : ∀ x ∈ t.l, x.size ≤ n := by
  intro x hx
  cases t with
  | mk o y i s l =>
    unfold TY.size at h
    have := sizes_mem l x hx
    omega

theorem cmpT_tot : ∀ n : Nat, TotOn (fun t : TY => t.size ≤ n) cmpT
  | 0 => by
    have hz : ∀ t : TY, ¬ t.size ≤ 0 := fun t h => by cases t; unfold TY.size at h; omega
    exact ⟨fun a _ h => absurd h (hz a), fun a _ h => absurd h (hz a), fun a _ h => absurd h (hz a), fun a _ _ h => absurd h (hz a)⟩
  | n + 1 => by
    have ih := cmpL_tot (cmpT_tot n)
    have h4 := TotOn.lex (P := fun t : List Nm × List TY => ∀ x ∈ t.2, x.size ≤ n) Prod.fst Prod.snd (cmpL_tot cb_tot) ih (fun t _ x _ => trivial) (fun t h => h) (fun a b _ _ e1 e2 => Prod.ext e1 e2)
    have h3 := TotOn.lex (P := fun t : Int × List Nm × List TY => ∀ x ∈ t.2.2, x.size ≤ n) Prod.fst Prod.snd cmpI_tot h4 (fun t _ => trivial) (fun t h => h) (fun a b _ _ e1 e2 => Prod.ext e1 e2)
    have h2 := TotOn.lex (P := fun t : Nm × Int × List Nm × List TY => ∀ x ∈ t.2.2.2, x.size ≤ n) Prod.fst Prod.snd cb_tot h3 (fun t _ => trivial) (fun t h => h) (fun a b _ _ e1 e2 => Prod.ext e1 e2)
    have h1 := TotOn.lex (P := fun t : TY => t.size ≤ n + 1) TY.o (fun t => (t.x, t.i, t.s, t.l)) cmpI_tot h2 (fun t _ => trivial) (fun t h => size_kids t h) (fun a b _ _ e1 e2 => by
      injection e2 with e2 e3
      injection e3 with e3 e4
      injection e4 with e4 e5
      exact TY.ext e1 e2 e3 e4 e5)
    have he : (fun a b : TY => thenI (cmpI a.o b.o) (thenI (Lib.compareBytes a.x b.x) (thenI (cmpI a.i b.i) (thenI (cmpL Lib.compareBytes a.s b.s) (cmpL cmpT a.l b.l))))) = cmpT := by
      funext a b; exact (cmpT_eq a b).symm
    rw [← he]
    exact h1

/-- the law of the order, as numbers -/
theorem cmpT_law (a b c : TY) : cmpT a b = - cmpT b a ∧ ¬ (cmpT a b ≤ 0 ∧ cmpT b c ≤ 0 ∧ 0 < cmpT a c) ∧ ¬ cmpT a b < -1 ∧ ¬ 1 < cmpT a b ∧ (cmpT a b = 0 ↔ a = b) := by
  have h := cmpT_tot (a.size + b.size + c.size)
  have ha : a.size ≤ a.size + b.size + c.size := by omega
  have hb : b.size ≤ a.size + b.size + c.size := by omega
  have hc : c.size ≤ a.size + b.size + c.size := by omega
  have hr := h.rng a b ha hb
  refine ⟨h.anti a b ha hb, fun ⟨h1, h2, h3⟩ => ?_, by omega, by omega, h.eq a b ha hb⟩
  have := h.tr a b c ha hb hc h1 h2
  omega
end Go.Proofs.YtkmoepabnnjoaaaDoor
