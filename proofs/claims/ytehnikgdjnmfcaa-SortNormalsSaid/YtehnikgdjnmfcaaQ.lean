/- Slices of strings of one's own: Clone, SortFunc, Compact, Equal, Reverse. -/
import Derived.Test.YtehnikgdjnmfcaaO
import Derived.Test.YtehnikgdjnmfcaaP
import Derived.Lib.SortBridge
import Derived.Sort.OwnSorted
namespace Go.Proofs.Ytehnikgdjnmfcaa
open Go.RowKit Go.WideMaps Go.Shelf Go.Sort Go.Lib

/-! ### the order of bytes -/
theorem cb_refl : ∀ a : Nm, Lib.compareBytes a a = 0
  | [] => rfl
  | a :: u => by unfold Lib.compareBytes; simp [cb_refl u]

theorem cb_swap : ∀ a b : Nm, Lib.compareBytes b a = - Lib.compareBytes a b
  | [], [] => rfl
  | [], _ :: _ => rfl
  | _ :: _, [] => rfl
  | a :: u, b :: v => by
    unfold Lib.compareBytes
    by_cases h1 : a < b
    · have h2 : ¬ b < a := UInt8.lt_asymm h1
      simp [h1, h2]
    · by_cases h2 : b < a
      · simp [h1, h2]
      · simp [h1, h2, cb_swap u v]

theorem cb_eq : ∀ a b : Nm, Lib.compareBytes a b = 0 → a = b
  | [], [], _ => rfl
  | [], _ :: _, h => by simp [Lib.compareBytes] at h
  | _ :: _, [], h => by simp [Lib.compareBytes] at h
  | a :: u, b :: v, h => by
    unfold Lib.compareBytes at h
    by_cases h1 : a < b
    · simp [h1] at h
    · by_cases h2 : b < a
      · simp [h1, h2] at h
      · simp [h1, h2] at h
        have e : a = b := by
          apply UInt8.toNat.inj
          have h1' : ¬ a.toNat < b.toNat := h1
          have h2' : ¬ b.toNat < a.toNat := h2
          omega
        rw [e, cb_eq u v h]

theorem cb_trans : ∀ a b c : Nm, Lib.compareBytes a b < 0 → Lib.compareBytes b c < 0 → Lib.compareBytes a c < 0
  | [], [], _, h, _ => by simp [Lib.compareBytes] at h
  | [], _ :: _, [], _, h => by simp [Lib.compareBytes] at h
  | [], _ :: _, _ :: _, _, _ => by simp [Lib.compareBytes]
  | _ :: _, [], _, h, _ => by simp [Lib.compareBytes] at h
  | _ :: _, _ :: _, [], _, h => by simp [Lib.compareBytes] at h
  | a :: u, b :: v, c :: z, h, k => by
    unfold Lib.compareBytes at h k ⊢
    have T : ∀ x y : UInt8, (x < y) = (x.toNat < y.toNat) := fun _ _ => rfl
    simp only [T] at h k ⊢
    by_cases h1 : a.toNat < b.toNat
    · by_cases k1 : b.toNat < c.toNat
      · rw [if_pos (by omega)]; decide
      · rw [if_neg k1] at k
        by_cases k2 : c.toNat < b.toNat
        · rw [if_pos k2] at k; exact absurd k (by decide)
        · rw [if_pos (by omega)]; decide
    · rw [if_neg h1] at h
      by_cases h2 : b.toNat < a.toNat
      · rw [if_pos h2] at h; exact absurd h (by decide)
      · rw [if_neg h2] at h
        by_cases k1 : b.toNat < c.toNat
        · rw [if_pos (by omega)]; decide
        · rw [if_neg k1] at k
          by_cases k2 : c.toNat < b.toNat
          · rw [if_pos k2] at k; exact absurd k (by decide)
          · rw [if_neg k2] at k
            rw [if_neg (by omega), if_neg (by omega)]
            exact cb_trans u v z h k

theorem lt_cb (x y : Nm) : ltOf Lib.compareBytes x y = decide (Lib.compareBytes x y < 0) := rfl
theorem swoB : SWO (ltOf (α := Nm) Lib.compareBytes) where
  irrefl x := by rw [lt_cb, cb_refl]; rfl
  trans x y z h1 h2 := by
    rw [lt_cb] at *
    exact decide_eq_true (cb_trans x y z (of_decide_eq_true h1) (of_decide_eq_true h2))
  ntrans x y z h1 h2 := by
    rw [lt_cb] at *
    have h1 := of_decide_eq_false h1
    have h2 := of_decide_eq_false h2
    refine decide_eq_false (fun h => ?_)
    have s1 := cb_swap x y
    have s2 := cb_swap y z
    by_cases e1 : Lib.compareBytes x y = 0
    · rw [cb_eq x y e1] at h; exact h2 h
    · by_cases e2 : Lib.compareBytes y z = 0
      · rw [← cb_eq y z e2] at h; exact h1 h
      · have := cb_trans z y x (by omega) (by omega)
        have s3 := cb_swap x z
        omega
theorem totB (x y : Nm) (h1 : ltOf Lib.compareBytes x y = false) (h2 : ltOf Lib.compareBytes y x = false) : x = y := by
  rw [lt_cb] at *
  have h1 := of_decide_eq_false h1
  have h2 := of_decide_eq_false h2
  have := cb_swap x y
  exact cb_eq x y (by omega)

/-- sorted as bytes -/
def sortB (ss : List Nm) : List Nm := ss.mergeSort fun x y => !ltOf Lib.compareBytes y x

/-- a slice of strings that is one's own -/
def SlO (w : World) (B : Nat) (v : Value) (ss : List Nm) : Prop :=
  ss.length * 16 ≤ 140737488355328 ∧ (∀ s ∈ ss, s.length ≤ maxLen) ∧ ∃ a cap, v = .slice a ss.length cap ∧ (0 < ss.length → ∃ b, a = some ⟨b, 0, none⟩ ∧ B ≤ b ∧ b < w.heap.size ∧ ss.length ≤ cap ∧ Holds encStr w b 0 ss.toArray)

theorem holds_iff {w : World} {b : Nat} {ss : List Nm} : Holds encStr w b 0 ss.toArray ↔ ∀ j, j < ss.length → w.cell? ⟨b, j, none⟩ = some (.string (bs (ss.getD j []))) ∧ w.frozen? ⟨b, j, none⟩ = false := by
  unfold Holds
  constructor
  · intro h j hj
    have := h j (by simpa using hj)
    rw [Nat.zero_add] at this
    rw [List.getElem!_toArray] at this
    rw [List.getElem!_eq_getElem?_getD] at this
    rw [List.getD_eq_getElem?_getD]
    exact this
  · intro h j hj
    have := h j (by simpa using hj)
    rw [Nat.zero_add, List.getElem!_toArray, List.getElem!_eq_getElem?_getD]
    rw [List.getD_eq_getElem?_getD] at this
    exact this

theorem SlO.sl {w : World} {B : Nat} {v : Value} {ss : List Nm} (h : SlO w B v ss) : SlS w v ss := by
  obtain ⟨h1, h2, a, cap, e, h3⟩ := h
  refine ⟨by unfold maxLen; omega, a, cap, e, fun hn => ?_⟩
  obtain ⟨b, e1, _, hb, _, hh⟩ := h3 hn
  exact ⟨b, 0, e1, hb, fun j hj => by rw [Nat.zero_add]; exact (holds_iff.1 hh j hj).1, h2⟩

theorem SlO.below {w w' : World} {B C : Nat} {v : Value} {ss : List Nm} (h : SlO w B v ss) (hb : Below C w w') (hC : w.heap.size ≤ C) : SlO w' B v ss := by
  obtain ⟨h1, h2, a, cap, e, h3⟩ := h
  refine ⟨h1, h2, a, cap, e, fun hn => ?_⟩
  obtain ⟨b, e1, hB, hlt, hc, hh⟩ := h3 hn
  refine ⟨b, e1, hB, by have := hb.size; omega, hc, holds_iff.2 fun j hj => ?_⟩
  obtain ⟨c1, c2⟩ := holds_iff.1 hh j hj
  exact ⟨(hb.cell (p := ⟨b, j, none⟩) (by simp; omega)).trans c1, (hb.frozen (p := ⟨b, j, none⟩) (by simp; omega)).trans c2⟩

theorem clone_any (v : Value) (ss : List Nm) (w : World) (hs : SlS w v ss) (hbig : ss.length * 16 ≤ 140737488355328) :
    Calls Try.prog 24 #[v] w fun e w' => ∃ v', e = .returned v' ∧ SlO w' w.heap.size v' ss ∧ Below w.heap.size w w' := by
  obtain ⟨hl, a, cap, rfl, hsx⟩ := hs
  by_cases hn : 0 < ss.length
  · obtain ⟨b, off, rfl, hb, hc, hw⟩ := hsx hn
    have hg : ∀ j, j < ss.length → (ss.map bs).getD j ByteArray.empty = bs (ss.getD j []) := fun j hj => by
      rw [List.getD_eq_getElem?_getD, List.getD_eq_getElem?_getD, List.getElem?_map, List.getElem?_eq_getElem hj]; rfl
    refine (Try.slices_Clone_string b off ss.length cap (ss.map bs) w (by simp) hbig (fun j hj => by rw [hg j (by simpa using hj)]; exact hc j (by simpa using hj))).mono ?_
    rintro e w' ⟨v', rfl, hown, hne, hbl⟩
    refine ⟨v', rfl, ⟨hbig, hw, ?_⟩, hbl⟩
    rcases hown.2 with ⟨e1, _⟩ | ⟨g, cap', cur, e1, hg1, hh, hc1, hc2, hc3⟩
    · exact absurd e1 hne
    · subst e1
      refine ⟨_, cap', rfl, fun _ => ⟨g, rfl, hg1, (Array.getElem?_eq_some_iff.1 hh).1, by omega, holds_iff.2 fun j hj => ⟨?_, hown.frozenAt j⟩⟩⟩
      rw [hown.cellAt j (by omega)]
      rw [List.take_of_length_le (by simp), List.getElem?_map, List.getElem?_map, List.getElem?_eq_getElem hj, List.getD_eq_getElem?_getD, List.getElem?_eq_getElem hj]; rfl
  · have h0 : ss = [] := List.eq_nil_of_length_eq_zero (by omega)
    subst h0
    have hE : ∀ W : World, ∀ a c, SlO W w.heap.size (.slice a 0 c) [] := fun W a c => ⟨hbig, by simp, a, c, rfl, fun h => absurd h (by simp)⟩
    cases a with
    | none =>
      refine (Try.slices_Clone_string_nil 0 cap w).mono ?_
      rintro e w' ⟨rfl, rfl⟩
      exact ⟨_, rfl, hE _ _ _, Below.refl _ _⟩
    | some a =>
      refine (Try.slices_Clone_string_zero a cap w).mono ?_
      rintro e w' ⟨v', rfl, hown, _, hbl⟩
      obtain ⟨p, c, rfl⟩ := ownsRow_form hown
      exact ⟨_, rfl, hE _ _ _, hbl⟩

theorem sortB_perm (ss : List Nm) : (sortB ss).Perm ss := List.mergeSort_perm _ _

theorem sort_any (B : Nat) (v : Value) (ss : List Nm) (w : World) (hs : SlO w B v ss) :
    Calls Try.prog 75 #[v, .func (.func 76) #[] #[]] w fun e w' => e = .returned (.tuple #[]) ∧ SlO w' B v (sortB ss) ∧ Below B w w' := by
  obtain ⟨h1, h2, a, cap, rfl, h3⟩ := hs
  have hlen : (sortB ss).length = ss.length := (sortB_perm ss).length_eq
  by_cases hn : 0 < ss.length
  · obtain ⟨b, rfl, hB, hb, hc, hh⟩ := h3 hn
    have eg : ∀ args w, (callFunc 76 args).run Try.prog w = .ok (.enter 76 args) w := enters_of Try.func76 (by kernel_rfl) rfl
    have hcmp : CmpReads Try.prog 76 #[] encStr Lib.compareBytes b 0 ss.toArray.size w := fun _ _ _ _ x y => (Try.strings_Compare (bs x) (bs y) _).mono (fun e w' ⟨h, h'⟩ => ⟨h, 0, h'⟩)
    have hS := Try.slices_SortFunc_total encStr (fun _ => rfl) Lib.compareBytes swoB 76 #[] b 0 cap ss.toArray w eg hcmp.lays hh hb (by simp; omega) totB
    refine hS.mono ?_
    rintro e w' ⟨rfl, n, os, rfl⟩
    have hg := grownBy_sorted (w := w) (g := b) (n := n) (os := os) (sortB ss).toArray
    refine ⟨rfl, ⟨by omega, fun s hs => h2 s ((sortB_perm ss).mem_iff.1 hs), _, cap, by rw [hlen], fun _ => ⟨b, rfl, hB, ?_, by omega, ?_⟩⟩, (Below.refl B w).grown hg (by omega) (fun r e => by cases e; exact hB)⟩
    · have := hg.size; exact Nat.lt_of_lt_of_le hb this
    · exact holds_sortWorld encStr w b 0 n ss.toArray (sortB ss).toArray os hb hh (by simp [hlen])
  · have h0 : ss = [] := List.eq_nil_of_length_eq_zero (by omega)
    subst h0
    have e0 : sortB [] = [] := List.eq_nil_of_length_eq_zero (by rw [hlen]; rfl)
    rw [e0]
    refine (Try.slices_SortFunc_none (α := Nm) a cap _ w).mono ?_
    rintro e w' ⟨rfl, rfl⟩
    exact ⟨rfl, ⟨h1, h2, a, cap, rfl, fun h => absurd h (by simp)⟩, Below.refl _ _⟩

theorem compactUpTo_len (d : Array Nm) : ∀ m, (compactUpTo d m).length ≤ m
  | 0 => by simp [compactUpTo]
  | m + 1 => by
    rw [compactUpTo_succ, List.length_append]
    have := compactUpTo_len d m
    split <;> simp <;> omega

theorem compactUpTo_mem (d : Array Nm) (x : Nm) : ∀ m, x ∈ compactUpTo d m → ∃ j, j < m ∧ d[j]! = x
  | 0, h => by simp [compactUpTo] at h
  | m + 1, h => by
    rw [compactUpTo_succ, List.mem_append] at h
    rcases h with h | h
    · obtain ⟨j, hj, e⟩ := compactUpTo_mem d x m h
      exact ⟨j, by omega, e⟩
    · split at h
      · simp at h; exact ⟨m, by omega, h.symm⟩
      · simp at h

theorem compact_sub (ss : List Nm) : ∀ x ∈ Lib.compact ss, x ∈ ss := by
  intro x hx
  obtain ⟨j, hj, e⟩ := compactUpTo_mem _ _ _ hx
  rw [List.getElem!_toArray] at e
  rw [getElem!_pos ss j hj] at e
  rw [← e]; exact List.getElem_mem hj

theorem compact_len (ss : List Nm) : (Lib.compact ss).length ≤ ss.length := compactUpTo_len _ _

theorem compact_any (B : Nat) (v : Value) (ss : List Nm) (w : World) (hs : SlO w B v ss) :
    Calls Try.prog 77 #[v] w fun e w' => ∃ v', e = .returned v' ∧ SlO w' B v' (Lib.compact ss) ∧ Below B w w' := by
  obtain ⟨h1, h2, a, cap, rfl, h3⟩ := hs
  have hcl := compact_len ss
  by_cases hn : 0 < ss.length
  · obtain ⟨b, rfl, hB, hb, hc, hh⟩ := h3 hn
    refine (Try.slices_Compact_string b 0 cap ss w hh (by omega) hc).mono ?_
    rintro e w' ⟨rfl, q, rfl⟩
    have hg := grownBy_sorted (w := w) (g := b) (n := q) (os := #[]) (Lib.compact ss ++ List.replicate (ss.length - (Lib.compact ss).length) []).toArray
    rw [grow_empty] at hg
    have hh' : Holds encStr (putRow encStr (Sort.ahead w q) b 0 (Lib.compact ss ++ List.replicate (ss.length - (Lib.compact ss).length) []).toArray) b 0 (Lib.compact ss ++ List.replicate (ss.length - (Lib.compact ss).length) []).toArray :=
      holds_putRow encStr (Sort.ahead w q) b 0 ss.toArray _ hh (by simp; omega)
    refine ⟨_, rfl, ⟨by omega, fun s hs => h2 s (compact_sub ss s hs), _, cap, rfl, fun _ => ⟨b, rfl, hB, ?_, by omega, holds_iff.2 fun j hj => ?_⟩⟩, (Below.refl B w).grown hg (by omega) (fun r e => by cases e; exact hB)⟩
    · exact Nat.lt_of_lt_of_le hb hg.size
    · have := holds_iff.1 hh' j (by simp; omega)
      rw [List.getD_eq_getElem?_getD, List.getElem?_append_left hj, ← List.getD_eq_getElem?_getD] at this
      exact this
  · have h0 : ss = [] := List.eq_nil_of_length_eq_zero (by omega)
    subst h0
    refine (Try.slices_Compact_string_empty a cap w).mono ?_
    rintro e w' ⟨rfl, rfl⟩
    exact ⟨_, rfl, ⟨h1, h2, a, cap, rfl, fun h => absurd h (by decide)⟩, Below.refl _ _⟩

theorem below_drewN' {w : World} (q : Nat) : Below w.heap.size w (w.drewN q) := below_drewN (Below.refl _ _) q

theorem equal_any (u v : Value) (ss ts : List Nm) (w : World) (hs : SlS w u ss) (ht : SlS w v ts) :
    Calls Try.prog 23 #[u, v] w fun e w' => e = .returned (.bool (decide (ss = ts))) ∧ Below w.heap.size w w' := by
  obtain ⟨hl, a, cap, rfl, hsx⟩ := hs
  obtain ⟨hl2, a2, cap2, rfl, htx⟩ := ht
  unfold maxLen at hl hl2
  have inj : ∀ x y : Nm, bs x = bs y → x = y := fun x y e => by have := congrArg (fun b : ByteArray => b.data.toList) e; exact this
  by_cases hne : ss.length = ts.length
  · by_cases hn : 0 < ss.length
    · obtain ⟨b, off, rfl, hb, hc, hw⟩ := hsx hn
      obtain ⟨b2, off2, rfl, hb2, hc2, hw2⟩ := htx (by omega)
      have hg : ∀ (ss : List Nm) j, j < ss.length → (ss.map bs).getD j ByteArray.empty = bs (ss.getD j []) := fun ss j hj => by
        rw [List.getD_eq_getElem?_getD, List.getD_eq_getElem?_getD, List.getElem?_map, List.getElem?_eq_getElem hj]; rfl
      refine (Try.slices_Equal_string b off ss.length cap b2 off2 ts.length cap2 (ss.map bs) (ts.map bs) w (by simp) (by simp) (by omega) (by omega) (fun j hj => by rw [hg ss j (by simpa using hj)]; exact hc j (by simpa using hj))
        (fun j hj => by rw [hg ts j (by simpa using hj)]; exact hc2 j (by simpa using hj))).mono ?_
      rintro e w' ⟨rfl, q, rfl⟩
      refine ⟨?_, below_drewN' q⟩
      rw [List.take_of_length_le (by simp), List.take_of_length_le (by simp)]
      congr 2
      refine decide_eq_decide.2 ⟨fun h => ?_, fun h => by rw [h]⟩
      exact (List.map_inj_right inj).1 h
    · have h0 : ss = [] := List.eq_nil_of_length_eq_zero (by omega)
      have h1 : ts = [] := List.eq_nil_of_length_eq_zero (by omega)
      subst h0 h1
      refine (Try.slices_Equal_string_empty a a2 cap 0 cap2 w (by omega)).mono ?_
      rintro e w' ⟨rfl, rfl⟩
      exact ⟨rfl, Below.refl _ _⟩
  · refine (Try.slices_Equal_string_lens a a2 ss.length cap ts.length cap2 w hne).mono ?_
    rintro e w' ⟨rfl, rfl⟩
    refine ⟨?_, Below.refl _ _⟩
    rw [decide_eq_false (fun h => hne (by rw [h]))]

theorem reverse_any (B : Nat) (v : Value) (ss : List Nm) (w : World) (hs : SlO w B v ss) :
    Calls Try.prog 25 #[v] w fun e w' => e = .returned (.tuple #[]) ∧ SlO w' B v ss.reverse ∧ Below B w w' := by
  obtain ⟨h1, h2, a, cap, rfl, h3⟩ := hs
  by_cases hn : 0 < ss.length
  · obtain ⟨b, rfl, hB, hb, hc, hh⟩ := h3 hn
    have hR : Calls Try.prog 25 #[.slice (some ⟨b, 0, none⟩) ss.length cap] w fun e w' => e = .returned (.tuple #[]) ∧ ∃ n, w' = putRow encStr (Sort.ahead w n) b 0 ss.reverse.toArray := Any.slices_Reverse_string Try.laysNm217 b 0 cap ss w hh (by omega)
    refine hR.mono ?_
    rintro e w' ⟨rfl, q, rfl⟩
    have hg := grownBy_sorted (w := w) (g := b) (n := q) (os := #[]) ss.reverse.toArray
    rw [grow_empty] at hg
    refine ⟨rfl, ⟨by simpa using h1, fun s hs => h2 s (List.mem_reverse.1 hs), _, cap, by rw [List.length_reverse], fun _ => ⟨b, rfl, hB, ?_, by simpa using hc, ?_⟩⟩, (Below.refl B w).grown hg (by omega) (fun r e => by cases e; exact hB)⟩
    · exact Nat.lt_of_lt_of_le hb hg.size
    · exact holds_putRow encStr (Sort.ahead w q) b 0 ss.toArray _ hh (by simp)
  · have h0 : ss = [] := List.eq_nil_of_length_eq_zero (by omega)
    subst h0
    have hR : Calls Try.prog 25 #[.slice a 0 cap] w fun e w' => e = .returned (.tuple #[]) ∧ w' = w := Any.slices_Reverse_string_empty Try.laysNm217 a cap w
    refine hR.mono ?_
    rintro e w' ⟨rfl, rfl⟩
    exact ⟨rfl, ⟨h1, by simp, a, cap, rfl, fun h => absurd h (by decide)⟩, Below.refl _ _⟩
end Go.Proofs.Ytehnikgdjnmfcaa
