/- Slices of strings of one's own: Clone, SortFunc, Compact, Equal, Reverse. -/
import Derived.Test.YtehnikgdjnmfcaaGreatMZ8
import Derived.Test.YtehnikgdjnmfcaaGreatMZ10
import Derived.Lib.SortBridge
import Derived.Sort.OwnSorted
namespace Go.Proofs.YtehnikgdjnmfcaaGreat
open Go.RowKit Go.WideMaps Go.Shelf Go.Sort Go.Lib

/-! ### the order of bytes -/
theorem cb_refl : ∀ a : Nm, Lib.compareBytes a a = 0
  | [] => rfl
  | a :: u => by unfold Lib.compareBytes; simp [cb_refl u]

theorem cb_swap : ∀ a b : Nm, Lib.compareBytes b a = - Lib.compareBytes a b
  | [], [] => rfl
  | [], _ :: _ => rfl
  | _ :: _, [] => rfl
  | a :: u, b :: v => by
    unfold Lib.compareBytes
    by_cases h1 : a < b
    · have h2 : ¬ b < a := UInt8.lt_asymm h1
      simp [h1, h2]
    · by_cases h2 : b < a
      · simp [h1, h2]
      · simp [h1, h2, cb_swap u v]

theorem cb_eq : ∀ a b : Nm, Lib.compareBytes a b = 0 → a = b
  | [], [], _ => rfl
  | [], _ :: _, h => by simp [Lib.compareBytes] at h
  | _ :: _, [], h => by simp [Lib.compareBytes] at h
  | a :: u, b :: v, h => by
    unfold Lib.compareBytes at h
    by_cases h1 : a < b
    · simp [h1] at h
    · by_cases h2 : b < a
      · simp [h1, h2] at h
      · simp [h1, h2] at h
        have e : a = b := by
          apply UInt8.toNat.inj
          have h1' : ¬ a.toNat < b.toNat := h1
          have h2' : ¬ b.toNat < a.toNat := h2
          omega
        rw [e, cb_eq u v h]

theorem cb_trans : ∀ a b c : Nm, Lib.compareBytes a b < 0 → Lib.compareBytes b c < 0 → Lib.compareBytes a c < 0
  | [], [], _, h, _ => by simp [Lib.compareBytes] at h
  | [], _ :: _, [], _, h => by simp [Lib.compareBytes] at h
  | [], _ :: _, _ :: _, _, _ => by simp [Lib.compareBytes]
  | _ :: _, [], _, h, _ => by simp [Lib.compareBytes] at h
  | _ :: _, _ :: _, [], _, h => by simp [Lib.compareBytes] at h
  | a :: u, b :: v, c :: z, h, k => by
    unfold Lib.compareBytes at h k ⊢
    have T : ∀ x y : UInt8, (x < y) = (x.toNat < y.toNat) := fun _ _ => rfl
    simp only [T] at h k ⊢
    by_cases h1 : a.toNat < b.toNat
    · by_cases k1 : b.toNat < c.toNat
      · rw [if_pos (by omega)]; decide
      · rw [if_neg k1] at k
        by_cases k2 : c.toNat < b.toNat
        · rw [if_pos k2] at k; exact absurd k (by decide)
        · rw [if_pos (by omega)]; decide
    · rw [if_neg h1] at h
      by_cases h2 : b.toNat < a.toNat
      · rw [if_pos h2] at h; exact absurd h (by decide)
      · rw [if_neg h2] at h
        by_cases k1 : b.toNat < c.toNat
        · rw [if_pos (by omega)]; decide
        · rw [if_neg k1] at k
          by_cases k2 : c.toNat < b.toNat
          · rw [if_pos k2] at k; exact absurd k (by decide)
          · rw [if_neg k2] at k
            rw [if_neg (by omega), if_neg (by omega)]
            exact cb_trans u v z h k

theorem lt_cb (x y : Nm) : ltOf Lib.compareBytes x y = decide (Lib.compareBytes x y < 0) := rfl
theorem swoB : SWO (ltOf (α := Nm) Lib.compareBytes) where
  irrefl x := by rw [lt_cb, cb_refl]; rfl
  trans x y z h1 h2 := by
    rw [lt_cb] at *
    exact decide_eq_true (cb_trans x y z (of_decide_eq_true h1) (of_decide_eq_true h2))
  ntrans x y z h1 h2 := by
    rw [lt_cb] at *
    have h1 := of_decide_eq_false h1
    have h2 := of_decide_eq_false h2
    refine decide_eq_false (fun h => ?_)
    have s1 := cb_swap x y
    have s2 := cb_swap y z
    by_cases e1 : Lib.compareBytes x y = 0
    · rw [cb_eq x y e1] at h; exact h2 h
    · by_cases e2 : Lib.compareBytes y z = 0
      · rw [← cb_eq y z e2] at h; exact h1 h
      · have := cb_trans z y x (by omega) (by omega)
        have s3 := cb_swap x z
        omega
theorem totB (x y : Nm) (h1 : ltOf Lib.compareBytes x y = false) (h2 : ltOf Lib.compareBytes y x = false) : x = y := by
  rw [lt_cb] at *
  have h1 := of_decide_eq_false h1
  have h2 := of_decide_eq_false h2
  have := cb_swap x y
  exact cb_eq x y (by omega)

/-- sorted as bytes -/
def sortB (ss : List Nm) : List Nm := ss.mergeSort fun x y => !ltOf Lib.compareBytes y x

/-- a slice of strings that is one's own -/
def SlO (w : World) (B : Nat) (v : Value) (ss : List Nm) : Prop :=
  ss.length * 16 ≤ 140737488355328 ∧ (∀ s ∈ ss, s.length ≤ maxLen) ∧ ∃ a cap, v = .slice a ss.length cap ∧ (0 < ss.length → ∃ b, a = some ⟨b, 0, none⟩ ∧ B ≤ b ∧ b < w.heap.size ∧ ss.length ≤ cap ∧ Holds encStr w b 0 ss.toArray)

theorem holds_iff {w : World} {b : Nat} {ss : List Nm} : Holds encStr w b 0 ss.toArray ↔ ∀ j, j < ss.length → w.cell? ⟨b, j, none⟩ = some (.string (bs (ss.getD j []))) ∧ w.frozen? ⟨b, j, none⟩ = false := by
  unfold Holds
  constructor
  · intro h j hj
    have := h j (by simpa using hj)
    rw [Nat.zero_add] at this
    rw [List.getElem!_toArray] at this
    rw [List.getElem!_eq_getElem?_getD] at this
    rw [List.getD_eq_getElem?_getD]
    exact this
  · intro h j hj
    have := h j (by simpa using hj)
    rw [Nat.zero_add, List.getElem!_toArray, List.getElem!_eq_getElem?_getD]
    rw [List.getD_eq_getElem?_getD] at this
    exact this

theorem SlO.sl {w : World} {B : Nat} {v : Value} {ss : List Nm} (h : SlO w B v ss) : SlS w v ss := by
  obtain ⟨h1, h2, a, cap, e, h3⟩ := h
  refine ⟨by unfold maxLen; omega, a, cap, e, fun hn => ?_⟩
  obtain ⟨b, e1, _, hb, _, hh⟩ := h3 hn
  exact ⟨b, 0, e1, hb, fun j hj => by rw [Nat.zero_add]; exact (holds_iff.1 hh j hj).1, h2⟩

theorem SlO.below {w w' : World} {B C : Nat} {v : Value} {ss : List Nm} (h : SlO w B v ss) (hb : Below C w w') (hC : w.heap.size ≤ C) : SlO w' B v ss := by
  obtain ⟨h1, h2, a, cap, e, h3⟩ := h
  refine ⟨h1, h2, a, cap, e, fun hn => ?_⟩
  obtain ⟨b, e1, hB, hlt, hc, hh⟩ := h3 hn
  refine ⟨b, e1, hB, by have := hb.size; omega, hc, holds_iff.2 fun j hj => ?_⟩
  obtain ⟨c1, c2⟩ := holds_iff.1 hh j hj
  exact ⟨(hb.cell (p := ⟨b, j, none⟩) (by simp; omega)).trans c1, (hb.frozen (p := ⟨b, j, none⟩) (by simp; omega)).trans c2⟩

theorem clone_any (v : Value) (ss : List Nm) (w : World) (hs : SlS w v ss) (hbig : ss.length * 16 ≤ 140737488355328) :
    Calls Tryz.prog 63 #[v] w fun e w' => ∃ v', e = .returned v' ∧ SlO w' w.heap.size v' ss ∧ Below w.heap.size w w' := by
  obtain ⟨hl, a, cap, rfl, hsx⟩ := hs
  by_cases hn : 0 < ss.length
  · obtain ⟨b, off, rfl, hb, hc, hw⟩ := hsx hn
    have hg : ∀ j, j < ss.length → (ss.map bs).getD j ByteArray.empty = bs (ss.getD j []) := fun j hj => by
      rw [List.getD_eq_getElem?_getD, List.getD_eq_getElem?_getD, List.getElem?_map, List.getElem?_eq_getElem hj]; rfl
    refine (Tryz.slices_Clone_string b off ss.length cap (ss.map bs) w (by simp) hbig (fun j hj => by rw [hg j (by simpa using hj)]; exact hc j (by simpa using hj))).mono ?_
    rintro e w' ⟨v', rfl, hown, hne, hbl⟩
    refine ⟨v', rfl, ⟨hbig, hw, ?_⟩, hbl⟩
    rcases hown.2 with ⟨e1, _⟩ | ⟨g, cap', cur, e1, hg1, hh, hc1, hc2, hc3⟩
    · exact absurd e1 hne
    · subst e1
      refine ⟨_, cap', rfl, fun _ => ⟨g, rfl, hg1, (Array.getElem?_eq_some_iff.1 hh).1, by omega, holds_iff.2 fun j hj => ⟨?_, hown.frozenAt j⟩⟩⟩
      rw [hown.cellAt j (by omega)]
      rw [List.take_of_length_le (by simp), List.getElem?_map, List.getElem?_map, List.getElem?_eq_getElem hj, List.getD_eq_getElem?_getD, List.getElem?_eq_getElem hj]; rfl
  · have h0 : ss = [] := List.eq_nil_of_length_eq_zero (by omega)
    subst h0
    have hE : ∀ W : World, ∀ a c, SlO W w.heap.size (.slice a 0 c) [] := fun W a c => ⟨hbig, by simp, a, c, rfl, fun h => absurd h (by simp)⟩
    cases a with
    | none =>
      refine (Tryz.slices_Clone_string_nil 0 cap w).mono ?_
      rintro e w' ⟨rfl, rfl⟩
      exact ⟨_, rfl, hE _ _ _, Below.refl _ _⟩
    | some a =>
      refine (Tryz.slices_Clone_string_zero a cap w).mono ?_
      rintro e w' ⟨v', rfl, hown, _, hbl⟩
      obtain ⟨p, c, rfl⟩ := ownsRow_form hown
      exact ⟨_, rfl, hE _ _ _, hbl⟩

theorem sortB_perm (ss : List Nm) : (sortB ss).Perm ss := List.mergeSort_perm _ _

theorem sort_any (B : Nat) (v : Value) (ss : List Nm) (w : World) (hs : SlO w B v ss) :
    Calls Tryz.prog 64 #[v, .func (.func 65) #[] #[]] w fun e w' => e = .returned (.tuple #[]) ∧ SlO w' B v (sortB ss) ∧ Below B w w' := by
  obtain ⟨h1, h2, a, cap, rfl, h3⟩ := hs
  have hlen : (sortB ss).length = ss.length := (sortB_perm ss).length_eq
  by_cases hn : 0 < ss.length
  · obtain ⟨b, rfl, hB, hb, hc, hh⟩ := h3 hn
    have eg : ∀ args w, (callFunc 65 args).run Tryz.prog w = .ok (.enter 65 args) w := enters_of Tryz.func65 (by kernel_rfl) rfl
    have hcmp : CmpReads Tryz.prog 65 #[] encStr Lib.compareBytes b 0 ss.toArray.size w := fun _ _ _ _ x y => (Tryz.strings_Compare (bs x) (bs y) _).mono (fun e w' ⟨h, h'⟩ => ⟨h, 0, h'⟩)
    have hS := Tryz.slices_SortFunc_total encStr (fun _ => rfl) Lib.compareBytes swoB 65 #[] b 0 cap ss.toArray w eg hcmp.lays hh hb (by simp; omega) totB
    refine hS.mono ?_
    rintro e w' ⟨rfl, n, os, rfl⟩
    have hg := grownBy_sorted (w := w) (g := b) (n := n) (os := os) (sortB ss).toArray
    refine ⟨rfl, ⟨by omega, fun s hs => h2 s ((sortB_perm ss).mem_iff.1 hs), _, cap, by rw [hlen], fun _ => ⟨b, rfl, hB, ?_, by omega, ?_⟩⟩, (Below.refl B w).grown hg (by omega) (fun r e => by cases e; exact hB)⟩
    · have := hg.size; exact Nat.lt_of_lt_of_le hb this
    · exact holds_sortWorld encStr w b 0 n ss.toArray (sortB ss).toArray os hb hh (by simp [hlen])
  · have h0 : ss = [] := List.eq_nil_of_length_eq_zero (by omega)
    subst h0
    have e0 : sortB [] = [] := List.eq_nil_of_length_eq_zero (by rw [hlen]; rfl)
    rw [e0]
    refine (Tryz.slices_SortFunc_none (α := Nm) a cap _ w).mono ?_
    rintro e w' ⟨rfl, rfl⟩
    exact ⟨rfl, ⟨h1, h2, a, cap, rfl, fun h => absurd h (by simp)⟩, Below.refl _ _⟩

theorem compactUpTo_len (d : Array Nm) : ∀ m, (compactUpTo d m).length ≤ m
  | 0 => by simp [compactUpTo]
  | m + 1 => by
    rw [compactUpTo_succ, List.length_append]
    have := compactUpTo_len d m
    split <;> simp <;> omega

theorem compactUpTo_mem (d : Array Nm) (x : Nm) : ∀ m, x ∈ compactUpTo d m → ∃ j, j < m ∧ d[j]! = x
  | 0, h => by simp [compactUpTo] at h
  | m + 1, h => by
    rw [compactUpTo_succ, List.mem_append] at h
    rcases h with h | h
    · obtain ⟨j, hj, e⟩ := compactUpTo_mem d x m h
      exact ⟨j, by omega, e⟩
    · split at h
      · simp at h; exact ⟨m, by omega, h.symm⟩
      · simp at h

theorem compact_sub (ss : List Nm) : ∀ x ∈ Lib.compact ss, x ∈ ss := by
  intro x hx
  obtain ⟨j, hj, e⟩ := compactUpTo_mem _ _ _ hx
  rw [List.getElem!_toArray] at e
  rw [getElem!_pos ss j hj] at e
  rw [← e]; exact List.getElem_mem hj

theorem compact_len (ss : List Nm) : (Lib.compact ss).length ≤ ss.length := compactUpTo_len _ _

theorem compact_any (B : Nat) (v : Value) (ss : List Nm) (w : World) (hs : SlO w B v ss) :
    Calls Tryz.prog 66 #[v] w fun e w' => ∃ v', e = .returned v' ∧ SlO w' B v' (Lib.compact ss) ∧ Below B w w' := by
  obtain ⟨h1, h2, a, cap, rfl, h3⟩ := hs
  have hcl := compact_len ss
  by_cases hn : 0 < ss.length
  · obtain ⟨b, rfl, hB, hb, hc, hh⟩ := h3 hn
    refine (Tryz.slices_Compact_string b 0 cap ss w hh (by omega) hc).mono ?_
    rintro e w' ⟨rfl, q, rfl⟩
    have hg := grownBy_sorted (w := w) (g := b) (n := q) (os := #[]) (Lib.compact ss ++ List.replicate (ss.length - (Lib.compact ss).length) []).toArray
    rw [grow_empty] at hg
    have hh' : Holds encStr (putRow encStr (Sort.ahead w q) b 0 (Lib.compact ss ++ List.replicate (ss.length - (Lib.compact ss).length) []).toArray) b 0 (Lib.compact ss ++ List.replicate (ss.length - (Lib.compact ss).length) []).toArray :=
      holds_putRow encStr (Sort.ahead w q) b 0 ss.toArray _ hh (by simp; omega)
    refine ⟨_, rfl, ⟨by omega, fun s hs => h2 s (compact_sub ss s hs), _, cap, rfl, fun _ => ⟨b, rfl, hB, ?_, by omega, holds_iff.2 fun j hj => ?_⟩⟩, (Below.refl B w).grown hg (by omega) (fun r e => by cases e; exact hB)⟩
    · exact Nat.lt_of_lt_of_le hb hg.size
    · have := holds_iff.1 hh' j (by simp; omega)
      rw [List.getD_eq_getElem?_getD, List.getElem?_append_left hj, ← List.getD_eq_getElem?_getD] at this
      exact this
  · have h0 : ss = [] := List.eq_nil_of_length_eq_zero (by omega)
    subst h0
    refine (Tryz.slices_Compact_string_empty a cap w).mono ?_
    rintro e w' ⟨rfl, rfl⟩
    exact ⟨_, rfl, ⟨h1, h2, a, cap, rfl, fun h => absurd h (by decide)⟩, Below.refl _ _⟩

theorem below_drewN' {w : World} (q : Nat) : Below w.heap.size w (w.drewN q) := below_drewN (Below.refl _ _) q

theorem equal_any (u v : Value) (ss ts : List Nm) (w : World) (hs : SlS w u ss) (ht : SlS w v ts) :
    Calls Tryz.prog 11 #[u, v] w fun e w' => e = .returned (.bool (decide (ss = ts))) ∧ Below w.heap.size w w' := by
  obtain ⟨hl, a, cap, rfl, hsx⟩ := hs
  obtain ⟨hl2, a2, cap2, rfl, htx⟩ := ht
  unfold maxLen at hl hl2
  have inj : ∀ x y : Nm, bs x = bs y → x = y := fun x y e => by have := congrArg (fun b : ByteArray => b.data.toList) e; exact this
  by_cases hne : ss.length = ts.length
  · by_cases hn : 0 < ss.length
    · obtain ⟨b, off, rfl, hb, hc, hw⟩ := hsx hn
      obtain ⟨b2, off2, rfl, hb2, hc2, hw2⟩ := htx (by omega)
      have hg : ∀ (ss : List Nm) j, j < ss.length → (ss.map bs).getD j ByteArray.empty = bs (ss.getD j []) := fun ss j hj => by
        rw [List.getD_eq_getElem?_getD, List.getD_eq_getElem?_getD, List.getElem?_map, List.getElem?_eq_getElem hj]; rfl
      refine (Tryz.slices_Equal_string b off ss.length cap b2 off2 ts.length cap2 (ss.map bs) (ts.map bs) w (by simp) (by simp) (by omega) (by omega) (fun j hj => by rw [hg ss j (by simpa using hj)]; exact hc j (by simpa using hj))
        (fun j hj => by rw [hg ts j (by simpa using hj)]; exact hc2 j (by simpa using hj))).mono ?_
      rintro e w' ⟨rfl, q, rfl⟩
      refine ⟨?_, below_drewN' q⟩
      rw [List.take_of_length_le (by simp), List.take_of_length_le (by simp)]
      congr 2
      refine decide_eq_decide.2 ⟨fun h => ?_, fun h => by rw [h]⟩
      exact (List.map_inj_right inj).1 h
    · have h0 : ss = [] := List.eq_nil_of_length_eq_zero (by omega)
      have h1 : ts = [] := List.eq_nil_of_length_eq_zero (by omega)
      subst h0 h1
      refine (Tryz.slices_Equal_string_empty a a2 cap 0 cap2 w (by omega)).mono ?_
      rintro e w' ⟨rfl, rfl⟩
      exact ⟨rfl, Below.refl _ _⟩
  · refine (Tryz.slices_Equal_string_lens a a2 ss.length cap ts.length cap2 w hne).mono ?_
    rintro e w' ⟨rfl, rfl⟩
    refine ⟨?_, Below.refl _ _⟩
    rw [decide_eq_false (fun h => hne (by rw [h]))]

end Go.Proofs.YtehnikgdjnmfcaaGreat

/- least, the walk. -/
namespace Go.Proofs.YtehnikgdjnmfcaaGreat
open Go.RowKit Go.WideMaps Go.Shelf Go.Sort Go.Lib

/-- the classes that are there once, ascending -/
def onceB (ss : List Nm) : List Nm := Lib.compact (sortB ss)

/-- the least classes -/
def leastB (ns : List Nm) (abv : Nat → List Nat) (ss : List Nm) : List Nm := (onceB ss).filter fun c => !(onceB ss).any (dropB ns abv c)

theorem onceB_sub (ss : List Nm) : ∀ x ∈ onceB ss, x ∈ ss := fun x hx => (sortB_perm ss).mem_iff.1 (compact_sub _ x hx)

theorem onceB_len (ss : List Nm) : (onceB ss).length ≤ ss.length := by
  have := compact_len (sortB ss)
  rw [(sortB_perm ss).length_eq] at this
  exact this

theorem Tryz.info9 : (Tryz.prog.info? 9).map (fun i => (i.zero, i.size, i.bytes)) = some (some (.string ByteArray.empty), 1, 16) := by kernel_rfl

theorem slO_of_own {w : World} {B : Nat} {v : Value} {ss : List Nm} (h : w.ownsRow B 9 1 v ss.length (ss.map encStr)) (h1 : ss.length * 16 ≤ 140737488355328) (h2 : ∀ s ∈ ss, s.length ≤ maxLen) : SlO w B v ss := by
  refine ⟨h1, h2, ?_⟩
  rcases h.2 with ⟨e1, e2⟩ | ⟨g, cap', cur, e1, hg1, hh, hc1, hc2, hc3⟩
  · rw [e1]; exact ⟨none, 0, by rw [e2], fun hn => by omega⟩
  · subst e1
    refine ⟨_, cap', rfl, fun hn => ⟨g, rfl, hg1, (Array.getElem?_eq_some_iff.1 hh).1, by omega, holds_iff.2 fun j hj => ⟨?_, h.frozenAt j⟩⟩⟩
    rw [h.cellAt j (by omega), List.getElem?_map, List.getElem?_eq_getElem hj, List.getD_eq_getElem?_getD, List.getElem?_eq_getElem hj]; rfl

theorem filter_snoc (p : Nm → Bool) (l : List Nm) (k : Nat) (hk : k < l.length) : (l.take (k + 1)).filter p = (l.take k).filter p ++ (if p (l.getD k []) = true then [l.getD k []] else []) := by
  rw [take_snocD l [] k hk, List.filter_append, List.filter_cons]
  simp

set_option maxRecDepth 100000 in
set_option maxHeartbeats 4000000 in
theorem least_any (g v : Value) (ss ns : List Nm) (abv : Nat → List Nat) (w : World) (hg : SigAt w g ns abv) (hs : SlS w v ss) (hbig : ss.length * 16 ≤ 140737488355328) (hks : ss.all (inNs ns) = true) :
    Calls Tryz.prog 47 #[g, v] w fun e w' => ∃ v', e = .returned v' ∧ SlO w' w.heap.size v' (leastB ns abv ss) ∧ Below w.heap.size w w' := by
  have HG := Lib.hid hg
  have HS := Lib.hid hs
  obtain ⟨_, bm, c1, ga, capa, c3, c4, c5, rfl, _, _⟩ := hg
  obtain ⟨_, sa, scap, rfl, _⟩ := hs
  have HKS : Hid ((onceB ss).all (inNs ns) = true) := List.all_eq_true.2 fun x hx => List.all_eq_true.1 hks x (onceB_sub ss x hx)
  clear hks
  go_enter Tryz.func47, Tryz.ntmps47
  go_wp2_with fail
  have hb0 := below_alloc w (Obj.cells #[.map (some bm), c1, .slice ga ns.length capa, c3, c4, c5] 63)
  refine (clone_any _ ss _ (HS.out.below hb0 (Nat.le_refl _)) hbig).mono ?_
  rintro e w1 ⟨v1, rfl, ho1, hb1⟩
  have HO1 := Lib.hid ho1
  obtain ⟨_, _, a1, k1, rfl, _⟩ := ho1
  have hz1 := hb1.size
  simp at hz1
  go_wp2_with fail
  refine (sort_any _ _ ss _ HO1.out).mono ?_
  rintro e w2 ⟨rfl, ho2, hb2⟩
  have HO2 := Lib.hid ho2
  have hz2 := hb2.size
  clear HO1 ho2
  go_wp2_with fail
  refine (compact_any _ _ (sortB ss) _ HO2.out).mono ?_
  rintro e w3 ⟨v3, rfl, ho3, hb3⟩
  have HO3 : Hid (SlO w3 (w.heap.size + 1) v3 (onceB ss)) := by have := ho3; simp at this; exact this
  have hB3 : Below w.heap.size w w3 := (hb0.trans (hb1.mono (by simp))).trans ((hb2.mono (by simp)).trans (hb3.mono (by simp)))
  obtain ⟨_, _, a3, k3, rfl, _⟩ := HO3.out
  have hz3 := hb3.size
  obtain ⟨i0, hi, hq0, hq1, hq2⟩ := info_parts Tryz.info9
  have hbox : w3.heap[w.heap.size]? = some (.cells #[.map (some bm), c1, .slice ga ns.length capa, c3, c4, c5] 63 (0, 0)) :=
    (hb3.block _ (by simp)).trans ((hb2.block _ (by simp)).trans ((hb1.block _ (by simp)).trans (heap_alloc_new w _)))
  have HBX := Lib.hid hbox
  have HG3 := Lib.hid (HG.out.below hB3 (Nat.le_refl _))
  have HLEN : Hid ((onceB ss).length ≤ ss.length) := onceB_len ss
  have HSL := Lib.hid HO3.out.sl
  have hwl : ∀ s ∈ onceB ss, s.length ≤ maxLen := HO3.out.2.1
  have HEQ : Hid (leastB ns abv ss = (onceB ss).filter fun c => !(onceB ss).any (dropB ns abv c)) := rfl
  clear hbox hb0 hb1 hb2 HO2 HG HS ho3 hb3
  generalize onceB ss = L at *
  generalize hp : (fun c => !L.any (dropB ns abv c)) = p at *
  have HP := Lib.hid hp
  have HWL := Lib.hid hwl
  clear hp hwl
  go_wp2_with fail
  go_loopw [6, 17] (fun v i wr => ∃ k : Nat, k ≤ L.length ∧ i = .int .i64 k ∧ wr.ownsRow w3.heap.size 9 1 v ((L.take k).filter p).length (((L.take k).filter p).map encStr) ∧ Below w3.heap.size w3 wr) (fun _ i _ => L.length - (intOf i).toNat)
  case atStart => exact ⟨0, by omega, rfl, World.ownsRow_nil _ _ _ _, Below.refl _ _⟩
  case round =>
    obtain ⟨k, hk, rfl, hown, hB⟩ := hrel
    have hz := hB.size
    by_cases hlt : k < L.length
    · obtain ⟨b, off, x, rfl, hb, hck, hwk, hx⟩ := (HSL.out.below hB (Nat.le_refl _)).at hlt
      have hin : inNs ns x = true := by rw [hx]; exact List.all_eq_true.1 HKS.out _ (getD_mem L [] k hlt)
      have HF := Lib.hid (filter_snoc p L k hlt)
      rw [← hx] at HF
      have hpx : p x = !L.any (dropB ns abv x) := by rw [← HP.out]
      have HBW : wr.heap[w.heap.size]? = some (.cells #[.map (some bm), c1, .slice ga ns.length capa, c3, c4, c5] 63 (0, 0)) := (hB.block _ (by omega)).trans HBX.out
      have p0 : wr.cell? ⟨w.heap.size, 0, none⟩ = some (.map (some bm)) := by rw [cell_of_row wr _ 0 _ _ _ HBW]; rfl
      have p1 : wr.cell? ⟨w.heap.size, 1, none⟩ = some c1 := by rw [cell_of_row wr _ 1 _ _ _ HBW]; rfl
      have p2 : wr.cell? ⟨w.heap.size, 2, none⟩ = some (.slice ga ns.length capa) := by rw [cell_of_row wr _ 2 _ _ _ HBW]; rfl
      have p3 : wr.cell? ⟨w.heap.size, 3, none⟩ = some c3 := by rw [cell_of_row wr _ 3 _ _ _ HBW]; rfl
      have p4 : wr.cell? ⟨w.heap.size, 4, none⟩ = some c4 := by rw [cell_of_row wr _ 4 _ _ _ HBW]; rfl
      have p5 : wr.cell? ⟨w.heap.size, 5, none⟩ = some c5 := by rw [cell_of_row wr _ 5 _ _ _ HBW]; rfl
      have hfl : ((L.take k).filter p).length ≤ k := by
        have := List.length_filter_le p (L.take k)
        rw [List.length_take] at this; omega
      have C := Lib.hid (hasBelow_any _ _ x L ns abv wr (HG3.out.below hB (Nat.le_refl _)) (HSL.out.below hB (Nat.le_refl _)) HKS.out hin hwk)
      clear hx HBW hin
      by_cases hpp : L.any (dropB ns abv x) = true
      · rw [hpp] at C hpx
        have HF2 : Hid ((L.take (k + 1)).filter p = (L.take k).filter p) := by unfold Hid; rw [HF.out, if_neg (by rw [hpx]; decide), List.append_nil]
        clear HF hpx hpp
        go_wp2_with (first | (go_at_call 67; refine C.out.mono ?_; rintro e w4 ⟨rfl, hb4⟩) | fail)
        go_roundw
        case rel =>
          refine ⟨k + 1, by omega, by go_num, ?_, hB.trans (hb4.mono (by omega))⟩
          rw [HF2.out]; exact ownsRow_below hown hb4 (Nat.le_refl _)
        case measure => simp [intOf]; omega
      · have hpp' : L.any (dropB ns abv x) = false := by simpa using hpp
        rw [hpp'] at C hpx
        have HF2 : Hid ((L.take (k + 1)).filter p = (L.take k).filter p ++ [x]) := by unfold Hid; rw [HF.out, if_pos (by rw [hpx]; decide)]
        clear HF hpx hpp hpp'
        go_wp2_with (first | (go_at_call 67; refine C.out.mono ?_; rintro e w4 ⟨rfl, hb4⟩; have hown4 := ownsRow_below hown hb4 (Nat.le_refl _); have hz4 := hb4.size) | (at_builtin; refine wpList_append_own _ rfl _ _ 27 rfl w3.heap.size 9 i0 (.string ByteArray.empty) 1 16 Tryz.underlying27 hi hq0 hq1 hq2 rfl (by decide) _ _ _ rfl (hown4.alloc _) ⟨w4.heap.size, 0, none⟩ 1 1 [.string (bs x)] rfl rfl (cell_one_new _ _ _) (by simp [Value.oneCell']) (by unfold maxLen; omega) (by omega) (by simp; omega) ?_; intro v' w5 hown5 hgrow5 _))
        have HOWN : Hid (w5.ownsRow w3.heap.size 9 1 v' ((L.take (k + 1)).filter p).length (((L.take (k + 1)).filter p).map encStr)) := by
          unfold Hid
          rw [HF2.out, List.length_append, List.map_append]; exact hown5
        have HBEL : RowKit.Below w3.heap.size w3 w5 := ((hB.trans (hb4.mono (by omega))).alloc (by omega) _).grown hgrow5 (by simp; omega) (fun r er => ownBlock_ge hown4 er)
        go_roundw
        case rel => exact ⟨k + 1, by omega, by go_num, HOWN.out, HBEL⟩
        case measure => simp [intOf]; omega
    · have hkk : k = L.length := by omega
      subst hkk
      rw [List.take_length] at hown
      have hfl := List.length_filter_le p L
      go_wp2_with fail
      go_ret
      refine ⟨_, rfl, ?_, hB3.trans (hB.mono (by omega))⟩
      rw [HEQ.out]
      exact slO_of_own (ownsRow_base hown (by omega)) (by omega) (fun s hs => HWL.out s ((List.mem_filter.1 hs).1))
end Go.Proofs.YtehnikgdjnmfcaaGreat

/- The order of classes: pure facts. -/
namespace Go.Proofs.YtehnikgdjnmfcaaGreat
open Go.RowKit Go.WideMaps Go.Shelf Go.Sort Go.Lib

/-! ### Reach -/
theorem Reach.trans {sup : Nat → List Nat} {a b c : Nat} (h : Reach sup a b) (k : Reach sup b c) : Reach sup a c := by
  induction k with
  | self => exact h
  | step _ hs ih => exact .step ih hs

theorem Reach.le {sup : Nat → List Nat} (hs : ∀ i, ∀ s ∈ sup i, s < i) {a b : Nat} (h : Reach sup a b) : b ≤ a := by
  induction h with
  | self => exact Nat.le_refl _
  | step _ hm ih => have := hs _ _ hm; omega

theorem Reach.congr {sup sup' : Nat → List Nat} (hs : ∀ i, ∀ s ∈ sup i, s < i) {a b : Nat} (h : Reach sup a b) (he : ∀ i, i ≤ a → sup i = sup' i) : Reach sup' a b := by
  induction h with
  | self => exact .self
  | step hr hm ih => exact .step ih (by rw [← he _ (Reach.le hs hr)]; exact hm)

theorem Built.lt' {cs : List (Nm × List Nm)} {sp ab : List (List Nat)} (h : Built cs sp ab) : ∀ i, ∀ s ∈ sp.getD i [], s < i := by
  intro i s hs
  by_cases hi : i < cs.length
  · exact h.lt i hi s hs
  · rw [List.getD_eq_getElem?_getD, List.getElem?_eq_none (by have := h.len.1; omega)] at hs
    simp at hs

theorem Built.mem {cs : List (Nm × List Nm)} {sp ab : List (List Nat)} (h : Built cs sp ab) : ∀ i, i < cs.length → ∀ x, x ∈ ab.getD i [] ↔ Reach (fun i => sp.getD i []) i x := by
  induction h with
  | nil => intro i hi; simp at hi
  | @snoc cs sp ab nm sups ys hb he hy ih =>
    intro i hi x
    have hl := hb.len
    have hlt := hb.lt'
    have hlt2 := (Built.snoc hb he hy).lt'
    by_cases hin : i < cs.length
    · rw [getD_left ab _ i (by omega), ih i hin x]
      have he : ∀ k, k ≤ i → (fun i => sp.getD i []) k = (fun i => (sp ++ [sups.map (ixOf (cs.map Prod.fst))]).getD i []) k := fun k hk => (getD_left sp _ k (by omega)).symm
      exact ⟨fun h => h.congr hlt he, fun h => h.congr hlt2 (fun k hk => (he k hk).symm)⟩
    · have hieq : i = ab.length := by simp at hi; omega
      rw [hieq, getD_last, hl.2]
      exact hy x

theorem Built.det {cs : List (Nm × List Nm)} {sp ab : List (List Nat)} (h : Built cs sp ab) : ∀ {sp' ab' : List (List Nat)}, Built cs sp' ab' → sp = sp' := by
  induction h with
  | nil =>
    intro sp' ab' k
    have := k.len.1
    exact (List.eq_nil_of_length_eq_zero (by simpa using this)).symm
  | @snoc cs sp ab nm sups ys hb he hy ih =>
    intro sp' ab' k
    generalize hc : cs ++ [(nm, sups)] = cs2 at k
    cases k with
    | nil => simp at hc
    | @snoc cs' sp2 ab2 nm' sups' ys' hb' he' hy' =>
      obtain ⟨e1, e2⟩ := List.append_inj' hc rfl
      injection e2 with e3 _
      injection e3 with e4 e5
      subst e1 e4 e5
      rw [ih hb']

theorem Built.nodup {cs : List (Nm × List Nm)} {sp ab : List (List Nat)} (h : Built cs sp ab) : (cs.map Prod.fst).Nodup := by
  induction h with
  | nil => simp
  | @snoc cs sp ab nm sups ys hb he hy ih =>
    have h2 := (classErr_zero he).2.1
    have h3 : nm ∉ cs.map Prod.fst := of_decide_eq_false h2
    rw [List.map_append, List.nodup_append]
    refine ⟨ih, by simp, fun a ha b hb2 e => ?_⟩
    simp at hb2
    subst e
    rw [hb2] at ha
    exact h3 ha

/-! ### strictly ascending lists -/
def ascB (l : List Nm) : Prop := l.Pairwise fun x y => Lib.compareBytes x y < 0

theorem cb_irr (a : Nm) : ¬ Lib.compareBytes a a < 0 := by rw [cb_refl]; decide

theorem ascB.uniq : ∀ {l m : List Nm}, ascB l → ascB m → (∀ x, x ∈ l ↔ x ∈ m) → l = m
  | [], [], _, _, _ => rfl
  | [], b :: m, _, _, h => absurd ((h b).2 (by simp)) (by simp)
  | a :: l, [], _, _, h => absurd ((h a).1 (by simp)) (by simp)
  | a :: l, b :: m, h1, h2, h => by
    obtain ⟨ha, hl⟩ := List.pairwise_cons.1 h1
    obtain ⟨hb, hm⟩ := List.pairwise_cons.1 h2
    have e : a = b := by
      rcases List.mem_cons.1 ((h a).1 (by simp)) with e | e
      · exact e
      · rcases List.mem_cons.1 ((h b).2 (by simp)) with e' | e'
        · exact e'.symm
        · have x1 := hb a e
          have x2 := ha b e'
          have := cb_swap a b
          omega
    subst e
    rw [ascB.uniq (l := l) (m := m) hl hm (fun x => ⟨fun hx => ?_, fun hx => ?_⟩)]
    · rcases List.mem_cons.1 ((h x).1 (by simp [hx])) with e | e
      · subst e; exact absurd (ha _ hx) (cb_irr _)
      · exact e
    · rcases List.mem_cons.1 ((h x).2 (by simp [hx])) with e | e
      · subst e; exact absurd (hb _ hx) (cb_irr _)
      · exact e

theorem sortB_sorted (ss : List Nm) : (sortB ss).Pairwise fun x y => ¬ Lib.compareBytes y x < 0 := by
  have h := List.pairwise_mergeSort (le := fun x y : Nm => !ltOf Lib.compareBytes y x) (fun a b c h1 h2 => by
      have h1' : ltOf Lib.compareBytes b a = false := by simpa using h1
      have h2' : ltOf Lib.compareBytes c b = false := by simpa using h2
      rw [swoB.ntrans c b a h2' h1']; rfl)
    (fun a b => by
      by_cases h : ltOf Lib.compareBytes b a = true
      · have : ltOf Lib.compareBytes a b = false := by
          by_cases h' : ltOf Lib.compareBytes a b = true
          · have := swoB.trans _ _ _ h h'
            rw [swoB.irrefl] at this; cases this
          · simpa using h'
        simp [this]
      · have : ltOf Lib.compareBytes b a = false := by simpa using h
        simp [this]) ss
  exact h.imp (fun {a b} h => by
    have : ltOf Lib.compareBytes b a = false := by simpa using h
    exact of_decide_eq_false this)

theorem compactUpTo_asc (zs : List Nm) (hs : zs.Pairwise fun x y => ¬ Lib.compareBytes y x < 0) : ∀ m, m ≤ zs.length → (∀ x, x ∈ compactUpTo zs.toArray m ↔ ∃ j, j < m ∧ zs[j]! = x) ∧ ascB (compactUpTo zs.toArray m)
  | 0, _ => ⟨fun x => by simp [compactUpTo], by simp [compactUpTo, ascB]⟩
  | m + 1, hm => by
    obtain ⟨h1, h2⟩ := compactUpTo_asc zs hs m (by omega)
    have hle : ∀ j, j < m → ¬ Lib.compareBytes zs[m]! zs[j]! < 0 := fun j hj => by
      rw [getElem!_pos zs m (by omega), getElem!_pos zs j (by omega)]
      exact List.pairwise_iff_getElem.1 hs j m (by omega) (by omega) hj
    rw [compactUpTo_succ]
    by_cases hk : keeps zs.toArray m = true
    · rw [if_pos hk]
      constructor
      · intro x
        rw [List.mem_append, h1]
        simp only [List.getElem!_toArray, List.mem_singleton]
        constructor
        · rintro (⟨j, hj, e⟩ | e)
          · exact ⟨j, by omega, e⟩
          · exact ⟨m, by omega, e.symm⟩
        · rintro ⟨j, hj, e⟩
          by_cases hjm : j = m
          · subst hjm; exact .inr e.symm
          · exact .inl ⟨j, by omega, e⟩
      · refine List.pairwise_append.2 ⟨h2, by simp, fun x hx y hy => ?_⟩
        simp only [List.getElem!_toArray, List.mem_singleton] at hy
        subst hy
        obtain ⟨j, hj, rfl⟩ := (h1 x).1 hx
        have hk' : zs[m]! ≠ zs[m - 1]! := by
          have := of_decide_eq_true hk
          simp only [List.getElem!_toArray] at this
          rcases this with e | e
          · omega
          · exact e
        have l1 := hle (m - 1) (by omega)
        have l2 : ¬ Lib.compareBytes zs[m - 1]! zs[j]! < 0 := by
          by_cases e : j = m - 1
          · rw [e]; exact cb_irr _
          · rw [getElem!_pos zs (m - 1) (by omega), getElem!_pos zs j (by omega)]
            exact List.pairwise_iff_getElem.1 hs j (m - 1) (by omega) (by omega) (by omega)
        have s1 := cb_swap zs[m - 1]! zs[m]!
        have n1 : Lib.compareBytes zs[m - 1]! zs[m]! ≠ 0 := fun e => hk' (cb_eq _ _ e).symm
        have t1 : Lib.compareBytes zs[m - 1]! zs[m]! < 0 := by omega
        by_cases e : Lib.compareBytes zs[j]! zs[m - 1]! = 0
        · rw [cb_eq _ _ e]; exact t1
        · have s2 := cb_swap zs[j]! zs[m - 1]!
          exact cb_trans _ _ _ (by omega) t1
    · rw [if_neg hk, List.append_nil]
      refine ⟨fun x => ?_, h2⟩
      rw [h1]
      have hk2 := of_decide_eq_false (by simpa using hk : keeps zs.toArray m = false)
      simp only [List.getElem!_toArray] at hk2
      have hm0 : m ≠ 0 := fun e => hk2 (.inl e)
      have hmm : zs[m]! = zs[m - 1]! := Classical.byContradiction fun e => hk2 (.inr e)
      constructor
      · rintro ⟨j, hj, e⟩; exact ⟨j, by omega, e⟩
      · rintro ⟨j, hj, e⟩
        by_cases hjm : j = m
        · subst hjm; exact ⟨j - 1, by omega, by rw [← hmm]; exact e⟩
        · exact ⟨j, by omega, e⟩

theorem onceB_asc (ss : List Nm) : ascB (onceB ss) := (compactUpTo_asc (sortB ss) (sortB_sorted ss) _ (Nat.le_refl _)).2
theorem onceB_mem (ss : List Nm) (x : Nm) : x ∈ onceB ss ↔ x ∈ ss := by
  rw [← (sortB_perm ss).mem_iff]
  refine ((compactUpTo_asc (sortB ss) (sortB_sorted ss) _ (Nat.le_refl _)).1 x).trans ⟨?_, fun h => ?_⟩
  · rintro ⟨j, hj, rfl⟩
    rw [getElem!_pos (sortB ss) j hj]; exact List.getElem_mem hj
  · obtain ⟨j, hj, e⟩ := List.mem_iff_getElem.1 h
    exact ⟨j, hj, by rw [getElem!_pos (sortB ss) j hj]; exact e⟩

theorem leastB_asc (ns : List Nm) (abv : Nat → List Nat) (ss : List Nm) : ascB (leastB ns abv ss) := (onceB_asc ss).filter _

end Go.Proofs.YtehnikgdjnmfcaaGreat

/- The least classes: pure facts. -/
namespace Go.Proofs.YtehnikgdjnmfcaaGreat
open Go.RowKit Go.WideMaps Go.Shelf Go.Sort Go.Lib

def leN (ns : List Nm) (sp : List (List Nat)) (d c : Nm) : Prop := Reach (fun i => sp.getD i []) (ixOf ns d) (ixOf ns c)

theorem ix_inj {ns : List Nm} {c d : Nm} (hc : inNs ns c = true) (hd : inNs ns d = true) (h : ixOf ns c = ixOf ns d) : c = d := by
  have hc := of_decide_eq_true hc
  have hd := of_decide_eq_true hd
  unfold ixOf at h
  rw [if_pos hc, if_pos hd] at h
  have e1 := List.getElem_idxOf (List.idxOf_lt_length_of_mem hc)
  have e2 := List.getElem_idxOf (List.idxOf_lt_length_of_mem hd)
  rw [← e1, ← e2]
  simp only [h]

theorem leN.anti {cs : List (Nm × List Nm)} {sp ab : List (List Nat)} (hb : Built cs sp ab) {ns : List Nm} {d c : Nm} (hd : inNs ns d = true) (hc : inNs ns c = true) (h : leN ns sp d c) (k : leN ns sp c d) : d = c :=
  ix_inj hd hc (by have := Reach.le hb.lt' h; have := Reach.le hb.lt' k; omega)

section
variable {cs : List (Nm × List Nm)} {sp ab : List (List Nat)}

theorem belowB_iff (hb : Built cs sp ab) {d c : Nm} (hd : inNs (cs.map Prod.fst) d = true) : belowB (cs.map Prod.fst) (fun i => ab.getD i []) d c = true ↔ leN (cs.map Prod.fst) sp d c := by
  unfold belowB leN
  rw [wordsOf_mem, decide_eq_true_iff]
  exact hb.mem _ (by have := ixOf_lt hd; simpa using this) _

theorem dropB_iff (hb : Built cs sp ab) {d c : Nm} (hd : inNs (cs.map Prod.fst) d = true) (hc : inNs (cs.map Prod.fst) c = true) : dropB (cs.map Prod.fst) (fun i => ab.getD i []) c d = true ↔ d ≠ c ∧ leN (cs.map Prod.fst) sp d c := by
  unfold dropB
  rw [Bool.and_eq_true, belowB_iff hb hd]
  refine and_congr_left fun _ => ⟨fun h e => ?_, fun h => ?_⟩
  · subst e; simp at h
  · simp only [Bool.not_eq_true', beq_eq_false_iff_ne, ne_eq]
    exact fun e => h (ix_inj hd hc e)

theorem mem_least (hb : Built cs sp ab) {ss : List Nm} (hk : ∀ x ∈ ss, inNs (cs.map Prod.fst) x = true) (x : Nm) :
    x ∈ leastB (cs.map Prod.fst) (fun i => ab.getD i []) ss ↔ x ∈ ss ∧ ∀ d ∈ ss, leN (cs.map Prod.fst) sp d x → d = x := by
  unfold leastB
  rw [List.mem_filter, onceB_mem]
  refine and_congr_right fun hx => ?_
  rw [Bool.not_eq_true', List.any_eq_false]
  constructor
  · intro h d hd hle
    refine Classical.byContradiction fun hne => h d ((onceB_mem ss d).2 hd) ((dropB_iff hb (hk d hd) (hk x hx)).2 ⟨hne, hle⟩)
  · intro h d hd hdr
    have hd' := (onceB_mem ss d).1 hd
    obtain ⟨h1, h2⟩ := (dropB_iff hb (hk d hd') (hk x hx)).1 hdr
    exact h1 (h d hd' h2)

theorem least_eq (hb : Built cs sp ab) {sp' ab' : List (List Nat)} (hb' : Built cs sp' ab') {ss tt : List Nm} (hk : ∀ x ∈ ss, inNs (cs.map Prod.fst) x = true) (he : ∀ x, x ∈ ss ↔ x ∈ tt) :
    leastB (cs.map Prod.fst) (fun i => ab.getD i []) ss = leastB (cs.map Prod.fst) (fun i => ab'.getD i []) tt := by
  have hsp := hb.det hb'
  subst hsp
  refine ascB.uniq (leastB_asc _ _ _) (leastB_asc _ _ _) fun x => ?_
  rw [mem_least hb hk, mem_least hb' (fun x hx => hk x ((he x).2 hx)), he]
  exact and_congr_right fun _ => ⟨fun h d hd => h d ((he d).2 hd), fun h d hd => h d ((he d).1 hd)⟩

theorem least_sub (_hb : Built cs sp ab) {ss : List Nm} : ∀ x ∈ leastB (cs.map Prod.fst) (fun i => ab.getD i []) ss, x ∈ ss := fun x hx => (onceB_mem ss x).1 (List.mem_filter.1 hx).1

theorem least_least (hb : Built cs sp ab) {sp' ab' : List (List Nat)} (hb' : Built cs sp' ab') {ss : List Nm} (hk : ∀ x ∈ ss, inNs (cs.map Prod.fst) x = true) :
    leastB (cs.map Prod.fst) (fun i => ab'.getD i []) (leastB (cs.map Prod.fst) (fun i => ab.getD i []) ss) = leastB (cs.map Prod.fst) (fun i => ab.getD i []) ss := by
  have hsp := hb.det hb'
  subst hsp
  refine ascB.uniq (leastB_asc _ _ _) (leastB_asc _ _ _) fun x => ?_
  rw [mem_least hb' (fun x hx => hk x (least_sub hb x hx))]
  refine ⟨fun h => h.1, fun h => ⟨h, fun d hd hle => ?_⟩⟩
  exact ((mem_least hb hk x).1 h).2 d (least_sub hb d hd) hle

theorem below_least (hb : Built cs sp ab) {ss : List Nm} (hk : ∀ x ∈ ss, inNs (cs.map Prod.fst) x = true) : ∀ (n : Nat) (c : Nm), c ∈ ss → (cs.map Prod.fst).length - ixOf (cs.map Prod.fst) c ≤ n →
    ∃ m ∈ leastB (cs.map Prod.fst) (fun i => ab.getD i []) ss, leN (cs.map Prod.fst) sp m c
  | n, c, hc, hn => by
    by_cases h : ∀ d ∈ ss, leN (cs.map Prod.fst) sp d c → d = c
    · exact ⟨c, (mem_least hb hk c).2 ⟨hc, h⟩, Reach.self⟩
    · obtain ⟨d, hd⟩ := Classical.not_forall.1 h
      obtain ⟨hd, h2⟩ := Classical.not_imp.1 hd
      obtain ⟨hle, hne⟩ := Classical.not_imp.1 h2
      have hix := Reach.le hb.lt' hle
      have hne' : ixOf (cs.map Prod.fst) d ≠ ixOf (cs.map Prod.fst) c := fun e => hne (ix_inj (hk d hd) (hk c hc) e)
      have hl := ixOf_lt (hk d hd)
      cases n with
      | zero => omega
      | succ n =>
        obtain ⟨m, hm, hl2⟩ := below_least hb hk n d hd (by omega)
        exact ⟨m, hm, Reach.trans hl2 hle⟩

theorem upW_bit (ns : List Nm) (abv : Nat → List Nat) (j m : Nat) (l : List Nm) : (upW ns abv l j).testBit m = l.any fun c => (wordsOf (abv (ixOf ns c)) j).testBit m := by
  unfold upW
  suffices h : ∀ a : Nat, (l.foldl (fun a c => a ||| wordsOf (abv (ixOf ns c)) j) a).testBit m = (a.testBit m || l.any fun c => (wordsOf (abv (ixOf ns c)) j).testBit m) by
    rw [h 0]; simp
  induction l with
  | nil => intro a; simp
  | cons x l ih => intro a; rw [List.foldl_cons, ih, Nat.testBit_or, List.any_cons, Bool.or_assoc]

theorem lessB_iff (hb : Built cs sp ab) {ss ts : List Nm} (hs : ∀ x ∈ ss, inNs (cs.map Prod.fst) x = true) (ht : ∀ x ∈ ts, inNs (cs.map Prod.fst) x = true) :
    lessB (cs.map Prod.fst) (fun i => ab.getD i []) ss ts = true ↔ ∀ c ∈ ts, ∃ d ∈ ss, leN (cs.map Prod.fst) sp d c := by
  unfold lessB
  rw [List.all_eq_true.2 hs, List.all_eq_true.2 ht, Bool.true_and, Bool.true_and, List.all_eq_true]
  refine forall_congr' fun c => forall_congr' fun hc => ?_
  unfold upHas
  rw [upW_bit, List.any_eq_true]
  refine exists_congr fun d => and_congr_right fun hd => ?_
  exact belowB_iff hb (hs d hd)

theorem less_both (hb : Built cs sp ab) {sp1 sp2 sp3 ab1 ab2 ab3 : List (List Nat)} (hb1 : Built cs sp1 ab1) (hb2 : Built cs sp2 ab2) (hb3 : Built cs sp3 ab3) {ss ts : List Nm}
    (hs : ∀ x ∈ ss, inNs (cs.map Prod.fst) x = true) (ht : ∀ x ∈ ts, inNs (cs.map Prod.fst) x = true) :
    (lessB (cs.map Prod.fst) (fun i => ab.getD i []) ss ts && lessB (cs.map Prod.fst) (fun i => ab1.getD i []) ts ss) = decide (leastB (cs.map Prod.fst) (fun i => ab2.getD i []) ss = leastB (cs.map Prod.fst) (fun i => ab3.getD i []) ts) := by
  have e1 := hb.det hb1
  have e2 := hb.det hb2
  have e3 := hb.det hb3
  subst e1 e2 e3
  rw [Bool.eq_iff_iff, Bool.and_eq_true, lessB_iff hb hs ht, lessB_iff hb1 ht hs, decide_eq_true_iff]
  constructor
  · rintro ⟨h1, h2⟩
    refine ascB.uniq (leastB_asc _ _ _) (leastB_asc _ _ _) fun x => ?_
    rw [mem_least hb2 hs, mem_least hb3 ht]
    constructor
    · rintro ⟨hx, hm⟩
      obtain ⟨d, hd, hdx⟩ := h2 x hx
      obtain ⟨e, he, hed⟩ := h1 d hd
      have hex := hm e he (Reach.trans hed hdx)
      subst hex
      have hdd := leN.anti hb (ht d hd) (hs e he) hdx hed
      subst hdd
      refine ⟨hd, fun d' hd' hle => ?_⟩
      obtain ⟨e', he', hed'⟩ := h1 d' hd'
      have := hm e' he' (Reach.trans hed' hle)
      subst this
      exact leN.anti hb (ht d' hd') (hs _ he') hle hed'
    · rintro ⟨hx, hm⟩
      obtain ⟨d, hd, hdx⟩ := h1 x hx
      obtain ⟨e, he, hed⟩ := h2 d hd
      have hex := hm e he (Reach.trans hed hdx)
      subst hex
      have hdd := leN.anti hb (hs d hd) (ht e he) hdx hed
      subst hdd
      refine ⟨hd, fun d' hd' hle => ?_⟩
      obtain ⟨e', he', hed'⟩ := h2 d' hd'
      have := hm e' he' (Reach.trans hed' hle)
      subst this
      exact leN.anti hb (hs d' hd') (ht _ he') hle hed'
  · intro h
    constructor
    · intro c hc
      obtain ⟨m, hm, hle⟩ := below_least hb3 ht _ c hc (Nat.le_refl _)
      rw [← h] at hm
      exact ⟨m, least_sub hb2 m hm, hle⟩
    · intro c hc
      obtain ⟨m, hm, hle⟩ := below_least hb2 hs _ c hc (Nat.le_refl _)
      rw [h] at hm
      exact ⟨m, least_sub hb3 m hm, hle⟩
end
end Go.Proofs.YtehnikgdjnmfcaaGreat

/- Normal, Less. -/
namespace Go.Proofs.YtehnikgdjnmfcaaGreat
open Go.RowKit Go.WideMaps Go.Shelf

def normErr (ns ss : List Nm) : Int := if 20 < ss.length then 5 else if ss.all (inNs ns) = true then 0 else 9

def NormPost (w : World) (ns : List Nm) (abv : Nat → List Nat) (ss : List Nm) (e : Ending) (w' : World) : Prop :=
  ∃ v', e = .returned (.tuple #[v', .int .i64 (normErr ns ss)]) ∧ Below w.heap.size w w' ∧ (normErr ns ss = 0 → SlO w' w.heap.size v' (leastB ns abv ss)) ∧ (normErr ns ss ≠ 0 → v' = .slice none 0 0)

theorem SlO.base {w : World} {B C : Nat} {v : Value} {ss : List Nm} (h : SlO w B v ss) (hC : C ≤ B) : SlO w C v ss := by
  obtain ⟨h1, h2, a, cap, e, h3⟩ := h
  exact ⟨h1, h2, a, cap, e, fun hn => let ⟨b, e1, h4, h5⟩ := h3 hn; ⟨b, e1, by omega, h5⟩⟩

theorem cells6 {w : World} {k : Nat} {a0 a1 a2 a3 a4 a5 : Value} {t : TypeId} {fr : Nat × Nat} (h : w.heap[k]? = some (.cells #[a0, a1, a2, a3, a4, a5] t fr)) :
    w.cell? ⟨k, 0, none⟩ = some a0 ∧ w.cell? ⟨k, 1, none⟩ = some a1 ∧ w.cell? ⟨k, 2, none⟩ = some a2 ∧ w.cell? ⟨k, 3, none⟩ = some a3 ∧ w.cell? ⟨k, 4, none⟩ = some a4 ∧ w.cell? ⟨k, 5, none⟩ = some a5 :=
  ⟨by rw [cell_of_row w _ 0 _ _ _ h]; rfl, by rw [cell_of_row w _ 1 _ _ _ h]; rfl, by rw [cell_of_row w _ 2 _ _ _ h]; rfl, by rw [cell_of_row w _ 3 _ _ _ h]; rfl, by rw [cell_of_row w _ 4 _ _ _ h]; rfl, by rw [cell_of_row w _ 5 _ _ _ h]; rfl⟩

set_option maxRecDepth 100000 in
set_option maxHeartbeats 4000000 in
theorem normal_sig (g v : Value) (ss ns : List Nm) (abv : Nat → List Nat) (w : World) (hg : SigAt w g ns abv) (hs : SlS w v ss) :
    Calls Tryz.prog 25 #[g, v] w (NormPost w ns abv ss) := by
  have HG := Lib.hid hg
  have HS := Lib.hid hs
  obtain ⟨_, bm, c1, ga, capa, c3, c4, c5, rfl, hm, _⟩ := hg
  obtain ⟨_, sa, scap, rfl, _⟩ := hs
  have HM := Lib.hid hm
  clear hm
  by_cases h20 : 20 < ss.length
  · have hE : Hid (normErr ns ss = 5) := by unfold Hid normErr; rw [if_pos h20]
    have hd : decide (20 < ((ss.length : Nat) : Int)) = true := by simp; omega
    go_enter Tryz.func25, Tryz.ntmps25
    go_wp2_with fail
    go_ret2
    refine ⟨_, by rw [hE.out]; rfl, below_alloc _ _, fun h => absurd (hE.out.symm.trans h) (by decide), fun _ => rfl⟩
  · have hd : decide (20 < ((ss.length : Nat) : Int)) = false := by simp; omega
    have C := Lib.hid (known_any bm c1 (.slice ga ns.length capa) c3 c4 c5 _ ss ns _ (HM.out.alloc (Obj.cells #[.map (some bm), c1, .slice ga ns.length capa, c3, c4, c5] 63)) (HS.out.below (below_alloc _ _) (Nat.le_refl _)))
    by_cases hk : ss.all (inNs ns) = true
    · have hE : Hid (normErr ns ss = 0) := by unfold Hid normErr; rw [if_neg h20, if_pos hk]
      rw [hk] at C
      have HK := Lib.hid hk
      clear hk
      go_enter Tryz.func25, Tryz.ntmps25
      go_wp2_with (go_at_call 46; refine C.out.mono ?_; rintro e w1 ⟨rfl, hb1⟩; obtain ⟨p0, p1, p2, p3, p4, p5⟩ := cells6 ((hb1.block w.heap.size (by simp)).trans (heap_alloc_new w _)); have hB1 := (below_alloc w (Obj.cells #[.map (some bm), c1, .slice ga ns.length capa, c3, c4, c5] 63)).trans (hb1.mono (by simp)))
      refine (least_any _ _ ss ns abv w1 (HG.out.below hB1 (Nat.le_refl _)) (HS.out.below hB1 (Nat.le_refl _)) (by omega) HK.out).mono ?_
      rintro e w2 ⟨v', rfl, ho, hb2⟩
      go_wp2_with fail
      go_ret2
      have hz := hB1.size
      exact ⟨v', by rw [hE.out]; rfl, hB1.trans (hb2.mono hz), fun _ => ho.base hz, fun h => absurd hE.out h⟩
    · have hk' : ss.all (inNs ns) = false := by simpa using hk
      have hE : Hid (normErr ns ss = 9) := by unfold Hid normErr; rw [if_neg h20, if_neg hk]
      rw [hk'] at C
      clear hk hk'
      go_enter Tryz.func25, Tryz.ntmps25
      go_wp2_with (go_at_call 46; refine C.out.mono ?_; rintro e w1 ⟨rfl, hb1⟩)
      go_ret2
      exact ⟨_, by rw [hE.out]; rfl, (below_alloc w _).trans (hb1.mono (by simp)), fun h => absurd (hE.out.symm.trans h) (by decide), fun _ => rfl⟩

/-- a theory in memory: its classes -/
def ThAt (w : World) (t : Value) (cs : List (Nm × List Nm)) : Prop :=
  ∃ n c t2 t3 t4 t5 t6, t = .agg #[n, c, t2, t3, t4, t5, t6] ∧ SlC w c cs

theorem ThAt.below {w w' : World} {B : Nat} {t : Value} {cs : List (Nm × List Nm)} (h : ThAt w t cs) (hb : Below B w w') (hB : w.heap.size ≤ B) : ThAt w' t cs := by
  obtain ⟨n, c, t2, t3, t4, t5, t6, e, h⟩ := h
  exact ⟨n, c, t2, t3, t4, t5, t6, e, h.below hb hB⟩

/-- what Normal returns -/
def NormalPost (w : World) (cs : List (Nm × List Nm)) (ss : List Nm) (e : Ending) (w' : World) : Prop :=
  ∃ v' er, e = .returned (.tuple #[v', .int .i64 er]) ∧ Below w.heap.size w w' ∧ (clsErr cs ≠ 0 → er = clsErr cs) ∧
    (clsErr cs = 0 → ∃ sp ab, Built cs sp ab ∧ er = normErr (cs.map Prod.fst) ss ∧ (er = 0 → SlO w' w.heap.size v' (leastB (cs.map Prod.fst) (fun i => ab.getD i []) ss)))

set_option maxRecDepth 100000 in
set_option maxHeartbeats 4000000 in
theorem normal_any (t v : Value) (cs : List (Nm × List Nm)) (ss : List Nm) (w : World) (ht : ThAt w t cs) (hs : SlS w v ss) :
    Calls Tryz.prog 17 #[t, v] w (NormalPost w cs ss) := by
  obtain ⟨n, c, t2, t3, t4, t5, t6, rfl, hc⟩ := ht
  have HC := Lib.hid hc
  have HS := Lib.hid hs
  obtain ⟨_, sa, scap, rfl, _⟩ := hs
  obtain ⟨_, ca, ccap, rfl, _⟩ := hc
  go_enter Tryz.func17, Tryz.ntmps17
  go_wp2_with fail
  have hb0 := below_alloc w (Obj.cells #[n, .slice ca cs.length ccap, t2, t3, t4, t5, t6] 29)
  refine (signClasses_any _ cs _ (HC.out.below hb0 (Nat.le_refl _))).mono ?_
  rintro e w1 ⟨mb, a1, n1, k1, a2, n2, k2, rfl, hb1, hsig⟩
  have hB1 : Below w.heap.size w w1 := hb0.trans (hb1.mono (by simp))
  have hz1 := hB1.size
  by_cases h0 : clsErr cs = 0
  · obtain ⟨sp, ab, hbu, hsg⟩ := hsig h0
    have HSG := Lib.hid hsg
    have H0 := Lib.hid h0
    have HBU := Lib.hid hbu
    rw [h0]
    clear hsig h0 hbu
    go_wp2_with fail
    have hb2 := below_alloc w1 (Obj.cells #[.map mb, .slice a1 n1 k1, .slice a2 n2 k2, .slice none 0 0, .map none, .map none] 63)
    refine (normal_sig _ _ ss (cs.map Prod.fst) (fun i => ab.getD i []) _ (HSG.out.below hb2 (Nat.le_refl _)) ((HS.out.below hB1 (Nat.le_refl _)).below hb2 (Nat.le_refl _))).mono ?_
    rintro e w2 ⟨v', rfl, hb3, h4, h5⟩
    go_wp2_with fail
    go_ret2
    have hz2 := hb2.size
    refine ⟨v', normErr (cs.map Prod.fst) ss, rfl, hB1.trans ((hb2.mono hz1).trans (hb3.mono (by omega))), fun h => absurd H0.out h, fun _ => ⟨sp, ab, HBU.out, rfl, fun h => (h4 h).base (by omega)⟩⟩
  · have hd : decide (clsErr cs = 0) = false := by simpa using h0
    have H0 := Lib.hid h0
    generalize hce : clsErr cs = ce at *
    clear hsig
    go_wp2_with fail
    go_ret2
    refine ⟨_, ce, rfl, hB1.trans ((below_alloc w1 _).mono hz1), fun _ => hce.symm, fun h => absurd (hce.symm.trans h) H0.out⟩

/-- what Less returns -/
def LessPost (w : World) (cs : List (Nm × List Nm)) (ss ts : List Nm) (e : Ending) (w' : World) : Prop :=
  ∃ r, e = .returned (.bool r) ∧ Below w.heap.size w w' ∧ (clsErr cs ≠ 0 → r = false) ∧
    (clsErr cs = 0 → ∃ sp ab, Built cs sp ab ∧ r = lessB (cs.map Prod.fst) (fun i => ab.getD i []) ss ts)

end Go.Proofs.YtehnikgdjnmfcaaGreat

/- Few, fewSorts. -/
namespace Go.Proofs.YtehnikgdjnmfcaaGreat
open Go.RowKit Go.WideMaps Go.Shelf

/-- a slice of slices, whatever they hold -/
def SlSS (w : World) (v : Value) : Prop :=
  ∃ a n cap, v = .slice a n cap ∧ n ≤ maxLen ∧ (0 < n → ∃ b off, a = some ⟨b, off, none⟩ ∧ b < w.heap.size ∧ ∀ k, k < n → ∃ p m c, w.cell? ⟨b, off + k, none⟩ = some (.slice p m c))

theorem SlSS.below {w w' : World} {B : Nat} {v : Value} (h : SlSS w v) (hb : Below B w w') (hB : w.heap.size ≤ B) : SlSS w' v := by
  obtain ⟨a, n, cap, e, h1, h2⟩ := h
  refine ⟨a, n, cap, e, h1, fun hn => ?_⟩
  obtain ⟨b, off, e1, h3, h4⟩ := h2 hn
  refine ⟨b, off, e1, by have := hb.size; omega, fun k hk => ?_⟩
  obtain ⟨p, m, c, h5⟩ := h4 k hk
  exact ⟨p, m, c, (hb.cell (p := ⟨b, off + k, none⟩) (by simp; omega)).trans h5⟩

def AB (w : World) (e : Ending) (w' : World) : Prop := ∃ r, e = .returned (.bool r) ∧ Below w.heap.size w w'
def AI (w : World) (e : Ending) (w' : World) : Prop := ∃ r : Int, e = .returned (.int .i64 r) ∧ Below w.heap.size w w'

theorem long_any (p : Option Addr) (m c : Nat) (w : World) : Calls Tryz.prog 16 #[.slice p m c] w fun e w' => e = .returned (.bool (decide (25 < ((m : Nat) : Int)))) ∧ w' = w := by
  go_enter Tryz.func16, Tryz.ntmps16
  go_wp2_with fail
  go_ret
  exact ⟨rfl, rfl⟩

set_option maxRecDepth 100000 in
set_option maxHeartbeats 4000000 in
theorem index_any (v : Value) (w : World) (hs : SlSS w v) :
    Calls Tryz.prog 31 #[v, .func (.func 16) #[] #[]] w (AI w) := by
  obtain ⟨a, n, cap, rfl, hn, hs⟩ := hs
  unfold maxLen at hn
  go_enter Tryz.func31, Tryz.ntmps31
  go_wp2_with fail
  go_loop [8] (fun i => ∃ k : Nat, k ≤ n ∧ i = .int .i64 k) (fun i => n - (intOf i).toNat)
  case atStart => exact ⟨0, by omega, rfl⟩
  case round =>
    obtain ⟨k, hk, rfl⟩ := hrel
    by_cases hlt : k < n
    · obtain ⟨b, off, rfl, hb, hc⟩ := hs (by omega)
      obtain ⟨p, m, c, hck⟩ := hc k hlt
      by_cases hd : decide (25 < ((m : Nat) : Int)) = true
      · have C := Lib.hid (fun W => long_any p m c W)
        rw [hd] at C
        clear hd hc
        go_wp2_with (go_at_call 16; refine (C.out _).mono ?_; rintro e w' ⟨rfl, rfl⟩)
        go_ret
        exact ⟨_, rfl, Below.refl _ _⟩
      · have hd' : decide (25 < ((m : Nat) : Int)) = false := by simpa using hd
        have C := Lib.hid (fun W => long_any p m c W)
        rw [hd'] at C
        clear hd hd' hc
        go_wp2_with (go_at_call 16; refine (C.out _).mono ?_; rintro e w' ⟨rfl, rfl⟩)
        go_round
        case rel => exact ⟨k + 1, by omega, by go_num⟩
        case measure => simp [intOf]; omega
    · go_wp2_with fail
      go_ret
      exact ⟨_, rfl, Below.refl _ _⟩

set_option maxRecDepth 100000 in
theorem contains_any (v : Value) (w : World) (hs : SlSS w v) :
    Calls Tryz.prog 15 #[v, .func (.func 16) #[] #[]] w (AB w) := by
  go_enter Tryz.func15, Tryz.ntmps15
  go_wp2_with fail
  refine (index_any v w hs).mono ?_
  rintro e w' ⟨r, rfl, hb⟩
  go_wp2_with fail
  go_ret
  exact ⟨_, rfl, hb⟩

set_option maxRecDepth 100000 in
theorem fewSorts_any (v : Value) (w : World) (hs : SlSS w v) :
    Calls Tryz.prog 5 #[v] w (AB w) := by
  go_enter Tryz.func5, Tryz.ntmps5
  go_wp2_with fail
  refine (contains_any v w hs).mono ?_
  rintro e w' ⟨r, rfl, hb⟩
  go_wp2_with fail
  go_ret
  exact ⟨_, rfl, hb⟩

/-- a slice of arities, whatever they say -/
def SlA (w : World) (v : Value) : Prop :=
  ∃ a n cap, v = .slice a n cap ∧ n ≤ maxLen ∧ (0 < n → ∃ b off, a = some ⟨b, off, none⟩ ∧ b < w.heap.size ∧ ∀ k, k < n → ∃ s1 s2 v3, w.cell? ⟨b, off + k * 3, none⟩ = some (.string s1) ∧ w.cell? ⟨b, off + k * 3 + 1, none⟩ = some (.string s2) ∧ w.cell? ⟨b, off + k * 3 + 2, none⟩ = some v3 ∧ SlSS w v3)

theorem SlA.below {w w' : World} {B : Nat} {v : Value} (h : SlA w v) (hb : Below B w w') (hB : w.heap.size ≤ B) : SlA w' v := by
  obtain ⟨a, n, cap, e, h1, h2⟩ := h
  refine ⟨a, n, cap, e, h1, fun hn => ?_⟩
  obtain ⟨b, off, e1, h3, h4⟩ := h2 hn
  refine ⟨b, off, e1, by have := hb.size; omega, fun k hk => ?_⟩
  obtain ⟨s1, s2, v3, g1, g2, g3, g4⟩ := h4 k hk
  exact ⟨s1, s2, v3, (hb.cell (p := ⟨b, _, none⟩) (by simp; omega)).trans g1, (hb.cell (p := ⟨b, _, none⟩) (by simp; omega)).trans g2, (hb.cell (p := ⟨b, _, none⟩) (by simp; omega)).trans g3, g4.below hb hB⟩

set_option maxRecDepth 100000 in
set_option maxHeartbeats 4000000 in
theorem few_any (n c t2 t3 t4 t5 t6 : Value) (p2 : Option Addr) (n2 c2 : Nat) (cs : List (Nm × List Nm)) (w : World) (hc : SlC w c cs) (h2 : t2 = .slice p2 n2 c2) (h3 : SlA w t3) :
    Calls Tryz.prog 4 #[.agg #[n, c, t2, t3, t4, t5, t6]] w (AB w) := by
  have HC := Lib.hid hc
  have H3 := Lib.hid h3
  obtain ⟨hcl, ca, ccap, rfl, _⟩ := hc
  obtain ⟨a3, n3, c3, rfl, hn3, _⟩ := h3
  subst h2
  unfold maxLen at hcl hn3
  by_cases hd1 : decide (14 < ((cs.length : Nat) : Int)) = true
  · go_enter Tryz.func4, Tryz.ntmps4
    go_wp2_with fail
    go_ret
    exact ⟨_, rfl, below_alloc _ _⟩
  · have hd1 : decide (14 < ((cs.length : Nat) : Int)) = false := by simpa using hd1
    by_cases hd2 : decide (16 < ((n2 : Nat) : Int)) = true
    · go_enter Tryz.func4, Tryz.ntmps4
      go_wp2_with fail
      go_ret
      exact ⟨_, rfl, below_alloc _ _⟩
    · have hd2 : decide (16 < ((n2 : Nat) : Int)) = false := by simpa using hd2
      by_cases hd3 : decide (40 < ((n3 : Nat) : Int)) = true
      · go_enter Tryz.func4, Tryz.ntmps4
        go_wp2_with fail
        go_ret
        exact ⟨_, rfl, below_alloc _ _⟩
      · have hd3 : decide (40 < ((n3 : Nat) : Int)) = false := by simpa using hd3
        go_enter Tryz.func4, Tryz.ntmps4
        go_wp2_with fail
        have hb0 := below_alloc w (Obj.cells #[n, .slice ca cs.length ccap, .slice p2 n2 c2, .slice a3 n3 c3, t4, t5, t6] 29)
        have hr0 := heap_alloc_new w (Obj.cells #[n, .slice ca cs.length ccap, .slice p2 n2 c2, .slice a3 n3 c3, t4, t5, t6] 29)
        have hz0 : w.heap.size + 1 ≤ (w.alloc (Obj.cells #[n, .slice ca cs.length ccap, .slice p2 n2 c2, .slice a3 n3 c3, t4, t5, t6] 29)).heap.size := by simp
        generalize (w.alloc (Obj.cells #[n, .slice ca cs.length ccap, .slice p2 n2 c2, .slice a3 n3 c3, t4, t5, t6] 29)) = W0 at *
        have HR0 := Lib.hid hr0
        clear hr0
        go_loopw [26] (fun i wr => ∃ k : Nat, k ≤ cs.length ∧ i = .int .i64 k ∧ Below W0.heap.size W0 wr) (fun i _ => cs.length - (intOf i).toNat)
        case atStart => exact ⟨0, by omega, rfl, Below.refl _ _⟩
        case round =>
          obtain ⟨k, hk, rfl, hB⟩ := hrel
          have hz := hB.size
          have hBw : Below w.heap.size w wr := hb0.trans (hB.mono (by omega))
          by_cases hlt : k < cs.length
          · obtain ⟨_, ca', cap', hee, hsx⟩ := HC.out.below hBw (Nat.le_refl _)
            injection hee with hee _ hee2
            subst hee
            subst hee2
            obtain ⟨b, off, rfl, hb, hc⟩ := hsx (by omega)
            obtain ⟨g0, hnl, sa', scap', g1, _⟩ := hc k hlt
            clear hc hsx
            generalize cs.getD k ([], []) = x at *
            obtain ⟨nm, sups⟩ := x
            simp only at g0 g1
            by_cases hd : decide (25 < ((sups.length : Nat) : Int)) = true
            · go_wp2_with fail
              go_ret
              exact ⟨_, rfl, hBw.trans ((below_alloc wr _).mono (by omega))⟩
            · have hd : decide (25 < ((sups.length : Nat) : Int)) = false := by simpa using hd
              go_wp2_with fail
              go_roundw
              case rel => exact ⟨k + 1, by omega, by go_num, hB.trans ((below_alloc wr _).mono (by omega))⟩
              case measure => simp [intOf]; omega
          · have p3 : wr.cell? ⟨w.heap.size, 3, none⟩ = some (.slice a3 n3 c3) := by rw [cell_of_row wr _ 3 _ _ _ ((hB.block _ (by omega)).trans HR0.out)]; rfl
            go_wp2_with fail
            generalize wr = w5 at *
            go_loopw [38] (fun i wr => ∃ k : Nat, k ≤ n3 ∧ i = .int .i64 k ∧ Below w5.heap.size w5 wr) (fun i _ => n3 - (intOf i).toNat)
            case atStart => exact ⟨0, by omega, rfl, Below.refl _ _⟩
            case round =>
              obtain ⟨k, hk, rfl, hB2⟩ := hrel
              have hBw2 : Below w.heap.size w wr := hBw.trans (hB2.mono (by omega))
              have hz2 := hB2.size
              by_cases hlt : k < n3
              · obtain ⟨_, n3', c3', hee, _, hsx⟩ := H3.out.below hBw2 (Nat.le_refl _)
                injection hee with hee hee1 hee2
                subst hee
                subst hee1
                subst hee2
                obtain ⟨b, off, rfl, hb, hc⟩ := hsx (by omega)
                obtain ⟨s1, s2, v3, g0, g1, g2, g3⟩ := hc k hlt
                have hb4 := below_alloc wr (Obj.cells #[.string s1, .string s2, v3] 50)
                have C := Lib.hid (fewSorts_any v3 _ (g3.below hb4 (Nat.le_refl _)))
                obtain ⟨a4, n4, c4, rfl, _⟩ := g3
                clear hc hsx
                by_cases hd : decide (12 < ((n4 : Nat) : Int)) = true
                · clear C
                  go_wp2_with fail
                  go_ret
                  exact ⟨_, rfl, hBw2.trans ((below_alloc wr _).mono (by omega))⟩
                · have hd : decide (12 < ((n4 : Nat) : Int)) = false := by simpa using hd
                  go_wp2_with (go_at_call 5; refine C.out.mono ?_; rintro e w6 ⟨r, rfl, hb6⟩; cases r)
                  · go_ret
                    exact ⟨_, rfl, hBw2.trans ((hb4.mono (by omega)).trans (hb6.mono (by simp; omega)))⟩
                  · go_roundw
                    case rel => exact ⟨k + 1, by omega, by go_num, hB2.trans ((hb4.mono (by omega)).trans (hb6.mono (by simp; omega)))⟩
                    case measure => simp [intOf]; omega
              · go_wp2_with fail
                go_ret
                exact ⟨_, rfl, hBw2⟩

end Go.Proofs.YtehnikgdjnmfcaaGreat
