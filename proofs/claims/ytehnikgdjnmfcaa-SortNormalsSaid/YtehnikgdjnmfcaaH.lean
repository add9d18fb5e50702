/- upward: the classes above a class. -/
import Derived.Test.YtehnikgdjnmfcaaF
import Derived.Test.YtehnikgdjnmfcaaG
import Derived.Shelf.Abstract
import Derived.Shelf.RegionOpen
import Derived.OwnWalkIn
import Derived.TacticsInMore
import Derived.LoopNIn
import Derived.LoopIn
import Derived.Sort.LoopGhostIn
import Derived.Maps.AppendAt
namespace Go.Proofs.Ytehnikgdjnmfcaa
open Go.RowKit Go.WideMaps Go.Shelf
attribute [local go_sem] Oper.semAt_some

theorem wordsOf_snoc (ys : List Nat) (k j : Nat) : wordsOf (ys ++ [k]) j = if k / 64 = j then wordsOf ys j ||| 2 ^ (k % 64) else wordsOf ys j := by
  simp [wordsOf]

theorem wordsOf_mem (i : Nat) (ys : List Nat) : (wordsOf ys (i / 64)).testBit (i % 64) = decide (i ∈ ys) := by
  suffices h : ∀ n, ∀ ys : List Nat, ys.length = n → (wordsOf ys (i / 64)).testBit (i % 64) = decide (i ∈ ys) from h _ ys rfl
  intro n
  induction n with
  | zero => intro ys h; rw [List.length_eq_zero_iff.1 h]; simp [wordsOf]
  | succ n ih =>
    intro ys h
    rcases List.eq_nil_or_concat ys with rfl | ⟨zs, k, rfl⟩
    · simp at h
    · have hz : zs.length = n := by simp at h; omega
      rw [List.concat_eq_append, wordsOf_snoc]
      have e : (i ∈ zs ++ [k]) ↔ (i ∈ zs ∨ i = k) := by simp
      by_cases hk : k / 64 = i / 64
      · rw [if_pos hk, Nat.testBit_or, ih zs hz, Nat.testBit_two_pow, Bool.eq_iff_iff]
        have e2 : (k % 64 = i % 64) ↔ (i = k) := by omega
        simp only [Bool.or_eq_true, decide_eq_true_eq, e, e2]
      · rw [if_neg hk, ih zs hz, Bool.eq_iff_iff]
        have e2 : ¬ (i = k) := fun e' => hk (by rw [e'])
        simp only [decide_eq_true_eq, e, e2, or_false]

theorem add_words (b off i : Nat) (ys : List Nat) (w : World) (hi : i < 320) (h : WordsAt w b off (wordsOf ys)) :
    Calls Try.prog 74 #[.pointer (some ⟨b, off, none⟩), .int .i64 i] w fun e w' => e = .returned (.tuple #[]) ∧ w.grownBy w' (some b) ∧ WordsAt w' b off (wordsOf (ys ++ [i])) := by
  obtain ⟨h1, h2, h3⟩ := h (i / 64) (by omega)
  refine (add_any b off i _ w hi h3 h1 h2).mono ?_
  rintro e w' ⟨rfl, rfl⟩
  refine ⟨rfl, grownBy_drew (grownBy_setCell _ _ _), ?_⟩
  refine ((h.set (i / 64) _ (by omega) (or_lt64 _ i h3)).drew).congr (fun j _ => ?_)
  rw [wordsOf_snoc]
  by_cases e : j = i / 64
  · subst e; simp
  · have : ¬ i / 64 = j := fun e' => e e'.symm
    simp [e, this]

theorem has_words (b off i : Nat) (ys : List Nat) (w : World) (hi : i < 320) (h : WordsAt w b off (wordsOf ys)) :
    Calls Try.prog 61 #[.pointer (some ⟨b, off, none⟩), .int .i64 i] w fun e w' => e = .returned (.bool (decide (i ∈ ys))) ∧ w = w' := by
  obtain ⟨h1, h2, h3⟩ := h (i / 64) (by omega)
  refine (has_any b off i _ w hi h3 h1).mono ?_
  rintro e w' ⟨rfl, rfl⟩
  exact ⟨ret_bool (wordsOf_mem i ys), rfl⟩

theorem words_zero (w : World) : WordsAt (w.alloc (.cells #[.int .u64 0, .int .u64 0, .int .u64 0, .int .u64 0, .int .u64 0] 96)) w.heap.size 0 (wordsOf []) := by
  intro j hj
  have : j = 0 ∨ j = 1 ∨ j = 2 ∨ j = 3 ∨ j = 4 := by omega
  refine ⟨?_, ?_, by simp [wordsOf]⟩
  · rcases this with rfl | rfl | rfl | rfl | rfl <;> (simp only [wordsOf, List.foldl_nil]; go_simp)
  · rcases this with rfl | rfl | rfl | rfl | rfl <;> go_simp

/-- the rows of supers, in blocks other than No -/
def SupAt (w : World) (No gb : Nat) (sup : Nat → List Nat) (m : Nat) : Prop :=
  gb ≠ No ∧ gb < w.heap.size ∧ ∃ sb so cap, w.cell? ⟨gb, 1, none⟩ = some (.slice (some ⟨sb, so, none⟩) m cap) ∧ sb ≠ No ∧ sb < w.heap.size ∧
    ∀ i, i < m → (sup i).length ≤ 20 ∧ ∃ a cap', w.cell? ⟨sb, so + i, none⟩ = some (.slice a (sup i).length cap') ∧
      (0 < (sup i).length → ∃ rb ro, a = some ⟨rb, ro, none⟩ ∧ rb ≠ No ∧ rb < w.heap.size ∧ ∀ j, j < (sup i).length → w.cell? ⟨rb, ro + j, none⟩ = some (.int .i64 (((sup i).getD j 0 : Nat) : Int)))

/-- every block of cells but one is as it was -/
structure KeepC (No : Nat) (w w' : World) : Prop where
  size : w.heap.size ≤ w'.heap.size
  obj : ∀ k o, k ≠ No → w.heap[k]? = some o → o.isCells = true → w'.heap[k]? = some o

theorem lt_of_cell {w : World} {a : Addr} {v : Value} (h : w.cell? a = some v) : a.block < w.heap.size := by
  unfold World.cell? at h
  cases hb : w.heap[a.block]? with
  | none => rw [hb] at h; simp at h
  | some o => exact (Array.getElem?_eq_some_iff.1 hb).1

theorem cells_of_cell {w : World} {a : Addr} {v : Value} (h : w.cell? a = some v) : ∃ o, w.heap[a.block]? = some o ∧ o.isCells = true := by
  unfold World.cell? at h
  cases hb : w.heap[a.block]? with
  | none => rw [hb] at h; simp at h
  | some o =>
    rw [hb] at h
    cases o <;> simp_all [Obj.isCells]

theorem KeepC.block {No : Nat} {w w' : World} (k : KeepC No w w') {a : Addr} {v : Value} (ha : a.block ≠ No) (hv : w.cell? a = some v) : w'.heap[a.block]? = w.heap[a.block]? := by
  obtain ⟨o, h1, h2⟩ := cells_of_cell hv
  rw [h1]; exact k.obj _ _ ha h1 h2
theorem KeepC.cell {No : Nat} {w w' : World} (k : KeepC No w w') (a : Addr) (v : Value) (ha : a.block ≠ No) (hv : w.cell? a = some v) : w'.cell? a = some v :=
  (World.cell?_of_block (k.block ha hv)).trans hv
theorem KeepC.frozen {No : Nat} {w w' : World} (k : KeepC No w w') (a : Addr) (v : Value) (ha : a.block ≠ No) (hv : w.cell? a = some v) : w'.frozen? a = w.frozen? a :=
  World.frozen?_of_block (k.block ha hv)

theorem SupAt.kept {w w' : World} {No gb : Nat} {sup : Nat → List Nat} {m : Nat} (h : SupAt w No gb sup m) (k : KeepC No w w') : SupAt w' No gb sup m := by
  obtain ⟨h1, h2, sb, so, cap, h3, h4, h5, h6⟩ := h
  refine ⟨h1, by have := k.size; omega, sb, so, cap, k.cell _ _ h1 h3, h4, by have := k.size; omega, fun i hi => ?_⟩
  obtain ⟨h7, a, cap', h8, h9⟩ := h6 i hi
  refine ⟨h7, a, cap', k.cell _ _ h4 h8, fun hl => ?_⟩
  obtain ⟨rb, ro, e, g1, g2, g3⟩ := h9 hl
  exact ⟨rb, ro, e, g1, by have := k.size; omega, fun j hj => k.cell _ _ g1 (g3 j hj)⟩

theorem KeepC.refl (No : Nat) (w : World) : KeepC No w w := ⟨Nat.le_refl _, fun _ _ _ h _ => h⟩
theorem KeepC.trans {No : Nat} {a b c : World} (h : KeepC No a b) (k : KeepC No b c) : KeepC No a c :=
  ⟨Nat.le_trans h.size k.size, fun x o hx ho hc => k.obj x o hx (h.obj x o hx ho hc) hc⟩
theorem KeepC.of_grown {No : Nat} {w w' : World} {row : Option Nat} (hg : w.grownBy w' row) (hr : ∀ r, row = some r → r = No ∨ w.heap.size ≤ r) : KeepC No w w' :=
  ⟨hg.size, fun k o hk ho _ => (hg.block k (Array.getElem?_eq_some_iff.1 ho).1 (fun e => by rcases hr _ e.symm with h | h; exact hk h; have := (Array.getElem?_eq_some_iff.1 ho).1; omega)).trans ho⟩
theorem KeepC.of_below {No : Nat} {w w' : World} (h : Below w.heap.size w w') : KeepC No w w' :=
  ⟨h.size, fun k _ _ ho _ => (h.block k (Array.getElem?_eq_some_iff.1 ho).1).trans ho⟩
theorem KeepC.put {No : Nat} (W : World) (l : Nat) (o o' : Obj) (hl : W.heap[l]? = some o) (ho : o.isCells = false) : KeepC No W (W.putObj l o') := by
  have hlt := (Array.getElem?_eq_some_iff.1 hl).1
  refine ⟨by simp [World.putObj], fun k x _ hx hc => ?_⟩
  by_cases e : k = l
  · subst e; rw [hl] at hx; cases hx; rw [ho] at hc; cases hc
  · exact (World.putObj_heap_other e).trans hx
theorem WordsAt.keepC {w w' : World} {b off No : Nat} {U : Nat → Nat} (h : WordsAt w b off U) (k : KeepC No w w') (hb : b ≠ No) : WordsAt w' b off U := by
  intro j hj
  obtain ⟨h1, h2, h3⟩ := h j hj
  exact ⟨k.cell _ _ hb h1, (k.frozen _ _ hb h1).trans h2, h3⟩
theorem ownsRow_keepC {w w' : World} {No base : Nat} {e : TypeId} {size n : Nat} {v : Value} {xs : List Value} (h : w.ownsRow base e size v n xs) (k : KeepC No w w') (hb : No < base) : w'.ownsRow base e size v n xs := by
  obtain ⟨h1, h2⟩ := h
  refine ⟨h1, ?_⟩
  rcases h2 with h2 | ⟨g, cap, cur, hv, hg, hh, r⟩
  · exact Or.inl h2
  · exact Or.inr ⟨g, cap, cur, hv, hg, k.obj _ _ (by omega) hh rfl, r⟩

end Go.Proofs.Ytehnikgdjnmfcaa
