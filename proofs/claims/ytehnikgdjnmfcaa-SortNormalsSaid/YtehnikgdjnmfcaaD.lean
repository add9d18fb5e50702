/- addAll, Less. -/
import Derived.Test.YtehnikgdjnmfcaaC
import Derived.Laws.Rows
import Derived.Deep.AppendLies
import Derived.Maps.AppendAt
namespace Go.Proofs.Ytehnikgdjnmfcaa
open Go.RowKit Go.WideMaps

def W64 : Nat := 18446744073709551616

/-- five words in memory that may be written -/
def WordsAt (w : World) (b off : Nat) (U : Nat → Nat) : Prop :=
  ∀ j, j < 5 → w.cell? ⟨b, off + j, none⟩ = some (.int .u64 ((U j : Nat) : Int)) ∧ w.frozen? ⟨b, off + j, none⟩ = false ∧ U j < 18446744073709551616

theorem WordsAt.set {w : World} {b off : Nat} {U : Nat → Nat} (h : WordsAt w b off U) (k m : Nat) (hk : k < 5) (hm : m < 18446744073709551616) :
    WordsAt (w.setCell ⟨b, off + k, none⟩ (.int .u64 (m : Int))) b off (fun j => if j = k then m else U j) := by
  intro j hj
  obtain ⟨h1, h2, h3⟩ := h j hj
  by_cases e : j = k
  · subst e
    exact ⟨by simp only [↓reduceIte]; exact World.cell?_setCell_same _ _ _ h1, by rw [World.frozen?_setCell]; exact h2, by simpa using hm⟩
  · refine ⟨?_, by rw [World.frozen?_setCell]; exact h2, by simpa [e] using h3⟩
    rw [World.cell?_setCell_other _ _ _ _ (by intro hh; injection hh with _ hh; omega), h1]
    simp [e]

theorem WordsAt.drew {w : World} {b off : Nat} {U : Nat → Nat} (h : WordsAt w b off U) : WordsAt w.drew b off U := h

theorem WordsAt.grown {w w' : World} {b off : Nat} {U : Nat → Nat} {row : Option Nat} (h : WordsAt w b off U) (hg : w.grownBy w' row) (hb : b < w.heap.size) (hne : some b ≠ row) : WordsAt w' b off U := by
  intro j hj
  obtain ⟨h1, h2, h3⟩ := h j hj
  exact ⟨(hg.cell_far ⟨b, off + j, none⟩ hb hne).trans h1, (hg.frozen_far ⟨b, off + j, none⟩ hb hne).trans h2, h3⟩

theorem WordsAt.below {w w' : World} {b off B : Nat} {U : Nat → Nat} (h : WordsAt w b off U) (hg : Below B w w') (hb : b < B) : WordsAt w' b off U := by
  intro j hj
  obtain ⟨h1, h2, h3⟩ := h j hj
  exact ⟨(hg.cell (p := ⟨b, off + j, none⟩) hb).trans h1, (hg.frozen (p := ⟨b, off + j, none⟩) hb).trans h2, h3⟩

theorem WordsAt.congr {w : World} {b off : Nat} {U U' : Nat → Nat} (h : WordsAt w b off U) (e : ∀ j, j < 5 → U j = U' j) : WordsAt w b off U' := by
  intro j hj
  rw [← e j hj]; exact h j hj

theorem grownBy_setCell (w : World) (a : Addr) (v : Value) : w.grownBy (w.setCell a v) (some a.block) :=
  ⟨rfl, rfl, rfl, by simp [World.setCell], fun k _ hne => Below.heap_setCell _ _ _ _ (fun e => hne (by rw [e]))⟩

theorem grownBy_drew {w w' : World} {row : Option Nat} (h : w.grownBy w' row) : w.grownBy w'.drew row := ⟨h.os, h.tape, h.output, h.size, h.block⟩

theorem or_bits (x y : Nat) (hx : x < 18446744073709551616) (hy : y < 18446744073709551616) : bits BinOp.or IntKind.u64 (x : Int) (y : Int) = ((x ||| y : Nat) : Int) := u64_or_nat x y hx hy
theorem or_lt (x y : Nat) (hx : x < 18446744073709551616) (hy : y < 18446744073709551616) : x ||| y < 18446744073709551616 := by
  have := Nat.or_lt_two_pow (n := 64) (x := x) (y := y) (by simpa using hx) (by simpa using hy)
  simpa using this

def wordsV (V : Nat → Nat) : Value := .agg #[.int .u64 ((V 0 : Nat) : Int), .int .u64 ((V 1 : Nat) : Int), .int .u64 ((V 2 : Nat) : Int), .int .u64 ((V 3 : Nat) : Int), .int .u64 ((V 4 : Nat) : Int)]

set_option maxHeartbeats 400000 in
theorem addAll_any (b off : Nat) (U V : Nat → Nat) (w : World) (hb : b < w.heap.size) (hU : WordsAt w b off U) (hV : ∀ j, j < 5 → V j < 18446744073709551616) :
    Calls Try.prog 60 #[.pointer (some ⟨b, off, none⟩), wordsV V] w fun e w' => e = .returned (.tuple #[]) ∧ w.grownBy w' (some b) ∧ WordsAt w' b off (fun j => U j ||| V j) := by
  unfold wordsV
  have HU := Lib.hid hU
  have HV := Lib.hid hV
  clear hU hV
  go_enter Try.func60, Try.ntmps60
  go_wp2
  go_loopw [5] (fun i wr => ∃ k : Nat, k ≤ 5 ∧ i = .int .i64 k ∧ Hid (WordsAt wr b off (fun j => if j < k then U j ||| V j else U j)) ∧ Hid (∀ j, j < 5 → wr.cell? ⟨w.heap.size, j, none⟩ = some (.int .u64 ((V j : Nat) : Int))) ∧ w.grownBy wr (some b)) (fun i _ => 5 - (intOf i).toNat)
  case atStart =>
    refine ⟨0, by omega, rfl, ?_, ?_, World.grownBy_alloc _ _ _⟩
    · exact (HU.out.grown (World.grownBy_alloc w _ none) hb (by simp)).congr (fun j _ => by simp)
    · intro j hj
      have : j = 0 ∨ j = 1 ∨ j = 2 ∨ j = 3 ∨ j = 4 := by omega
      rcases this with rfl | rfl | rfl | rfl | rfl <;> go_simp
  case round =>
    obtain ⟨k, hk, rfl, hW, hB, hG⟩ := hrel
    by_cases hlt : k < 5
    · obtain ⟨h1, h2, h3⟩ := hW.out k hlt
      have h4 := hB.out k hlt
      have h5 := HV.out k hlt
      simp only [Nat.lt_irrefl, if_false] at h1 h3
      have HO := Lib.hid (or_bits (U k) (V k) h3 h5)
      have HL := Lib.hid (or_lt (U k) (V k) h3 h5)
      clear h3 h5
      go_wp2
      go_region
      all_goals
        rw [HO.out]
        go_wp2
        go_roundw
        case rel =>
          refine ⟨k + 1, by omega, by go_num, ?_, ?_, grownBy_drew (hG.trans (grownBy_setCell _ _ _))⟩
          · refine (((hW.out.set k _ hlt HL.out).drew).congr (fun j _ => ?_))
            by_cases e : j = k
            · subst e; simp
            · have : (j < k) ↔ (j < k + 1) := by omega
              simp [e, this]
          · intro j hj
            have := hB.out j hj
            rw [← this]
            exact World.cell?_setCell_other _ _ _ _ (by intro hh; injection hh with hh; omega)
        case measure => simp [intOf]; omega
    · have hk5 : k = 5 := by omega
      subst hk5
      go_wp2
      go_end0
      exact ⟨rfl, hG, hW.out.congr (fun j hj => by simp [hj])⟩
end Go.Proofs.Ytehnikgdjnmfcaa
