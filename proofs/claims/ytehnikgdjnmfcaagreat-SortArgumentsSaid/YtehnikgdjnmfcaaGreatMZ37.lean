/- EqualFunc of sorts 10; EqualFunc of types 30 and the law's same 14. -/
import Derived.Test.YtehnikgdjnmfcaaGreatMZ33
import Derived.Test.YtehnikgdjnmfcaaGreatMZ17
import Derived.Test.YtehnikgdjnmfcaaGreatMZ36
namespace Go.Proofs.YtehnikgdjnmfcaaGreat
open Go.RowKit Go.WideMaps Go.Shelf Go.Sort Go.Lib
attribute [local go_sem] Oper.semAt_some

theorem slSs_at2 {w : World} {a : Option Addr} {n c : Nat} {ls : List (List Nm)} (h : SlSs w (.slice a n c) ls) {k : Nat} (hk : k < ls.length) :
    ∃ b off p q, a = some ⟨b, off, none⟩ ∧ b < w.heap.size ∧ w.cell? ⟨b, off + k, none⟩ = some (.slice p (ls.getD k []).length q) ∧ SlS w (.slice p (ls.getD k []).length q) (ls.getD k []) := by
  obtain ⟨_, a', c', e, h2⟩ := h
  injection e with e1 e2 e3
  subst e1 e3
  obtain ⟨b, off, e, hb, hc⟩ := h2 (by omega)
  obtain ⟨p, q, g1, g2⟩ := hc k hk
  exact ⟨b, off, p, q, e, hb, g1, g2⟩

set_option maxRecDepth 100000 in
set_option maxHeartbeats 2000000 in
/-- two slices of the same sorts are equal -/
theorem equalSs_any (u v : Value) (ls : List (List Nm)) (w : World) (hu : SlSs w u ls) (hv : SlSs w v ls) :
    Calls Tryz.prog 10 #[u, v, .func (.func 11) #[] #[]] w fun e w' => e = .returned (.bool true) ∧ Below w.heap.size w w' := by
  have HU := Lib.hid hu
  have HV := Lib.hid hv
  have hl := hu.1
  unfold maxLen at hl
  obtain ⟨_, a1, c1, rfl, _⟩ := hu
  obtain ⟨_, a2, c2, rfl, _⟩ := hv
  go_enter Tryz.func10, Tryz.ntmps10
  go_wp2_with fail
  go_loopw [17] (fun i wr => ∃ k : Nat, k ≤ ls.length ∧ i = .int .i64 k ∧ Below w.heap.size w wr) (fun i _ => ls.length - (intOf i).toNat)
  case atStart => exact ⟨0, by omega, rfl, Below.refl _ _⟩
  case round =>
    obtain ⟨k, hk, rfl, hB⟩ := hrel
    by_cases hlt : k < ls.length
    · obtain ⟨b1, o1, p1, q1, rfl, hb1, g1, h1⟩ := slSs_at2 HU.out hlt
      obtain ⟨b2, o2, p2, q2, rfl, hb2, g2, h2⟩ := slSs_at2 HV.out hlt
      have e1 := (hB.cell (p := ⟨b1, o1 + k, none⟩) hb1).trans g1
      have e2 := (hB.cell (p := ⟨b2, o2 + k, none⟩) hb2).trans g2
      have EQ := Lib.hid (equal_any _ _ _ _ wr (h1.below hB (Nat.le_refl _)) (h2.below hB (Nat.le_refl _)))
      rw [decide_eq_true (rfl : ls.getD k [] = ls.getD k [])] at EQ
      generalize ls.getD k [] = x at *
      clear g1 g2 h1 h2
      go_wp2_with fail
      refine EQ.out.mono ?_
      rintro e w2 ⟨rfl, hb⟩
      have hB2 := hB.trans (hb.mono hB.size)
      go_wp2_with fail
      go_roundw
      case rel => exact ⟨k + 1, by omega, by go_num, hB2⟩
      case measure => simp [intOf]; omega
    · go_wp2_with fail
      go_ret
      exact ⟨rfl, hB⟩

/-- two types that are the same are equal -/
def SameC (d : Nat) : Prop :=
  ∀ (H H' : Nat → Prop) (t : GT) (o o' : Int) (x x' : ByteArray) (a a' : Option Addr) (n n' c c' : Nat) (w : World), TyIs w H d t o x a n → TyIs w H' d t o' x' a' n' →
    Calls Tryz.prog 14 #[.agg #[.int .i64 o, .string x, .int .i64 0, .slice none 0 0, .slice a n c], .agg #[.int .i64 o', .string x', .int .i64 0, .slice none 0 0, .slice a' n' c']] w fun e w' => e = .returned (.bool true) ∧ Below w.heap.size w w'

def SameL (d : Nat) : Prop :=
  ∀ (H H' : Nat → Prop) (l : List GT) (a a' : Option Addr) (n n' c c' : Nat) (w : World), TyAt w H d l a n → TyAt w H' d l a' n' →
    Calls Tryz.prog 30 #[.slice a n c, .slice a' n' c', .func (.func 14) #[] #[]] w fun e w' => e = .returned (.bool true) ∧ Below w.heap.size w w'

set_option maxRecDepth 100000 in
set_option maxHeartbeats 2000000 in
theorem sameL_zero : SameL 0 := by
  intro H H' l a a' n n' c c' w h h'
  obtain ⟨rfl, _⟩ := h
  obtain ⟨rfl, _⟩ := h'
  go_enter Tryz.func30, Tryz.ntmps30
  go_wp2_with fail
  go_loopw [17] (fun i wr => i = .int .i64 0 ∧ Below w.heap.size w wr) (fun _ _ => 0)
  case atStart => exact ⟨rfl, Below.refl _ _⟩
  case round =>
    obtain ⟨rfl, hB⟩ := hrel
    go_wp2_with fail
    go_ret
    exact ⟨rfl, hB⟩

set_option maxRecDepth 100000 in
set_option maxHeartbeats 4000000 in
theorem sameL_step {d : Nat} (HS : SameC d) : SameL (d + 1) := by
  intro H H' l a a' n n' c c' w h h'
  obtain ⟨rfl, h10, hx⟩ := h
  obtain ⟨rfl, _, hx'⟩ := h'
  have HX := Lib.hid hx
  have HX' := Lib.hid hx'
  clear hx hx'
  go_enter Tryz.func30, Tryz.ntmps30
  go_wp2_with fail
  go_loopw [17] (fun i wr => ∃ k : Nat, k ≤ l.length ∧ i = .int .i64 k ∧ Below w.heap.size w wr) (fun i _ => l.length - (intOf i).toNat)
  case atStart => exact ⟨0, by omega, rfl, Below.refl _ _⟩
  case round =>
    obtain ⟨k, hk, rfl, hB⟩ := hrel
    by_cases hlt : k < l.length
    · obtain ⟨b1, o1, rfl, hb1, _, hc1⟩ := HX.out (by omega)
      obtain ⟨b2, o2, rfl, hb2, _, hc2⟩ := HX'.out (by omega)
      obtain ⟨p, x, y, m, q, ⟨g0, g1, g2, g3, g4⟩, ht⟩ := hc1 k hlt
      obtain ⟨p', x', y', m', q', ⟨g0', g1', g2', g3', g4'⟩, ht'⟩ := hc2 k hlt
      have cl1 : ∀ {i : Nat} {u : Value}, w.cell? ⟨b1, i, none⟩ = some u → wr.cell? ⟨b1, i, none⟩ = some u := fun h => (hB.cell (p := ⟨b1, _, none⟩) hb1).trans h
      have cl2 : ∀ {i : Nat} {u : Value}, w.cell? ⟨b2, i, none⟩ = some u → wr.cell? ⟨b2, i, none⟩ = some u := fun h => (hB.cell (p := ⟨b2, _, none⟩) hb2).trans h
      have e0 := cl1 g0
      have e1 := cl1 g1
      have e2 := cl1 g2
      have e3 := cl1 g3
      have e4 := cl1 g4
      have ha := below_alloc wr (Obj.cells #[.int .i64 p, .string x, .int .i64 0, .slice none 0 0, .slice y m q] 42)
      have e0' := (ha.cell (p := ⟨b2, _, none⟩) (by simp only; have := hB.size; omega)).trans (cl2 g0')
      have e1' := (ha.cell (p := ⟨b2, _, none⟩) (by simp only; have := hB.size; omega)).trans (cl2 g1')
      have e2' := (ha.cell (p := ⟨b2, _, none⟩) (by simp only; have := hB.size; omega)).trans (cl2 g2')
      have e3' := (ha.cell (p := ⟨b2, _, none⟩) (by simp only; have := hB.size; omega)).trans (cl2 g3')
      have e4' := (ha.cell (p := ⟨b2, _, none⟩) (by simp only; have := hB.size; omega)).trans (cl2 g4')
      have hb := below_alloc (wr.alloc (Obj.cells #[.int .i64 p, .string x, .int .i64 0, .slice none 0 0, .slice y m q] 42)) (Obj.cells #[.int .i64 p', .string x', .int .i64 0, .slice none 0 0, .slice y' m' q'] 42)
      have r1 := heap_alloc_new wr (Obj.cells #[.int .i64 p, .string x, .int .i64 0, .slice none 0 0, .slice y m q] 42)
      have r2 := heap_alloc_new (wr.alloc (Obj.cells #[.int .i64 p, .string x, .int .i64 0, .slice none 0 0, .slice y m q] 42)) (Obj.cells #[.int .i64 p', .string x', .int .i64 0, .slice none 0 0, .slice y' m' q'] 42)
      have hz : (wr.alloc (Obj.cells #[.int .i64 p, .string x, .int .i64 0, .slice none 0 0, .slice y m q] 42)).heap.size = wr.heap.size + 1 := by simp
      rw [hz] at r2
      have r1' := (hb.block wr.heap.size (by omega)).trans r1
      obtain ⟨⟨x0, x1, x2, x3, x4⟩, _⟩ := five r1'
      obtain ⟨⟨y0, y1, y2, y3, y4⟩, _⟩ := five r2
      have hBB := hB.trans ((ha.trans (hb.mono (by omega))).mono hB.size)
      have SC := Lib.hid (HS H H' _ p p' x x' y y' m m' q q' _ (TyIs.below (t := l.getD k .zero) ht hBB) (TyIs.below (t := l.getD k .zero) ht' hBB))
      have HBB := Lib.hid hBB
      have hsz := hBB.size
      clear ht ht' g0 g1 g2 g3 g4 g0' g1' g2' g3' g4' cl1 cl2 hc1 hc2 r1 r2 r1' ha hb hBB
      go_wp2_with fail
      refine SC.out.mono ?_
      rintro e w2 ⟨rfl, hb5⟩
      have hB2 := HBB.out.trans (hb5.mono hsz)
      go_wp2_with fail
      go_roundw
      case rel => exact ⟨k + 1, by omega, by go_num, hB2⟩
      case measure => simp [intOf]; omega
    · go_wp2_with fail
      go_ret
      exact ⟨rfl, hB⟩

set_option maxRecDepth 100000 in
set_option maxHeartbeats 2000000 in
theorem sameC_of {d : Nat} (HL : SameL d) : SameC d := by
  intro H H' t o o' x x' a a' n n' c c' w h h'
  obtain ⟨h1, rfl, rfl⟩ := h
  obtain ⟨h2, rfl, rfl⟩ := h'
  have ha := below_alloc w (Obj.cells #[.int .i64 t.o, .string (bs t.x), .int .i64 0, .slice none 0 0, .slice a n c] 42)
  have hb := below_alloc (w.alloc (Obj.cells #[.int .i64 t.o, .string (bs t.x), .int .i64 0, .slice none 0 0, .slice a n c] 42)) (Obj.cells #[.int .i64 t.o, .string (bs t.x), .int .i64 0, .slice none 0 0, .slice a' n' c'] 42)
  have r1 := heap_alloc_new w (Obj.cells #[.int .i64 t.o, .string (bs t.x), .int .i64 0, .slice none 0 0, .slice a n c] 42)
  have r2 := heap_alloc_new (w.alloc (Obj.cells #[.int .i64 t.o, .string (bs t.x), .int .i64 0, .slice none 0 0, .slice a n c] 42)) (Obj.cells #[.int .i64 t.o, .string (bs t.x), .int .i64 0, .slice none 0 0, .slice a' n' c'] 42)
  have hz : (w.alloc (Obj.cells #[.int .i64 t.o, .string (bs t.x), .int .i64 0, .slice none 0 0, .slice a n c] 42)).heap.size = w.heap.size + 1 := by simp
  have hz2 : ((w.alloc (Obj.cells #[.int .i64 t.o, .string (bs t.x), .int .i64 0, .slice none 0 0, .slice a n c] 42)).alloc (Obj.cells #[.int .i64 t.o, .string (bs t.x), .int .i64 0, .slice none 0 0, .slice a' n' c'] 42)).heap.size = w.heap.size + 2 := by simp
  rw [hz] at r2
  have r1' := (hb.block w.heap.size (by omega)).trans r1
  have hB := ha.trans (hb.mono (by omega))
  have EQ := Lib.hid (equal_any (.slice none 0 0) (.slice none 0 0) [] [] ((w.alloc (Obj.cells #[.int .i64 t.o, .string (bs t.x), .int .i64 0, .slice none 0 0, .slice a n c] 42)).alloc (Obj.cells #[.int .i64 t.o, .string (bs t.x), .int .i64 0, .slice none 0 0, .slice a' n' c'] 42)) slS0 slS0)
  rw [decide_eq_true (rfl : ([] : List Nm) = [])] at EQ
  generalize t.o = o at *
  generalize bs t.x = x at *
  obtain ⟨⟨x0, x1, x2, x3, x4⟩, _⟩ := five r1'
  obtain ⟨⟨y0, y1, y2, y3, y4⟩, _⟩ := five r2
  have R1 := Lib.hid r1'
  have R2 := Lib.hid r2
  have HB := Lib.hid hB
  have HZ := Lib.hid hz2
  have H1 := Lib.hid h1
  have H2 := Lib.hid h2
  clear r1 r2 r1' ha hb hz hz2 hB h1 h2
  go_enter Tryz.func14, Tryz.ntmps14
  go_wp2_with fail
  refine EQ.out.mono ?_
  rintro e w1 ⟨rfl, hb1⟩
  have hB1 := HB.out.trans (hb1.mono (by rw [HZ.out]; omega))
  have q1 := (hb1.block w.heap.size (by rw [HZ.out]; omega)).trans R1.out
  have q2 := (hb1.block (w.heap.size + 1) (by rw [HZ.out]; omega)).trans R2.out
  have hz1 : w.heap.size ≤ w1.heap.size := hB1.size
  clear x0 x1 x2 x3 x4 y0 y1 y2 y3 y4 EQ R1 R2 HB HZ hb1
  obtain ⟨⟨x0, x1, x2, x3, x4⟩, _⟩ := five q1
  obtain ⟨⟨y0, y1, y2, y3, y4⟩, _⟩ := five q2
  have SL := Lib.hid (HL H H' _ a a' n n' c c' w1 (H1.out.below hB1) (H2.out.below hB1))
  clear q1 q2
  go_wp2_with fail
  refine SL.out.mono ?_
  rintro e w2 ⟨rfl, hb2⟩
  go_wp2_with fail
  go_ret
  exact ⟨rfl, hB1.trans (hb2.mono hz1)⟩

theorem sameL_any : ∀ d, SameL d
  | 0 => sameL_zero
  | d + 1 => sameL_step (sameC_of (sameL_any d))

theorem same_any (d : Nat) : SameC d := sameC_of (sameL_any d)
end Go.Proofs.YtehnikgdjnmfcaaGreat

