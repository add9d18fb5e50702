/- The law TypesOrder 3, but for awake. -/
import Derived.Test.YtkmoepabnnjoaaaDoorMZ14
import Derived.Test.YtkmoepabnnjoaaaDoorMZ12
namespace Go.Proofs.YtkmoepabnnjoaaaDoor
open Go.RowKit Go.WideMaps Go.Shelf
attribute [local go_sem] Oper.semAt_some

theorem TyM.parts {w : World} {d : Nat} {v : Value} {t : TY} (h : TyM w d v t) : ∃ p3 q3 p4 q4, v = .agg #[.int .i64 t.o, .string (bs t.x), .int .i64 t.i, .slice p3 t.s.length q3, .slice p4 t.l.length q4] ∧ t.x.length ≤ maxLen ∧ SlS w (.slice p3 t.s.length q3) t.s ∧ SlTy w d (.slice p4 t.l.length q4) t.l := by
  obtain ⟨vs, va, e, h1, h2, h3⟩ := h
  have h2' := h2
  obtain ⟨_, p3, q3, rfl, _⟩ := h2'
  obtain ⟨p4, q4, rfl⟩ := h3.form
  exact ⟨p3, q3, p4, q4, e, h1, h2, h3⟩

set_option maxRecDepth 100000 in
set_option maxHeartbeats 8000000 in
theorem typesOrder_of (HAW : ∀ w, Calls Tryd.prog 5 #[] w fun e w' => e = .returned (.bool true) ∧ Below w.heap.size w w') (d : Nat) (va vb vc : Value) (t1 t2 t3 : TY) (w : World) (h1 : TyM w d va t1) (h2 : TyM w d vb t2) (h3 : TyM w d vc t3) :
    Calls Tryd.prog 3 #[va, vb, vc] w fun e w' => e = .returned (.bool true) ∧ Below w.heap.size w w' := by
  obtain ⟨p3a, q3a, p4a, q4a, rfl, n1, s1, l1⟩ := h1.parts
  obtain ⟨p3b, q3b, p4b, q4b, rfl, n2, s2, l2⟩ := h2.parts
  obtain ⟨p3c, q3c, p4c, q4c, rfl, n3, s3, l3⟩ := h3.parts
  have HA := Lib.hid HAW
  have H1 := Lib.hid h1
  have H2 := Lib.hid h2
  have H3 := Lib.hid h3
  obtain ⟨la1, la2, la3, la4, la5⟩ := cmpT_law t1 t2 t3
  have b1 := below_alloc w (Obj.cells #[.int .i64 t1.o, .string (bs t1.x), .int .i64 t1.i, .slice p3a t1.s.length q3a, .slice p4a t1.l.length q4a] 25)
  have b2 := below_alloc (w.alloc (Obj.cells #[.int .i64 t1.o, .string (bs t1.x), .int .i64 t1.i, .slice p3a t1.s.length q3a, .slice p4a t1.l.length q4a] 25)) (Obj.cells #[.int .i64 t2.o, .string (bs t2.x), .int .i64 t2.i, .slice p3b t2.s.length q3b, .slice p4b t2.l.length q4b] 25)
  have b3 := below_alloc ((w.alloc (Obj.cells #[.int .i64 t1.o, .string (bs t1.x), .int .i64 t1.i, .slice p3a t1.s.length q3a, .slice p4a t1.l.length q4a] 25)).alloc (Obj.cells #[.int .i64 t2.o, .string (bs t2.x), .int .i64 t2.i, .slice p3b t2.s.length q3b, .slice p4b t2.l.length q4b] 25)) (Obj.cells #[.int .i64 t3.o, .string (bs t3.x), .int .i64 t3.i, .slice p3c t3.s.length q3c, .slice p4c t3.l.length q4c] 25)
  have r1 := heap_alloc_new w (Obj.cells #[.int .i64 t1.o, .string (bs t1.x), .int .i64 t1.i, .slice p3a t1.s.length q3a, .slice p4a t1.l.length q4a] 25)
  have r2 := heap_alloc_new (w.alloc (Obj.cells #[.int .i64 t1.o, .string (bs t1.x), .int .i64 t1.i, .slice p3a t1.s.length q3a, .slice p4a t1.l.length q4a] 25)) (Obj.cells #[.int .i64 t2.o, .string (bs t2.x), .int .i64 t2.i, .slice p3b t2.s.length q3b, .slice p4b t2.l.length q4b] 25)
  have r3 := heap_alloc_new ((w.alloc (Obj.cells #[.int .i64 t1.o, .string (bs t1.x), .int .i64 t1.i, .slice p3a t1.s.length q3a, .slice p4a t1.l.length q4a] 25)).alloc (Obj.cells #[.int .i64 t2.o, .string (bs t2.x), .int .i64 t2.i, .slice p3b t2.s.length q3b, .slice p4b t2.l.length q4b] 25)) (Obj.cells #[.int .i64 t3.o, .string (bs t3.x), .int .i64 t3.i, .slice p3c t3.s.length q3c, .slice p4c t3.l.length q4c] 25)
  have z1 : (w.alloc (Obj.cells #[.int .i64 t1.o, .string (bs t1.x), .int .i64 t1.i, .slice p3a t1.s.length q3a, .slice p4a t1.l.length q4a] 25)).heap.size = w.heap.size + 1 := by simp
  have z2 : ((w.alloc (Obj.cells #[.int .i64 t1.o, .string (bs t1.x), .int .i64 t1.i, .slice p3a t1.s.length q3a, .slice p4a t1.l.length q4a] 25)).alloc (Obj.cells #[.int .i64 t2.o, .string (bs t2.x), .int .i64 t2.i, .slice p3b t2.s.length q3b, .slice p4b t2.l.length q4b] 25)).heap.size = w.heap.size + 2 := by simp
  have z3 : (((w.alloc (Obj.cells #[.int .i64 t1.o, .string (bs t1.x), .int .i64 t1.i, .slice p3a t1.s.length q3a, .slice p4a t1.l.length q4a] 25)).alloc (Obj.cells #[.int .i64 t2.o, .string (bs t2.x), .int .i64 t2.i, .slice p3b t2.s.length q3b, .slice p4b t2.l.length q4b] 25)).alloc (Obj.cells #[.int .i64 t3.o, .string (bs t3.x), .int .i64 t3.i, .slice p3c t3.s.length q3c, .slice p4c t3.l.length q4c] 25)).heap.size = w.heap.size + 3 := by simp
  rw [z1] at r2
  rw [z2] at r3
  have R1 := Lib.hid ((b3.block w.heap.size (by omega)).trans ((b2.block w.heap.size (by omega)).trans r1))
  have R2 := Lib.hid ((b3.block (w.heap.size + 1) (by omega)).trans r2)
  have R3 := Lib.hid r3
  have hB := b1.trans ((b2.trans (b3.mono (by omega))).mono (show w.heap.size ≤ _ by omega))
  have b4 := below_alloc (((w.alloc (Obj.cells #[.int .i64 t1.o, .string (bs t1.x), .int .i64 t1.i, .slice p3a t1.s.length q3a, .slice p4a t1.l.length q4a] 25)).alloc (Obj.cells #[.int .i64 t2.o, .string (bs t2.x), .int .i64 t2.i, .slice p3b t2.s.length q3b, .slice p4b t2.l.length q4b] 25)).alloc (Obj.cells #[.int .i64 t3.o, .string (bs t3.x), .int .i64 t3.i, .slice p3c t3.s.length q3c, .slice p4c t3.l.length q4c] 25)) (Obj.cells #[.int .i64 t1.o, .string (bs t1.x), .int .i64 t1.i, .slice p3a t1.s.length q3a, .slice p4a t1.l.length q4a, .int .i64 t2.o, .string (bs t2.x), .int .i64 t2.i, .slice p3b t2.s.length q3b, .slice p4b t2.l.length q4b, .int .i64 t3.o, .string (bs t3.x), .int .i64 t3.i, .slice p3c t3.s.length q3c, .slice p4c t3.l.length q4c] 25)
  have r4 := heap_alloc_new (((w.alloc (Obj.cells #[.int .i64 t1.o, .string (bs t1.x), .int .i64 t1.i, .slice p3a t1.s.length q3a, .slice p4a t1.l.length q4a] 25)).alloc (Obj.cells #[.int .i64 t2.o, .string (bs t2.x), .int .i64 t2.i, .slice p3b t2.s.length q3b, .slice p4b t2.l.length q4b] 25)).alloc (Obj.cells #[.int .i64 t3.o, .string (bs t3.x), .int .i64 t3.i, .slice p3c t3.s.length q3c, .slice p4c t3.l.length q4c] 25)) (Obj.cells #[.int .i64 t1.o, .string (bs t1.x), .int .i64 t1.i, .slice p3a t1.s.length q3a, .slice p4a t1.l.length q4a, .int .i64 t2.o, .string (bs t2.x), .int .i64 t2.i, .slice p3b t2.s.length q3b, .slice p4b t2.l.length q4b, .int .i64 t3.o, .string (bs t3.x), .int .i64 t3.i, .slice p3c t3.s.length q3c, .slice p4c t3.l.length q4c] 25)
  rw [z3] at r4
  have hB4 := hB.trans (b4.mono (by omega))
  have hrow : SlTy ((((w.alloc (Obj.cells #[.int .i64 t1.o, .string (bs t1.x), .int .i64 t1.i, .slice p3a t1.s.length q3a, .slice p4a t1.l.length q4a] 25)).alloc (Obj.cells #[.int .i64 t2.o, .string (bs t2.x), .int .i64 t2.i, .slice p3b t2.s.length q3b, .slice p4b t2.l.length q4b] 25)).alloc (Obj.cells #[.int .i64 t3.o, .string (bs t3.x), .int .i64 t3.i, .slice p3c t3.s.length q3c, .slice p4c t3.l.length q4c] 25)).alloc (Obj.cells #[.int .i64 t1.o, .string (bs t1.x), .int .i64 t1.i, .slice p3a t1.s.length q3a, .slice p4a t1.l.length q4a, .int .i64 t2.o, .string (bs t2.x), .int .i64 t2.i, .slice p3b t2.s.length q3b, .slice p4b t2.l.length q4b, .int .i64 t3.o, .string (bs t3.x), .int .i64 t3.i, .slice p3c t3.s.length q3c, .slice p4c t3.l.length q4c] 25)) (d + 1) (.slice (some ⟨w.heap.size + 3, 0, none⟩) 3 3) [t1, t2, t3] := by
    refine ⟨(show (3 : Nat) ≤ maxLen by decide), some ⟨w.heap.size + 3, 0, none⟩, 3, rfl, fun _ => ⟨w.heap.size + 3, 0, rfl, (Array.getElem?_eq_some_iff.1 r4).1, fun j hj => ?_⟩⟩
    have hj : j < 3 := hj
    have : j = 0 ∨ j = 1 ∨ j = 2 := by omega
    rcases this with rfl | rfl | rfl
    · exact ⟨_, _, (cell_of_row _ _ 0 _ _ _ r4).trans rfl, (cell_of_row _ _ 1 _ _ _ r4).trans rfl, (cell_of_row _ _ 2 _ _ _ r4).trans rfl, (cell_of_row _ _ 3 _ _ _ r4).trans rfl, (cell_of_row _ _ 4 _ _ _ r4).trans rfl, n1, s1.below hB4 (Nat.le_refl _), l1.below hB4⟩
    · exact ⟨_, _, (cell_of_row _ _ 5 _ _ _ r4).trans rfl, (cell_of_row _ _ 6 _ _ _ r4).trans rfl, (cell_of_row _ _ 7 _ _ _ r4).trans rfl, (cell_of_row _ _ 8 _ _ _ r4).trans rfl, (cell_of_row _ _ 9 _ _ _ r4).trans rfl, n2, s2.below hB4 (Nat.le_refl _), l2.below hB4⟩
    · exact ⟨_, _, (cell_of_row _ _ 10 _ _ _ r4).trans rfl, (cell_of_row _ _ 11 _ _ _ r4).trans rfl, (cell_of_row _ _ 12 _ _ _ r4).trans rfl, (cell_of_row _ _ 13 _ _ _ r4).trans rfl, (cell_of_row _ _ 14 _ _ _ r4).trans rfl, n3, s3.below hB4 (Nat.le_refl _), l3.below hB4⟩
  have FW := Lib.hid (few_any _ _ 300 _ hrow)
  unfold BP at FW
  have S1 := Lib.hid ((b4.block w.heap.size (by omega)).trans R1.out)
  have S2 := Lib.hid ((b4.block (w.heap.size + 1) (by omega)).trans R2.out)
  have S3 := Lib.hid ((b4.block (w.heap.size + 2) (by omega)).trans R3.out)
  have HB4 := Lib.hid hB4
  have z4 : ((((w.alloc (Obj.cells #[.int .i64 t1.o, .string (bs t1.x), .int .i64 t1.i, .slice p3a t1.s.length q3a, .slice p4a t1.l.length q4a] 25)).alloc (Obj.cells #[.int .i64 t2.o, .string (bs t2.x), .int .i64 t2.i, .slice p3b t2.s.length q3b, .slice p4b t2.l.length q4b] 25)).alloc (Obj.cells #[.int .i64 t3.o, .string (bs t3.x), .int .i64 t3.i, .slice p3c t3.s.length q3c, .slice p4c t3.l.length q4c] 25)).alloc (Obj.cells #[.int .i64 t1.o, .string (bs t1.x), .int .i64 t1.i, .slice p3a t1.s.length q3a, .slice p4a t1.l.length q4a, .int .i64 t2.o, .string (bs t2.x), .int .i64 t2.i, .slice p3b t2.s.length q3b, .slice p4b t2.l.length q4b, .int .i64 t3.o, .string (bs t3.x), .int .i64 t3.i, .slice p3c t3.s.length q3c, .slice p4c t3.l.length q4c] 25)).heap.size = w.heap.size + 4 := by simp
  have Z4 := Lib.hid z4
  obtain ⟨x0, x1, x2, x3, x4⟩ := fiveT R1.out
  obtain ⟨y0, y1, y2, y3, y4⟩ := fiveT R2.out
  obtain ⟨u0, u1, u2, u3, u4⟩ := fiveT R3.out
  have C12 : Hid (∀ W, Below w.heap.size w W → Calls Tryd.prog 6 #[.agg #[.int .i64 t1.o, .string (bs t1.x), .int .i64 t1.i, .slice p3a t1.s.length q3a, .slice p4a t1.l.length q4a], .agg #[.int .i64 t2.o, .string (bs t2.x), .int .i64 t2.i, .slice p3b t2.s.length q3b, .slice p4b t2.l.length q4b]] W fun e w' => e = .returned (.int .i64 (cmpT t1 t2)) ∧ Below W.heap.size W w') := fun W hb => cmpC_any d _ _ t1 t2 W (H1.out.below hb) (H2.out.below hb)
  have C23 : Hid (∀ W, Below w.heap.size w W → Calls Tryd.prog 6 #[.agg #[.int .i64 t2.o, .string (bs t2.x), .int .i64 t2.i, .slice p3b t2.s.length q3b, .slice p4b t2.l.length q4b], .agg #[.int .i64 t3.o, .string (bs t3.x), .int .i64 t3.i, .slice p3c t3.s.length q3c, .slice p4c t3.l.length q4c]] W fun e w' => e = .returned (.int .i64 (cmpT t2 t3)) ∧ Below W.heap.size W w') := fun W hb => cmpC_any d _ _ t2 t3 W (H2.out.below hb) (H3.out.below hb)
  have C13 : Hid (∀ W, Below w.heap.size w W → Calls Tryd.prog 6 #[.agg #[.int .i64 t1.o, .string (bs t1.x), .int .i64 t1.i, .slice p3a t1.s.length q3a, .slice p4a t1.l.length q4a], .agg #[.int .i64 t3.o, .string (bs t3.x), .int .i64 t3.i, .slice p3c t3.s.length q3c, .slice p4c t3.l.length q4c]] W fun e w' => e = .returned (.int .i64 (cmpT t1 t3)) ∧ Below W.heap.size W w') := fun W hb => cmpC_any d _ _ t1 t3 W (H1.out.below hb) (H3.out.below hb)
  have C21 : Hid (∀ W, Below w.heap.size w W → Calls Tryd.prog 6 #[.agg #[.int .i64 t2.o, .string (bs t2.x), .int .i64 t2.i, .slice p3b t2.s.length q3b, .slice p4b t2.l.length q4b], .agg #[.int .i64 t1.o, .string (bs t1.x), .int .i64 t1.i, .slice p3a t1.s.length q3a, .slice p4a t1.l.length q4a]] W fun e w' => e = .returned (.int .i64 (cmpT t2 t1)) ∧ Below W.heap.size W w') := fun W hb => cmpC_any d _ _ t2 t1 W (H2.out.below hb) (H1.out.below hb)
  have EQ : Hid (∀ W, Below w.heap.size w W → Calls Tryd.prog 7 #[.agg #[.int .i64 t1.o, .string (bs t1.x), .int .i64 t1.i, .slice p3a t1.s.length q3a, .slice p4a t1.l.length q4a], .agg #[.int .i64 t2.o, .string (bs t2.x), .int .i64 t2.i, .slice p3b t2.s.length q3b, .slice p4b t2.l.length q4b]] W fun e w' => e = .returned (.bool (eqT t1 t2)) ∧ Below W.heap.size W w') := fun W hb => equalT_any _ _ t1 t2 W (H1.out.below hb) (H2.out.below hb)
  have SM : Hid (∀ W, Below w.heap.size w W → Calls Tryd.prog 8 #[.agg #[.int .i64 t1.o, .string (bs t1.x), .int .i64 t1.i, .slice p3a t1.s.length q3a, .slice p4a t1.l.length q4a], .agg #[.int .i64 t2.o, .string (bs t2.x), .int .i64 t2.i, .slice p3b t2.s.length q3b, .slice p4b t2.l.length q4b]] W fun e w' => e = .returned (.bool (eqT t1 t2)) ∧ Below W.heap.size W w') := fun W hb => same_any d _ _ t1 t2 W (H1.out.below hb) (H2.out.below hb)
  have HE : Hid (eqT t1 t2 = decide (cmpT t1 t2 = 0)) := rfl
  generalize cmpT t1 t2 = x at *
  generalize cmpT t2 t3 = y at *
  generalize cmpT t1 t3 = z at *
  generalize cmpT t2 t1 = x' at *
  generalize eqT t1 t2 = q at *
  have LA1 := Lib.hid la1
  have LA2 := Lib.hid la2
  have LA3 := Lib.hid la3
  have LA4 := Lib.hid la4
  clear hrow h1 h2 h3 s1 s2 s3 l1 l2 l3 b1 b2 b3 b4 r1 r2 r3 r4 hB4 z4 la1 la2 la3 la4 la5 HAW n1 n2 n3 H1 H2 H3 z1 z2 z3 hB R1 R2 R3
  go_enter Tryd.func3, Tryd.ntmps3
  go_wp2_with fail
  refine FW.out.mono ?_
  rintro e w1 ⟨⟨r, rfl⟩, hb1⟩
  have hB1 : Below w.heap.size w w1 := HB4.out.trans (hb1.mono (by rw [Z4.out]; omega))
  have hz1 : w.heap.size + 4 ≤ w1.heap.size := by have := hb1.size; rw [Z4.out] at this; exact this
  have Q1 := Lib.hid ((hb1.block w.heap.size (by rw [Z4.out]; omega)).trans S1.out)
  have Q2 := Lib.hid ((hb1.block (w.heap.size + 1) (by rw [Z4.out]; omega)).trans S2.out)
  have Q3 := Lib.hid ((hb1.block (w.heap.size + 2) (by rw [Z4.out]; omega)).trans S3.out)
  clear FW S1 S2 S3 HB4 hb1 x0 x1 x2 x3 x4 y0 y1 y2 y3 y4 u0 u1 u2 u3 u4
  cases r with
  | false =>
    go_wp2_with fail
    refine (HA.out _).mono ?_
    rintro e w2 ⟨rfl, hb2⟩
    go_wp2_with fail
    go_ret
    exact ⟨rfl, hB1.trans (hb2.mono (by omega))⟩
  | true =>
    go_wp2_with fail
    have hdr := (Below.refl w1.heap.size w1).drew
    have hBd : Below w.heap.size w w1.drew := hB1.trans (hdr.mono (by omega))
    have hzd : w.heap.size + 4 ≤ w1.drew.heap.size := hz1
    have Q1d := Lib.hid ((hdr.block w.heap.size (by omega)).trans Q1.out)
    have Q2d := Lib.hid ((hdr.block (w.heap.size + 1) (by omega)).trans Q2.out)
    have Q3d := Lib.hid ((hdr.block (w.heap.size + 2) (by omega)).trans Q3.out)
    refine wp_region_held_drew (S := (fun w' => (w'.cell? ⟨w.heap.size, 0, none⟩ = some (.int .i64 t1.o) ∧ w'.cell? ⟨w.heap.size, 1, none⟩ = some (.string (bs t1.x)) ∧ w'.cell? ⟨w.heap.size, 2, none⟩ = some (.int .i64 t1.i) ∧ w'.cell? ⟨w.heap.size, 3, none⟩ = some (.slice p3a t1.s.length q3a) ∧ w'.cell? ⟨w.heap.size, 4, none⟩ = some (.slice p4a t1.l.length q4a)) ∧ (w'.cell? ⟨w.heap.size + 1, 0, none⟩ = some (.int .i64 t2.o) ∧ w'.cell? ⟨w.heap.size + 1, 1, none⟩ = some (.string (bs t2.x)) ∧ w'.cell? ⟨w.heap.size + 1, 2, none⟩ = some (.int .i64 t2.i) ∧ w'.cell? ⟨w.heap.size + 1, 3, none⟩ = some (.slice p3b t2.s.length q3b) ∧ w'.cell? ⟨w.heap.size + 1, 4, none⟩ = some (.slice p4b t2.l.length q4b)) ∧ (w'.cell? ⟨w.heap.size + 2, 0, none⟩ = some (.int .i64 t3.o) ∧ w'.cell? ⟨w.heap.size + 2, 1, none⟩ = some (.string (bs t3.x)) ∧ w'.cell? ⟨w.heap.size + 2, 2, none⟩ = some (.int .i64 t3.i) ∧ w'.cell? ⟨w.heap.size + 2, 3, none⟩ = some (.slice p3c t3.s.length q3c) ∧ w'.cell? ⟨w.heap.size + 2, 4, none⟩ = some (.slice p4c t3.l.length q4c)))) (by kernel_rfl) ?_ (fun hHeld => ?_)
    · exact ⟨fiveT Q1d.out, fiveT Q2d.out, fiveT Q3d.out⟩
    refine wpAnyH_take (i := 0) (oi := { dst := some 17, op := Op.load 25 (Operand.tmp 3), type := 25, pos := "law.go:118", after := #[], guard := none }) (v := ?v0p) rfl (by kernel_rfl) (by kernel_rfl) (by kernel_rfl) (fun _ _ _ h => h) (Or.inl ⟨by rfl, ?hy0p⟩) (by assumption) ?rest0p
    case hy0p => (intro wq hSq; (try dsimp only at hSq); go_simp; try with_reducible rfl)
    try simp only [Act.put, List.setIfInBounds_toArray, List.set_cons_zero, List.set_cons_succ]
    refine wpAnyH_take (i := 1) (oi := { dst := some 18, op := Op.load 25 (Operand.tmp 4), type := 25, pos := "law.go:118", after := #[], guard := none }) (v := ?v1p) rfl (by kernel_rfl) (by kernel_rfl) (by kernel_rfl) (fun _ _ _ h => h) (Or.inl ⟨by rfl, ?hy1p⟩) (by assumption) ?rest1p
    case hy1p => (intro wq hSq; (try dsimp only at hSq); go_simp; try with_reducible rfl)
    try simp only [Act.put, List.setIfInBounds_toArray, List.set_cons_zero, List.set_cons_succ]
    refine wpAnyH_take (i := 3) (oi := { dst := some 20, op := Op.load 25 (Operand.tmp 4), type := 25, pos := "law.go:118", after := #[], guard := none }) (v := ?v3p) rfl (by kernel_rfl) (by kernel_rfl) (by kernel_rfl) (fun _ _ _ h => h) (Or.inl ⟨by rfl, ?hy3p⟩) (by assumption) ?rest3p
    case hy3p => (intro wq hSq; (try dsimp only at hSq); go_simp; try with_reducible rfl)
    try simp only [Act.put, List.setIfInBounds_toArray, List.set_cons_zero, List.set_cons_succ]
    refine wpAnyH_take (i := 4) (oi := { dst := some 21, op := Op.load 25 (Operand.tmp 5), type := 25, pos := "law.go:118", after := #[], guard := none }) (v := ?v4p) rfl (by kernel_rfl) (by kernel_rfl) (by kernel_rfl) (fun _ _ _ h => h) (Or.inl ⟨by rfl, ?hy4p⟩) (by assumption) ?rest4p
    case hy4p => (intro wq hSq; (try dsimp only at hSq); go_simp; try with_reducible rfl)
    try simp only [Act.put, List.setIfInBounds_toArray, List.set_cons_zero, List.set_cons_succ]
    refine wpAnyH_take (i := 6) (oi := { dst := some 23, op := Op.load 25 (Operand.tmp 3), type := 25, pos := "law.go:118", after := #[], guard := none }) (v := ?v6p) rfl (by kernel_rfl) (by kernel_rfl) (by kernel_rfl) (fun _ _ _ h => h) (Or.inl ⟨by rfl, ?hy6p⟩) (by assumption) ?rest6p
    case hy6p => (intro wq hSq; (try dsimp only at hSq); go_simp; try with_reducible rfl)
    try simp only [Act.put, List.setIfInBounds_toArray, List.set_cons_zero, List.set_cons_succ]
    refine wpAnyH_take (i := 7) (oi := { dst := some 24, op := Op.load 25 (Operand.tmp 5), type := 25, pos := "law.go:118", after := #[], guard := none }) (v := ?v7p) rfl (by kernel_rfl) (by kernel_rfl) (by kernel_rfl) (fun _ _ _ h => h) (Or.inl ⟨by rfl, ?hy7p⟩) (by assumption) ?rest7p
    case hy7p => (intro wq hSq; (try dsimp only at hSq); go_simp; try with_reducible rfl)
    try simp only [Act.put, List.setIfInBounds_toArray, List.set_cons_zero, List.set_cons_succ]
    refine wpAnyH_ready (rs := [2]) (by kernel_rfl) (by simp) ?_
    refine AllReadyH.cons rfl (fun K hK => ?_) AllReadyH.nil
    go_simp
    go_wp2_with (go_at_call 6; refine (C12.out _ hBd).mono ?_; rintro e w2 ⟨rfl, hbw2⟩; have hBw2 : Below w.heap.size w w2 := hBd.trans (hbw2.mono (by omega)); have hzw2 : w.heap.size + 4 ≤ w2.heap.size := Nat.le_trans hzd hbw2.size; have Q1w2 := Lib.hid ((hbw2.block w.heap.size (by omega)).trans Q1d.out); have Q2w2 := Lib.hid ((hbw2.block (w.heap.size + 1) (by omega)).trans Q2d.out); have Q3w2 := Lib.hid ((hbw2.block (w.heap.size + 2) (by omega)).trans Q3d.out))
    refine hK.out _ _ ?_ (fun hHeldN => ?_)
    · (try dsimp only); exact ⟨fiveT Q1w2.out, fiveT Q2w2.out, fiveT Q3w2.out⟩
    clear hK K hHeld
    have hHeld := hHeldN
    clear hHeldN
    refine wpAnyH_ready (rs := [5]) (by kernel_rfl) (by simp) ?_
    refine AllReadyH.cons rfl (fun K hK => ?_) AllReadyH.nil
    go_simp
    go_wp2_with (go_at_call 6; refine (C23.out _ hBw2).mono ?_; rintro e w3 ⟨rfl, hbw3⟩; have hBw3 : Below w.heap.size w w3 := hBw2.trans (hbw3.mono (by omega)); have hzw3 : w.heap.size + 4 ≤ w3.heap.size := Nat.le_trans hzw2 hbw3.size; have Q1w3 := Lib.hid ((hbw3.block w.heap.size (by omega)).trans Q1w2.out); have Q2w3 := Lib.hid ((hbw3.block (w.heap.size + 1) (by omega)).trans Q2w2.out); have Q3w3 := Lib.hid ((hbw3.block (w.heap.size + 2) (by omega)).trans Q3w2.out))
    refine hK.out _ _ ?_ (fun hHeldN => ?_)
    · (try dsimp only); exact ⟨fiveT Q1w3.out, fiveT Q2w3.out, fiveT Q3w3.out⟩
    clear hK K hHeld
    have hHeld := hHeldN
    clear hHeldN
    refine wpAnyH_ready (rs := [8]) (by kernel_rfl) (by simp) ?_
    refine AllReadyH.cons rfl (fun K hK => ?_) AllReadyH.nil
    go_simp
    go_wp2_with (go_at_call 6; refine (C13.out _ hBw3).mono ?_; rintro e w4 ⟨rfl, hbw4⟩; have hBw4 : Below w.heap.size w w4 := hBw3.trans (hbw4.mono (by omega)); have hzw4 : w.heap.size + 4 ≤ w4.heap.size := Nat.le_trans hzw3 hbw4.size; have Q1w4 := Lib.hid ((hbw4.block w.heap.size (by omega)).trans Q1w3.out); have Q2w4 := Lib.hid ((hbw4.block (w.heap.size + 1) (by omega)).trans Q2w3.out); have Q3w4 := Lib.hid ((hbw4.block (w.heap.size + 2) (by omega)).trans Q3w3.out))
    refine hK.out _ _ ?_ (fun hHeldN => ?_)
    · (try dsimp only); exact ⟨fiveT Q1w4.out, fiveT Q2w4.out, fiveT Q3w4.out⟩
    clear hK K hHeld
    have hHeld := hHeldN
    clear hHeldN
    refine wpAnyH_take (i := 9) (oi := { dst := some 7, op := Op.assign (Operand.tmp 19), type := 3, pos := "law.go:118", after := #[{ on := 2, ground := Ground.data }, { on := 8, ground := Ground.chain }, { on := 0, ground := Ground.phase }, { on := 1, ground := Ground.phase }, { on := 2, ground := Ground.phase }, { on := 3, ground := Ground.textOnly Departure.lateStores }, { on := 4, ground := Ground.textOnly Departure.lateStores }, { on := 5, ground := Ground.textOnly Departure.lateStoresUnsure }, { on := 6, ground := Ground.textOnly Departure.lateStores }, { on := 7, ground := Ground.textOnly Departure.lateStores }, { on := 8, ground := Ground.textOnly Departure.lateStoresUnsure }], guard := none }) (v := ?v9p) rfl (by kernel_rfl) (by kernel_rfl) (by kernel_rfl) (fun _ _ _ h => h) (Or.inl ⟨by rfl, ?hy9p⟩) (by assumption) ?rest9p
    case hy9p => (intro wq hSq; (try dsimp only at hSq); go_simp; try with_reducible rfl)
    try simp only [Act.put, List.setIfInBounds_toArray, List.set_cons_zero, List.set_cons_succ]
    refine wpAnyH_take (i := 10) (oi := { dst := some 8, op := Op.assign (Operand.tmp 22), type := 3, pos := "law.go:118", after := #[{ on := 5, ground := Ground.data }, { on := 9, ground := Ground.chain }, { on := 0, ground := Ground.phase }, { on := 1, ground := Ground.phase }, { on := 2, ground := Ground.phase }, { on := 3, ground := Ground.phase }, { on := 4, ground := Ground.phase }, { on := 5, ground := Ground.phase }, { on := 6, ground := Ground.textOnly Departure.lateStores }, { on := 7, ground := Ground.textOnly Departure.lateStores }, { on := 8, ground := Ground.textOnly Departure.lateStoresUnsure }, { on := 9, ground := Ground.phase }], guard := none }) (v := ?v10p) rfl (by kernel_rfl) (by kernel_rfl) (by kernel_rfl) (fun _ _ _ h => h) (Or.inl ⟨by rfl, ?hy10p⟩) (by assumption) ?rest10p
    case hy10p => (intro wq hSq; (try dsimp only at hSq); go_simp; try with_reducible rfl)
    try simp only [Act.put, List.setIfInBounds_toArray, List.set_cons_zero, List.set_cons_succ]
    refine wpAnyH_take (i := 11) (oi := { dst := some 9, op := Op.assign (Operand.tmp 25), type := 3, pos := "law.go:118", after := #[{ on := 8, ground := Ground.data }, { on := 10, ground := Ground.chain }, { on := 0, ground := Ground.phase }, { on := 1, ground := Ground.phase }, { on := 2, ground := Ground.phase }, { on := 3, ground := Ground.phase }, { on := 4, ground := Ground.phase }, { on := 5, ground := Ground.phase }, { on := 6, ground := Ground.phase }, { on := 7, ground := Ground.phase }, { on := 8, ground := Ground.phase }, { on := 9, ground := Ground.phase }, { on := 10, ground := Ground.phase }], guard := none }) (v := ?v11p) rfl (by kernel_rfl) (by kernel_rfl) (by kernel_rfl) (fun _ _ _ h => h) (Or.inl ⟨by rfl, ?hy11p⟩) (by assumption) ?rest11p
    case hy11p => (intro wq hSq; (try dsimp only at hSq); go_simp; try with_reducible rfl)
    try simp only [Act.put, List.setIfInBounds_toArray, List.set_cons_zero, List.set_cons_succ]
    refine wpAnyH_done (by kernel_rfl) ?_ _
    obtain ⟨x0, x1, x2, x3, x4⟩ := fiveT Q1w4.out
    obtain ⟨y0, y1, y2, y3, y4⟩ := fiveT Q2w4.out
    clear hHeld
    go_wp2_with fail
    refine (C21.out _ hBw4).mono ?_
    rintro e w5 ⟨rfl, hbw5⟩
    have hBw5 : Below w.heap.size w w5 := hBw4.trans (hbw5.mono (by omega)); have hzw5 : w.heap.size + 4 ≤ w5.heap.size := Nat.le_trans hzw4 hbw5.size; have Q1w5 := Lib.hid ((hbw5.block w.heap.size (by omega)).trans Q1w4.out); have Q2w5 := Lib.hid ((hbw5.block (w.heap.size + 1) (by omega)).trans Q2w4.out); have Q3w5 := Lib.hid ((hbw5.block (w.heap.size + 2) (by omega)).trans Q3w4.out)
    clear x0 x1 x2 x3 x4 y0 y1 y2 y3 y4
    have hneg : IntKind.i64.wrap (-x') = x := by have h := LA1.out; have h3 := LA3.out; have h4 := LA4.out; rw [IntWalk.i64_in _ (by omega)]; omega
    have hneg2 : wrap64 (-x') = x := by rw [← IntWalk.i64_left]; exact hneg
    have g3 : decide (x < -1) = false := decide_eq_false (by have h := LA3.out; omega)
    have g4 : decide (1 < x) = false := decide_eq_false (by have h := LA4.out; omega)
    have hdr5 := (Below.refl w5.heap.size w5).drew
    have hB6 : Below w.heap.size w w5.drew := hBw5.trans (hdr5.mono (by omega))
    have hz6 : w.heap.size + 4 ≤ w5.drew.heap.size := hzw5
    have Q1e := Lib.hid ((hdr5.block w.heap.size (by omega)).trans Q1w5.out)
    have Q2e := Lib.hid ((hdr5.block (w.heap.size + 1) (by omega)).trans Q2w5.out)
    have Q3e := Lib.hid ((hdr5.block (w.heap.size + 2) (by omega)).trans Q3w5.out)
    by_cases k1 : x ≤ 0
    · have f1 : decide (x ≤ 0) = true := decide_eq_true k1
      by_cases k2 : y ≤ 0
      · have f2 : decide (y ≤ 0) = true := decide_eq_true k2
        have f3 : decide (0 < z) = false := decide_eq_false fun h => LA2.out ⟨k1, k2, h⟩
        clear k1 k2
        go_wp2_with fail
        by_cases hx0 : x = 0
        · have hq : q = true := by rw [HE.out]; exact decide_eq_true hx0
          subst hq
          have dx : (x == 0) = true := by simp [hx0]
          clear hx0
          refine wp_region_held_drew (S := (fun w' => (w'.cell? ⟨w.heap.size, 0, none⟩ = some (.int .i64 t1.o) ∧ w'.cell? ⟨w.heap.size, 1, none⟩ = some (.string (bs t1.x)) ∧ w'.cell? ⟨w.heap.size, 2, none⟩ = some (.int .i64 t1.i) ∧ w'.cell? ⟨w.heap.size, 3, none⟩ = some (.slice p3a t1.s.length q3a) ∧ w'.cell? ⟨w.heap.size, 4, none⟩ = some (.slice p4a t1.l.length q4a)) ∧ (w'.cell? ⟨w.heap.size + 1, 0, none⟩ = some (.int .i64 t2.o) ∧ w'.cell? ⟨w.heap.size + 1, 1, none⟩ = some (.string (bs t2.x)) ∧ w'.cell? ⟨w.heap.size + 1, 2, none⟩ = some (.int .i64 t2.i) ∧ w'.cell? ⟨w.heap.size + 1, 3, none⟩ = some (.slice p3b t2.s.length q3b) ∧ w'.cell? ⟨w.heap.size + 1, 4, none⟩ = some (.slice p4b t2.l.length q4b)) ∧ (w'.cell? ⟨w.heap.size + 2, 0, none⟩ = some (.int .i64 t3.o) ∧ w'.cell? ⟨w.heap.size + 2, 1, none⟩ = some (.string (bs t3.x)) ∧ w'.cell? ⟨w.heap.size + 2, 2, none⟩ = some (.int .i64 t3.i) ∧ w'.cell? ⟨w.heap.size + 2, 3, none⟩ = some (.slice p3c t3.s.length q3c) ∧ w'.cell? ⟨w.heap.size + 2, 4, none⟩ = some (.slice p4c t3.l.length q4c)))) (by kernel_rfl) ?_ (fun hHeld => ?_)
          · exact ⟨fiveT Q1e.out, fiveT Q2e.out, fiveT Q3e.out⟩
          refine wpAnyH_take (i := 0) (oi := { dst := some 52, op := Op.move (Operand.tmp 7), type := 3, pos := "law.go:122", after := #[], guard := none }) (v := ?v0u1t) rfl (by kernel_rfl) (by kernel_rfl) (by kernel_rfl) (fun _ _ _ h => h) (Or.inl ⟨by rfl, ?hy0u1t⟩) (by assumption) ?rest0u1t
          case hy0u1t => (intro wq hSq; (try dsimp only at hSq); go_simp; try with_reducible rfl)
          try simp only [Act.put, List.setIfInBounds_toArray, List.set_cons_zero, List.set_cons_succ]
          refine wpAnyH_take (i := 1) (oi := { dst := some 53, op := Op.binOp BinOp.eql 3 (Operand.tmp 52) (Operand.const (Value.int IntKind.i64 0)) 3, type := 4, pos := "law.go:122", after := #[{ on := 0, ground := Ground.data }], guard := none }) (v := ?v1u1t) rfl (by kernel_rfl) (by kernel_rfl) (by kernel_rfl) (fun _ _ _ h => h) (Or.inl ⟨by rfl, ?hy1u1t⟩) (by assumption) ?rest1u1t
          case hy1u1t => (intro wq hSq; (try dsimp only at hSq); go_simp; try with_reducible rfl)
          try simp only [Act.put, List.setIfInBounds_toArray, List.set_cons_zero, List.set_cons_succ]
          refine wpAnyH_take (i := 2) (oi := { dst := some 54, op := Op.load 25 (Operand.tmp 3), type := 25, pos := "law.go:122", after := #[], guard := none }) (v := ?v2u1t) rfl (by kernel_rfl) (by kernel_rfl) (by kernel_rfl) (fun _ _ _ h => h) (Or.inl ⟨by rfl, ?hy2u1t⟩) (by assumption) ?rest2u1t
          case hy2u1t => (intro wq hSq; (try dsimp only at hSq); go_simp; try with_reducible rfl)
          try simp only [Act.put, List.setIfInBounds_toArray, List.set_cons_zero, List.set_cons_succ]
          refine wpAnyH_take (i := 3) (oi := { dst := some 55, op := Op.load 25 (Operand.tmp 4), type := 25, pos := "law.go:122", after := #[], guard := none }) (v := ?v3u1t) rfl (by kernel_rfl) (by kernel_rfl) (by kernel_rfl) (fun _ _ _ h => h) (Or.inl ⟨by rfl, ?hy3u1t⟩) (by assumption) ?rest3u1t
          case hy3u1t => (intro wq hSq; (try dsimp only at hSq); go_simp; try with_reducible rfl)
          try simp only [Act.put, List.setIfInBounds_toArray, List.set_cons_zero, List.set_cons_succ]
          refine wpAnyH_ready (rs := [4]) (by kernel_rfl) (by simp) ?_
          refine AllReadyH.cons rfl (fun K hK => ?_) AllReadyH.nil
          go_simp
          go_wp2_with (go_at_call 7; refine (EQ.out _ hB6).mono ?_; rintro e w7 ⟨rfl, hbw7⟩; have hBw7 : Below w.heap.size w w7 := hB6.trans (hbw7.mono (by omega)); have hzw7 : w.heap.size + 4 ≤ w7.heap.size := Nat.le_trans hz6 hbw7.size; have Q1w7 := Lib.hid ((hbw7.block w.heap.size (by omega)).trans Q1e.out); have Q2w7 := Lib.hid ((hbw7.block (w.heap.size + 1) (by omega)).trans Q2e.out); have Q3w7 := Lib.hid ((hbw7.block (w.heap.size + 2) (by omega)).trans Q3e.out))
          refine hK.out _ _ ?_ (fun hHeldN => ?_)
          · (try dsimp only); exact ⟨fiveT Q1w7.out, fiveT Q2w7.out, fiveT Q3w7.out⟩
          clear hK K hHeld
          have hHeld := hHeldN
          clear hHeldN
          refine wpAnyH_take (i := 5) (oi := { dst := some 57, op := Op.binOp BinOp.eql 4 (Operand.tmp 53) (Operand.tmp 56) 4, type := 4, pos := "law.go:122", after := #[{ on := 1, ground := Ground.data }, { on := 4, ground := Ground.data }], guard := none }) (v := ?v5u1t) rfl (by kernel_rfl) (by kernel_rfl) (by kernel_rfl) (fun _ _ _ h => h) (Or.inl ⟨by rfl, ?hy5u1t⟩) (by assumption) ?rest5u1t
          case hy5u1t => (intro wq hSq; (try dsimp only at hSq); go_simp; try with_reducible rfl)
          try simp only [Act.put, List.setIfInBounds_toArray, List.set_cons_zero, List.set_cons_succ]
          refine wpAnyH_take (i := 6) (oi := { dst := some 58, op := Op.move (Operand.tmp 57), type := 4, pos := "law.go:122", after := #[{ on := 5, ground := Ground.data }, { on := 4, ground := Ground.chain }], guard := none }) (v := ?v6u1t) rfl (by kernel_rfl) (by kernel_rfl) (by kernel_rfl) (fun _ _ _ h => h) (Or.inl ⟨by rfl, ?hy6u1t⟩) (by assumption) ?rest6u1t
          case hy6u1t => (intro wq hSq; (try dsimp only at hSq); go_simp; try with_reducible rfl)
          try simp only [Act.put, List.setIfInBounds_toArray, List.set_cons_zero, List.set_cons_succ]
          refine wpAnyH_take (i := 7) (oi := { dst := some 59, op := Op.load 25 (Operand.tmp 3), type := 25, pos := "law.go:122", after := #[{ on := 6, ground := Ground.guard }], guard := some (6, true) }) (v := ?v7u1t) rfl (by kernel_rfl) (by kernel_rfl) (by kernel_rfl) (fun _ _ _ h => h) (Or.inl ⟨by rfl, ?hy7u1t⟩) (by assumption) ?rest7u1t
          case hy7u1t => (intro wq hSq; (try dsimp only at hSq); go_simp; try with_reducible rfl)
          try simp only [Act.put, List.setIfInBounds_toArray, List.set_cons_zero, List.set_cons_succ]
          refine wpAnyH_take (i := 8) (oi := { dst := some 60, op := Op.load 25 (Operand.tmp 4), type := 25, pos := "law.go:122", after := #[{ on := 6, ground := Ground.guard }], guard := some (6, true) }) (v := ?v8u1t) rfl (by kernel_rfl) (by kernel_rfl) (by kernel_rfl) (fun _ _ _ h => h) (Or.inl ⟨by rfl, ?hy8u1t⟩) (by assumption) ?rest8u1t
          case hy8u1t => (intro wq hSq; (try dsimp only at hSq); go_simp; try with_reducible rfl)
          try simp only [Act.put, List.setIfInBounds_toArray, List.set_cons_zero, List.set_cons_succ]
          refine wpAnyH_take (i := 10) (oi := { dst := some 62, op := Op.load 25 (Operand.tmp 3), type := 25, pos := "law.go:122", after := #[{ on := 6, ground := Ground.guard }], guard := some (6, true) }) (v := ?v10u1t) rfl (by kernel_rfl) (by kernel_rfl) (by kernel_rfl) (fun _ _ _ h => h) (Or.inl ⟨by rfl, ?hy10u1t⟩) (by assumption) ?rest10u1t
          case hy10u1t => (intro wq hSq; (try dsimp only at hSq); go_simp; try with_reducible rfl)
          try simp only [Act.put, List.setIfInBounds_toArray, List.set_cons_zero, List.set_cons_succ]
          refine wpAnyH_take (i := 11) (oi := { dst := some 63, op := Op.load 25 (Operand.tmp 4), type := 25, pos := "law.go:122", after := #[{ on := 6, ground := Ground.guard }], guard := some (6, true) }) (v := ?v11u1t) rfl (by kernel_rfl) (by kernel_rfl) (by kernel_rfl) (fun _ _ _ h => h) (Or.inl ⟨by rfl, ?hy11u1t⟩) (by assumption) ?rest11u1t
          case hy11u1t => (intro wq hSq; (try dsimp only at hSq); go_simp; try with_reducible rfl)
          try simp only [Act.put, List.setIfInBounds_toArray, List.set_cons_zero, List.set_cons_succ]
          refine wpAnyH_ready (rs := [9]) (by kernel_rfl) (by simp) ?_
          refine AllReadyH.cons rfl (fun K hK => ?_) AllReadyH.nil
          go_simp
          go_wp2_with (go_at_call 7; refine (EQ.out _ hBw7).mono ?_; rintro e w8 ⟨rfl, hbw8⟩; have hBw8 : Below w.heap.size w w8 := hBw7.trans (hbw8.mono (by omega)); have hzw8 : w.heap.size + 4 ≤ w8.heap.size := Nat.le_trans hzw7 hbw8.size; have Q1w8 := Lib.hid ((hbw8.block w.heap.size (by omega)).trans Q1w7.out); have Q2w8 := Lib.hid ((hbw8.block (w.heap.size + 1) (by omega)).trans Q2w7.out); have Q3w8 := Lib.hid ((hbw8.block (w.heap.size + 2) (by omega)).trans Q3w7.out))
          refine hK.out _ _ ?_ (fun hHeldN => ?_)
          · (try dsimp only); exact ⟨fiveT Q1w8.out, fiveT Q2w8.out, fiveT Q3w8.out⟩
          clear hK K hHeld
          have hHeld := hHeldN
          clear hHeldN
          refine wpAnyH_ready (rs := [12]) (by kernel_rfl) (by simp) ?_
          refine AllReadyH.cons rfl (fun K hK => ?_) AllReadyH.nil
          go_simp
          go_wp2_with (go_at_call 8; refine (SM.out _ hBw8).mono ?_; rintro e w9 ⟨rfl, hbw9⟩; have hBw9 : Below w.heap.size w w9 := hBw8.trans (hbw9.mono (by omega)); have hzw9 : w.heap.size + 4 ≤ w9.heap.size := Nat.le_trans hzw8 hbw9.size; have Q1w9 := Lib.hid ((hbw9.block w.heap.size (by omega)).trans Q1w8.out); have Q2w9 := Lib.hid ((hbw9.block (w.heap.size + 1) (by omega)).trans Q2w8.out); have Q3w9 := Lib.hid ((hbw9.block (w.heap.size + 2) (by omega)).trans Q3w8.out))
          refine hK.out _ _ ?_ (fun hHeldN => ?_)
          · (try dsimp only); exact ⟨fiveT Q1w9.out, fiveT Q2w9.out, fiveT Q3w9.out⟩
          clear hK K hHeld
          have hHeld := hHeldN
          clear hHeldN
          refine wpAnyH_take (i := 13) (oi := { dst := some 65, op := Op.binOp BinOp.eql 4 (Operand.tmp 61) (Operand.tmp 64) 4, type := 4, pos := "law.go:122", after := #[{ on := 9, ground := Ground.data }, { on := 12, ground := Ground.data }, { on := 6, ground := Ground.guard }], guard := some (6, true) }) (v := ?v13u1t) rfl (by kernel_rfl) (by kernel_rfl) (by kernel_rfl) (fun _ _ _ h => h) (Or.inl ⟨by rfl, ?hy13u1t⟩) (by assumption) ?rest13u1t
          case hy13u1t => (intro wq hSq; (try dsimp only at hSq); go_simp; try with_reducible rfl)
          try simp only [Act.put, List.setIfInBounds_toArray, List.set_cons_zero, List.set_cons_succ]
          refine wpAnyH_take (i := 14) (oi := { dst := some 66, op := Op.pick (Operand.tmp 58) (Operand.tmp 65) (Operand.const (Value.bool false)), type := 4, pos := "law.go:122", after := #[{ on := 6, ground := Ground.data }, { on := 13, ground := Ground.data }], guard := none }) (v := ?v14u1t) rfl (by kernel_rfl) (by kernel_rfl) (by kernel_rfl) (fun _ _ _ h => h) (Or.inl ⟨by rfl, ?hy14u1t⟩) (by assumption) ?rest14u1t
          case hy14u1t => (intro wq hSq; (try dsimp only at hSq); go_simp; try with_reducible rfl)
          try simp only [Act.put, List.setIfInBounds_toArray, List.set_cons_zero, List.set_cons_succ]
          refine wpAnyH_take (i := 15) (oi := { dst := some 67, op := Op.move (Operand.tmp 66), type := 4, pos := "law.go:122", after := #[{ on := 14, ground := Ground.data }, { on := 12, ground := Ground.chain }], guard := none }) (v := ?v15u1t) rfl (by kernel_rfl) (by kernel_rfl) (by kernel_rfl) (fun _ _ _ h => h) (Or.inl ⟨by rfl, ?hy15u1t⟩) (by assumption) ?rest15u1t
          case hy15u1t => (intro wq hSq; (try dsimp only at hSq); go_simp; try with_reducible rfl)
          try simp only [Act.put, List.setIfInBounds_toArray, List.set_cons_zero, List.set_cons_succ]
          refine wpAnyH_ready (rs := [16]) (by kernel_rfl) (by simp) ?_
          refine AllReadyH.cons rfl (fun K hK => ?_) AllReadyH.nil
          go_simp
          go_wp2_with (go_at_call 5; refine (HA.out _).mono ?_; rintro e w10 ⟨rfl, hbw10⟩; have hBw10 : Below w.heap.size w w10 := hBw9.trans (hbw10.mono (by omega)); have hzw10 : w.heap.size + 4 ≤ w10.heap.size := Nat.le_trans hzw9 hbw10.size; have Q1w10 := Lib.hid ((hbw10.block w.heap.size (by omega)).trans Q1w9.out); have Q2w10 := Lib.hid ((hbw10.block (w.heap.size + 1) (by omega)).trans Q2w9.out); have Q3w10 := Lib.hid ((hbw10.block (w.heap.size + 2) (by omega)).trans Q3w9.out))
          refine hK.out _ _ ?_ (fun hHeldN => ?_)
          · (try dsimp only); exact ⟨fiveT Q1w10.out, fiveT Q2w10.out, fiveT Q3w10.out⟩
          clear hK K hHeld
          have hHeld := hHeldN
          clear hHeldN
          refine wpAnyH_take (i := 17) (oi := { dst := some 69, op := Op.pick (Operand.tmp 67) (Operand.tmp 68) (Operand.const (Value.bool false)), type := 4, pos := "law.go:122", after := #[{ on := 15, ground := Ground.data }, { on := 16, ground := Ground.data }], guard := none }) (v := ?v17u1t) rfl (by kernel_rfl) (by kernel_rfl) (by kernel_rfl) (fun _ _ _ h => h) (Or.inl ⟨by rfl, ?hy17u1t⟩) (by assumption) ?rest17u1t
          case hy17u1t => (intro wq hSq; (try dsimp only at hSq); go_simp; try with_reducible rfl)
          try simp only [Act.put, List.setIfInBounds_toArray, List.set_cons_zero, List.set_cons_succ]
          refine wpAnyH_take (i := 18) (oi := { dst := some 6, op := Op.assign (Operand.tmp 69), type := 4, pos := "law.go:122", after := #[{ on := 17, ground := Ground.data }, { on := 16, ground := Ground.chain }, { on := 0, ground := Ground.phase }, { on := 1, ground := Ground.phase }, { on := 2, ground := Ground.phase }, { on := 3, ground := Ground.phase }, { on := 4, ground := Ground.phase }, { on := 5, ground := Ground.phase }, { on := 6, ground := Ground.phase }, { on := 7, ground := Ground.phase }, { on := 8, ground := Ground.phase }, { on := 9, ground := Ground.phase }, { on := 10, ground := Ground.phase }, { on := 11, ground := Ground.phase }, { on := 12, ground := Ground.phase }, { on := 13, ground := Ground.phase }, { on := 14, ground := Ground.phase }, { on := 15, ground := Ground.phase }, { on := 16, ground := Ground.phase }, { on := 17, ground := Ground.phase }], guard := none }) (v := ?v18u1t) rfl (by kernel_rfl) (by kernel_rfl) (by kernel_rfl) (fun _ _ _ h => h) (Or.inl ⟨by rfl, ?hy18u1t⟩) (by assumption) ?rest18u1t
          case hy18u1t => (intro wq hSq; (try dsimp only at hSq); go_simp; try with_reducible rfl)
          try simp only [Act.put, List.setIfInBounds_toArray, List.set_cons_zero, List.set_cons_succ]
          refine wpAnyH_done (by kernel_rfl) ?_ _
          clear hHeld
          go_wp2_with fail
          go_ret
          exact ⟨rfl, hBw10⟩
        · have hq : q = false := by rw [HE.out]; exact decide_eq_false hx0
          subst hq
          have dx : (x == 0) = false := by simp [hx0]
          clear hx0
          refine wp_region_held_drew (S := (fun w' => (w'.cell? ⟨w.heap.size, 0, none⟩ = some (.int .i64 t1.o) ∧ w'.cell? ⟨w.heap.size, 1, none⟩ = some (.string (bs t1.x)) ∧ w'.cell? ⟨w.heap.size, 2, none⟩ = some (.int .i64 t1.i) ∧ w'.cell? ⟨w.heap.size, 3, none⟩ = some (.slice p3a t1.s.length q3a) ∧ w'.cell? ⟨w.heap.size, 4, none⟩ = some (.slice p4a t1.l.length q4a)) ∧ (w'.cell? ⟨w.heap.size + 1, 0, none⟩ = some (.int .i64 t2.o) ∧ w'.cell? ⟨w.heap.size + 1, 1, none⟩ = some (.string (bs t2.x)) ∧ w'.cell? ⟨w.heap.size + 1, 2, none⟩ = some (.int .i64 t2.i) ∧ w'.cell? ⟨w.heap.size + 1, 3, none⟩ = some (.slice p3b t2.s.length q3b) ∧ w'.cell? ⟨w.heap.size + 1, 4, none⟩ = some (.slice p4b t2.l.length q4b)) ∧ (w'.cell? ⟨w.heap.size + 2, 0, none⟩ = some (.int .i64 t3.o) ∧ w'.cell? ⟨w.heap.size + 2, 1, none⟩ = some (.string (bs t3.x)) ∧ w'.cell? ⟨w.heap.size + 2, 2, none⟩ = some (.int .i64 t3.i) ∧ w'.cell? ⟨w.heap.size + 2, 3, none⟩ = some (.slice p3c t3.s.length q3c) ∧ w'.cell? ⟨w.heap.size + 2, 4, none⟩ = some (.slice p4c t3.l.length q4c)))) (by kernel_rfl) ?_ (fun hHeld => ?_)
          · exact ⟨fiveT Q1e.out, fiveT Q2e.out, fiveT Q3e.out⟩
          refine wpAnyH_take (i := 0) (oi := { dst := some 52, op := Op.move (Operand.tmp 7), type := 3, pos := "law.go:122", after := #[], guard := none }) (v := ?v0u1f) rfl (by kernel_rfl) (by kernel_rfl) (by kernel_rfl) (fun _ _ _ h => h) (Or.inl ⟨by rfl, ?hy0u1f⟩) (by assumption) ?rest0u1f
          case hy0u1f => (intro wq hSq; (try dsimp only at hSq); go_simp; try with_reducible rfl)
          try simp only [Act.put, List.setIfInBounds_toArray, List.set_cons_zero, List.set_cons_succ]
          refine wpAnyH_take (i := 1) (oi := { dst := some 53, op := Op.binOp BinOp.eql 3 (Operand.tmp 52) (Operand.const (Value.int IntKind.i64 0)) 3, type := 4, pos := "law.go:122", after := #[{ on := 0, ground := Ground.data }], guard := none }) (v := ?v1u1f) rfl (by kernel_rfl) (by kernel_rfl) (by kernel_rfl) (fun _ _ _ h => h) (Or.inl ⟨by rfl, ?hy1u1f⟩) (by assumption) ?rest1u1f
          case hy1u1f => (intro wq hSq; (try dsimp only at hSq); go_simp; try with_reducible rfl)
          try simp only [Act.put, List.setIfInBounds_toArray, List.set_cons_zero, List.set_cons_succ]
          refine wpAnyH_take (i := 2) (oi := { dst := some 54, op := Op.load 25 (Operand.tmp 3), type := 25, pos := "law.go:122", after := #[], guard := none }) (v := ?v2u1f) rfl (by kernel_rfl) (by kernel_rfl) (by kernel_rfl) (fun _ _ _ h => h) (Or.inl ⟨by rfl, ?hy2u1f⟩) (by assumption) ?rest2u1f
          case hy2u1f => (intro wq hSq; (try dsimp only at hSq); go_simp; try with_reducible rfl)
          try simp only [Act.put, List.setIfInBounds_toArray, List.set_cons_zero, List.set_cons_succ]
          refine wpAnyH_take (i := 3) (oi := { dst := some 55, op := Op.load 25 (Operand.tmp 4), type := 25, pos := "law.go:122", after := #[], guard := none }) (v := ?v3u1f) rfl (by kernel_rfl) (by kernel_rfl) (by kernel_rfl) (fun _ _ _ h => h) (Or.inl ⟨by rfl, ?hy3u1f⟩) (by assumption) ?rest3u1f
          case hy3u1f => (intro wq hSq; (try dsimp only at hSq); go_simp; try with_reducible rfl)
          try simp only [Act.put, List.setIfInBounds_toArray, List.set_cons_zero, List.set_cons_succ]
          refine wpAnyH_ready (rs := [4]) (by kernel_rfl) (by simp) ?_
          refine AllReadyH.cons rfl (fun K hK => ?_) AllReadyH.nil
          go_simp
          go_wp2_with (go_at_call 7; refine (EQ.out _ hB6).mono ?_; rintro e w7 ⟨rfl, hbw7⟩; have hBw7 : Below w.heap.size w w7 := hB6.trans (hbw7.mono (by omega)); have hzw7 : w.heap.size + 4 ≤ w7.heap.size := Nat.le_trans hz6 hbw7.size; have Q1w7 := Lib.hid ((hbw7.block w.heap.size (by omega)).trans Q1e.out); have Q2w7 := Lib.hid ((hbw7.block (w.heap.size + 1) (by omega)).trans Q2e.out); have Q3w7 := Lib.hid ((hbw7.block (w.heap.size + 2) (by omega)).trans Q3e.out))
          refine hK.out _ _ ?_ (fun hHeldN => ?_)
          · (try dsimp only); exact ⟨fiveT Q1w7.out, fiveT Q2w7.out, fiveT Q3w7.out⟩
          clear hK K hHeld
          have hHeld := hHeldN
          clear hHeldN
          refine wpAnyH_take (i := 5) (oi := { dst := some 57, op := Op.binOp BinOp.eql 4 (Operand.tmp 53) (Operand.tmp 56) 4, type := 4, pos := "law.go:122", after := #[{ on := 1, ground := Ground.data }, { on := 4, ground := Ground.data }], guard := none }) (v := ?v5u1f) rfl (by kernel_rfl) (by kernel_rfl) (by kernel_rfl) (fun _ _ _ h => h) (Or.inl ⟨by rfl, ?hy5u1f⟩) (by assumption) ?rest5u1f
          case hy5u1f => (intro wq hSq; (try dsimp only at hSq); go_simp; try with_reducible rfl)
          try simp only [Act.put, List.setIfInBounds_toArray, List.set_cons_zero, List.set_cons_succ]
          refine wpAnyH_take (i := 6) (oi := { dst := some 58, op := Op.move (Operand.tmp 57), type := 4, pos := "law.go:122", after := #[{ on := 5, ground := Ground.data }, { on := 4, ground := Ground.chain }], guard := none }) (v := ?v6u1f) rfl (by kernel_rfl) (by kernel_rfl) (by kernel_rfl) (fun _ _ _ h => h) (Or.inl ⟨by rfl, ?hy6u1f⟩) (by assumption) ?rest6u1f
          case hy6u1f => (intro wq hSq; (try dsimp only at hSq); go_simp; try with_reducible rfl)
          try simp only [Act.put, List.setIfInBounds_toArray, List.set_cons_zero, List.set_cons_succ]
          refine wpAnyH_take (i := 7) (oi := { dst := some 59, op := Op.load 25 (Operand.tmp 3), type := 25, pos := "law.go:122", after := #[{ on := 6, ground := Ground.guard }], guard := some (6, true) }) (v := ?v7u1f) rfl (by kernel_rfl) (by kernel_rfl) (by kernel_rfl) (fun _ _ _ h => h) (Or.inl ⟨by rfl, ?hy7u1f⟩) (by assumption) ?rest7u1f
          case hy7u1f => (intro wq hSq; (try dsimp only at hSq); go_simp; try with_reducible rfl)
          try simp only [Act.put, List.setIfInBounds_toArray, List.set_cons_zero, List.set_cons_succ]
          refine wpAnyH_take (i := 8) (oi := { dst := some 60, op := Op.load 25 (Operand.tmp 4), type := 25, pos := "law.go:122", after := #[{ on := 6, ground := Ground.guard }], guard := some (6, true) }) (v := ?v8u1f) rfl (by kernel_rfl) (by kernel_rfl) (by kernel_rfl) (fun _ _ _ h => h) (Or.inl ⟨by rfl, ?hy8u1f⟩) (by assumption) ?rest8u1f
          case hy8u1f => (intro wq hSq; (try dsimp only at hSq); go_simp; try with_reducible rfl)
          try simp only [Act.put, List.setIfInBounds_toArray, List.set_cons_zero, List.set_cons_succ]
          refine wpAnyH_take (i := 10) (oi := { dst := some 62, op := Op.load 25 (Operand.tmp 3), type := 25, pos := "law.go:122", after := #[{ on := 6, ground := Ground.guard }], guard := some (6, true) }) (v := ?v10u1f) rfl (by kernel_rfl) (by kernel_rfl) (by kernel_rfl) (fun _ _ _ h => h) (Or.inl ⟨by rfl, ?hy10u1f⟩) (by assumption) ?rest10u1f
          case hy10u1f => (intro wq hSq; (try dsimp only at hSq); go_simp; try with_reducible rfl)
          try simp only [Act.put, List.setIfInBounds_toArray, List.set_cons_zero, List.set_cons_succ]
          refine wpAnyH_take (i := 11) (oi := { dst := some 63, op := Op.load 25 (Operand.tmp 4), type := 25, pos := "law.go:122", after := #[{ on := 6, ground := Ground.guard }], guard := some (6, true) }) (v := ?v11u1f) rfl (by kernel_rfl) (by kernel_rfl) (by kernel_rfl) (fun _ _ _ h => h) (Or.inl ⟨by rfl, ?hy11u1f⟩) (by assumption) ?rest11u1f
          case hy11u1f => (intro wq hSq; (try dsimp only at hSq); go_simp; try with_reducible rfl)
          try simp only [Act.put, List.setIfInBounds_toArray, List.set_cons_zero, List.set_cons_succ]
          refine wpAnyH_ready (rs := [9]) (by kernel_rfl) (by simp) ?_
          refine AllReadyH.cons rfl (fun K hK => ?_) AllReadyH.nil
          go_simp
          go_wp2_with (go_at_call 7; refine (EQ.out _ hBw7).mono ?_; rintro e w8 ⟨rfl, hbw8⟩; have hBw8 : Below w.heap.size w w8 := hBw7.trans (hbw8.mono (by omega)); have hzw8 : w.heap.size + 4 ≤ w8.heap.size := Nat.le_trans hzw7 hbw8.size; have Q1w8 := Lib.hid ((hbw8.block w.heap.size (by omega)).trans Q1w7.out); have Q2w8 := Lib.hid ((hbw8.block (w.heap.size + 1) (by omega)).trans Q2w7.out); have Q3w8 := Lib.hid ((hbw8.block (w.heap.size + 2) (by omega)).trans Q3w7.out))
          refine hK.out _ _ ?_ (fun hHeldN => ?_)
          · (try dsimp only); exact ⟨fiveT Q1w8.out, fiveT Q2w8.out, fiveT Q3w8.out⟩
          clear hK K hHeld
          have hHeld := hHeldN
          clear hHeldN
          refine wpAnyH_ready (rs := [12]) (by kernel_rfl) (by simp) ?_
          refine AllReadyH.cons rfl (fun K hK => ?_) AllReadyH.nil
          go_simp
          go_wp2_with (go_at_call 8; refine (SM.out _ hBw8).mono ?_; rintro e w9 ⟨rfl, hbw9⟩; have hBw9 : Below w.heap.size w w9 := hBw8.trans (hbw9.mono (by omega)); have hzw9 : w.heap.size + 4 ≤ w9.heap.size := Nat.le_trans hzw8 hbw9.size; have Q1w9 := Lib.hid ((hbw9.block w.heap.size (by omega)).trans Q1w8.out); have Q2w9 := Lib.hid ((hbw9.block (w.heap.size + 1) (by omega)).trans Q2w8.out); have Q3w9 := Lib.hid ((hbw9.block (w.heap.size + 2) (by omega)).trans Q3w8.out))
          refine hK.out _ _ ?_ (fun hHeldN => ?_)
          · (try dsimp only); exact ⟨fiveT Q1w9.out, fiveT Q2w9.out, fiveT Q3w9.out⟩
          clear hK K hHeld
          have hHeld := hHeldN
          clear hHeldN
          refine wpAnyH_take (i := 13) (oi := { dst := some 65, op := Op.binOp BinOp.eql 4 (Operand.tmp 61) (Operand.tmp 64) 4, type := 4, pos := "law.go:122", after := #[{ on := 9, ground := Ground.data }, { on := 12, ground := Ground.data }, { on := 6, ground := Ground.guard }], guard := some (6, true) }) (v := ?v13u1f) rfl (by kernel_rfl) (by kernel_rfl) (by kernel_rfl) (fun _ _ _ h => h) (Or.inl ⟨by rfl, ?hy13u1f⟩) (by assumption) ?rest13u1f
          case hy13u1f => (intro wq hSq; (try dsimp only at hSq); go_simp; try with_reducible rfl)
          try simp only [Act.put, List.setIfInBounds_toArray, List.set_cons_zero, List.set_cons_succ]
          refine wpAnyH_take (i := 14) (oi := { dst := some 66, op := Op.pick (Operand.tmp 58) (Operand.tmp 65) (Operand.const (Value.bool false)), type := 4, pos := "law.go:122", after := #[{ on := 6, ground := Ground.data }, { on := 13, ground := Ground.data }], guard := none }) (v := ?v14u1f) rfl (by kernel_rfl) (by kernel_rfl) (by kernel_rfl) (fun _ _ _ h => h) (Or.inl ⟨by rfl, ?hy14u1f⟩) (by assumption) ?rest14u1f
          case hy14u1f => (intro wq hSq; (try dsimp only at hSq); go_simp; try with_reducible rfl)
          try simp only [Act.put, List.setIfInBounds_toArray, List.set_cons_zero, List.set_cons_succ]
          refine wpAnyH_take (i := 15) (oi := { dst := some 67, op := Op.move (Operand.tmp 66), type := 4, pos := "law.go:122", after := #[{ on := 14, ground := Ground.data }, { on := 12, ground := Ground.chain }], guard := none }) (v := ?v15u1f) rfl (by kernel_rfl) (by kernel_rfl) (by kernel_rfl) (fun _ _ _ h => h) (Or.inl ⟨by rfl, ?hy15u1f⟩) (by assumption) ?rest15u1f
          case hy15u1f => (intro wq hSq; (try dsimp only at hSq); go_simp; try with_reducible rfl)
          try simp only [Act.put, List.setIfInBounds_toArray, List.set_cons_zero, List.set_cons_succ]
          refine wpAnyH_ready (rs := [16]) (by kernel_rfl) (by simp) ?_
          refine AllReadyH.cons rfl (fun K hK => ?_) AllReadyH.nil
          go_simp
          go_wp2_with (go_at_call 5; refine (HA.out _).mono ?_; rintro e w10 ⟨rfl, hbw10⟩; have hBw10 : Below w.heap.size w w10 := hBw9.trans (hbw10.mono (by omega)); have hzw10 : w.heap.size + 4 ≤ w10.heap.size := Nat.le_trans hzw9 hbw10.size; have Q1w10 := Lib.hid ((hbw10.block w.heap.size (by omega)).trans Q1w9.out); have Q2w10 := Lib.hid ((hbw10.block (w.heap.size + 1) (by omega)).trans Q2w9.out); have Q3w10 := Lib.hid ((hbw10.block (w.heap.size + 2) (by omega)).trans Q3w9.out))
          refine hK.out _ _ ?_ (fun hHeldN => ?_)
          · (try dsimp only); exact ⟨fiveT Q1w10.out, fiveT Q2w10.out, fiveT Q3w10.out⟩
          clear hK K hHeld
          have hHeld := hHeldN
          clear hHeldN
          refine wpAnyH_take (i := 17) (oi := { dst := some 69, op := Op.pick (Operand.tmp 67) (Operand.tmp 68) (Operand.const (Value.bool false)), type := 4, pos := "law.go:122", after := #[{ on := 15, ground := Ground.data }, { on := 16, ground := Ground.data }], guard := none }) (v := ?v17u1f) rfl (by kernel_rfl) (by kernel_rfl) (by kernel_rfl) (fun _ _ _ h => h) (Or.inl ⟨by rfl, ?hy17u1f⟩) (by assumption) ?rest17u1f
          case hy17u1f => (intro wq hSq; (try dsimp only at hSq); go_simp; try with_reducible rfl)
          try simp only [Act.put, List.setIfInBounds_toArray, List.set_cons_zero, List.set_cons_succ]
          refine wpAnyH_take (i := 18) (oi := { dst := some 6, op := Op.assign (Operand.tmp 69), type := 4, pos := "law.go:122", after := #[{ on := 17, ground := Ground.data }, { on := 16, ground := Ground.chain }, { on := 0, ground := Ground.phase }, { on := 1, ground := Ground.phase }, { on := 2, ground := Ground.phase }, { on := 3, ground := Ground.phase }, { on := 4, ground := Ground.phase }, { on := 5, ground := Ground.phase }, { on := 6, ground := Ground.phase }, { on := 7, ground := Ground.phase }, { on := 8, ground := Ground.phase }, { on := 9, ground := Ground.phase }, { on := 10, ground := Ground.phase }, { on := 11, ground := Ground.phase }, { on := 12, ground := Ground.phase }, { on := 13, ground := Ground.phase }, { on := 14, ground := Ground.phase }, { on := 15, ground := Ground.phase }, { on := 16, ground := Ground.phase }, { on := 17, ground := Ground.phase }], guard := none }) (v := ?v18u1f) rfl (by kernel_rfl) (by kernel_rfl) (by kernel_rfl) (fun _ _ _ h => h) (Or.inl ⟨by rfl, ?hy18u1f⟩) (by assumption) ?rest18u1f
          case hy18u1f => (intro wq hSq; (try dsimp only at hSq); go_simp; try with_reducible rfl)
          try simp only [Act.put, List.setIfInBounds_toArray, List.set_cons_zero, List.set_cons_succ]
          refine wpAnyH_done (by kernel_rfl) ?_ _
          clear hHeld
          go_wp2_with fail
          go_ret
          exact ⟨rfl, hBw10⟩
      · have f2 : decide (y ≤ 0) = false := decide_eq_false k2
        clear k1 k2
        go_wp2_with fail
        by_cases hx0 : x = 0
        · have hq : q = true := by rw [HE.out]; exact decide_eq_true hx0
          subst hq
          have dx : (x == 0) = true := by simp [hx0]
          clear hx0
          refine wp_region_held_drew (S := (fun w' => (w'.cell? ⟨w.heap.size, 0, none⟩ = some (.int .i64 t1.o) ∧ w'.cell? ⟨w.heap.size, 1, none⟩ = some (.string (bs t1.x)) ∧ w'.cell? ⟨w.heap.size, 2, none⟩ = some (.int .i64 t1.i) ∧ w'.cell? ⟨w.heap.size, 3, none⟩ = some (.slice p3a t1.s.length q3a) ∧ w'.cell? ⟨w.heap.size, 4, none⟩ = some (.slice p4a t1.l.length q4a)) ∧ (w'.cell? ⟨w.heap.size + 1, 0, none⟩ = some (.int .i64 t2.o) ∧ w'.cell? ⟨w.heap.size + 1, 1, none⟩ = some (.string (bs t2.x)) ∧ w'.cell? ⟨w.heap.size + 1, 2, none⟩ = some (.int .i64 t2.i) ∧ w'.cell? ⟨w.heap.size + 1, 3, none⟩ = some (.slice p3b t2.s.length q3b) ∧ w'.cell? ⟨w.heap.size + 1, 4, none⟩ = some (.slice p4b t2.l.length q4b)) ∧ (w'.cell? ⟨w.heap.size + 2, 0, none⟩ = some (.int .i64 t3.o) ∧ w'.cell? ⟨w.heap.size + 2, 1, none⟩ = some (.string (bs t3.x)) ∧ w'.cell? ⟨w.heap.size + 2, 2, none⟩ = some (.int .i64 t3.i) ∧ w'.cell? ⟨w.heap.size + 2, 3, none⟩ = some (.slice p3c t3.s.length q3c) ∧ w'.cell? ⟨w.heap.size + 2, 4, none⟩ = some (.slice p4c t3.l.length q4c)))) (by kernel_rfl) ?_ (fun hHeld => ?_)
          · exact ⟨fiveT Q1e.out, fiveT Q2e.out, fiveT Q3e.out⟩
          refine wpAnyH_take (i := 0) (oi := { dst := some 52, op := Op.move (Operand.tmp 7), type := 3, pos := "law.go:122", after := #[], guard := none }) (v := ?v0u2t) rfl (by kernel_rfl) (by kernel_rfl) (by kernel_rfl) (fun _ _ _ h => h) (Or.inl ⟨by rfl, ?hy0u2t⟩) (by assumption) ?rest0u2t
          case hy0u2t => (intro wq hSq; (try dsimp only at hSq); go_simp; try with_reducible rfl)
          try simp only [Act.put, List.setIfInBounds_toArray, List.set_cons_zero, List.set_cons_succ]
          refine wpAnyH_take (i := 1) (oi := { dst := some 53, op := Op.binOp BinOp.eql 3 (Operand.tmp 52) (Operand.const (Value.int IntKind.i64 0)) 3, type := 4, pos := "law.go:122", after := #[{ on := 0, ground := Ground.data }], guard := none }) (v := ?v1u2t) rfl (by kernel_rfl) (by kernel_rfl) (by kernel_rfl) (fun _ _ _ h => h) (Or.inl ⟨by rfl, ?hy1u2t⟩) (by assumption) ?rest1u2t
          case hy1u2t => (intro wq hSq; (try dsimp only at hSq); go_simp; try with_reducible rfl)
          try simp only [Act.put, List.setIfInBounds_toArray, List.set_cons_zero, List.set_cons_succ]
          refine wpAnyH_take (i := 2) (oi := { dst := some 54, op := Op.load 25 (Operand.tmp 3), type := 25, pos := "law.go:122", after := #[], guard := none }) (v := ?v2u2t) rfl (by kernel_rfl) (by kernel_rfl) (by kernel_rfl) (fun _ _ _ h => h) (Or.inl ⟨by rfl, ?hy2u2t⟩) (by assumption) ?rest2u2t
          case hy2u2t => (intro wq hSq; (try dsimp only at hSq); go_simp; try with_reducible rfl)
          try simp only [Act.put, List.setIfInBounds_toArray, List.set_cons_zero, List.set_cons_succ]
          refine wpAnyH_take (i := 3) (oi := { dst := some 55, op := Op.load 25 (Operand.tmp 4), type := 25, pos := "law.go:122", after := #[], guard := none }) (v := ?v3u2t) rfl (by kernel_rfl) (by kernel_rfl) (by kernel_rfl) (fun _ _ _ h => h) (Or.inl ⟨by rfl, ?hy3u2t⟩) (by assumption) ?rest3u2t
          case hy3u2t => (intro wq hSq; (try dsimp only at hSq); go_simp; try with_reducible rfl)
          try simp only [Act.put, List.setIfInBounds_toArray, List.set_cons_zero, List.set_cons_succ]
          refine wpAnyH_ready (rs := [4]) (by kernel_rfl) (by simp) ?_
          refine AllReadyH.cons rfl (fun K hK => ?_) AllReadyH.nil
          go_simp
          go_wp2_with (go_at_call 7; refine (EQ.out _ hB6).mono ?_; rintro e w7 ⟨rfl, hbw7⟩; have hBw7 : Below w.heap.size w w7 := hB6.trans (hbw7.mono (by omega)); have hzw7 : w.heap.size + 4 ≤ w7.heap.size := Nat.le_trans hz6 hbw7.size; have Q1w7 := Lib.hid ((hbw7.block w.heap.size (by omega)).trans Q1e.out); have Q2w7 := Lib.hid ((hbw7.block (w.heap.size + 1) (by omega)).trans Q2e.out); have Q3w7 := Lib.hid ((hbw7.block (w.heap.size + 2) (by omega)).trans Q3e.out))
          refine hK.out _ _ ?_ (fun hHeldN => ?_)
          · (try dsimp only); exact ⟨fiveT Q1w7.out, fiveT Q2w7.out, fiveT Q3w7.out⟩
          clear hK K hHeld
          have hHeld := hHeldN
          clear hHeldN
          refine wpAnyH_take (i := 5) (oi := { dst := some 57, op := Op.binOp BinOp.eql 4 (Operand.tmp 53) (Operand.tmp 56) 4, type := 4, pos := "law.go:122", after := #[{ on := 1, ground := Ground.data }, { on := 4, ground := Ground.data }], guard := none }) (v := ?v5u2t) rfl (by kernel_rfl) (by kernel_rfl) (by kernel_rfl) (fun _ _ _ h => h) (Or.inl ⟨by rfl, ?hy5u2t⟩) (by assumption) ?rest5u2t
          case hy5u2t => (intro wq hSq; (try dsimp only at hSq); go_simp; try with_reducible rfl)
          try simp only [Act.put, List.setIfInBounds_toArray, List.set_cons_zero, List.set_cons_succ]
          refine wpAnyH_take (i := 6) (oi := { dst := some 58, op := Op.move (Operand.tmp 57), type := 4, pos := "law.go:122", after := #[{ on := 5, ground := Ground.data }, { on := 4, ground := Ground.chain }], guard := none }) (v := ?v6u2t) rfl (by kernel_rfl) (by kernel_rfl) (by kernel_rfl) (fun _ _ _ h => h) (Or.inl ⟨by rfl, ?hy6u2t⟩) (by assumption) ?rest6u2t
          case hy6u2t => (intro wq hSq; (try dsimp only at hSq); go_simp; try with_reducible rfl)
          try simp only [Act.put, List.setIfInBounds_toArray, List.set_cons_zero, List.set_cons_succ]
          refine wpAnyH_take (i := 7) (oi := { dst := some 59, op := Op.load 25 (Operand.tmp 3), type := 25, pos := "law.go:122", after := #[{ on := 6, ground := Ground.guard }], guard := some (6, true) }) (v := ?v7u2t) rfl (by kernel_rfl) (by kernel_rfl) (by kernel_rfl) (fun _ _ _ h => h) (Or.inl ⟨by rfl, ?hy7u2t⟩) (by assumption) ?rest7u2t
          case hy7u2t => (intro wq hSq; (try dsimp only at hSq); go_simp; try with_reducible rfl)
          try simp only [Act.put, List.setIfInBounds_toArray, List.set_cons_zero, List.set_cons_succ]
          refine wpAnyH_take (i := 8) (oi := { dst := some 60, op := Op.load 25 (Operand.tmp 4), type := 25, pos := "law.go:122", after := #[{ on := 6, ground := Ground.guard }], guard := some (6, true) }) (v := ?v8u2t) rfl (by kernel_rfl) (by kernel_rfl) (by kernel_rfl) (fun _ _ _ h => h) (Or.inl ⟨by rfl, ?hy8u2t⟩) (by assumption) ?rest8u2t
          case hy8u2t => (intro wq hSq; (try dsimp only at hSq); go_simp; try with_reducible rfl)
          try simp only [Act.put, List.setIfInBounds_toArray, List.set_cons_zero, List.set_cons_succ]
          refine wpAnyH_take (i := 10) (oi := { dst := some 62, op := Op.load 25 (Operand.tmp 3), type := 25, pos := "law.go:122", after := #[{ on := 6, ground := Ground.guard }], guard := some (6, true) }) (v := ?v10u2t) rfl (by kernel_rfl) (by kernel_rfl) (by kernel_rfl) (fun _ _ _ h => h) (Or.inl ⟨by rfl, ?hy10u2t⟩) (by assumption) ?rest10u2t
          case hy10u2t => (intro wq hSq; (try dsimp only at hSq); go_simp; try with_reducible rfl)
          try simp only [Act.put, List.setIfInBounds_toArray, List.set_cons_zero, List.set_cons_succ]
          refine wpAnyH_take (i := 11) (oi := { dst := some 63, op := Op.load 25 (Operand.tmp 4), type := 25, pos := "law.go:122", after := #[{ on := 6, ground := Ground.guard }], guard := some (6, true) }) (v := ?v11u2t) rfl (by kernel_rfl) (by kernel_rfl) (by kernel_rfl) (fun _ _ _ h => h) (Or.inl ⟨by rfl, ?hy11u2t⟩) (by assumption) ?rest11u2t
          case hy11u2t => (intro wq hSq; (try dsimp only at hSq); go_simp; try with_reducible rfl)
          try simp only [Act.put, List.setIfInBounds_toArray, List.set_cons_zero, List.set_cons_succ]
          refine wpAnyH_ready (rs := [9]) (by kernel_rfl) (by simp) ?_
          refine AllReadyH.cons rfl (fun K hK => ?_) AllReadyH.nil
          go_simp
          go_wp2_with (go_at_call 7; refine (EQ.out _ hBw7).mono ?_; rintro e w8 ⟨rfl, hbw8⟩; have hBw8 : Below w.heap.size w w8 := hBw7.trans (hbw8.mono (by omega)); have hzw8 : w.heap.size + 4 ≤ w8.heap.size := Nat.le_trans hzw7 hbw8.size; have Q1w8 := Lib.hid ((hbw8.block w.heap.size (by omega)).trans Q1w7.out); have Q2w8 := Lib.hid ((hbw8.block (w.heap.size + 1) (by omega)).trans Q2w7.out); have Q3w8 := Lib.hid ((hbw8.block (w.heap.size + 2) (by omega)).trans Q3w7.out))
          refine hK.out _ _ ?_ (fun hHeldN => ?_)
          · (try dsimp only); exact ⟨fiveT Q1w8.out, fiveT Q2w8.out, fiveT Q3w8.out⟩
          clear hK K hHeld
          have hHeld := hHeldN
          clear hHeldN
          refine wpAnyH_ready (rs := [12]) (by kernel_rfl) (by simp) ?_
          refine AllReadyH.cons rfl (fun K hK => ?_) AllReadyH.nil
          go_simp
          go_wp2_with (go_at_call 8; refine (SM.out _ hBw8).mono ?_; rintro e w9 ⟨rfl, hbw9⟩; have hBw9 : Below w.heap.size w w9 := hBw8.trans (hbw9.mono (by omega)); have hzw9 : w.heap.size + 4 ≤ w9.heap.size := Nat.le_trans hzw8 hbw9.size; have Q1w9 := Lib.hid ((hbw9.block w.heap.size (by omega)).trans Q1w8.out); have Q2w9 := Lib.hid ((hbw9.block (w.heap.size + 1) (by omega)).trans Q2w8.out); have Q3w9 := Lib.hid ((hbw9.block (w.heap.size + 2) (by omega)).trans Q3w8.out))
          refine hK.out _ _ ?_ (fun hHeldN => ?_)
          · (try dsimp only); exact ⟨fiveT Q1w9.out, fiveT Q2w9.out, fiveT Q3w9.out⟩
          clear hK K hHeld
          have hHeld := hHeldN
          clear hHeldN
          refine wpAnyH_take (i := 13) (oi := { dst := some 65, op := Op.binOp BinOp.eql 4 (Operand.tmp 61) (Operand.tmp 64) 4, type := 4, pos := "law.go:122", after := #[{ on := 9, ground := Ground.data }, { on := 12, ground := Ground.data }, { on := 6, ground := Ground.guard }], guard := some (6, true) }) (v := ?v13u2t) rfl (by kernel_rfl) (by kernel_rfl) (by kernel_rfl) (fun _ _ _ h => h) (Or.inl ⟨by rfl, ?hy13u2t⟩) (by assumption) ?rest13u2t
          case hy13u2t => (intro wq hSq; (try dsimp only at hSq); go_simp; try with_reducible rfl)
          try simp only [Act.put, List.setIfInBounds_toArray, List.set_cons_zero, List.set_cons_succ]
          refine wpAnyH_take (i := 14) (oi := { dst := some 66, op := Op.pick (Operand.tmp 58) (Operand.tmp 65) (Operand.const (Value.bool false)), type := 4, pos := "law.go:122", after := #[{ on := 6, ground := Ground.data }, { on := 13, ground := Ground.data }], guard := none }) (v := ?v14u2t) rfl (by kernel_rfl) (by kernel_rfl) (by kernel_rfl) (fun _ _ _ h => h) (Or.inl ⟨by rfl, ?hy14u2t⟩) (by assumption) ?rest14u2t
          case hy14u2t => (intro wq hSq; (try dsimp only at hSq); go_simp; try with_reducible rfl)
          try simp only [Act.put, List.setIfInBounds_toArray, List.set_cons_zero, List.set_cons_succ]
          refine wpAnyH_take (i := 15) (oi := { dst := some 67, op := Op.move (Operand.tmp 66), type := 4, pos := "law.go:122", after := #[{ on := 14, ground := Ground.data }, { on := 12, ground := Ground.chain }], guard := none }) (v := ?v15u2t) rfl (by kernel_rfl) (by kernel_rfl) (by kernel_rfl) (fun _ _ _ h => h) (Or.inl ⟨by rfl, ?hy15u2t⟩) (by assumption) ?rest15u2t
          case hy15u2t => (intro wq hSq; (try dsimp only at hSq); go_simp; try with_reducible rfl)
          try simp only [Act.put, List.setIfInBounds_toArray, List.set_cons_zero, List.set_cons_succ]
          refine wpAnyH_ready (rs := [16]) (by kernel_rfl) (by simp) ?_
          refine AllReadyH.cons rfl (fun K hK => ?_) AllReadyH.nil
          go_simp
          go_wp2_with (go_at_call 5; refine (HA.out _).mono ?_; rintro e w10 ⟨rfl, hbw10⟩; have hBw10 : Below w.heap.size w w10 := hBw9.trans (hbw10.mono (by omega)); have hzw10 : w.heap.size + 4 ≤ w10.heap.size := Nat.le_trans hzw9 hbw10.size; have Q1w10 := Lib.hid ((hbw10.block w.heap.size (by omega)).trans Q1w9.out); have Q2w10 := Lib.hid ((hbw10.block (w.heap.size + 1) (by omega)).trans Q2w9.out); have Q3w10 := Lib.hid ((hbw10.block (w.heap.size + 2) (by omega)).trans Q3w9.out))
          refine hK.out _ _ ?_ (fun hHeldN => ?_)
          · (try dsimp only); exact ⟨fiveT Q1w10.out, fiveT Q2w10.out, fiveT Q3w10.out⟩
          clear hK K hHeld
          have hHeld := hHeldN
          clear hHeldN
          refine wpAnyH_take (i := 17) (oi := { dst := some 69, op := Op.pick (Operand.tmp 67) (Operand.tmp 68) (Operand.const (Value.bool false)), type := 4, pos := "law.go:122", after := #[{ on := 15, ground := Ground.data }, { on := 16, ground := Ground.data }], guard := none }) (v := ?v17u2t) rfl (by kernel_rfl) (by kernel_rfl) (by kernel_rfl) (fun _ _ _ h => h) (Or.inl ⟨by rfl, ?hy17u2t⟩) (by assumption) ?rest17u2t
          case hy17u2t => (intro wq hSq; (try dsimp only at hSq); go_simp; try with_reducible rfl)
          try simp only [Act.put, List.setIfInBounds_toArray, List.set_cons_zero, List.set_cons_succ]
          refine wpAnyH_take (i := 18) (oi := { dst := some 6, op := Op.assign (Operand.tmp 69), type := 4, pos := "law.go:122", after := #[{ on := 17, ground := Ground.data }, { on := 16, ground := Ground.chain }, { on := 0, ground := Ground.phase }, { on := 1, ground := Ground.phase }, { on := 2, ground := Ground.phase }, { on := 3, ground := Ground.phase }, { on := 4, ground := Ground.phase }, { on := 5, ground := Ground.phase }, { on := 6, ground := Ground.phase }, { on := 7, ground := Ground.phase }, { on := 8, ground := Ground.phase }, { on := 9, ground := Ground.phase }, { on := 10, ground := Ground.phase }, { on := 11, ground := Ground.phase }, { on := 12, ground := Ground.phase }, { on := 13, ground := Ground.phase }, { on := 14, ground := Ground.phase }, { on := 15, ground := Ground.phase }, { on := 16, ground := Ground.phase }, { on := 17, ground := Ground.phase }], guard := none }) (v := ?v18u2t) rfl (by kernel_rfl) (by kernel_rfl) (by kernel_rfl) (fun _ _ _ h => h) (Or.inl ⟨by rfl, ?hy18u2t⟩) (by assumption) ?rest18u2t
          case hy18u2t => (intro wq hSq; (try dsimp only at hSq); go_simp; try with_reducible rfl)
          try simp only [Act.put, List.setIfInBounds_toArray, List.set_cons_zero, List.set_cons_succ]
          refine wpAnyH_done (by kernel_rfl) ?_ _
          clear hHeld
          go_wp2_with fail
          go_ret
          exact ⟨rfl, hBw10⟩
        · have hq : q = false := by rw [HE.out]; exact decide_eq_false hx0
          subst hq
          have dx : (x == 0) = false := by simp [hx0]
          clear hx0
          refine wp_region_held_drew (S := (fun w' => (w'.cell? ⟨w.heap.size, 0, none⟩ = some (.int .i64 t1.o) ∧ w'.cell? ⟨w.heap.size, 1, none⟩ = some (.string (bs t1.x)) ∧ w'.cell? ⟨w.heap.size, 2, none⟩ = some (.int .i64 t1.i) ∧ w'.cell? ⟨w.heap.size, 3, none⟩ = some (.slice p3a t1.s.length q3a) ∧ w'.cell? ⟨w.heap.size, 4, none⟩ = some (.slice p4a t1.l.length q4a)) ∧ (w'.cell? ⟨w.heap.size + 1, 0, none⟩ = some (.int .i64 t2.o) ∧ w'.cell? ⟨w.heap.size + 1, 1, none⟩ = some (.string (bs t2.x)) ∧ w'.cell? ⟨w.heap.size + 1, 2, none⟩ = some (.int .i64 t2.i) ∧ w'.cell? ⟨w.heap.size + 1, 3, none⟩ = some (.slice p3b t2.s.length q3b) ∧ w'.cell? ⟨w.heap.size + 1, 4, none⟩ = some (.slice p4b t2.l.length q4b)) ∧ (w'.cell? ⟨w.heap.size + 2, 0, none⟩ = some (.int .i64 t3.o) ∧ w'.cell? ⟨w.heap.size + 2, 1, none⟩ = some (.string (bs t3.x)) ∧ w'.cell? ⟨w.heap.size + 2, 2, none⟩ = some (.int .i64 t3.i) ∧ w'.cell? ⟨w.heap.size + 2, 3, none⟩ = some (.slice p3c t3.s.length q3c) ∧ w'.cell? ⟨w.heap.size + 2, 4, none⟩ = some (.slice p4c t3.l.length q4c)))) (by kernel_rfl) ?_ (fun hHeld => ?_)
          · exact ⟨fiveT Q1e.out, fiveT Q2e.out, fiveT Q3e.out⟩
          refine wpAnyH_take (i := 0) (oi := { dst := some 52, op := Op.move (Operand.tmp 7), type := 3, pos := "law.go:122", after := #[], guard := none }) (v := ?v0u2f) rfl (by kernel_rfl) (by kernel_rfl) (by kernel_rfl) (fun _ _ _ h => h) (Or.inl ⟨by rfl, ?hy0u2f⟩) (by assumption) ?rest0u2f
          case hy0u2f => (intro wq hSq; (try dsimp only at hSq); go_simp; try with_reducible rfl)
          try simp only [Act.put, List.setIfInBounds_toArray, List.set_cons_zero, List.set_cons_succ]
          refine wpAnyH_take (i := 1) (oi := { dst := some 53, op := Op.binOp BinOp.eql 3 (Operand.tmp 52) (Operand.const (Value.int IntKind.i64 0)) 3, type := 4, pos := "law.go:122", after := #[{ on := 0, ground := Ground.data }], guard := none }) (v := ?v1u2f) rfl (by kernel_rfl) (by kernel_rfl) (by kernel_rfl) (fun _ _ _ h => h) (Or.inl ⟨by rfl, ?hy1u2f⟩) (by assumption) ?rest1u2f
          case hy1u2f => (intro wq hSq; (try dsimp only at hSq); go_simp; try with_reducible rfl)
          try simp only [Act.put, List.setIfInBounds_toArray, List.set_cons_zero, List.set_cons_succ]
          refine wpAnyH_take (i := 2) (oi := { dst := some 54, op := Op.load 25 (Operand.tmp 3), type := 25, pos := "law.go:122", after := #[], guard := none }) (v := ?v2u2f) rfl (by kernel_rfl) (by kernel_rfl) (by kernel_rfl) (fun _ _ _ h => h) (Or.inl ⟨by rfl, ?hy2u2f⟩) (by assumption) ?rest2u2f
          case hy2u2f => (intro wq hSq; (try dsimp only at hSq); go_simp; try with_reducible rfl)
          try simp only [Act.put, List.setIfInBounds_toArray, List.set_cons_zero, List.set_cons_succ]
          refine wpAnyH_take (i := 3) (oi := { dst := some 55, op := Op.load 25 (Operand.tmp 4), type := 25, pos := "law.go:122", after := #[], guard := none }) (v := ?v3u2f) rfl (by kernel_rfl) (by kernel_rfl) (by kernel_rfl) (fun _ _ _ h => h) (Or.inl ⟨by rfl, ?hy3u2f⟩) (by assumption) ?rest3u2f
          case hy3u2f => (intro wq hSq; (try dsimp only at hSq); go_simp; try with_reducible rfl)
          try simp only [Act.put, List.setIfInBounds_toArray, List.set_cons_zero, List.set_cons_succ]
          refine wpAnyH_ready (rs := [4]) (by kernel_rfl) (by simp) ?_
          refine AllReadyH.cons rfl (fun K hK => ?_) AllReadyH.nil
          go_simp
          go_wp2_with (go_at_call 7; refine (EQ.out _ hB6).mono ?_; rintro e w7 ⟨rfl, hbw7⟩; have hBw7 : Below w.heap.size w w7 := hB6.trans (hbw7.mono (by omega)); have hzw7 : w.heap.size + 4 ≤ w7.heap.size := Nat.le_trans hz6 hbw7.size; have Q1w7 := Lib.hid ((hbw7.block w.heap.size (by omega)).trans Q1e.out); have Q2w7 := Lib.hid ((hbw7.block (w.heap.size + 1) (by omega)).trans Q2e.out); have Q3w7 := Lib.hid ((hbw7.block (w.heap.size + 2) (by omega)).trans Q3e.out))
          refine hK.out _ _ ?_ (fun hHeldN => ?_)
          · (try dsimp only); exact ⟨fiveT Q1w7.out, fiveT Q2w7.out, fiveT Q3w7.out⟩
          clear hK K hHeld
          have hHeld := hHeldN
          clear hHeldN
          refine wpAnyH_take (i := 5) (oi := { dst := some 57, op := Op.binOp BinOp.eql 4 (Operand.tmp 53) (Operand.tmp 56) 4, type := 4, pos := "law.go:122", after := #[{ on := 1, ground := Ground.data }, { on := 4, ground := Ground.data }], guard := none }) (v := ?v5u2f) rfl (by kernel_rfl) (by kernel_rfl) (by kernel_rfl) (fun _ _ _ h => h) (Or.inl ⟨by rfl, ?hy5u2f⟩) (by assumption) ?rest5u2f
          case hy5u2f => (intro wq hSq; (try dsimp only at hSq); go_simp; try with_reducible rfl)
          try simp only [Act.put, List.setIfInBounds_toArray, List.set_cons_zero, List.set_cons_succ]
          refine wpAnyH_take (i := 6) (oi := { dst := some 58, op := Op.move (Operand.tmp 57), type := 4, pos := "law.go:122", after := #[{ on := 5, ground := Ground.data }, { on := 4, ground := Ground.chain }], guard := none }) (v := ?v6u2f) rfl (by kernel_rfl) (by kernel_rfl) (by kernel_rfl) (fun _ _ _ h => h) (Or.inl ⟨by rfl, ?hy6u2f⟩) (by assumption) ?rest6u2f
          case hy6u2f => (intro wq hSq; (try dsimp only at hSq); go_simp; try with_reducible rfl)
          try simp only [Act.put, List.setIfInBounds_toArray, List.set_cons_zero, List.set_cons_succ]
          refine wpAnyH_take (i := 7) (oi := { dst := some 59, op := Op.load 25 (Operand.tmp 3), type := 25, pos := "law.go:122", after := #[{ on := 6, ground := Ground.guard }], guard := some (6, true) }) (v := ?v7u2f) rfl (by kernel_rfl) (by kernel_rfl) (by kernel_rfl) (fun _ _ _ h => h) (Or.inl ⟨by rfl, ?hy7u2f⟩) (by assumption) ?rest7u2f
          case hy7u2f => (intro wq hSq; (try dsimp only at hSq); go_simp; try with_reducible rfl)
          try simp only [Act.put, List.setIfInBounds_toArray, List.set_cons_zero, List.set_cons_succ]
          refine wpAnyH_take (i := 8) (oi := { dst := some 60, op := Op.load 25 (Operand.tmp 4), type := 25, pos := "law.go:122", after := #[{ on := 6, ground := Ground.guard }], guard := some (6, true) }) (v := ?v8u2f) rfl (by kernel_rfl) (by kernel_rfl) (by kernel_rfl) (fun _ _ _ h => h) (Or.inl ⟨by rfl, ?hy8u2f⟩) (by assumption) ?rest8u2f
          case hy8u2f => (intro wq hSq; (try dsimp only at hSq); go_simp; try with_reducible rfl)
          try simp only [Act.put, List.setIfInBounds_toArray, List.set_cons_zero, List.set_cons_succ]
          refine wpAnyH_take (i := 10) (oi := { dst := some 62, op := Op.load 25 (Operand.tmp 3), type := 25, pos := "law.go:122", after := #[{ on := 6, ground := Ground.guard }], guard := some (6, true) }) (v := ?v10u2f) rfl (by kernel_rfl) (by kernel_rfl) (by kernel_rfl) (fun _ _ _ h => h) (Or.inl ⟨by rfl, ?hy10u2f⟩) (by assumption) ?rest10u2f
          case hy10u2f => (intro wq hSq; (try dsimp only at hSq); go_simp; try with_reducible rfl)
          try simp only [Act.put, List.setIfInBounds_toArray, List.set_cons_zero, List.set_cons_succ]
          refine wpAnyH_take (i := 11) (oi := { dst := some 63, op := Op.load 25 (Operand.tmp 4), type := 25, pos := "law.go:122", after := #[{ on := 6, ground := Ground.guard }], guard := some (6, true) }) (v := ?v11u2f) rfl (by kernel_rfl) (by kernel_rfl) (by kernel_rfl) (fun _ _ _ h => h) (Or.inl ⟨by rfl, ?hy11u2f⟩) (by assumption) ?rest11u2f
          case hy11u2f => (intro wq hSq; (try dsimp only at hSq); go_simp; try with_reducible rfl)
          try simp only [Act.put, List.setIfInBounds_toArray, List.set_cons_zero, List.set_cons_succ]
          refine wpAnyH_ready (rs := [9]) (by kernel_rfl) (by simp) ?_
          refine AllReadyH.cons rfl (fun K hK => ?_) AllReadyH.nil
          go_simp
          go_wp2_with (go_at_call 7; refine (EQ.out _ hBw7).mono ?_; rintro e w8 ⟨rfl, hbw8⟩; have hBw8 : Below w.heap.size w w8 := hBw7.trans (hbw8.mono (by omega)); have hzw8 : w.heap.size + 4 ≤ w8.heap.size := Nat.le_trans hzw7 hbw8.size; have Q1w8 := Lib.hid ((hbw8.block w.heap.size (by omega)).trans Q1w7.out); have Q2w8 := Lib.hid ((hbw8.block (w.heap.size + 1) (by omega)).trans Q2w7.out); have Q3w8 := Lib.hid ((hbw8.block (w.heap.size + 2) (by omega)).trans Q3w7.out))
          refine hK.out _ _ ?_ (fun hHeldN => ?_)
          · (try dsimp only); exact ⟨fiveT Q1w8.out, fiveT Q2w8.out, fiveT Q3w8.out⟩
          clear hK K hHeld
          have hHeld := hHeldN
          clear hHeldN
          refine wpAnyH_ready (rs := [12]) (by kernel_rfl) (by simp) ?_
          refine AllReadyH.cons rfl (fun K hK => ?_) AllReadyH.nil
          go_simp
          go_wp2_with (go_at_call 8; refine (SM.out _ hBw8).mono ?_; rintro e w9 ⟨rfl, hbw9⟩; have hBw9 : Below w.heap.size w w9 := hBw8.trans (hbw9.mono (by omega)); have hzw9 : w.heap.size + 4 ≤ w9.heap.size := Nat.le_trans hzw8 hbw9.size; have Q1w9 := Lib.hid ((hbw9.block w.heap.size (by omega)).trans Q1w8.out); have Q2w9 := Lib.hid ((hbw9.block (w.heap.size + 1) (by omega)).trans Q2w8.out); have Q3w9 := Lib.hid ((hbw9.block (w.heap.size + 2) (by omega)).trans Q3w8.out))
          refine hK.out _ _ ?_ (fun hHeldN => ?_)
          · (try dsimp only); exact ⟨fiveT Q1w9.out, fiveT Q2w9.out, fiveT Q3w9.out⟩
          clear hK K hHeld
          have hHeld := hHeldN
          clear hHeldN
          refine wpAnyH_take (i := 13) (oi := { dst := some 65, op := Op.binOp BinOp.eql 4 (Operand.tmp 61) (Operand.tmp 64) 4, type := 4, pos := "law.go:122", after := #[{ on := 9, ground := Ground.data }, { on := 12, ground := Ground.data }, { on := 6, ground := Ground.guard }], guard := some (6, true) }) (v := ?v13u2f) rfl (by kernel_rfl) (by kernel_rfl) (by kernel_rfl) (fun _ _ _ h => h) (Or.inl ⟨by rfl, ?hy13u2f⟩) (by assumption) ?rest13u2f
          case hy13u2f => (intro wq hSq; (try dsimp only at hSq); go_simp; try with_reducible rfl)
          try simp only [Act.put, List.setIfInBounds_toArray, List.set_cons_zero, List.set_cons_succ]
          refine wpAnyH_take (i := 14) (oi := { dst := some 66, op := Op.pick (Operand.tmp 58) (Operand.tmp 65) (Operand.const (Value.bool false)), type := 4, pos := "law.go:122", after := #[{ on := 6, ground := Ground.data }, { on := 13, ground := Ground.data }], guard := none }) (v := ?v14u2f) rfl (by kernel_rfl) (by kernel_rfl) (by kernel_rfl) (fun _ _ _ h => h) (Or.inl ⟨by rfl, ?hy14u2f⟩) (by assumption) ?rest14u2f
          case hy14u2f => (intro wq hSq; (try dsimp only at hSq); go_simp; try with_reducible rfl)
          try simp only [Act.put, List.setIfInBounds_toArray, List.set_cons_zero, List.set_cons_succ]
          refine wpAnyH_take (i := 15) (oi := { dst := some 67, op := Op.move (Operand.tmp 66), type := 4, pos := "law.go:122", after := #[{ on := 14, ground := Ground.data }, { on := 12, ground := Ground.chain }], guard := none }) (v := ?v15u2f) rfl (by kernel_rfl) (by kernel_rfl) (by kernel_rfl) (fun _ _ _ h => h) (Or.inl ⟨by rfl, ?hy15u2f⟩) (by assumption) ?rest15u2f
          case hy15u2f => (intro wq hSq; (try dsimp only at hSq); go_simp; try with_reducible rfl)
          try simp only [Act.put, List.setIfInBounds_toArray, List.set_cons_zero, List.set_cons_succ]
          refine wpAnyH_ready (rs := [16]) (by kernel_rfl) (by simp) ?_
          refine AllReadyH.cons rfl (fun K hK => ?_) AllReadyH.nil
          go_simp
          go_wp2_with (go_at_call 5; refine (HA.out _).mono ?_; rintro e w10 ⟨rfl, hbw10⟩; have hBw10 : Below w.heap.size w w10 := hBw9.trans (hbw10.mono (by omega)); have hzw10 : w.heap.size + 4 ≤ w10.heap.size := Nat.le_trans hzw9 hbw10.size; have Q1w10 := Lib.hid ((hbw10.block w.heap.size (by omega)).trans Q1w9.out); have Q2w10 := Lib.hid ((hbw10.block (w.heap.size + 1) (by omega)).trans Q2w9.out); have Q3w10 := Lib.hid ((hbw10.block (w.heap.size + 2) (by omega)).trans Q3w9.out))
          refine hK.out _ _ ?_ (fun hHeldN => ?_)
          · (try dsimp only); exact ⟨fiveT Q1w10.out, fiveT Q2w10.out, fiveT Q3w10.out⟩
          clear hK K hHeld
          have hHeld := hHeldN
          clear hHeldN
          refine wpAnyH_take (i := 17) (oi := { dst := some 69, op := Op.pick (Operand.tmp 67) (Operand.tmp 68) (Operand.const (Value.bool false)), type := 4, pos := "law.go:122", after := #[{ on := 15, ground := Ground.data }, { on := 16, ground := Ground.data }], guard := none }) (v := ?v17u2f) rfl (by kernel_rfl) (by kernel_rfl) (by kernel_rfl) (fun _ _ _ h => h) (Or.inl ⟨by rfl, ?hy17u2f⟩) (by assumption) ?rest17u2f
          case hy17u2f => (intro wq hSq; (try dsimp only at hSq); go_simp; try with_reducible rfl)
          try simp only [Act.put, List.setIfInBounds_toArray, List.set_cons_zero, List.set_cons_succ]
          refine wpAnyH_take (i := 18) (oi := { dst := some 6, op := Op.assign (Operand.tmp 69), type := 4, pos := "law.go:122", after := #[{ on := 17, ground := Ground.data }, { on := 16, ground := Ground.chain }, { on := 0, ground := Ground.phase }, { on := 1, ground := Ground.phase }, { on := 2, ground := Ground.phase }, { on := 3, ground := Ground.phase }, { on := 4, ground := Ground.phase }, { on := 5, ground := Ground.phase }, { on := 6, ground := Ground.phase }, { on := 7, ground := Ground.phase }, { on := 8, ground := Ground.phase }, { on := 9, ground := Ground.phase }, { on := 10, ground := Ground.phase }, { on := 11, ground := Ground.phase }, { on := 12, ground := Ground.phase }, { on := 13, ground := Ground.phase }, { on := 14, ground := Ground.phase }, { on := 15, ground := Ground.phase }, { on := 16, ground := Ground.phase }, { on := 17, ground := Ground.phase }], guard := none }) (v := ?v18u2f) rfl (by kernel_rfl) (by kernel_rfl) (by kernel_rfl) (fun _ _ _ h => h) (Or.inl ⟨by rfl, ?hy18u2f⟩) (by assumption) ?rest18u2f
          case hy18u2f => (intro wq hSq; (try dsimp only at hSq); go_simp; try with_reducible rfl)
          try simp only [Act.put, List.setIfInBounds_toArray, List.set_cons_zero, List.set_cons_succ]
          refine wpAnyH_done (by kernel_rfl) ?_ _
          clear hHeld
          go_wp2_with fail
          go_ret
          exact ⟨rfl, hBw10⟩
    · have f1 : decide (x ≤ 0) = false := decide_eq_false k1
      clear k1
      go_wp2_with fail
      by_cases hx0 : x = 0
      · have hq : q = true := by rw [HE.out]; exact decide_eq_true hx0
        subst hq
        have dx : (x == 0) = true := by simp [hx0]
        clear hx0
        refine wp_region_held_drew (S := (fun w' => (w'.cell? ⟨w.heap.size, 0, none⟩ = some (.int .i64 t1.o) ∧ w'.cell? ⟨w.heap.size, 1, none⟩ = some (.string (bs t1.x)) ∧ w'.cell? ⟨w.heap.size, 2, none⟩ = some (.int .i64 t1.i) ∧ w'.cell? ⟨w.heap.size, 3, none⟩ = some (.slice p3a t1.s.length q3a) ∧ w'.cell? ⟨w.heap.size, 4, none⟩ = some (.slice p4a t1.l.length q4a)) ∧ (w'.cell? ⟨w.heap.size + 1, 0, none⟩ = some (.int .i64 t2.o) ∧ w'.cell? ⟨w.heap.size + 1, 1, none⟩ = some (.string (bs t2.x)) ∧ w'.cell? ⟨w.heap.size + 1, 2, none⟩ = some (.int .i64 t2.i) ∧ w'.cell? ⟨w.heap.size + 1, 3, none⟩ = some (.slice p3b t2.s.length q3b) ∧ w'.cell? ⟨w.heap.size + 1, 4, none⟩ = some (.slice p4b t2.l.length q4b)) ∧ (w'.cell? ⟨w.heap.size + 2, 0, none⟩ = some (.int .i64 t3.o) ∧ w'.cell? ⟨w.heap.size + 2, 1, none⟩ = some (.string (bs t3.x)) ∧ w'.cell? ⟨w.heap.size + 2, 2, none⟩ = some (.int .i64 t3.i) ∧ w'.cell? ⟨w.heap.size + 2, 3, none⟩ = some (.slice p3c t3.s.length q3c) ∧ w'.cell? ⟨w.heap.size + 2, 4, none⟩ = some (.slice p4c t3.l.length q4c)))) (by kernel_rfl) ?_ (fun hHeld => ?_)
        · exact ⟨fiveT Q1e.out, fiveT Q2e.out, fiveT Q3e.out⟩
        refine wpAnyH_take (i := 0) (oi := { dst := some 52, op := Op.move (Operand.tmp 7), type := 3, pos := "law.go:122", after := #[], guard := none }) (v := ?v0vt) rfl (by kernel_rfl) (by kernel_rfl) (by kernel_rfl) (fun _ _ _ h => h) (Or.inl ⟨by rfl, ?hy0vt⟩) (by assumption) ?rest0vt
        case hy0vt => (intro wq hSq; (try dsimp only at hSq); go_simp; try with_reducible rfl)
        try simp only [Act.put, List.setIfInBounds_toArray, List.set_cons_zero, List.set_cons_succ]
        refine wpAnyH_take (i := 1) (oi := { dst := some 53, op := Op.binOp BinOp.eql 3 (Operand.tmp 52) (Operand.const (Value.int IntKind.i64 0)) 3, type := 4, pos := "law.go:122", after := #[{ on := 0, ground := Ground.data }], guard := none }) (v := ?v1vt) rfl (by kernel_rfl) (by kernel_rfl) (by kernel_rfl) (fun _ _ _ h => h) (Or.inl ⟨by rfl, ?hy1vt⟩) (by assumption) ?rest1vt
        case hy1vt => (intro wq hSq; (try dsimp only at hSq); go_simp; try with_reducible rfl)
        try simp only [Act.put, List.setIfInBounds_toArray, List.set_cons_zero, List.set_cons_succ]
        refine wpAnyH_take (i := 2) (oi := { dst := some 54, op := Op.load 25 (Operand.tmp 3), type := 25, pos := "law.go:122", after := #[], guard := none }) (v := ?v2vt) rfl (by kernel_rfl) (by kernel_rfl) (by kernel_rfl) (fun _ _ _ h => h) (Or.inl ⟨by rfl, ?hy2vt⟩) (by assumption) ?rest2vt
        case hy2vt => (intro wq hSq; (try dsimp only at hSq); go_simp; try with_reducible rfl)
        try simp only [Act.put, List.setIfInBounds_toArray, List.set_cons_zero, List.set_cons_succ]
        refine wpAnyH_take (i := 3) (oi := { dst := some 55, op := Op.load 25 (Operand.tmp 4), type := 25, pos := "law.go:122", after := #[], guard := none }) (v := ?v3vt) rfl (by kernel_rfl) (by kernel_rfl) (by kernel_rfl) (fun _ _ _ h => h) (Or.inl ⟨by rfl, ?hy3vt⟩) (by assumption) ?rest3vt
        case hy3vt => (intro wq hSq; (try dsimp only at hSq); go_simp; try with_reducible rfl)
        try simp only [Act.put, List.setIfInBounds_toArray, List.set_cons_zero, List.set_cons_succ]
        refine wpAnyH_ready (rs := [4]) (by kernel_rfl) (by simp) ?_
        refine AllReadyH.cons rfl (fun K hK => ?_) AllReadyH.nil
        go_simp
        go_wp2_with (go_at_call 7; refine (EQ.out _ hB6).mono ?_; rintro e w7 ⟨rfl, hbw7⟩; have hBw7 : Below w.heap.size w w7 := hB6.trans (hbw7.mono (by omega)); have hzw7 : w.heap.size + 4 ≤ w7.heap.size := Nat.le_trans hz6 hbw7.size; have Q1w7 := Lib.hid ((hbw7.block w.heap.size (by omega)).trans Q1e.out); have Q2w7 := Lib.hid ((hbw7.block (w.heap.size + 1) (by omega)).trans Q2e.out); have Q3w7 := Lib.hid ((hbw7.block (w.heap.size + 2) (by omega)).trans Q3e.out))
        refine hK.out _ _ ?_ (fun hHeldN => ?_)
        · (try dsimp only); exact ⟨fiveT Q1w7.out, fiveT Q2w7.out, fiveT Q3w7.out⟩
        clear hK K hHeld
        have hHeld := hHeldN
        clear hHeldN
        refine wpAnyH_take (i := 5) (oi := { dst := some 57, op := Op.binOp BinOp.eql 4 (Operand.tmp 53) (Operand.tmp 56) 4, type := 4, pos := "law.go:122", after := #[{ on := 1, ground := Ground.data }, { on := 4, ground := Ground.data }], guard := none }) (v := ?v5vt) rfl (by kernel_rfl) (by kernel_rfl) (by kernel_rfl) (fun _ _ _ h => h) (Or.inl ⟨by rfl, ?hy5vt⟩) (by assumption) ?rest5vt
        case hy5vt => (intro wq hSq; (try dsimp only at hSq); go_simp; try with_reducible rfl)
        try simp only [Act.put, List.setIfInBounds_toArray, List.set_cons_zero, List.set_cons_succ]
        refine wpAnyH_take (i := 6) (oi := { dst := some 58, op := Op.move (Operand.tmp 57), type := 4, pos := "law.go:122", after := #[{ on := 5, ground := Ground.data }, { on := 4, ground := Ground.chain }], guard := none }) (v := ?v6vt) rfl (by kernel_rfl) (by kernel_rfl) (by kernel_rfl) (fun _ _ _ h => h) (Or.inl ⟨by rfl, ?hy6vt⟩) (by assumption) ?rest6vt
        case hy6vt => (intro wq hSq; (try dsimp only at hSq); go_simp; try with_reducible rfl)
        try simp only [Act.put, List.setIfInBounds_toArray, List.set_cons_zero, List.set_cons_succ]
        refine wpAnyH_take (i := 7) (oi := { dst := some 59, op := Op.load 25 (Operand.tmp 3), type := 25, pos := "law.go:122", after := #[{ on := 6, ground := Ground.guard }], guard := some (6, true) }) (v := ?v7vt) rfl (by kernel_rfl) (by kernel_rfl) (by kernel_rfl) (fun _ _ _ h => h) (Or.inl ⟨by rfl, ?hy7vt⟩) (by assumption) ?rest7vt
        case hy7vt => (intro wq hSq; (try dsimp only at hSq); go_simp; try with_reducible rfl)
        try simp only [Act.put, List.setIfInBounds_toArray, List.set_cons_zero, List.set_cons_succ]
        refine wpAnyH_take (i := 8) (oi := { dst := some 60, op := Op.load 25 (Operand.tmp 4), type := 25, pos := "law.go:122", after := #[{ on := 6, ground := Ground.guard }], guard := some (6, true) }) (v := ?v8vt) rfl (by kernel_rfl) (by kernel_rfl) (by kernel_rfl) (fun _ _ _ h => h) (Or.inl ⟨by rfl, ?hy8vt⟩) (by assumption) ?rest8vt
        case hy8vt => (intro wq hSq; (try dsimp only at hSq); go_simp; try with_reducible rfl)
        try simp only [Act.put, List.setIfInBounds_toArray, List.set_cons_zero, List.set_cons_succ]
        refine wpAnyH_take (i := 10) (oi := { dst := some 62, op := Op.load 25 (Operand.tmp 3), type := 25, pos := "law.go:122", after := #[{ on := 6, ground := Ground.guard }], guard := some (6, true) }) (v := ?v10vt) rfl (by kernel_rfl) (by kernel_rfl) (by kernel_rfl) (fun _ _ _ h => h) (Or.inl ⟨by rfl, ?hy10vt⟩) (by assumption) ?rest10vt
        case hy10vt => (intro wq hSq; (try dsimp only at hSq); go_simp; try with_reducible rfl)
        try simp only [Act.put, List.setIfInBounds_toArray, List.set_cons_zero, List.set_cons_succ]
        refine wpAnyH_take (i := 11) (oi := { dst := some 63, op := Op.load 25 (Operand.tmp 4), type := 25, pos := "law.go:122", after := #[{ on := 6, ground := Ground.guard }], guard := some (6, true) }) (v := ?v11vt) rfl (by kernel_rfl) (by kernel_rfl) (by kernel_rfl) (fun _ _ _ h => h) (Or.inl ⟨by rfl, ?hy11vt⟩) (by assumption) ?rest11vt
        case hy11vt => (intro wq hSq; (try dsimp only at hSq); go_simp; try with_reducible rfl)
        try simp only [Act.put, List.setIfInBounds_toArray, List.set_cons_zero, List.set_cons_succ]
        refine wpAnyH_ready (rs := [9]) (by kernel_rfl) (by simp) ?_
        refine AllReadyH.cons rfl (fun K hK => ?_) AllReadyH.nil
        go_simp
        go_wp2_with (go_at_call 7; refine (EQ.out _ hBw7).mono ?_; rintro e w8 ⟨rfl, hbw8⟩; have hBw8 : Below w.heap.size w w8 := hBw7.trans (hbw8.mono (by omega)); have hzw8 : w.heap.size + 4 ≤ w8.heap.size := Nat.le_trans hzw7 hbw8.size; have Q1w8 := Lib.hid ((hbw8.block w.heap.size (by omega)).trans Q1w7.out); have Q2w8 := Lib.hid ((hbw8.block (w.heap.size + 1) (by omega)).trans Q2w7.out); have Q3w8 := Lib.hid ((hbw8.block (w.heap.size + 2) (by omega)).trans Q3w7.out))
        refine hK.out _ _ ?_ (fun hHeldN => ?_)
        · (try dsimp only); exact ⟨fiveT Q1w8.out, fiveT Q2w8.out, fiveT Q3w8.out⟩
        clear hK K hHeld
        have hHeld := hHeldN
        clear hHeldN
        refine wpAnyH_ready (rs := [12]) (by kernel_rfl) (by simp) ?_
        refine AllReadyH.cons rfl (fun K hK => ?_) AllReadyH.nil
        go_simp
        go_wp2_with (go_at_call 8; refine (SM.out _ hBw8).mono ?_; rintro e w9 ⟨rfl, hbw9⟩; have hBw9 : Below w.heap.size w w9 := hBw8.trans (hbw9.mono (by omega)); have hzw9 : w.heap.size + 4 ≤ w9.heap.size := Nat.le_trans hzw8 hbw9.size; have Q1w9 := Lib.hid ((hbw9.block w.heap.size (by omega)).trans Q1w8.out); have Q2w9 := Lib.hid ((hbw9.block (w.heap.size + 1) (by omega)).trans Q2w8.out); have Q3w9 := Lib.hid ((hbw9.block (w.heap.size + 2) (by omega)).trans Q3w8.out))
        refine hK.out _ _ ?_ (fun hHeldN => ?_)
        · (try dsimp only); exact ⟨fiveT Q1w9.out, fiveT Q2w9.out, fiveT Q3w9.out⟩
        clear hK K hHeld
        have hHeld := hHeldN
        clear hHeldN
        refine wpAnyH_take (i := 13) (oi := { dst := some 65, op := Op.binOp BinOp.eql 4 (Operand.tmp 61) (Operand.tmp 64) 4, type := 4, pos := "law.go:122", after := #[{ on := 9, ground := Ground.data }, { on := 12, ground := Ground.data }, { on := 6, ground := Ground.guard }], guard := some (6, true) }) (v := ?v13vt) rfl (by kernel_rfl) (by kernel_rfl) (by kernel_rfl) (fun _ _ _ h => h) (Or.inl ⟨by rfl, ?hy13vt⟩) (by assumption) ?rest13vt
        case hy13vt => (intro wq hSq; (try dsimp only at hSq); go_simp; try with_reducible rfl)
        try simp only [Act.put, List.setIfInBounds_toArray, List.set_cons_zero, List.set_cons_succ]
        refine wpAnyH_take (i := 14) (oi := { dst := some 66, op := Op.pick (Operand.tmp 58) (Operand.tmp 65) (Operand.const (Value.bool false)), type := 4, pos := "law.go:122", after := #[{ on := 6, ground := Ground.data }, { on := 13, ground := Ground.data }], guard := none }) (v := ?v14vt) rfl (by kernel_rfl) (by kernel_rfl) (by kernel_rfl) (fun _ _ _ h => h) (Or.inl ⟨by rfl, ?hy14vt⟩) (by assumption) ?rest14vt
        case hy14vt => (intro wq hSq; (try dsimp only at hSq); go_simp; try with_reducible rfl)
        try simp only [Act.put, List.setIfInBounds_toArray, List.set_cons_zero, List.set_cons_succ]
        refine wpAnyH_take (i := 15) (oi := { dst := some 67, op := Op.move (Operand.tmp 66), type := 4, pos := "law.go:122", after := #[{ on := 14, ground := Ground.data }, { on := 12, ground := Ground.chain }], guard := none }) (v := ?v15vt) rfl (by kernel_rfl) (by kernel_rfl) (by kernel_rfl) (fun _ _ _ h => h) (Or.inl ⟨by rfl, ?hy15vt⟩) (by assumption) ?rest15vt
        case hy15vt => (intro wq hSq; (try dsimp only at hSq); go_simp; try with_reducible rfl)
        try simp only [Act.put, List.setIfInBounds_toArray, List.set_cons_zero, List.set_cons_succ]
        refine wpAnyH_ready (rs := [16]) (by kernel_rfl) (by simp) ?_
        refine AllReadyH.cons rfl (fun K hK => ?_) AllReadyH.nil
        go_simp
        go_wp2_with (go_at_call 5; refine (HA.out _).mono ?_; rintro e w10 ⟨rfl, hbw10⟩; have hBw10 : Below w.heap.size w w10 := hBw9.trans (hbw10.mono (by omega)); have hzw10 : w.heap.size + 4 ≤ w10.heap.size := Nat.le_trans hzw9 hbw10.size; have Q1w10 := Lib.hid ((hbw10.block w.heap.size (by omega)).trans Q1w9.out); have Q2w10 := Lib.hid ((hbw10.block (w.heap.size + 1) (by omega)).trans Q2w9.out); have Q3w10 := Lib.hid ((hbw10.block (w.heap.size + 2) (by omega)).trans Q3w9.out))
        refine hK.out _ _ ?_ (fun hHeldN => ?_)
        · (try dsimp only); exact ⟨fiveT Q1w10.out, fiveT Q2w10.out, fiveT Q3w10.out⟩
        clear hK K hHeld
        have hHeld := hHeldN
        clear hHeldN
        refine wpAnyH_take (i := 17) (oi := { dst := some 69, op := Op.pick (Operand.tmp 67) (Operand.tmp 68) (Operand.const (Value.bool false)), type := 4, pos := "law.go:122", after := #[{ on := 15, ground := Ground.data }, { on := 16, ground := Ground.data }], guard := none }) (v := ?v17vt) rfl (by kernel_rfl) (by kernel_rfl) (by kernel_rfl) (fun _ _ _ h => h) (Or.inl ⟨by rfl, ?hy17vt⟩) (by assumption) ?rest17vt
        case hy17vt => (intro wq hSq; (try dsimp only at hSq); go_simp; try with_reducible rfl)
        try simp only [Act.put, List.setIfInBounds_toArray, List.set_cons_zero, List.set_cons_succ]
        refine wpAnyH_take (i := 18) (oi := { dst := some 6, op := Op.assign (Operand.tmp 69), type := 4, pos := "law.go:122", after := #[{ on := 17, ground := Ground.data }, { on := 16, ground := Ground.chain }, { on := 0, ground := Ground.phase }, { on := 1, ground := Ground.phase }, { on := 2, ground := Ground.phase }, { on := 3, ground := Ground.phase }, { on := 4, ground := Ground.phase }, { on := 5, ground := Ground.phase }, { on := 6, ground := Ground.phase }, { on := 7, ground := Ground.phase }, { on := 8, ground := Ground.phase }, { on := 9, ground := Ground.phase }, { on := 10, ground := Ground.phase }, { on := 11, ground := Ground.phase }, { on := 12, ground := Ground.phase }, { on := 13, ground := Ground.phase }, { on := 14, ground := Ground.phase }, { on := 15, ground := Ground.phase }, { on := 16, ground := Ground.phase }, { on := 17, ground := Ground.phase }], guard := none }) (v := ?v18vt) rfl (by kernel_rfl) (by kernel_rfl) (by kernel_rfl) (fun _ _ _ h => h) (Or.inl ⟨by rfl, ?hy18vt⟩) (by assumption) ?rest18vt
        case hy18vt => (intro wq hSq; (try dsimp only at hSq); go_simp; try with_reducible rfl)
        try simp only [Act.put, List.setIfInBounds_toArray, List.set_cons_zero, List.set_cons_succ]
        refine wpAnyH_done (by kernel_rfl) ?_ _
        clear hHeld
        go_wp2_with fail
        go_ret
        exact ⟨rfl, hBw10⟩
      · have hq : q = false := by rw [HE.out]; exact decide_eq_false hx0
        subst hq
        have dx : (x == 0) = false := by simp [hx0]
        clear hx0
        refine wp_region_held_drew (S := (fun w' => (w'.cell? ⟨w.heap.size, 0, none⟩ = some (.int .i64 t1.o) ∧ w'.cell? ⟨w.heap.size, 1, none⟩ = some (.string (bs t1.x)) ∧ w'.cell? ⟨w.heap.size, 2, none⟩ = some (.int .i64 t1.i) ∧ w'.cell? ⟨w.heap.size, 3, none⟩ = some (.slice p3a t1.s.length q3a) ∧ w'.cell? ⟨w.heap.size, 4, none⟩ = some (.slice p4a t1.l.length q4a)) ∧ (w'.cell? ⟨w.heap.size + 1, 0, none⟩ = some (.int .i64 t2.o) ∧ w'.cell? ⟨w.heap.size + 1, 1, none⟩ = some (.string (bs t2.x)) ∧ w'.cell? ⟨w.heap.size + 1, 2, none⟩ = some (.int .i64 t2.i) ∧ w'.cell? ⟨w.heap.size + 1, 3, none⟩ = some (.slice p3b t2.s.length q3b) ∧ w'.cell? ⟨w.heap.size + 1, 4, none⟩ = some (.slice p4b t2.l.length q4b)) ∧ (w'.cell? ⟨w.heap.size + 2, 0, none⟩ = some (.int .i64 t3.o) ∧ w'.cell? ⟨w.heap.size + 2, 1, none⟩ = some (.string (bs t3.x)) ∧ w'.cell? ⟨w.heap.size + 2, 2, none⟩ = some (.int .i64 t3.i) ∧ w'.cell? ⟨w.heap.size + 2, 3, none⟩ = some (.slice p3c t3.s.length q3c) ∧ w'.cell? ⟨w.heap.size + 2, 4, none⟩ = some (.slice p4c t3.l.length q4c)))) (by kernel_rfl) ?_ (fun hHeld => ?_)
        · exact ⟨fiveT Q1e.out, fiveT Q2e.out, fiveT Q3e.out⟩
        refine wpAnyH_take (i := 0) (oi := { dst := some 52, op := Op.move (Operand.tmp 7), type := 3, pos := "law.go:122", after := #[], guard := none }) (v := ?v0vf) rfl (by kernel_rfl) (by kernel_rfl) (by kernel_rfl) (fun _ _ _ h => h) (Or.inl ⟨by rfl, ?hy0vf⟩) (by assumption) ?rest0vf
        case hy0vf => (intro wq hSq; (try dsimp only at hSq); go_simp; try with_reducible rfl)
        try simp only [Act.put, List.setIfInBounds_toArray, List.set_cons_zero, List.set_cons_succ]
        refine wpAnyH_take (i := 1) (oi := { dst := some 53, op := Op.binOp BinOp.eql 3 (Operand.tmp 52) (Operand.const (Value.int IntKind.i64 0)) 3, type := 4, pos := "law.go:122", after := #[{ on := 0, ground := Ground.data }], guard := none }) (v := ?v1vf) rfl (by kernel_rfl) (by kernel_rfl) (by kernel_rfl) (fun _ _ _ h => h) (Or.inl ⟨by rfl, ?hy1vf⟩) (by assumption) ?rest1vf
        case hy1vf => (intro wq hSq; (try dsimp only at hSq); go_simp; try with_reducible rfl)
        try simp only [Act.put, List.setIfInBounds_toArray, List.set_cons_zero, List.set_cons_succ]
        refine wpAnyH_take (i := 2) (oi := { dst := some 54, op := Op.load 25 (Operand.tmp 3), type := 25, pos := "law.go:122", after := #[], guard := none }) (v := ?v2vf) rfl (by kernel_rfl) (by kernel_rfl) (by kernel_rfl) (fun _ _ _ h => h) (Or.inl ⟨by rfl, ?hy2vf⟩) (by assumption) ?rest2vf
        case hy2vf => (intro wq hSq; (try dsimp only at hSq); go_simp; try with_reducible rfl)
        try simp only [Act.put, List.setIfInBounds_toArray, List.set_cons_zero, List.set_cons_succ]
        refine wpAnyH_take (i := 3) (oi := { dst := some 55, op := Op.load 25 (Operand.tmp 4), type := 25, pos := "law.go:122", after := #[], guard := none }) (v := ?v3vf) rfl (by kernel_rfl) (by kernel_rfl) (by kernel_rfl) (fun _ _ _ h => h) (Or.inl ⟨by rfl, ?hy3vf⟩) (by assumption) ?rest3vf
        case hy3vf => (intro wq hSq; (try dsimp only at hSq); go_simp; try with_reducible rfl)
        try simp only [Act.put, List.setIfInBounds_toArray, List.set_cons_zero, List.set_cons_succ]
        refine wpAnyH_ready (rs := [4]) (by kernel_rfl) (by simp) ?_
        refine AllReadyH.cons rfl (fun K hK => ?_) AllReadyH.nil
        go_simp
        go_wp2_with (go_at_call 7; refine (EQ.out _ hB6).mono ?_; rintro e w7 ⟨rfl, hbw7⟩; have hBw7 : Below w.heap.size w w7 := hB6.trans (hbw7.mono (by omega)); have hzw7 : w.heap.size + 4 ≤ w7.heap.size := Nat.le_trans hz6 hbw7.size; have Q1w7 := Lib.hid ((hbw7.block w.heap.size (by omega)).trans Q1e.out); have Q2w7 := Lib.hid ((hbw7.block (w.heap.size + 1) (by omega)).trans Q2e.out); have Q3w7 := Lib.hid ((hbw7.block (w.heap.size + 2) (by omega)).trans Q3e.out))
        refine hK.out _ _ ?_ (fun hHeldN => ?_)
        · (try dsimp only); exact ⟨fiveT Q1w7.out, fiveT Q2w7.out, fiveT Q3w7.out⟩
        clear hK K hHeld
        have hHeld := hHeldN
        clear hHeldN
        refine wpAnyH_take (i := 5) (oi := { dst := some 57, op := Op.binOp BinOp.eql 4 (Operand.tmp 53) (Operand.tmp 56) 4, type := 4, pos := "law.go:122", after := #[{ on := 1, ground := Ground.data }, { on := 4, ground := Ground.data }], guard := none }) (v := ?v5vf) rfl (by kernel_rfl) (by kernel_rfl) (by kernel_rfl) (fun _ _ _ h => h) (Or.inl ⟨by rfl, ?hy5vf⟩) (by assumption) ?rest5vf
        case hy5vf => (intro wq hSq; (try dsimp only at hSq); go_simp; try with_reducible rfl)
        try simp only [Act.put, List.setIfInBounds_toArray, List.set_cons_zero, List.set_cons_succ]
        refine wpAnyH_take (i := 6) (oi := { dst := some 58, op := Op.move (Operand.tmp 57), type := 4, pos := "law.go:122", after := #[{ on := 5, ground := Ground.data }, { on := 4, ground := Ground.chain }], guard := none }) (v := ?v6vf) rfl (by kernel_rfl) (by kernel_rfl) (by kernel_rfl) (fun _ _ _ h => h) (Or.inl ⟨by rfl, ?hy6vf⟩) (by assumption) ?rest6vf
        case hy6vf => (intro wq hSq; (try dsimp only at hSq); go_simp; try with_reducible rfl)
        try simp only [Act.put, List.setIfInBounds_toArray, List.set_cons_zero, List.set_cons_succ]
        refine wpAnyH_take (i := 7) (oi := { dst := some 59, op := Op.load 25 (Operand.tmp 3), type := 25, pos := "law.go:122", after := #[{ on := 6, ground := Ground.guard }], guard := some (6, true) }) (v := ?v7vf) rfl (by kernel_rfl) (by kernel_rfl) (by kernel_rfl) (fun _ _ _ h => h) (Or.inl ⟨by rfl, ?hy7vf⟩) (by assumption) ?rest7vf
        case hy7vf => (intro wq hSq; (try dsimp only at hSq); go_simp; try with_reducible rfl)
        try simp only [Act.put, List.setIfInBounds_toArray, List.set_cons_zero, List.set_cons_succ]
        refine wpAnyH_take (i := 8) (oi := { dst := some 60, op := Op.load 25 (Operand.tmp 4), type := 25, pos := "law.go:122", after := #[{ on := 6, ground := Ground.guard }], guard := some (6, true) }) (v := ?v8vf) rfl (by kernel_rfl) (by kernel_rfl) (by kernel_rfl) (fun _ _ _ h => h) (Or.inl ⟨by rfl, ?hy8vf⟩) (by assumption) ?rest8vf
        case hy8vf => (intro wq hSq; (try dsimp only at hSq); go_simp; try with_reducible rfl)
        try simp only [Act.put, List.setIfInBounds_toArray, List.set_cons_zero, List.set_cons_succ]
        refine wpAnyH_take (i := 10) (oi := { dst := some 62, op := Op.load 25 (Operand.tmp 3), type := 25, pos := "law.go:122", after := #[{ on := 6, ground := Ground.guard }], guard := some (6, true) }) (v := ?v10vf) rfl (by kernel_rfl) (by kernel_rfl) (by kernel_rfl) (fun _ _ _ h => h) (Or.inl ⟨by rfl, ?hy10vf⟩) (by assumption) ?rest10vf
        case hy10vf => (intro wq hSq; (try dsimp only at hSq); go_simp; try with_reducible rfl)
        try simp only [Act.put, List.setIfInBounds_toArray, List.set_cons_zero, List.set_cons_succ]
        refine wpAnyH_take (i := 11) (oi := { dst := some 63, op := Op.load 25 (Operand.tmp 4), type := 25, pos := "law.go:122", after := #[{ on := 6, ground := Ground.guard }], guard := some (6, true) }) (v := ?v11vf) rfl (by kernel_rfl) (by kernel_rfl) (by kernel_rfl) (fun _ _ _ h => h) (Or.inl ⟨by rfl, ?hy11vf⟩) (by assumption) ?rest11vf
        case hy11vf => (intro wq hSq; (try dsimp only at hSq); go_simp; try with_reducible rfl)
        try simp only [Act.put, List.setIfInBounds_toArray, List.set_cons_zero, List.set_cons_succ]
        refine wpAnyH_ready (rs := [9]) (by kernel_rfl) (by simp) ?_
        refine AllReadyH.cons rfl (fun K hK => ?_) AllReadyH.nil
        go_simp
        go_wp2_with (go_at_call 7; refine (EQ.out _ hBw7).mono ?_; rintro e w8 ⟨rfl, hbw8⟩; have hBw8 : Below w.heap.size w w8 := hBw7.trans (hbw8.mono (by omega)); have hzw8 : w.heap.size + 4 ≤ w8.heap.size := Nat.le_trans hzw7 hbw8.size; have Q1w8 := Lib.hid ((hbw8.block w.heap.size (by omega)).trans Q1w7.out); have Q2w8 := Lib.hid ((hbw8.block (w.heap.size + 1) (by omega)).trans Q2w7.out); have Q3w8 := Lib.hid ((hbw8.block (w.heap.size + 2) (by omega)).trans Q3w7.out))
        refine hK.out _ _ ?_ (fun hHeldN => ?_)
        · (try dsimp only); exact ⟨fiveT Q1w8.out, fiveT Q2w8.out, fiveT Q3w8.out⟩
        clear hK K hHeld
        have hHeld := hHeldN
        clear hHeldN
        refine wpAnyH_ready (rs := [12]) (by kernel_rfl) (by simp) ?_
        refine AllReadyH.cons rfl (fun K hK => ?_) AllReadyH.nil
        go_simp
        go_wp2_with (go_at_call 8; refine (SM.out _ hBw8).mono ?_; rintro e w9 ⟨rfl, hbw9⟩; have hBw9 : Below w.heap.size w w9 := hBw8.trans (hbw9.mono (by omega)); have hzw9 : w.heap.size + 4 ≤ w9.heap.size := Nat.le_trans hzw8 hbw9.size; have Q1w9 := Lib.hid ((hbw9.block w.heap.size (by omega)).trans Q1w8.out); have Q2w9 := Lib.hid ((hbw9.block (w.heap.size + 1) (by omega)).trans Q2w8.out); have Q3w9 := Lib.hid ((hbw9.block (w.heap.size + 2) (by omega)).trans Q3w8.out))
        refine hK.out _ _ ?_ (fun hHeldN => ?_)
        · (try dsimp only); exact ⟨fiveT Q1w9.out, fiveT Q2w9.out, fiveT Q3w9.out⟩
        clear hK K hHeld
        have hHeld := hHeldN
        clear hHeldN
        refine wpAnyH_take (i := 13) (oi := { dst := some 65, op := Op.binOp BinOp.eql 4 (Operand.tmp 61) (Operand.tmp 64) 4, type := 4, pos := "law.go:122", after := #[{ on := 9, ground := Ground.data }, { on := 12, ground := Ground.data }, { on := 6, ground := Ground.guard }], guard := some (6, true) }) (v := ?v13vf) rfl (by kernel_rfl) (by kernel_rfl) (by kernel_rfl) (fun _ _ _ h => h) (Or.inl ⟨by rfl, ?hy13vf⟩) (by assumption) ?rest13vf
        case hy13vf => (intro wq hSq; (try dsimp only at hSq); go_simp; try with_reducible rfl)
        try simp only [Act.put, List.setIfInBounds_toArray, List.set_cons_zero, List.set_cons_succ]
        refine wpAnyH_take (i := 14) (oi := { dst := some 66, op := Op.pick (Operand.tmp 58) (Operand.tmp 65) (Operand.const (Value.bool false)), type := 4, pos := "law.go:122", after := #[{ on := 6, ground := Ground.data }, { on := 13, ground := Ground.data }], guard := none }) (v := ?v14vf) rfl (by kernel_rfl) (by kernel_rfl) (by kernel_rfl) (fun _ _ _ h => h) (Or.inl ⟨by rfl, ?hy14vf⟩) (by assumption) ?rest14vf
        case hy14vf => (intro wq hSq; (try dsimp only at hSq); go_simp; try with_reducible rfl)
        try simp only [Act.put, List.setIfInBounds_toArray, List.set_cons_zero, List.set_cons_succ]
        refine wpAnyH_take (i := 15) (oi := { dst := some 67, op := Op.move (Operand.tmp 66), type := 4, pos := "law.go:122", after := #[{ on := 14, ground := Ground.data }, { on := 12, ground := Ground.chain }], guard := none }) (v := ?v15vf) rfl (by kernel_rfl) (by kernel_rfl) (by kernel_rfl) (fun _ _ _ h => h) (Or.inl ⟨by rfl, ?hy15vf⟩) (by assumption) ?rest15vf
        case hy15vf => (intro wq hSq; (try dsimp only at hSq); go_simp; try with_reducible rfl)
        try simp only [Act.put, List.setIfInBounds_toArray, List.set_cons_zero, List.set_cons_succ]
        refine wpAnyH_ready (rs := [16]) (by kernel_rfl) (by simp) ?_
        refine AllReadyH.cons rfl (fun K hK => ?_) AllReadyH.nil
        go_simp
        go_wp2_with (go_at_call 5; refine (HA.out _).mono ?_; rintro e w10 ⟨rfl, hbw10⟩; have hBw10 : Below w.heap.size w w10 := hBw9.trans (hbw10.mono (by omega)); have hzw10 : w.heap.size + 4 ≤ w10.heap.size := Nat.le_trans hzw9 hbw10.size; have Q1w10 := Lib.hid ((hbw10.block w.heap.size (by omega)).trans Q1w9.out); have Q2w10 := Lib.hid ((hbw10.block (w.heap.size + 1) (by omega)).trans Q2w9.out); have Q3w10 := Lib.hid ((hbw10.block (w.heap.size + 2) (by omega)).trans Q3w9.out))
        refine hK.out _ _ ?_ (fun hHeldN => ?_)
        · (try dsimp only); exact ⟨fiveT Q1w10.out, fiveT Q2w10.out, fiveT Q3w10.out⟩
        clear hK K hHeld
        have hHeld := hHeldN
        clear hHeldN
        refine wpAnyH_take (i := 17) (oi := { dst := some 69, op := Op.pick (Operand.tmp 67) (Operand.tmp 68) (Operand.const (Value.bool false)), type := 4, pos := "law.go:122", after := #[{ on := 15, ground := Ground.data }, { on := 16, ground := Ground.data }], guard := none }) (v := ?v17vf) rfl (by kernel_rfl) (by kernel_rfl) (by kernel_rfl) (fun _ _ _ h => h) (Or.inl ⟨by rfl, ?hy17vf⟩) (by assumption) ?rest17vf
        case hy17vf => (intro wq hSq; (try dsimp only at hSq); go_simp; try with_reducible rfl)
        try simp only [Act.put, List.setIfInBounds_toArray, List.set_cons_zero, List.set_cons_succ]
        refine wpAnyH_take (i := 18) (oi := { dst := some 6, op := Op.assign (Operand.tmp 69), type := 4, pos := "law.go:122", after := #[{ on := 17, ground := Ground.data }, { on := 16, ground := Ground.chain }, { on := 0, ground := Ground.phase }, { on := 1, ground := Ground.phase }, { on := 2, ground := Ground.phase }, { on := 3, ground := Ground.phase }, { on := 4, ground := Ground.phase }, { on := 5, ground := Ground.phase }, { on := 6, ground := Ground.phase }, { on := 7, ground := Ground.phase }, { on := 8, ground := Ground.phase }, { on := 9, ground := Ground.phase }, { on := 10, ground := Ground.phase }, { on := 11, ground := Ground.phase }, { on := 12, ground := Ground.phase }, { on := 13, ground := Ground.phase }, { on := 14, ground := Ground.phase }, { on := 15, ground := Ground.phase }, { on := 16, ground := Ground.phase }, { on := 17, ground := Ground.phase }], guard := none }) (v := ?v18vf) rfl (by kernel_rfl) (by kernel_rfl) (by kernel_rfl) (fun _ _ _ h => h) (Or.inl ⟨by rfl, ?hy18vf⟩) (by assumption) ?rest18vf
        case hy18vf => (intro wq hSq; (try dsimp only at hSq); go_simp; try with_reducible rfl)
        try simp only [Act.put, List.setIfInBounds_toArray, List.set_cons_zero, List.set_cons_succ]
        refine wpAnyH_done (by kernel_rfl) ?_ _
        clear hHeld
        go_wp2_with fail
        go_ret
        exact ⟨rfl, hBw10⟩
end Go.Proofs.YtkmoepabnnjoaaaDoor

