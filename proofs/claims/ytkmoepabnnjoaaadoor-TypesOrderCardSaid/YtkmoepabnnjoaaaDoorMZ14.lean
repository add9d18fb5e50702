/- types.Equal 7; EqualFunc of types 22 and the law's Same 8. -/
import Derived.Test.YtkmoepabnnjoaaaDoorMZ13
namespace Go.Proofs.YtkmoepabnnjoaaaDoor
open Go.RowKit Go.WideMaps Go.Shelf
attribute [local go_sem] Oper.semAt_some

theorem TyM.placed {w w' : World} {d k : Nat} {t : TY} {p3 p4 : Option Addr} {q3 q4 : Nat} {fr : Nat × Nat} (h : TyM w d (.agg #[.int .i64 t.o, .string (bs t.x), .int .i64 t.i, .slice p3 t.s.length q3, .slice p4 t.l.length q4]) t) (hb : Below w.heap.size w w')
    (hr : w'.heap[k]? = some (.cells #[.int .i64 t.o, .string (bs t.x), .int .i64 t.i, .slice p3 t.s.length q3, .slice p4 t.l.length q4] 25 fr)) : TyP w' d k 0 t := by
  obtain ⟨vs', va', e2, h1, h2, h3⟩ := h
  injection e2 with e2
  simp at e2
  obtain ⟨rfl, rfl⟩ := e2
  obtain ⟨x0, x1, x2, x3, x4⟩ := fiveT hr
  exact ⟨(Array.getElem?_eq_some_iff.1 hr).1, p3, q3, p4, q4, ⟨x0, x1, x2, x3, x4⟩, h1, h2.below hb (Nat.le_refl _), h3.below hb⟩

set_option maxRecDepth 100000 in
set_option maxHeartbeats 2000000 in
theorem equalT_any {d : Nat} (v v' : Value) (t t' : TY) (w : World) (h : TyM w d v t) (h' : TyM w d v' t') :
    Calls Tryd.prog 7 #[v, v'] w fun e w' => e = .returned (.bool (eqT t t')) ∧ Below w.heap.size w w' := by
  have hh := h
  have hh' := h'
  obtain ⟨vs, va, rfl, _, _, _⟩ := hh
  obtain ⟨vs', va', rfl, _, _, _⟩ := hh'
  obtain ⟨p3, q3, p4, q4, rfl, rfl⟩ := h.forms
  obtain ⟨p3', q3', p4', q4', rfl, rfl⟩ := h'.forms
  have ha := below_alloc w (Obj.cells #[.int .i64 t.o, .string (bs t.x), .int .i64 t.i, .slice p3 t.s.length q3, .slice p4 t.l.length q4] 25)
  have hb := below_alloc (w.alloc (Obj.cells #[.int .i64 t.o, .string (bs t.x), .int .i64 t.i, .slice p3 t.s.length q3, .slice p4 t.l.length q4] 25)) (Obj.cells #[.int .i64 t'.o, .string (bs t'.x), .int .i64 t'.i, .slice p3' t'.s.length q3', .slice p4' t'.l.length q4'] 25)
  have r1 := heap_alloc_new w (Obj.cells #[.int .i64 t.o, .string (bs t.x), .int .i64 t.i, .slice p3 t.s.length q3, .slice p4 t.l.length q4] 25)
  have r2 := heap_alloc_new (w.alloc (Obj.cells #[.int .i64 t.o, .string (bs t.x), .int .i64 t.i, .slice p3 t.s.length q3, .slice p4 t.l.length q4] 25)) (Obj.cells #[.int .i64 t'.o, .string (bs t'.x), .int .i64 t'.i, .slice p3' t'.s.length q3', .slice p4' t'.l.length q4'] 25)
  have hz : (w.alloc (Obj.cells #[.int .i64 t.o, .string (bs t.x), .int .i64 t.i, .slice p3 t.s.length q3, .slice p4 t.l.length q4] 25)).heap.size = w.heap.size + 1 := by simp
  rw [hz] at r2
  have r1' := (hb.block w.heap.size (by omega)).trans r1
  have hB := ha.trans (hb.mono (by omega))
  have EC := Lib.hid (eqC_any d w.heap.size 0 (w.heap.size + 1) 0 t t' _ (h.placed hB r1') (h'.placed hB r2))
  have HB := Lib.hid hB
  clear ha hb r1 r2 r1' hB h h' hz
  go_enter Tryd.func7, Tryd.ntmps7
  go_wp2_with fail
  refine EC.out.mono ?_
  rintro e w2 ⟨rfl, hb5⟩
  go_wp2_with fail
  go_ret
  exact ⟨rfl, HB.out.trans (hb5.mono HB.out.size)⟩

def SameC (d : Nat) : Prop :=
  ∀ (v v' : Value) (t t' : TY) (w : World), TyM w d v t → TyM w d v' t' → Calls Tryd.prog 8 #[v, v'] w fun e w' => e = .returned (.bool (eqT t t')) ∧ Below w.heap.size w w'
def SameL (d : Nat) : Prop :=
  ∀ (v v' : Value) (l l' : List TY) (w : World), SlTy w d v l → SlTy w d v' l' → Calls Tryd.prog 22 #[v, v', .func (.func 8) #[] #[]] w fun e w' => (∃ r : Bool, e = .returned (.bool r) ∧ (r = true ↔ l = l')) ∧ Below w.heap.size w w'

set_option maxRecDepth 100000 in
set_option maxHeartbeats 2000000 in
theorem sameL_zero : SameL 0 := by
  intro v v' l l' w h h'
  obtain ⟨⟨a, c, rfl⟩, rfl⟩ := h
  obtain ⟨⟨a', c', rfl⟩, rfl⟩ := h'
  go_enter Tryd.func22, Tryd.ntmps22
  go_wp2_with fail
  go_loopw [17] (fun i wr => i = .int .i64 0 ∧ Below w.heap.size w wr) (fun _ _ => 0)
  case atStart => exact ⟨rfl, Below.refl _ _⟩
  case round =>
    obtain ⟨rfl, hB⟩ := hrel
    go_wp2_with fail
    go_ret
    exact ⟨⟨true, rfl, by simp⟩, hB⟩

set_option maxRecDepth 100000 in
set_option maxHeartbeats 2000000 in
theorem sameL_step {d : Nat} (HC : SameC d) : SameL (d + 1) := by
  intro v v' l l' w h h'
  have HL := Lib.hid h
  have HL' := Lib.hid h'
  obtain ⟨hl1, a1, c1, rfl, _⟩ := h
  obtain ⟨hl2, a2, c2, rfl, _⟩ := h'
  unfold maxLen at hl1 hl2
  go_enter Tryd.func22, Tryd.ntmps22
  by_cases hlen : l.length = l'.length
  · have d3 : (((l.length : Nat) : Int) != ((l'.length : Nat) : Int)) = false := by simp [hlen]
    have E3 := Lib.hid hlen
    have hI0 : Hid (∀ j, j < 0 → l.getD j ty0 = l'.getD j ty0) := fun j hj => absurd hj (by omega)
    clear hlen
    go_wp2_with fail
    go_loopw [17] (fun i wr => ∃ k : Nat, k ≤ l.length ∧ i = .int .i64 k ∧ Hid (∀ j, j < k → l.getD j ty0 = l'.getD j ty0) ∧ Below w.heap.size w wr) (fun i _ => l.length - (intOf i).toNat)
    case atStart => exact ⟨0, by omega, rfl, hI0, Below.refl _ _⟩
    case round =>
      obtain ⟨k, hk, rfl, hi, hB⟩ := hrel
      clear hI0
      by_cases hlt : k < l.length
      · have hlt2 : k < l'.length := by have := E3.out; omega
        obtain ⟨b1, o1, vs, va, rfl, hb1, g0, g1, g2, g3, g4, ht⟩ := HL.out.at hlt
        obtain ⟨p3, q3, p4, q4, rfl, rfl⟩ := ht.forms
        have k1 : ∀ {i : Nat} {u : Value}, w.cell? ⟨b1, i, none⟩ = some u → wr.cell? ⟨b1, i, none⟩ = some u := fun h => (hB.cell (p := ⟨b1, _, none⟩) hb1).trans h
        have e0 := k1 g0
        have e1 := k1 g1
        have e2 := k1 g2
        have e3 := k1 g3
        have e4 := k1 g4
        clear g0 g1 g2 g3 g4 k1
        obtain ⟨b2, o2, vs', va', rfl, hb2, g0, g1, g2, g3, g4, ht'⟩ := HL'.out.at hlt2
        obtain ⟨p3', q3', p4', q4', rfl, rfl⟩ := ht'.forms
        have hds : Hid (eqT (l.getD k ty0) (l'.getD k ty0) = true ↔ l.getD k ty0 = l'.getD k ty0) := eqT_iff _ _
        have hne : Hid (l.getD k ty0 ≠ l'.getD k ty0 → l ≠ l') := fun h e => h (by rw [e])
        have hnx : Hid (l.getD k ty0 = l'.getD k ty0 → ∀ j, j < k + 1 → l.getD j ty0 = l'.getD j ty0) := fun h j hj => by
          by_cases e : j = k
          · subst e; exact h
          · exact hi.out j (by omega)
        generalize l.getD k ty0 = t at *
        generalize l'.getD k ty0 = t' at *
        have ha := below_alloc wr (Obj.cells #[.int .i64 t.o, .string (bs t.x), .int .i64 t.i, .slice p3 t.s.length q3, .slice p4 t.l.length q4] 25)
        have k2 : ∀ {i : Nat} {u : Value}, w.cell? ⟨b2, i, none⟩ = some u → (wr.alloc (Obj.cells #[.int .i64 t.o, .string (bs t.x), .int .i64 t.i, .slice p3 t.s.length q3, .slice p4 t.l.length q4] 25)).cell? ⟨b2, i, none⟩ = some u := fun h => (ha.cell (p := ⟨b2, _, none⟩) (by simp only; have := hB.size; omega)).trans ((hB.cell (p := ⟨b2, _, none⟩) hb2).trans h)
        have f0 := k2 g0
        have f1 := k2 g1
        have f2 := k2 g2
        have f3 := k2 g3
        have f4 := k2 g4
        have hb := below_alloc (wr.alloc (Obj.cells #[.int .i64 t.o, .string (bs t.x), .int .i64 t.i, .slice p3 t.s.length q3, .slice p4 t.l.length q4] 25)) (Obj.cells #[.int .i64 t'.o, .string (bs t'.x), .int .i64 t'.i, .slice p3' t'.s.length q3', .slice p4' t'.l.length q4'] 25)
        have r1 := heap_alloc_new wr (Obj.cells #[.int .i64 t.o, .string (bs t.x), .int .i64 t.i, .slice p3 t.s.length q3, .slice p4 t.l.length q4] 25)
        have r2 := heap_alloc_new (wr.alloc (Obj.cells #[.int .i64 t.o, .string (bs t.x), .int .i64 t.i, .slice p3 t.s.length q3, .slice p4 t.l.length q4] 25)) (Obj.cells #[.int .i64 t'.o, .string (bs t'.x), .int .i64 t'.i, .slice p3' t'.s.length q3', .slice p4' t'.l.length q4'] 25)
        have hz : (wr.alloc (Obj.cells #[.int .i64 t.o, .string (bs t.x), .int .i64 t.i, .slice p3 t.s.length q3, .slice p4 t.l.length q4] 25)).heap.size = wr.heap.size + 1 := by simp
        rw [hz] at r2
        have r1' := (hb.block wr.heap.size (by omega)).trans r1
        obtain ⟨x0, x1, x2, x3, x4⟩ := fiveT r1'
        obtain ⟨y0, y1, y2, y3, y4⟩ := fiveT r2
        have hBB := hB.trans ((ha.trans (hb.mono (by omega))).mono hB.size)
        have SC := Lib.hid (HC _ _ t t' _ (ht.below hBB) (ht'.below hBB))
        have HBB := Lib.hid hBB
        have hsz := hBB.size
        clear ht ht' g0 g1 g2 g3 g4 k2 r1 r2 r1' ha hb hBB
        generalize eqT t t' = q at *
        go_wp2_with fail
        refine SC.out.mono ?_
        rintro e w2 ⟨rfl, hb5⟩
        have hB2 := HBB.out.trans (hb5.mono hsz)
        cases q with
        | false =>
          have hf : Hid (l ≠ l') := hne.out fun e => by have h := hds.out.2 e; cases h
          go_wp2_with fail
          go_ret
          exact ⟨⟨false, rfl, ⟨(fun h => by cases h), (fun e => absurd e hf.out)⟩⟩, hB2⟩
        | true =>
          have hn : Hid (∀ j, j < k + 1 → l.getD j ty0 = l'.getD j ty0) := hnx.out (hds.out.1 rfl)
          go_wp2_with fail
          go_roundw
          case rel => exact ⟨k + 1, by omega, by go_num, hn, hB2⟩
          case measure => simp [intOf]; omega
      · have hf : Hid (l = l') := list_ext0 E3.out fun j hj => hi.out j (by omega)
        go_wp2_with fail
        go_ret
        exact ⟨⟨true, rfl, fun _ => hf.out, fun _ => rfl⟩, hB⟩
  · have d3 : (((l.length : Nat) : Int) != ((l'.length : Nat) : Int)) = true := by simp; omega
    have hf : Hid (l ≠ l') := fun e => hlen (by rw [e])
    clear hlen
    go_wp2_with fail
    go_ret
    exact ⟨⟨false, rfl, ⟨(fun h => by cases h), (fun e => absurd e hf.out)⟩⟩, Below.refl _ _⟩

set_option maxRecDepth 100000 in
set_option maxHeartbeats 4000000 in
theorem sameC_of {d : Nat} (HL : SameL d) : SameC d := by
  intro v v' t t' w h h'
  have hh := h
  have hh' := h'
  obtain ⟨vs, va, rfl, _, h1, h2⟩ := hh
  obtain ⟨vs', va', rfl, _, h1', h2'⟩ := hh'
  obtain ⟨p3, q3, p4, q4, rfl, rfl⟩ := h.forms
  obtain ⟨p3', q3', p4', q4', rfl, rfl⟩ := h'.forms
  have ha := below_alloc w (Obj.cells #[.int .i64 t.o, .string (bs t.x), .int .i64 t.i, .slice p3 t.s.length q3, .slice p4 t.l.length q4] 25)
  have hb := below_alloc (w.alloc (Obj.cells #[.int .i64 t.o, .string (bs t.x), .int .i64 t.i, .slice p3 t.s.length q3, .slice p4 t.l.length q4] 25)) (Obj.cells #[.int .i64 t'.o, .string (bs t'.x), .int .i64 t'.i, .slice p3' t'.s.length q3', .slice p4' t'.l.length q4'] 25)
  have r1 := heap_alloc_new w (Obj.cells #[.int .i64 t.o, .string (bs t.x), .int .i64 t.i, .slice p3 t.s.length q3, .slice p4 t.l.length q4] 25)
  have r2 := heap_alloc_new (w.alloc (Obj.cells #[.int .i64 t.o, .string (bs t.x), .int .i64 t.i, .slice p3 t.s.length q3, .slice p4 t.l.length q4] 25)) (Obj.cells #[.int .i64 t'.o, .string (bs t'.x), .int .i64 t'.i, .slice p3' t'.s.length q3', .slice p4' t'.l.length q4'] 25)
  have hz : (w.alloc (Obj.cells #[.int .i64 t.o, .string (bs t.x), .int .i64 t.i, .slice p3 t.s.length q3, .slice p4 t.l.length q4] 25)).heap.size = w.heap.size + 1 := by simp
  rw [hz] at r2
  have r1' := (hb.block w.heap.size (by omega)).trans r1
  have hB := ha.trans (hb.mono (by omega))
  have EQ := Lib.hid (equal_any _ _ t.s t'.s _ (h1.below hB (Nat.le_refl _)) (h1'.below hB (Nat.le_refl _)))
  have H2 := Lib.hid (h2.below hB)
  have H2' := Lib.hid (h2'.below hB)
  have R1 := Lib.hid r1'
  have R2 := Lib.hid r2
  have HB := Lib.hid hB
  obtain ⟨r, hr⟩ : ∃ r, r = eqT t t' := ⟨_, rfl⟩
  rw [← hr]
  have HR := Lib.hid hr
  have FO : Hid (t.o ≠ t'.o → r = false) := fun h => by rw [HR.out]; exact eqT_false fun e => h (by rw [e])
  have FX : Hid (t.x ≠ t'.x → r = false) := fun h => by rw [HR.out]; exact eqT_false fun e => h (by rw [e])
  have FI : Hid (t.i ≠ t'.i → r = false) := fun h => by rw [HR.out]; exact eqT_false fun e => h (by rw [e])
  have FS : Hid (t.s ≠ t'.s → r = false) := fun h => by rw [HR.out]; exact eqT_false fun e => h (by rw [e])
  have FL : Hid (t.l ≠ t'.l → r = false) := fun h => by rw [HR.out]; exact eqT_false fun e => h (by rw [e])
  have FT : Hid (t.o = t'.o → t.x = t'.x → t.i = t'.i → t.s = t'.s → t.l = t'.l → r = true) := fun a b c d e => by rw [HR.out]; exact eqT_true (TY.ext a b c d e)
  obtain ⟨x0, x1, x2, x3, x4⟩ := fiveT r1'
  obtain ⟨y0, y1, y2, y3, y4⟩ := fiveT r2
  generalize hds : decide (t.s = t'.s) = ds at *
  have HDS := Lib.hid hds
  clear ha hb r1 r2 r1' hB hz h1 h1' h2 h2' h h' hr HR hds
  go_enter Tryd.func8, Tryd.ntmps8
  by_cases c0 : t.o = t'.o
  · have d0 : (t.o == t'.o) = true := by simp [c0]
    have E0 := Lib.hid c0
    clear c0
    by_cases c1 : t.x = t'.x
    · have d1 : ((bs t.x).toList == (bs t'.x).toList) = true := by rw [bs_eq]; exact decide_eq_true c1
      have E1 := Lib.hid c1
      clear c1
      by_cases c2 : t.i = t'.i
      · have d2 : (t.i == t'.i) = true := by simp [c2]
        have E2 := Lib.hid c2
        clear c2
        go_wp2_with fail
        refine EQ.out.mono ?_
        rintro e w5 ⟨rfl, hb5⟩
        have hB5 := HB.out.trans (hb5.mono HB.out.size)
        have S1 := (hb5.block w.heap.size (Array.getElem?_eq_some_iff.1 R1.out).1).trans R1.out
        have S2 := (hb5.block (w.heap.size + 1) (Array.getElem?_eq_some_iff.1 R2.out).1).trans R2.out
        clear x0 x1 x2 x3 x4 y0 y1 y2 y3 y4
        obtain ⟨x0, x1, x2, x3, x4⟩ := fiveT S1
        obtain ⟨y0, y1, y2, y3, y4⟩ := fiveT S2
        cases ds with
        | false =>
          have hn : Hid (r = false) := FS.out (of_decide_eq_false HDS.out)
          clear S1 S2
          go_wp2_with fail
          go_ret
          exact ⟨by rw [hn.out]; rfl, hB5⟩
        | true =>
          have E4 := Lib.hid (of_decide_eq_true HDS.out)
          have LC := Lib.hid (HL _ _ t.l t'.l w5 (H2.out.below hb5) (H2'.out.below hb5))
          clear S1 S2
          go_wp2_with fail
          refine LC.out.mono ?_
          rintro e w6 ⟨⟨q, rfl, hq⟩, hb6⟩
          have hB6 := hB5.trans (hb6.mono hB5.size)
          have hn : Hid (r = q) := by
            cases q with
            | true => exact FT.out E0.out E1.out E2.out E4.out (hq.1 rfl)
            | false => exact FL.out fun e => by have h := hq.2 e; cases h
          clear hq
          go_wp2_with fail
          go_ret
          exact ⟨by rw [hn.out]; rfl, hB6⟩
      · have d2 : (t.i == t'.i) = false := by simpa using c2
        have hn : Hid (r = false) := FI.out c2
        clear c2
        go_wp2_with fail
        go_ret
        exact ⟨by rw [hn.out]; rfl, HB.out⟩
    · have d1 : ((bs t.x).toList == (bs t'.x).toList) = false := by rw [bs_eq]; exact decide_eq_false c1
      have hn : Hid (r = false) := FX.out c1
      clear c1
      go_wp2_with fail
      go_ret
      exact ⟨by rw [hn.out]; rfl, HB.out⟩
  · have d0 : (t.o == t'.o) = false := by simpa using c0
    have hn : Hid (r = false) := FO.out c0
    clear c0
    go_wp2_with fail
    go_ret
    exact ⟨by rw [hn.out]; rfl, HB.out⟩

theorem sameL_any : ∀ d, SameL d
  | 0 => sameL_zero
  | d + 1 => sameL_step (sameC_of (sameL_any d))

theorem same_any (d : Nat) : SameC d := sameC_of (sameL_any d)
end Go.Proofs.YtkmoepabnnjoaaaDoor

