/- cmp.Compare of numbers 16 and of texts 17, cmp.Or 15, slices.Compare 18. -/
import Derived.Test.YtkmoepabnnjoaaaDoorMZ10
import Derived.Test.YtkmoepabnnjoaaaDoorMZ11
namespace Go.Proofs.YtkmoepabnnjoaaaDoor
open Go.RowKit Go.WideMaps Go.Shelf
attribute [local go_sem] Oper.semAt_some

theorem bs_toList (x : Nm) : (bs x).toList = x := by
  have h : (bs x).data.toList = x := rfl
  simp [bs]

theorem isNaN_i (x : Int) (w : World) : Calls Tryd.prog 31 #[.int .i64 x] w fun e w' => e = .returned (.bool false) ∧ w' = w := by
  go_enter Tryd.func31, Tryd.ntmps31
  go_wp2_with fail
  go_ret
  exact ⟨rfl, rfl⟩

theorem isNaN_s (x : Nm) (w : World) : Calls Tryd.prog 32 #[.string (bs x)] w fun e w' => e = .returned (.bool false) ∧ w' = w := by
  have h : ((bs x).toList == (bs x).toList) = true := by simp
  go_enter Tryd.func32, Tryd.ntmps32
  go_wp2_with fail
  go_ret
  exact ⟨rfl, rfl⟩

theorem compareI_any (x y : Int) (w : World) : Calls Tryd.prog 16 #[.int .i64 x, .int .i64 y] w fun e w' => e = .returned (.int .i64 (cmpI x y)) ∧ Below w.heap.size w w' := by
  have N1 := Lib.hid (isNaN_i x w)
  have N2 := Lib.hid (isNaN_i y w)
  obtain ⟨r, hr⟩ : ∃ r, r = cmpI x y := ⟨_, rfl⟩
  rw [← hr]
  unfold cmpI at hr
  have HR := Lib.hid hr
  clear hr
  go_enter Tryd.func16, Tryd.ntmps16
  go_wp2_with fail
  refine N1.out.mono ?_
  rintro e w1 ⟨rfl, rfl⟩
  go_wp2_with fail
  refine N2.out.mono ?_
  rintro e w2 ⟨rfl, rfl⟩
  by_cases h1 : x < y
  · have d1 : decide (x < y) = true := decide_eq_true h1
    have HE : Hid (r = -1) := by unfold Hid; rw [HR.out, if_pos h1]
    clear h1
    go_wp2_with fail
    go_ret
    exact ⟨by rw [HE.out]; rfl, Below.refl _ _⟩
  · have d1 : decide (x < y) = false := decide_eq_false h1
    by_cases h2 : y < x
    · have d2 : decide (y < x) = true := decide_eq_true h2
      have HE : Hid (r = 1) := by unfold Hid; rw [HR.out, if_neg h1, if_pos h2]
      clear h1 h2
      go_wp2_with fail
      go_ret
      exact ⟨by rw [HE.out]; rfl, Below.refl _ _⟩
    · have d2 : decide (y < x) = false := decide_eq_false h2
      have HE : Hid (r = 0) := by unfold Hid; rw [HR.out, if_neg h1, if_neg h2]
      clear h1 h2
      go_wp2_with fail
      go_ret
      exact ⟨by rw [HE.out]; rfl, Below.refl _ _⟩

theorem compareS_any (x y : Nm) (w : World) : Calls Tryd.prog 17 #[.string (bs x), .string (bs y)] w fun e w' => e = .returned (.int .i64 (Lib.compareBytes x y)) ∧ Below w.heap.size w w' := by
  have N1 := Lib.hid (isNaN_s x w)
  have N2 := Lib.hid (isNaN_s y w)
  have HG := Lib.hid (cb_rng x y)
  have HS := Lib.hid (cb_swap x y)
  have HZ : Hid (Lib.compareBytes x y = 0 ↔ x = y) := ⟨cb_eq x y, fun e => by rw [e]; exact cb_refl y⟩
  have hb1 : Op.bytesLess (bs x).toList (bs y).toList = decide (Lib.compareBytes x y < 0) := by
    rw [bs_toList, bs_toList]; exact bytesLess_cb x y
  have hb2 : Op.bytesLess (bs y).toList (bs x).toList = decide (Lib.compareBytes y x < 0) := by
    rw [bs_toList, bs_toList]; exact bytesLess_cb y x
  have HB1 := Lib.hid hb1
  have HB2 := Lib.hid hb2
  clear hb1 hb2
  generalize Lib.compareBytes x y = r at *
  generalize Lib.compareBytes y x = r' at *
  go_enter Tryd.func17, Tryd.ntmps17
  go_wp2_with fail
  refine N1.out.mono ?_
  rintro e w1 ⟨rfl, rfl⟩
  go_wp2_with fail
  refine N2.out.mono ?_
  rintro e w2 ⟨rfl, rfl⟩
  by_cases h1 : r < 0
  · have d1 : Op.bytesLess (bs x).toList (bs y).toList = true := by rw [HB1.out]; exact decide_eq_true h1
    have HE : Hid (r = -1) := by have h := HG.out; unfold Hid; omega
    clear h1
    go_wp2_with fail
    go_ret
    exact ⟨by rw [HE.out]; rfl, Below.refl _ _⟩
  · have d1 : Op.bytesLess (bs x).toList (bs y).toList = false := by rw [HB1.out]; exact decide_eq_false h1
    by_cases h2 : r' < 0
    · have d2 : ((bs x).toList == (bs y).toList) = false := by rw [bs_eq]; exact decide_eq_false (fun e => by have h := HZ.out.2 e; have h' := HS.out; omega)
      have HE : Hid (r = 1) := by have h := HG.out; have h' := HS.out; unfold Hid; omega
      clear h1 h2
      go_wp2_with fail
      go_ret
      exact ⟨by rw [HE.out]; rfl, Below.refl _ _⟩
    · have d2 : ((bs x).toList == (bs y).toList) = true := by rw [bs_eq]; exact decide_eq_true (HZ.out.1 (by have h := HG.out; have h' := HS.out; omega))
      have HE : Hid (r = 0) := by have h := HG.out; have h' := HS.out; unfold Hid; omega
      clear h1 h2
      go_wp2_with fail
      go_ret
      exact ⟨by rw [HE.out]; rfl, Below.refl _ _⟩

def orI : List Int → Int
  | [] => 0
  | z :: r => thenI z (orI r)

theorem or_any (g c : Nat) (zs : List Int) (w : World) (hl : zs.length ≤ 100) (hc : ∀ j, j < zs.length → w.cell? ⟨g, j, none⟩ = some (.int .i64 (zs.getD j 0))) :
    Calls Tryd.prog 15 #[.slice (some ⟨g, 0, none⟩) zs.length c] w fun e w' => e = .returned (.int .i64 (orI zs)) ∧ w' = w := by
  have HC := Lib.hid hc
  obtain ⟨r, hr⟩ : ∃ r, r = orI zs := ⟨_, rfl⟩
  rw [← hr]
  have H0 : Hid (r = orI (zs.drop 0)) := hr
  clear hc hr
  go_enter Tryd.func15, Tryd.ntmps15
  go_wp2_with fail
  go_loop [8] (fun i => ∃ k : Nat, k ≤ zs.length ∧ i = .int .i64 k ∧ Hid (r = orI (zs.drop k))) (fun i => zs.length - (intOf i).toNat)
  case atStart => exact ⟨0, by omega, rfl, H0⟩
  case round =>
    obtain ⟨k, hk, rfl, hr⟩ := hrel
    clear H0
    by_cases hlt : k < zs.length
    · have e := HC.out k hlt
      have hd : Hid (orI (zs.drop k) = thenI (zs.getD k 0) (orI (zs.drop (k + 1)))) := by
        unfold Hid
        rw [List.drop_eq_getElem_cons hlt, List.getD_eq_getElem?_getD, List.getElem?_eq_getElem hlt]; rfl
      generalize zs.getD k 0 = z at *
      by_cases hz : z = 0
      · have d : (z != 0) = false := by simp [hz]
        have hn : Hid (r = orI (zs.drop (k + 1))) := by unfold Hid; rw [hr.out, hd.out]; unfold thenI; rw [if_neg (fun h => h hz)]
        clear hz
        go_wp2_with fail
        go_round
        case rel => exact ⟨k + 1, by omega, by go_num, hn⟩
        case measure => simp [intOf]; omega
      · have d : (z != 0) = true := by simpa using hz
        have hn : Hid (r = z) := by unfold Hid; rw [hr.out, hd.out]; unfold thenI; rw [if_pos hz]
        clear hz
        go_wp2_with fail
        go_ret
        exact ⟨by rw [hn.out]; rfl, rfl⟩
    · have hn : Hid (r = 0) := by unfold Hid; rw [hr.out, List.drop_eq_nil_of_le (by omega)]; rfl
      go_wp2_with fail
      go_ret
      exact ⟨by rw [hn.out]; rfl, rfl⟩

set_option maxRecDepth 100000 in
set_option maxHeartbeats 1000000 in
theorem compareL_any (u v : Value) (ss ts : List Nm) (w : World) (hs : SlS w u ss) (ht : SlS w v ts) :
    Calls Tryd.prog 18 #[u, v] w fun e w' => e = .returned (.int .i64 (cmpL Lib.compareBytes ss ts)) ∧ Below w.heap.size w w' := by
  have HS := Lib.hid hs
  have HT := Lib.hid ht
  obtain ⟨hl1, a1, c1, rfl, _⟩ := hs
  obtain ⟨hl2, a2, c2, rfl, _⟩ := ht
  unfold maxLen at hl1 hl2
  obtain ⟨r, hr⟩ : ∃ r, r = cmpL Lib.compareBytes ss ts := ⟨_, rfl⟩
  rw [← hr]
  have H0 : Hid (r = cmpL Lib.compareBytes (ss.drop 0) (ts.drop 0)) := hr
  clear hr
  go_enter Tryd.func18, Tryd.ntmps18
  go_wp2_with fail
  go_loopw [11] (fun i wr => ∃ k : Nat, k ≤ ss.length ∧ i = .int .i64 k ∧ Hid (r = cmpL Lib.compareBytes (ss.drop k) (ts.drop k)) ∧ Below w.heap.size w wr) (fun i _ => ss.length - (intOf i).toNat)
  case atStart => exact ⟨0, by omega, rfl, H0, Below.refl _ _⟩
  case round =>
    obtain ⟨k, hk, rfl, hr, hB⟩ := hrel
    clear H0
    obtain ⟨q1, q2, q3, q4⟩ := cmpL_drop (f := Lib.compareBytes) ([] : Nm) ss ts k
    by_cases hlt : k < ss.length
    · obtain ⟨b1, o1, x, rfl, hb1, g1, _, hx⟩ := HS.out.at hlt
      have e1 := (hB.cell (p := ⟨b1, o1 + k, none⟩) hb1).trans g1
      by_cases hlt2 : k < ts.length
      · obtain ⟨b2, o2, y, rfl, hb2, g2, _, hy⟩ := HT.out.at hlt2
        have e2 := (hB.cell (p := ⟨b2, o2 + k, none⟩) hb2).trans g2
        have hd := Lib.hid (q1 hlt hlt2)
        rw [← hx, ← hy] at hd
        have CP := Lib.hid (compareS_any x y wr)
        have dl : decide (((ts.length : Nat) : Int) ≤ (k : Int)) = false := by simp; omega
        clear q1 q2 q3 q4 g1 g2 hx hy
        generalize Lib.compareBytes x y = z at *
        go_wp2_with fail
        refine CP.out.mono ?_
        rintro e w2 ⟨rfl, hb⟩
        have hB2 := hB.trans (hb.mono hB.size)
        by_cases hz : z = 0
        · have d : (z != 0) = false := by simp [hz]
          have hn : Hid (r = cmpL Lib.compareBytes (ss.drop (k + 1)) (ts.drop (k + 1))) := by unfold Hid; rw [hr.out, hd.out]; unfold thenI; rw [if_neg (fun h => h hz)]
          clear hz
          go_wp2_with fail
          go_roundw
          case rel => exact ⟨k + 1, by omega, by go_num, hn, hB2⟩
          case measure => simp [intOf]; omega
        · have d : (z != 0) = true := by simpa using hz
          have hn : Hid (r = z) := by unfold Hid; rw [hr.out, hd.out]; unfold thenI; rw [if_pos hz]
          clear hz
          go_wp2_with fail
          go_ret
          exact ⟨by rw [hn.out]; rfl, hB2⟩
      · have hn : Hid (r = 1) := by unfold Hid; rw [hr.out, q2 hlt hlt2]
        have dl : decide (((ts.length : Nat) : Int) ≤ (k : Int)) = true := by simp; omega
        clear q1 q2 q3 q4 g1 hx
        go_wp2_with fail
        go_ret
        exact ⟨by rw [hn.out]; rfl, hB⟩
    · have hkk : k = ss.length := by omega
      by_cases hlt2 : k < ts.length
      · have hn : Hid (r = -1) := by unfold Hid; rw [hr.out, q3 hlt hlt2]
        have dl : decide (((ss.length : Nat) : Int) < ((ts.length : Nat) : Int)) = true := by simp; omega
        clear q1 q2 q3 q4
        go_wp2_with fail
        go_ret
        exact ⟨by rw [hn.out]; rfl, hB⟩
      · have hn : Hid (r = 0) := by unfold Hid; rw [hr.out, q4 hlt hlt2]
        have dl : decide (((ss.length : Nat) : Int) < ((ts.length : Nat) : Int)) = false := by simp; omega
        clear q1 q2 q3 q4
        go_wp2_with fail
        go_ret
        exact ⟨by rw [hn.out]; rfl, hB⟩
end Go.Proofs.YtkmoepabnnjoaaaDoor

/- types.Compare 6, slices.CompareFunc of types 19. -/
namespace Go.Proofs.YtkmoepabnnjoaaaDoor
open Go.RowKit Go.WideMaps Go.Shelf
attribute [local go_sem] Oper.semAt_some

theorem fiveT {w : World} {k : Nat} {a0 a1 a2 a3 a4 : Value} {t : TypeId} {fr : Nat × Nat} (h : w.heap[k]? = some (.cells #[a0, a1, a2, a3, a4] t fr)) :
    w.cell? ⟨k, 0, none⟩ = some a0 ∧ w.cell? ⟨k, 1, none⟩ = some a1 ∧ w.cell? ⟨k, 2, none⟩ = some a2 ∧ w.cell? ⟨k, 3, none⟩ = some a3 ∧ w.cell? ⟨k, 4, none⟩ = some a4 :=
  ⟨by rw [cell_of_row _ _ 0 _ _ _ h]; rfl, by rw [cell_of_row _ _ 1 _ _ _ h]; rfl, by rw [cell_of_row _ _ 2 _ _ _ h]; rfl, by rw [cell_of_row _ _ 3 _ _ _ h]; rfl, by rw [cell_of_row _ _ 4 _ _ _ h]; rfl⟩

theorem TyM.forms {w : World} {d : Nat} {a b c vs va : Value} {t : TY} (h : TyM w d (.agg #[a, b, c, vs, va]) t) : ∃ p q p' q', vs = .slice p t.s.length q ∧ va = .slice p' t.l.length q' := by
  obtain ⟨vs', va', e, _, h1, h2⟩ := h
  obtain ⟨_, p, q, e1, _⟩ := h1
  obtain ⟨p', q', e2⟩ := h2.form
  injection e with e
  simp at e
  obtain ⟨_, _, _, rfl, rfl⟩ := e
  exact ⟨p, q, p', q', e1, e2⟩

def CmpC (d : Nat) : Prop :=
  ∀ (v v' : Value) (t t' : TY) (w : World), TyM w d v t → TyM w d v' t' → Calls Tryd.prog 6 #[v, v'] w fun e w' => e = .returned (.int .i64 (cmpT t t')) ∧ Below w.heap.size w w'
def CmpLC (d : Nat) : Prop :=
  ∀ (v v' : Value) (l l' : List TY) (w : World), SlTy w d v l → SlTy w d v' l' → Calls Tryd.prog 19 #[v, v', .func (.func 6) #[] #[]] w fun e w' => e = .returned (.int .i64 (cmpL cmpT l l')) ∧ Below w.heap.size w w'

theorem orI4 (a b c d : Int) : orI [a, b, c, d] = thenI a (thenI b (thenI c d)) := by
  unfold orI orI orI orI orI thenI
  by_cases h : d = 0
  · subst h; simp
  · rw [if_pos h]

theorem cells4_at {w : World} {k : Nat} {a b c d : Int} {t : TypeId} {fr : Nat × Nat} (h : w.heap[k]? = some (.cells #[.int .i64 a, .int .i64 b, .int .i64 c, .int .i64 d] t fr)) : ∀ j, j < [a, b, c, d].length → w.cell? ⟨k, j, none⟩ = some (.int .i64 ([a, b, c, d].getD j 0)) := by
  intro j hj
  have hj : j < 4 := hj
  rw [cell_of_row _ _ j _ _ _ h]
  have : j = 0 ∨ j = 1 ∨ j = 2 ∨ j = 3 := by omega
  rcases this with rfl | rfl | rfl | rfl <;> rfl

set_option maxRecDepth 100000 in
set_option maxHeartbeats 2000000 in
theorem cmpLC_zero : CmpLC 0 := by
  intro v v' l l' w h h'
  obtain ⟨⟨a, c, rfl⟩, rfl⟩ := h
  obtain ⟨⟨a', c', rfl⟩, rfl⟩ := h'
  go_enter Tryd.func19, Tryd.ntmps19
  go_wp2_with fail
  go_loopw [13] (fun i wr => i = .int .i64 0 ∧ Below w.heap.size w wr) (fun _ _ => 0)
  case atStart => exact ⟨rfl, Below.refl _ _⟩
  case round =>
    obtain ⟨rfl, hB⟩ := hrel
    go_wp2_with fail
    go_ret
    exact ⟨rfl, hB⟩

set_option maxRecDepth 100000 in
set_option maxHeartbeats 2000000 in
theorem cmpLC_step {d : Nat} (HC : CmpC d) : CmpLC (d + 1) := by
  intro v v' l l' w h h'
  have HL := Lib.hid h
  have HL' := Lib.hid h'
  obtain ⟨hl1, a1, c1, rfl, _⟩ := h
  obtain ⟨hl2, a2, c2, rfl, _⟩ := h'
  unfold maxLen at hl1 hl2
  obtain ⟨r, hr⟩ : ∃ r, r = cmpL cmpT l l' := ⟨_, rfl⟩
  rw [← hr]
  have H0 : Hid (r = cmpL cmpT (l.drop 0) (l'.drop 0)) := hr
  clear hr
  go_enter Tryd.func19, Tryd.ntmps19
  go_wp2_with fail
  go_loopw [13] (fun i wr => ∃ k : Nat, k ≤ l.length ∧ i = .int .i64 k ∧ Hid (r = cmpL cmpT (l.drop k) (l'.drop k)) ∧ Below w.heap.size w wr) (fun i _ => l.length - (intOf i).toNat)
  case atStart => exact ⟨0, by omega, rfl, H0, Below.refl _ _⟩
  case round =>
    obtain ⟨k, hk, rfl, hr, hB⟩ := hrel
    clear H0
    obtain ⟨j1, j2, j3, j4⟩ := cmpL_drop (f := cmpT) ty0 l l' k
    by_cases hlt : k < l.length
    · obtain ⟨b1, o1, vs, va, rfl, hb1, g0, g1, g2, g3, g4, ht⟩ := HL.out.at hlt
      obtain ⟨p3, q3, p4, q4, rfl, rfl⟩ := ht.forms
      have k1 : ∀ {i : Nat} {u : Value}, w.cell? ⟨b1, i, none⟩ = some u → wr.cell? ⟨b1, i, none⟩ = some u := fun h => (hB.cell (p := ⟨b1, _, none⟩) hb1).trans h
      have e0 := k1 g0
      have e1 := k1 g1
      have e2 := k1 g2
      have e3 := k1 g3
      have e4 := k1 g4
      clear g0 g1 g2 g3 g4 k1
      by_cases hlt2 : k < l'.length
      · obtain ⟨b2, o2, vs', va', rfl, hb2, g0, g1, g2, g3, g4, ht'⟩ := HL'.out.at hlt2
        obtain ⟨p3', q3', p4', q4', rfl, rfl⟩ := ht'.forms
        have hd := Lib.hid (j1 hlt hlt2)
        have dl : decide (((l'.length : Nat) : Int) ≤ (k : Int)) = false := by simp; omega
        generalize l.getD k ty0 = t at *
        generalize l'.getD k ty0 = t' at *
        have ha := below_alloc wr (Obj.cells #[.int .i64 t.o, .string (bs t.x), .int .i64 t.i, .slice p3 t.s.length q3, .slice p4 t.l.length q4] 25)
        have k2 : ∀ {i : Nat} {u : Value}, w.cell? ⟨b2, i, none⟩ = some u → (wr.alloc (Obj.cells #[.int .i64 t.o, .string (bs t.x), .int .i64 t.i, .slice p3 t.s.length q3, .slice p4 t.l.length q4] 25)).cell? ⟨b2, i, none⟩ = some u := fun h => (ha.cell (p := ⟨b2, _, none⟩) (by simp only; have := hB.size; omega)).trans ((hB.cell (p := ⟨b2, _, none⟩) hb2).trans h)
        have f0 := k2 g0
        have f1 := k2 g1
        have f2 := k2 g2
        have f3 := k2 g3
        have f4 := k2 g4
        have hb := below_alloc (wr.alloc (Obj.cells #[.int .i64 t.o, .string (bs t.x), .int .i64 t.i, .slice p3 t.s.length q3, .slice p4 t.l.length q4] 25)) (Obj.cells #[.int .i64 t'.o, .string (bs t'.x), .int .i64 t'.i, .slice p3' t'.s.length q3', .slice p4' t'.l.length q4'] 25)
        have r1 := heap_alloc_new wr (Obj.cells #[.int .i64 t.o, .string (bs t.x), .int .i64 t.i, .slice p3 t.s.length q3, .slice p4 t.l.length q4] 25)
        have r2 := heap_alloc_new (wr.alloc (Obj.cells #[.int .i64 t.o, .string (bs t.x), .int .i64 t.i, .slice p3 t.s.length q3, .slice p4 t.l.length q4] 25)) (Obj.cells #[.int .i64 t'.o, .string (bs t'.x), .int .i64 t'.i, .slice p3' t'.s.length q3', .slice p4' t'.l.length q4'] 25)
        have hz : (wr.alloc (Obj.cells #[.int .i64 t.o, .string (bs t.x), .int .i64 t.i, .slice p3 t.s.length q3, .slice p4 t.l.length q4] 25)).heap.size = wr.heap.size + 1 := by simp
        rw [hz] at r2
        have r1' := (hb.block wr.heap.size (by omega)).trans r1
        obtain ⟨x0, x1, x2, x3, x4⟩ := fiveT r1'
        obtain ⟨y0, y1, y2, y3, y4⟩ := fiveT r2
        have hBB := hB.trans ((ha.trans (hb.mono (by omega))).mono hB.size)
        have SC := Lib.hid (HC _ _ t t' _ (ht.below hBB) (ht'.below hBB))
        have HBB := Lib.hid hBB
        have hsz := hBB.size
        clear ht ht' g0 g1 g2 g3 g4 k2 r1 r2 r1' ha hb hBB j1 j2 j3 j4
        generalize cmpT t t' = z at *
        go_wp2_with fail
        refine SC.out.mono ?_
        rintro e w2 ⟨rfl, hb5⟩
        have hB2 := HBB.out.trans (hb5.mono hsz)
        by_cases hz0 : z = 0
        · have d : (z != 0) = false := by simp [hz0]
          have hn : Hid (r = cmpL cmpT (l.drop (k + 1)) (l'.drop (k + 1))) := by unfold Hid; rw [hr.out, hd.out]; unfold thenI; rw [if_neg (fun h => h hz0)]
          clear hz0
          go_wp2_with fail
          go_roundw
          case rel => exact ⟨k + 1, by omega, by go_num, hn, hB2⟩
          case measure => simp [intOf]; omega
        · have d : (z != 0) = true := by simpa using hz0
          have hn : Hid (r = z) := by unfold Hid; rw [hr.out, hd.out]; unfold thenI; rw [if_pos hz0]
          clear hz0
          go_wp2_with fail
          go_ret
          exact ⟨by rw [hn.out]; rfl, hB2⟩
      · have hn : Hid (r = 1) := by unfold Hid; rw [hr.out, j2 hlt hlt2]
        have dl : decide (((l'.length : Nat) : Int) ≤ (k : Int)) = true := by simp; omega
        have hBa := hB.trans ((below_alloc wr (Obj.cells #[.int .i64 (l.getD k ty0).o, .string (bs (l.getD k ty0).x), .int .i64 (l.getD k ty0).i, .slice p3 (l.getD k ty0).s.length q3, .slice p4 (l.getD k ty0).l.length q4] 25)).mono hB.size)
        generalize l.getD k ty0 = t at *
        clear j1 j2 j3 j4 ht
        go_wp2_with fail
        go_ret
        exact ⟨by rw [hn.out]; rfl, hBa⟩
    · have hkk : k = l.length := by omega
      by_cases hlt2 : k < l'.length
      · have hn : Hid (r = -1) := by unfold Hid; rw [hr.out, j3 hlt hlt2]
        have dl : decide (((l.length : Nat) : Int) < ((l'.length : Nat) : Int)) = true := by simp; omega
        clear j1 j2 j3 j4
        go_wp2_with fail
        go_ret
        exact ⟨by rw [hn.out]; rfl, hB⟩
      · have hn : Hid (r = 0) := by unfold Hid; rw [hr.out, j4 hlt hlt2]
        have dl : decide (((l.length : Nat) : Int) < ((l'.length : Nat) : Int)) = false := by simp; omega
        clear j1 j2 j3 j4
        go_wp2_with fail
        go_ret
        exact ⟨by rw [hn.out]; rfl, hB⟩

set_option maxRecDepth 100000 in
set_option maxHeartbeats 4000000 in
theorem cmpC_of {d : Nat} (HL : CmpLC d) : CmpC d := by
  intro v v' t t' w h h'
  obtain ⟨vs, va, rfl, _, h1, h2⟩ := h
  obtain ⟨vs', va', rfl, _, h1', h2'⟩ := h'
  have ha := below_alloc w (Obj.cells #[.int .i64 t.o, .string (bs t.x), .int .i64 t.i, vs, va] 25)
  have hb := below_alloc (w.alloc (Obj.cells #[.int .i64 t.o, .string (bs t.x), .int .i64 t.i, vs, va] 25)) (Obj.cells #[.int .i64 t'.o, .string (bs t'.x), .int .i64 t'.i, vs', va'] 25)
  have r1 := heap_alloc_new w (Obj.cells #[.int .i64 t.o, .string (bs t.x), .int .i64 t.i, vs, va] 25)
  have r2 := heap_alloc_new (w.alloc (Obj.cells #[.int .i64 t.o, .string (bs t.x), .int .i64 t.i, vs, va] 25)) (Obj.cells #[.int .i64 t'.o, .string (bs t'.x), .int .i64 t'.i, vs', va'] 25)
  have hz : (w.alloc (Obj.cells #[.int .i64 t.o, .string (bs t.x), .int .i64 t.i, vs, va] 25)).heap.size = w.heap.size + 1 := by simp
  rw [hz] at r2
  have hz2 : ((w.alloc (Obj.cells #[.int .i64 t.o, .string (bs t.x), .int .i64 t.i, vs, va] 25)).alloc (Obj.cells #[.int .i64 t'.o, .string (bs t'.x), .int .i64 t'.i, vs', va'] 25)).heap.size = w.heap.size + 2 := by simp
  have R1 := Lib.hid ((hb.block w.heap.size (by omega)).trans r1)
  have R2 := Lib.hid r2
  have HB := Lib.hid (ha.trans (hb.mono (by omega)))
  have H1 := Lib.hid h1
  have H1' := Lib.hid h1'
  have H2 := Lib.hid h2
  have H2' := Lib.hid h2'
  obtain ⟨r, hr⟩ : ∃ r, r = cmpT t t' := ⟨_, rfl⟩
  rw [← hr]
  rw [cmpT_eq] at hr
  obtain ⟨own, hown⟩ : ∃ own, own = orI [cmpI t.o t'.o, Lib.compareBytes t.x t'.x, cmpI t.i t'.i, cmpL Lib.compareBytes t.s t'.s] := ⟨_, rfl⟩
  have HOWN := Lib.hid hown
  have HR : Hid (r = if own ≠ 0 then own else cmpL cmpT t.l t'.l) := by
    unfold Hid; rw [hr, hown, orI4]
    unfold thenI
    by_cases z1 : cmpI t.o t'.o = 0
    · by_cases z2 : Lib.compareBytes t.x t'.x = 0
      · by_cases z3 : cmpI t.i t'.i = 0
        · by_cases z4 : cmpL Lib.compareBytes t.s t'.s = 0
          · simp [z1, z2, z3, z4]
          · simp [z1, z2, z3, z4]
        · simp [z1, z2, z3]
      · simp [z1, z2]
    · simp [z1]
  obtain ⟨_, p3, q3, rfl, _⟩ := h1
  obtain ⟨_, p3', q3', rfl, _⟩ := h1'
  obtain ⟨p4, q4, rfl⟩ := h2.form
  obtain ⟨p4', q4', rfl⟩ := h2'.form
  clear hr hown h2 h2' ha hb r1 r2 hz
  go_enter Tryd.func6, Tryd.ntmps6
  go_wp2_with fail
  generalize (w.alloc (Obj.cells #[.int .i64 t.o, .string (bs t.x), .int .i64 t.i, .slice p3 t.s.length q3, .slice p4 t.l.length q4] 25)).alloc (Obj.cells #[.int .i64 t'.o, .string (bs t'.x), .int .i64 t'.i, .slice p3' t'.s.length q3', .slice p4' t'.l.length q4'] 25) = W at *
  have hdr := (Below.refl W.heap.size W).drew
  have hWd : W.drew.heap.size = W.heap.size := rfl
  have hB0 : Below w.heap.size w W.drew := HB.out.trans (hdr.mono (by omega))
  have R1d := Lib.hid ((hdr.block w.heap.size (by omega)).trans R1.out)
  have R2d := Lib.hid ((hdr.block (w.heap.size + 1) (by omega)).trans R2.out)
  have hz0 : w.heap.size + 2 ≤ W.drew.heap.size := by omega
  refine wp_region_held_drew (S := (fun w' => (w'.cell? ⟨w.heap.size, 0, none⟩ = some (.int .i64 t.o) ∧ w'.cell? ⟨w.heap.size, 1, none⟩ = some (.string (bs t.x)) ∧ w'.cell? ⟨w.heap.size, 2, none⟩ = some (.int .i64 t.i) ∧ w'.cell? ⟨w.heap.size, 3, none⟩ = some (.slice p3 t.s.length q3) ∧ w'.cell? ⟨w.heap.size, 4, none⟩ = some (.slice p4 t.l.length q4)) ∧ w'.cell? ⟨w.heap.size + 1, 0, none⟩ = some (.int .i64 t'.o) ∧ w'.cell? ⟨w.heap.size + 1, 1, none⟩ = some (.string (bs t'.x)) ∧ w'.cell? ⟨w.heap.size + 1, 2, none⟩ = some (.int .i64 t'.i) ∧ w'.cell? ⟨w.heap.size + 1, 3, none⟩ = some (.slice p3' t'.s.length q3') ∧ w'.cell? ⟨w.heap.size + 1, 4, none⟩ = some (.slice p4' t'.l.length q4'))) (by kernel_rfl) ?_ (fun hHeld => ?_)
  · exact ⟨fiveT R1d.out, fiveT R2d.out⟩
  refine wpAnyH_take (i := 0) (oi := { dst := some 6, op := Op.fieldAddr 25 (Operand.tmp 2) 0, type := 0, pos := "types.go:106", after := #[], guard := none }) (v := ?v0) rfl (by kernel_rfl) (by kernel_rfl) (by kernel_rfl) (fun _ _ _ h => h) (Or.inl ⟨by rfl, ?hy0⟩) (by assumption) ?rest0
  case hy0 => (intro wq hSq; (try dsimp only at hSq); go_simp; try with_reducible rfl)
  try simp only [Act.put, List.setIfInBounds_toArray, List.set_cons_zero, List.set_cons_succ]
  refine wpAnyH_take (i := 1) (oi := { dst := some 7, op := Op.load 3 (Operand.tmp 6), type := 3, pos := "types.go:106", after := #[{ on := 0, ground := Ground.data }], guard := none }) (v := ?v1) rfl (by kernel_rfl) (by kernel_rfl) (by kernel_rfl) (fun _ _ _ h => h) (Or.inl ⟨by rfl, ?hy1⟩) (by assumption) ?rest1
  case hy1 => (intro wq hSq; (try dsimp only at hSq); go_simp; try with_reducible rfl)
  try simp only [Act.put, List.setIfInBounds_toArray, List.set_cons_zero, List.set_cons_succ]
  refine wpAnyH_take (i := 2) (oi := { dst := some 8, op := Op.fieldAddr 25 (Operand.tmp 3) 0, type := 0, pos := "types.go:106", after := #[], guard := none }) (v := ?v2) rfl (by kernel_rfl) (by kernel_rfl) (by kernel_rfl) (fun _ _ _ h => h) (Or.inl ⟨by rfl, ?hy2⟩) (by assumption) ?rest2
  case hy2 => (intro wq hSq; (try dsimp only at hSq); go_simp; try with_reducible rfl)
  try simp only [Act.put, List.setIfInBounds_toArray, List.set_cons_zero, List.set_cons_succ]
  refine wpAnyH_take (i := 3) (oi := { dst := some 9, op := Op.load 3 (Operand.tmp 8), type := 3, pos := "types.go:106", after := #[{ on := 2, ground := Ground.data }], guard := none }) (v := ?v3) rfl (by kernel_rfl) (by kernel_rfl) (by kernel_rfl) (fun _ _ _ h => h) (Or.inl ⟨by rfl, ?hy3⟩) (by assumption) ?rest3
  case hy3 => (intro wq hSq; (try dsimp only at hSq); go_simp; try with_reducible rfl)
  try simp only [Act.put, List.setIfInBounds_toArray, List.set_cons_zero, List.set_cons_succ]
  refine wpAnyH_take (i := 5) (oi := { dst := some 11, op := Op.fieldAddr 25 (Operand.tmp 2) 1, type := 0, pos := "types.go:106", after := #[], guard := none }) (v := ?v5) rfl (by kernel_rfl) (by kernel_rfl) (by kernel_rfl) (fun _ _ _ h => h) (Or.inl ⟨by rfl, ?hy5⟩) (by assumption) ?rest5
  case hy5 => (intro wq hSq; (try dsimp only at hSq); go_simp; try with_reducible rfl)
  try simp only [Act.put, List.setIfInBounds_toArray, List.set_cons_zero, List.set_cons_succ]
  refine wpAnyH_take (i := 6) (oi := { dst := some 12, op := Op.load 9 (Operand.tmp 11), type := 9, pos := "types.go:106", after := #[{ on := 5, ground := Ground.data }], guard := none }) (v := ?v6) rfl (by kernel_rfl) (by kernel_rfl) (by kernel_rfl) (fun _ _ _ h => h) (Or.inl ⟨by rfl, ?hy6⟩) (by assumption) ?rest6
  case hy6 => (intro wq hSq; (try dsimp only at hSq); go_simp; try with_reducible rfl)
  try simp only [Act.put, List.setIfInBounds_toArray, List.set_cons_zero, List.set_cons_succ]
  refine wpAnyH_take (i := 7) (oi := { dst := some 13, op := Op.fieldAddr 25 (Operand.tmp 3) 1, type := 0, pos := "types.go:106", after := #[], guard := none }) (v := ?v7) rfl (by kernel_rfl) (by kernel_rfl) (by kernel_rfl) (fun _ _ _ h => h) (Or.inl ⟨by rfl, ?hy7⟩) (by assumption) ?rest7
  case hy7 => (intro wq hSq; (try dsimp only at hSq); go_simp; try with_reducible rfl)
  try simp only [Act.put, List.setIfInBounds_toArray, List.set_cons_zero, List.set_cons_succ]
  refine wpAnyH_take (i := 8) (oi := { dst := some 14, op := Op.load 9 (Operand.tmp 13), type := 9, pos := "types.go:106", after := #[{ on := 7, ground := Ground.data }], guard := none }) (v := ?v8) rfl (by kernel_rfl) (by kernel_rfl) (by kernel_rfl) (fun _ _ _ h => h) (Or.inl ⟨by rfl, ?hy8⟩) (by assumption) ?rest8
  case hy8 => (intro wq hSq; (try dsimp only at hSq); go_simp; try with_reducible rfl)
  try simp only [Act.put, List.setIfInBounds_toArray, List.set_cons_zero, List.set_cons_succ]
  refine wpAnyH_take (i := 10) (oi := { dst := some 16, op := Op.fieldAddr 25 (Operand.tmp 2) 2, type := 0, pos := "types.go:106", after := #[], guard := none }) (v := ?v10) rfl (by kernel_rfl) (by kernel_rfl) (by kernel_rfl) (fun _ _ _ h => h) (Or.inl ⟨by rfl, ?hy10⟩) (by assumption) ?rest10
  case hy10 => (intro wq hSq; (try dsimp only at hSq); go_simp; try with_reducible rfl)
  try simp only [Act.put, List.setIfInBounds_toArray, List.set_cons_zero, List.set_cons_succ]
  refine wpAnyH_take (i := 11) (oi := { dst := some 17, op := Op.load 3 (Operand.tmp 16), type := 3, pos := "types.go:106", after := #[{ on := 10, ground := Ground.data }], guard := none }) (v := ?v11) rfl (by kernel_rfl) (by kernel_rfl) (by kernel_rfl) (fun _ _ _ h => h) (Or.inl ⟨by rfl, ?hy11⟩) (by assumption) ?rest11
  case hy11 => (intro wq hSq; (try dsimp only at hSq); go_simp; try with_reducible rfl)
  try simp only [Act.put, List.setIfInBounds_toArray, List.set_cons_zero, List.set_cons_succ]
  refine wpAnyH_take (i := 12) (oi := { dst := some 18, op := Op.fieldAddr 25 (Operand.tmp 3) 2, type := 0, pos := "types.go:106", after := #[], guard := none }) (v := ?v12) rfl (by kernel_rfl) (by kernel_rfl) (by kernel_rfl) (fun _ _ _ h => h) (Or.inl ⟨by rfl, ?hy12⟩) (by assumption) ?rest12
  case hy12 => (intro wq hSq; (try dsimp only at hSq); go_simp; try with_reducible rfl)
  try simp only [Act.put, List.setIfInBounds_toArray, List.set_cons_zero, List.set_cons_succ]
  refine wpAnyH_take (i := 13) (oi := { dst := some 19, op := Op.load 3 (Operand.tmp 18), type := 3, pos := "types.go:106", after := #[{ on := 12, ground := Ground.data }], guard := none }) (v := ?v13) rfl (by kernel_rfl) (by kernel_rfl) (by kernel_rfl) (fun _ _ _ h => h) (Or.inl ⟨by rfl, ?hy13⟩) (by assumption) ?rest13
  case hy13 => (intro wq hSq; (try dsimp only at hSq); go_simp; try with_reducible rfl)
  try simp only [Act.put, List.setIfInBounds_toArray, List.set_cons_zero, List.set_cons_succ]
  refine wpAnyH_take (i := 15) (oi := { dst := some 21, op := Op.fieldAddr 25 (Operand.tmp 2) 3, type := 0, pos := "types.go:106", after := #[], guard := none }) (v := ?v15) rfl (by kernel_rfl) (by kernel_rfl) (by kernel_rfl) (fun _ _ _ h => h) (Or.inl ⟨by rfl, ?hy15⟩) (by assumption) ?rest15
  case hy15 => (intro wq hSq; (try dsimp only at hSq); go_simp; try with_reducible rfl)
  try simp only [Act.put, List.setIfInBounds_toArray, List.set_cons_zero, List.set_cons_succ]
  refine wpAnyH_take (i := 16) (oi := { dst := some 22, op := Op.load 22 (Operand.tmp 21), type := 22, pos := "types.go:106", after := #[{ on := 15, ground := Ground.data }], guard := none }) (v := ?v16) rfl (by kernel_rfl) (by kernel_rfl) (by kernel_rfl) (fun _ _ _ h => h) (Or.inl ⟨by rfl, ?hy16⟩) (by assumption) ?rest16
  case hy16 => (intro wq hSq; (try dsimp only at hSq); go_simp; try with_reducible rfl)
  try simp only [Act.put, List.setIfInBounds_toArray, List.set_cons_zero, List.set_cons_succ]
  refine wpAnyH_take (i := 17) (oi := { dst := some 23, op := Op.fieldAddr 25 (Operand.tmp 3) 3, type := 0, pos := "types.go:106", after := #[], guard := none }) (v := ?v17) rfl (by kernel_rfl) (by kernel_rfl) (by kernel_rfl) (fun _ _ _ h => h) (Or.inl ⟨by rfl, ?hy17⟩) (by assumption) ?rest17
  case hy17 => (intro wq hSq; (try dsimp only at hSq); go_simp; try with_reducible rfl)
  try simp only [Act.put, List.setIfInBounds_toArray, List.set_cons_zero, List.set_cons_succ]
  refine wpAnyH_take (i := 18) (oi := { dst := some 24, op := Op.load 22 (Operand.tmp 23), type := 22, pos := "types.go:106", after := #[{ on := 17, ground := Ground.data }], guard := none }) (v := ?v18) rfl (by kernel_rfl) (by kernel_rfl) (by kernel_rfl) (fun _ _ _ h => h) (Or.inl ⟨by rfl, ?hy18⟩) (by assumption) ?rest18
  case hy18 => (intro wq hSq; (try dsimp only at hSq); go_simp; try with_reducible rfl)
  try simp only [Act.put, List.setIfInBounds_toArray, List.set_cons_zero, List.set_cons_succ]
  have CT4 := Lib.hid (compareI_any t.o t'.o W.drew)
  refine wpAnyH_ready (rs := [4]) (by kernel_rfl) (by simp) ?_
  refine AllReadyH.cons rfl (fun K hK => ?_) AllReadyH.nil
  go_simp
  go_wp2_with (go_at_call 16; refine CT4.out.mono ?_; rintro e w1 ⟨rfl, hb4⟩; have hB4 : Below w.heap.size w w1 := hB0.trans (hb4.mono (by omega)); have hz4 : w.heap.size + 2 ≤ w1.heap.size := Nat.le_trans hz0 hb4.size; have R1w1 := Lib.hid ((hb4.block w.heap.size (by omega)).trans R1d.out); have R2w1 := Lib.hid ((hb4.block (w.heap.size + 1) (by omega)).trans R2d.out))
  refine hK.out _ _ ?_ (fun hHeldN => ?_)
  · (try dsimp only); exact ⟨fiveT R1w1.out, fiveT R2w1.out⟩
  clear hK K hHeld
  have hHeld := hHeldN
  clear hHeldN
  have CT9 := Lib.hid (compareS_any t.x t'.x w1)
  refine wpAnyH_ready (rs := [9]) (by kernel_rfl) (by simp) ?_
  refine AllReadyH.cons rfl (fun K hK => ?_) AllReadyH.nil
  go_simp
  go_wp2_with (go_at_call 17; refine CT9.out.mono ?_; rintro e w2 ⟨rfl, hb9⟩; have hB9 : Below w.heap.size w w2 := hB4.trans (hb9.mono (by omega)); have hz9 : w.heap.size + 2 ≤ w2.heap.size := Nat.le_trans hz4 hb9.size; have R1w2 := Lib.hid ((hb9.block w.heap.size (by omega)).trans R1w1.out); have R2w2 := Lib.hid ((hb9.block (w.heap.size + 1) (by omega)).trans R2w1.out))
  refine hK.out _ _ ?_ (fun hHeldN => ?_)
  · (try dsimp only); exact ⟨fiveT R1w2.out, fiveT R2w2.out⟩
  clear hK K hHeld
  have hHeld := hHeldN
  clear hHeldN
  have CT14 := Lib.hid (compareI_any t.i t'.i w2)
  refine wpAnyH_ready (rs := [14]) (by kernel_rfl) (by simp) ?_
  refine AllReadyH.cons rfl (fun K hK => ?_) AllReadyH.nil
  go_simp
  go_wp2_with (go_at_call 16; refine CT14.out.mono ?_; rintro e w3 ⟨rfl, hb14⟩; have hB14 : Below w.heap.size w w3 := hB9.trans (hb14.mono (by omega)); have hz14 : w.heap.size + 2 ≤ w3.heap.size := Nat.le_trans hz9 hb14.size; have R1w3 := Lib.hid ((hb14.block w.heap.size (by omega)).trans R1w2.out); have R2w3 := Lib.hid ((hb14.block (w.heap.size + 1) (by omega)).trans R2w2.out))
  refine hK.out _ _ ?_ (fun hHeldN => ?_)
  · (try dsimp only); exact ⟨fiveT R1w3.out, fiveT R2w3.out⟩
  clear hK K hHeld
  have hHeld := hHeldN
  clear hHeldN
  have hS4 := Lib.hid (H1.out.below hB14 (Nat.le_refl _))
  have hS4' := Lib.hid (H1'.out.below hB14 (Nat.le_refl _))
  have CT19 := Lib.hid (compareL_any _ _ t.s t'.s w3 hS4.out hS4'.out)
  refine wpAnyH_ready (rs := [19]) (by kernel_rfl) (by simp) ?_
  refine AllReadyH.cons rfl (fun K hK => ?_) AllReadyH.nil
  go_simp
  go_wp2_with (go_at_call 18; refine CT19.out.mono ?_; rintro e w4 ⟨rfl, hb19⟩; have hB19 : Below w.heap.size w w4 := hB14.trans (hb19.mono (by omega)); have hz19 : w.heap.size + 2 ≤ w4.heap.size := Nat.le_trans hz14 hb19.size; have R1w4 := Lib.hid ((hb19.block w.heap.size (by omega)).trans R1w3.out); have R2w4 := Lib.hid ((hb19.block (w.heap.size + 1) (by omega)).trans R2w3.out))
  refine hK.out _ _ ?_ (fun hHeldN => ?_)
  · (try dsimp only); exact ⟨fiveT R1w4.out, fiveT R2w4.out⟩
  clear hK K hHeld
  have hHeld := hHeldN
  clear hHeldN
  generalize cmpI t.o t'.o = z1 at *
  generalize Lib.compareBytes t.x t'.x = z2 at *
  generalize cmpI t.i t'.i = z3 at *
  generalize cmpL Lib.compareBytes t.s t'.s = z4 at *
  have hal := below_alloc w4 (Obj.cells #[.int .i64 z1, .int .i64 z2, .int .i64 z3, .int .i64 z4] 3)
  have hB5 := hB19.trans (hal.mono (by omega))
  have ra := heap_alloc_new w4 (Obj.cells #[.int .i64 z1, .int .i64 z2, .int .i64 z3, .int .i64 z4] 3)
  have R15 := Lib.hid ((hal.block w.heap.size (by omega)).trans R1w4.out)
  have R25 := Lib.hid ((hal.block (w.heap.size + 1) (by omega)).trans R2w4.out)
  refine wpAnyH_ready (rs := [20]) (by kernel_rfl) (by simp) ?_
  refine AllReadyH.cons rfl (fun K hK => ?_) AllReadyH.nil
  go_simp
  refine hK.out _ _ ?_ (fun hHeldN => ?_)
  · (try dsimp only); exact ⟨fiveT R15.out, fiveT R25.out⟩
  clear hK K hHeld
  have hHeld := hHeldN
  clear hHeldN
  have OR := Lib.hid (or_any w4.heap.size 4 [z1, z2, z3, z4] _ (by simp) (cells4_at ra))
  rw [← HOWN.out] at OR
  refine wpAnyH_ready (rs := [21]) (by kernel_rfl) (by simp) ?_
  refine AllReadyH.cons rfl (fun K hK => ?_) AllReadyH.nil
  go_simp
  go_wp2_with (go_at_call 15; refine OR.out.mono ?_; rintro e w6 ⟨rfl, rfl⟩)
  refine hK.out _ _ ?_ (fun hHeldN => ?_)
  · (try dsimp only); exact ⟨fiveT R15.out, fiveT R25.out⟩
  clear hK K hHeld
  have hHeld := hHeldN
  clear hHeldN
  refine wpAnyH_take (i := 22) (oi := { dst := some 5, op := Op.assign (Operand.tmp 27), type := 3, pos := "types.go:106", after := #[{ on := 21, ground := Ground.data }, { on := 21, ground := Ground.chain }, { on := 0, ground := Ground.phase }, { on := 1, ground := Ground.phase }, { on := 2, ground := Ground.phase }, { on := 3, ground := Ground.phase }, { on := 4, ground := Ground.phase }, { on := 5, ground := Ground.phase }, { on := 6, ground := Ground.phase }, { on := 7, ground := Ground.phase }, { on := 8, ground := Ground.phase }, { on := 9, ground := Ground.phase }, { on := 10, ground := Ground.phase }, { on := 11, ground := Ground.phase }, { on := 12, ground := Ground.phase }, { on := 13, ground := Ground.phase }, { on := 14, ground := Ground.phase }, { on := 15, ground := Ground.phase }, { on := 16, ground := Ground.phase }, { on := 17, ground := Ground.phase }, { on := 18, ground := Ground.phase }, { on := 19, ground := Ground.phase }, { on := 20, ground := Ground.phase }, { on := 21, ground := Ground.phase }], guard := none }) (v := ?v22) rfl (by kernel_rfl) (by kernel_rfl) (by kernel_rfl) (fun _ _ _ h => h) (Or.inl ⟨by rfl, ?hy22⟩) (by assumption) ?rest22
  case hy22 => (intro wq hSq; (try dsimp only at hSq); go_simp; try with_reducible rfl)
  try simp only [Act.put, List.setIfInBounds_toArray, List.set_cons_zero, List.set_cons_succ]
  refine wpAnyH_done (by kernel_rfl) ?_ _
  have hz6 : w.heap.size ≤ (w4.alloc (Obj.cells #[.int .i64 z1, .int .i64 z2, .int .i64 z3, .int .i64 z4] 3)).heap.size := hB5.size
  by_cases h0 : own = 0
  · have hE : Hid (r = cmpL cmpT t.l t'.l) := by unfold Hid; rw [HR.out, if_neg (fun h => h h0)]
    have d0 : (own != 0) = false := by simp [h0]
    have LC := Lib.hid (HL _ _ t.l t'.l _ (H2.out.below hB5) (H2'.out.below hB5))
    obtain ⟨x0, x1, x2, x3, x4⟩ := fiveT R15.out
    obtain ⟨y0, y1, y2, y3, y4⟩ := fiveT R25.out
    generalize (w4.alloc (Obj.cells #[.int .i64 z1, .int .i64 z2, .int .i64 z3, .int .i64 z4] 3)) = w6 at *
    clear h0 ra hal hHeld
    go_wp2_with fail
    refine LC.out.mono ?_
    rintro e w7 ⟨rfl, hb7⟩
    go_wp2_with fail
    go_ret
    exact ⟨by rw [hE.out]; rfl, hB5.trans (hb7.mono hz6)⟩
  · have hE : Hid (r = own) := by unfold Hid; rw [HR.out, if_pos h0]
    have d0 : (own != 0) = true := by simpa using h0
    generalize (w4.alloc (Obj.cells #[.int .i64 z1, .int .i64 z2, .int .i64 z3, .int .i64 z4] 3)) = w6 at *
    clear h0 ra hal hHeld
    go_wp2_with fail
    go_ret
    exact ⟨by rw [hE.out]; rfl, hB5⟩

theorem cmpLC_any : ∀ d, CmpLC d
  | 0 => cmpLC_zero
  | d + 1 => cmpLC_step (cmpC_of (cmpLC_any d))

theorem cmpC_any (d : Nat) : CmpC d := cmpC_of (cmpLC_any d)
end Go.Proofs.YtkmoepabnnjoaaaDoor

/- The law's count 9 and Few 4. -/
namespace Go.Proofs.YtkmoepabnnjoaaaDoor
open Go.RowKit Go.WideMaps Go.Shelf
attribute [local go_sem] Oper.semAt_some

theorem longS_any (x : Nm) (w : World) (hx : x.length ≤ maxLen) : Calls Tryd.prog 24 #[.string (bs x)] w fun e w' => (∃ r : Bool, e = .returned (.bool r)) ∧ Below w.heap.size w w' := by
  have hs : (bs x).size = x.length := bs_size x
  unfold maxLen at hx
  go_enter Tryd.func24, Tryd.ntmps24
  go_wp2_with fail
  go_ret
  exact ⟨⟨_, rfl⟩, Below.refl _ _⟩

theorem indexS_any (u : Value) (ss : List Nm) (w : World) (hs : SlS w u ss) : Calls Tryd.prog 33 #[u, .func (.func 24) #[] #[]] w fun e w' => (∃ r : Int, e = .returned (.int .i64 r)) ∧ Below w.heap.size w w' := by
  have HS := Lib.hid hs
  obtain ⟨hl, a, c, rfl, _⟩ := hs
  unfold maxLen at hl
  go_enter Tryd.func33, Tryd.ntmps33
  go_wp2_with fail
  go_loopw [8] (fun i wr => ∃ k : Nat, k ≤ ss.length ∧ i = .int .i64 k ∧ Below w.heap.size w wr) (fun i _ => ss.length - (intOf i).toNat)
  case atStart => exact ⟨0, by omega, rfl, Below.refl _ _⟩
  case round =>
    obtain ⟨k, hk, rfl, hB⟩ := hrel
    by_cases hlt : k < ss.length
    · obtain ⟨b, off, x, rfl, hb, g1, hxl, hx⟩ := HS.out.at hlt
      have e1 := (hB.cell (p := ⟨b, off + k, none⟩) hb).trans g1
      have LS := Lib.hid (longS_any x wr hxl)
      clear g1 hx
      go_wp2_with fail
      refine LS.out.mono ?_
      rintro e w2 ⟨⟨r, rfl⟩, hb2⟩
      have hB2 := hB.trans (hb2.mono hB.size)
      cases r with
      | true =>
        go_wp2_with fail
        go_ret
        exact ⟨⟨_, rfl⟩, hB2⟩
      | false =>
        go_wp2_with fail
        go_roundw
        case rel => exact ⟨k + 1, by omega, by go_num, hB2⟩
        case measure => simp [intOf]; omega
    · go_wp2_with fail
      go_ret
      exact ⟨⟨_, rfl⟩, hB⟩

theorem containsS_any (u : Value) (ss : List Nm) (w : World) (hs : SlS w u ss) : Calls Tryd.prog 23 #[u, .func (.func 24) #[] #[]] w fun e w' => (∃ r : Bool, e = .returned (.bool r)) ∧ Below w.heap.size w w' := by
  have IX := Lib.hid (indexS_any u ss w hs)
  obtain ⟨_, a, c, rfl, _⟩ := hs
  go_enter Tryd.func23, Tryd.ntmps23
  go_wp2_with fail
  refine IX.out.mono ?_
  rintro e w2 ⟨⟨r, rfl⟩, hb2⟩
  go_wp2_with fail
  go_ret
  exact ⟨⟨_, rfl⟩, hb2⟩

def KP (w : World) (e : Ending) (w' : World) : Prop := (∃ (k : Int) (r : Bool), e = .returned (.tuple #[.int .i64 k, .bool r])) ∧ Below w.heap.size w w'

def CountC (d : Nat) : Prop :=
  ∀ (v : Value) (t : TY) (most : Int) (w : World), TyM w d v t → Calls Tryd.prog 9 #[v, .int .i64 most] w (KP w)

set_option maxRecDepth 100000 in
set_option maxHeartbeats 4000000 in
theorem count_body {d : Nat} (v : Value) (t : TY) (most : Int) (w : World) (HC : 0 < t.l.length → CountC d) (h : TyM w (d + 1) v t) :
    Calls Tryd.prog 9 #[v, .int .i64 most] w (KP w) := by
  have HCC := Lib.hid HC
  have hh := h
  obtain ⟨vs, va, rfl, hx, h1, h2⟩ := hh
  obtain ⟨p3, q3, p4, q4, rfl, rfl⟩ := h.forms
  have ha := below_alloc w (Obj.cells #[.int .i64 t.o, .string (bs t.x), .int .i64 t.i, .slice p3 t.s.length q3, .slice p4 t.l.length q4] 25)
  have r1 := heap_alloc_new w (Obj.cells #[.int .i64 t.o, .string (bs t.x), .int .i64 t.i, .slice p3 t.s.length q3, .slice p4 t.l.length q4] 25)
  have hz : (w.alloc (Obj.cells #[.int .i64 t.o, .string (bs t.x), .int .i64 t.i, .slice p3 t.s.length q3, .slice p4 t.l.length q4] 25)).heap.size = w.heap.size + 1 := by simp
  have CT := Lib.hid (containsS_any _ t.s _ (h1.below ha (Nat.le_refl _)))
  have HL := Lib.hid h2
  have hm1 := h2.1
  unfold maxLen at hm1 hx
  have hsl := h1.1
  unfold maxLen at hsl
  have hxs : (bs t.x).size = t.x.length := bs_size t.x
  have R1 := Lib.hid r1
  have HB := Lib.hid ha
  have HZ := Lib.hid hz
  obtain ⟨x0, x1, x2, x3, x4⟩ := fiveT r1
  clear HC h h1 h2 ha r1 hz
  go_enter Tryd.func9, Tryd.ntmps9
  by_cases c0 : 25 < t.s.length
  · have d0 : decide ((25 : Int) < ((t.s.length : Nat) : Int)) = true := by simp; omega
    clear c0
    go_wp2_with fail
    go_ret2
    exact ⟨⟨_, _, rfl⟩, HB.out⟩
  · have d0 : decide ((25 : Int) < ((t.s.length : Nat) : Int)) = false := by simp; omega
    clear c0
    by_cases c1 : 60 < t.x.length
    · have d1 : decide ((60 : Int) < ((t.x.length : Nat) : Int)) = true := by simp; omega
      clear c1
      go_wp2_with fail
      go_ret2
      exact ⟨⟨_, _, rfl⟩, HB.out⟩
    · have d1 : decide ((60 : Int) < ((t.x.length : Nat) : Int)) = false := by simp; omega
      clear c1
      go_wp2_with fail
      refine CT.out.mono ?_
      rintro e w2 ⟨⟨r, rfl⟩, hb2⟩
      have hB2 := HB.out.trans (hb2.mono HB.out.size)
      have S1 := (hb2.block w.heap.size (Array.getElem?_eq_some_iff.1 R1.out).1).trans R1.out
      clear x0 x1 x2 x3 x4
      obtain ⟨x0, x1, x2, x3, x4⟩ := fiveT S1
      cases r with
      | true =>
        go_wp2_with fail
        go_ret2
        exact ⟨⟨_, _, rfl⟩, hB2⟩
      | false =>
        go_wp2_with fail
        clear x0 x1 x2 x3 x4 S1
        go_loopw [6, 29] (fun s i wr => ∃ (k : Nat) (m : Int), k ≤ t.l.length ∧ s = .int .i64 m ∧ i = .int .i64 k ∧ Below w.heap.size w wr) (fun _ i _ => t.l.length - (intOf i).toNat)
        case atStart => exact ⟨0, 1, by omega, rfl, rfl, hB2⟩
        case round =>
          obtain ⟨k, m, hk, rfl, rfl, hB⟩ := hrel
          by_cases hlt : k < t.l.length
          · obtain ⟨b1, o1, vs, va, rfl, hb1, g0, g1, g2, g3, g4, ht⟩ := HL.out.at hlt
            obtain ⟨p3', q3', p4', q4', rfl, rfl⟩ := ht.forms
            have k1 : ∀ {i : Nat} {u : Value}, w.cell? ⟨b1, i, none⟩ = some u → wr.cell? ⟨b1, i, none⟩ = some u := fun h => (hB.cell (p := ⟨b1, _, none⟩) hb1).trans h
            have e0 := k1 g0
            have e1 := k1 g1
            have e2 := k1 g2
            have e3 := k1 g3
            have e4 := k1 g4
            clear g0 g1 g2 g3 g4 k1
            generalize t.l.getD k ty0 = u at *
            have hb := below_alloc wr (Obj.cells #[.int .i64 u.o, .string (bs u.x), .int .i64 u.i, .slice p3' u.s.length q3', .slice p4' u.l.length q4'] 25)
            have s1 := heap_alloc_new wr (Obj.cells #[.int .i64 u.o, .string (bs u.x), .int .i64 u.i, .slice p3' u.s.length q3', .slice p4' u.l.length q4'] 25)
            have hBB := hB.trans (hb.mono hB.size)
            have CC := Lib.hid (fun M => HCC.out (by omega) _ u M _ (ht.below hBB))
            obtain ⟨y0, y1, y2, y3, y4⟩ := fiveT s1
            have HBB := Lib.hid hBB
            have hsz := hBB.size
            clear ht hb s1 hBB
            by_cases hmm : most < m
            · have dm : decide (most < m) = true := decide_eq_true hmm
              clear hmm
              go_wp2_with fail
              go_ret2
              exact ⟨⟨_, _, rfl⟩, HBB.out⟩
            · have dm : decide (most < m) = false := decide_eq_false hmm
              clear hmm
              go_wp2_with fail
              refine (CC.out _).mono ?_
              rintro e w3 ⟨⟨k', r', rfl⟩, hb3⟩
              have hB3 := HBB.out.trans (hb3.mono hsz)
              clear y0 y1 y2 y3 y4 e0 e1 e2 e3 e4 CC
              cases r' with
              | false =>
                go_wp2_with fail
                go_ret2
                exact ⟨⟨_, _, rfl⟩, hB3⟩
              | true =>
                go_wp2_with fail
                go_roundw
                case rel => exact ⟨k + 1, _, by omega, rfl, by go_num, hB3⟩
                case measure => simp [intOf]; omega
          · go_wp2_with fail
            go_ret2
            exact ⟨⟨_, _, rfl⟩, hB⟩

theorem count_any : ∀ d, CountC d
  | 0 => fun v t most w h => by
    have hl : t.l = [] := by obtain ⟨_, _, _, _, _, ⟨_, hl⟩⟩ := h; exact hl
    have h' : TyM w (0 + 1) v t := h.mono (Nat.le_succ 0)
    exact count_body (d := 0) v t most w (fun hn => absurd hn (by rw [hl]; simp)) h'
  | d + 1 => fun v t most w h => count_body v t most w (fun _ => count_any d) h

def BP (w : World) (e : Ending) (w' : World) : Prop := (∃ r : Bool, e = .returned (.bool r)) ∧ Below w.heap.size w w'

set_option maxRecDepth 100000 in
set_option maxHeartbeats 4000000 in
theorem few_any {d : Nat} (v : Value) (l : List TY) (most : Int) (w : World) (h : SlTy w (d + 1) v l) : Calls Tryd.prog 4 #[.int .i64 most, v] w (BP w) := by
  have HL := Lib.hid h
  obtain ⟨hl1, a1, c1, rfl, _⟩ := h
  unfold maxLen at hl1
  go_enter Tryd.func4, Tryd.ntmps4
  go_wp2_with fail
  go_loopw [11] (fun i wr => ∃ k : Nat, k ≤ l.length ∧ i = .int .i64 k ∧ Below w.heap.size w wr) (fun i _ => l.length - (intOf i).toNat)
  case atStart => exact ⟨0, by omega, rfl, Below.refl _ _⟩
  case round =>
    obtain ⟨k, hk, rfl, hB⟩ := hrel
    by_cases hlt : k < l.length
    · obtain ⟨b1, o1, vs, va, rfl, hb1, g0, g1, g2, g3, g4, ht⟩ := HL.out.at hlt
      obtain ⟨p3', q3', p4', q4', rfl, rfl⟩ := ht.forms
      have k1 : ∀ {i : Nat} {u : Value}, w.cell? ⟨b1, i, none⟩ = some u → wr.cell? ⟨b1, i, none⟩ = some u := fun h => (hB.cell (p := ⟨b1, _, none⟩) hb1).trans h
      have e0 := k1 g0
      have e1 := k1 g1
      have e2 := k1 g2
      have e3 := k1 g3
      have e4 := k1 g4
      clear g0 g1 g2 g3 g4 k1
      generalize l.getD k ty0 = u at *
      have hb := below_alloc wr (Obj.cells #[.int .i64 u.o, .string (bs u.x), .int .i64 u.i, .slice p3' u.s.length q3', .slice p4' u.l.length q4'] 25)
      have s1 := heap_alloc_new wr (Obj.cells #[.int .i64 u.o, .string (bs u.x), .int .i64 u.i, .slice p3' u.s.length q3', .slice p4' u.l.length q4'] 25)
      have hBB := hB.trans (hb.mono hB.size)
      have CC := Lib.hid (count_any d _ u most _ (ht.below hBB))
      obtain ⟨y0, y1, y2, y3, y4⟩ := fiveT s1
      have HBB := Lib.hid hBB
      have hsz := hBB.size
      clear ht hb s1 hBB
      unfold KP at CC
      go_wp2_with fail
      refine CC.out.mono ?_
      rintro e w3 ⟨⟨k', r', rfl⟩, hb3⟩
      have hB3 := HBB.out.trans (hb3.mono hsz)
      clear y0 y1 y2 y3 y4 e0 e1 e2 e3 e4 CC
      cases r' with
      | false =>
        go_wp2_with fail
        go_ret
        exact ⟨⟨_, rfl⟩, hB3⟩
      | true =>
        by_cases hm : most < k'
        · have dm : decide (most < k') = true := decide_eq_true hm
          clear hm
          go_wp2_with fail
          go_ret
          exact ⟨⟨_, rfl⟩, hB3⟩
        · have dm : decide (most < k') = false := decide_eq_false hm
          clear hm
          go_wp2_with fail
          go_roundw
          case rel => exact ⟨k + 1, by omega, by go_num, hB3⟩
          case measure => simp [intOf]; omega
    · go_wp2_with fail
      go_ret
      exact ⟨⟨_, rfl⟩, hB⟩
end Go.Proofs.YtkmoepabnnjoaaaDoor
