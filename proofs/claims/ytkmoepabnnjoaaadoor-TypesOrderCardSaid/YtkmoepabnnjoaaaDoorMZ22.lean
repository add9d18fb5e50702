/- triforiumlaw02.awake 5. -/
import Derived.Test.YtkmoepabnnjoaaaDoorMZ21
import Derived.Test.YtkmoepabnnjoaaaDoorMZ14
namespace Go.Proofs.YtkmoepabnnjoaaaDoor
open Go.RowKit Go.WideMaps Go.Shelf Go.Lib
attribute [local go_sem] Oper.semAt_some

/-- what awake keeps: the sort's row, the variable's box -/
structure AwS (w W : World) : Prop where
  row : W.heap[w.heap.size]? = some (Obj.cells #[.string ⟨#[99]⟩] 9)
  box : W.heap[w.heap.size + 1]? = some (Obj.cells #[.int .i64 3, .string ⟨#[97]⟩, .int .i64 0, .slice (some ⟨w.heap.size, 0, none⟩) 1 1, .slice none 0 0] 25)
  below : Below w.heap.size w W

theorem AwS.later {w W W' : World} (h : AwS w W) (hb : Below W.heap.size W W') : AwS w W' :=
  ⟨(hb.block _ (Array.getElem?_eq_some_iff.1 h.row).1).trans h.row, (hb.block _ (Array.getElem?_eq_some_iff.1 h.box).1).trans h.box, h.below.trans (hb.mono h.below.size)⟩

theorem AwS.leaf {w W : World} (h : AwS w W) : LeafV W 3 0 [97] [[99]] (.agg #[.int .i64 3, .string ⟨#[97]⟩, .int .i64 0, .slice (some ⟨w.heap.size, 0, none⟩) 1 1, .slice none 0 0]) := by
  refine ⟨some ⟨w.heap.size, 0, none⟩, 1, rfl, (show 1 ≤ maxLen by decide), _, 1, rfl, fun _ => ⟨w.heap.size, 0, rfl, (Array.getElem?_eq_some_iff.1 h.row).1, fun k hk => ?_, fun s hs => ?_⟩⟩
  · have hk0 : k = 0 := by have : k < 1 := hk; omega
    subst hk0
    rw [cell_of_row _ _ (0 + 0) _ _ _ h.row]; rfl
  · have : s = [99] := by simpa using hs
    subst this
    decide

theorem two_of {W : World} {g : Nat} {p5 p6 : Option Addr} {q5 q6 : Nat} (hr : W.heap[g]? = some (Obj.cells #[.int .i64 3, .string (bs [97]), .int .i64 0, .slice p5 1 q5, .slice none 0 0, .int .i64 1, .string (bs [112, 114, 111, 112]), .int .i64 0, .slice p6 0 q6, .slice none 0 0] 25))
    (hm : TyM W 1 (.agg #[.int .i64 1, .string ⟨#[102, 117, 110]⟩, .int .i64 0, .slice none 0 0, .slice (some ⟨g, 0, none⟩) 2 2]) tF) : ∃ bk o, Two W g [97] [99] [112, 114, 111, 112] bk o q5 0 p6 q6 := by
  obtain ⟨vs, va, e, _, _, h3⟩ := hm
  injection e with e
  simp only [List.toArray_eq_iff, Array.mk.injEq, List.cons.injEq] at e
  obtain ⟨_, _, _, _, rfl, _⟩ := e
  obtain ⟨b, off, vs', va', e1, hb, g0, g1, g2, g3, g4, _, _, e2, _, hss, _⟩ := h3.at (j := 0) (show 0 < 2 by omega)
  injection e1 with e1
  injection e1 with e1 e3 _
  subst e1
  subst e3
  have c3 : W.cell? ⟨g, 3, none⟩ = some (.slice p5 1 q5) := by rw [cell_of_row _ _ 3 _ _ _ hr]; rfl
  have g3' : W.cell? ⟨g, 3, none⟩ = some vs' := g3
  rw [c3] at g3'
  injection g3' with g3'
  injection e2 with e2
  simp only [List.toArray_eq_iff, Array.mk.injEq, List.cons.injEq] at e2
  obtain ⟨_, _, _, e4, _, _⟩ := e2
  rw [← e4, ← g3'] at hss
  obtain ⟨_, a, cap, e5, h6⟩ := hss
  injection e5 with e5 _ _
  obtain ⟨bk, o, e6, _, h7⟩ := h6 (show 0 < 1 by omega)
  subst e5
  rw [e6] at c3
  refine ⟨bk, o, ⟨by rw [cell_of_row _ _ 0 _ _ _ hr]; rfl, by rw [cell_of_row _ _ 1 _ _ _ hr]; rfl, by rw [cell_of_row _ _ 2 _ _ _ hr]; rfl, c3, by rw [cell_of_row _ _ 4 _ _ _ hr]; rfl⟩, ⟨by rw [cell_of_row _ _ 5 _ _ _ hr]; rfl, by rw [cell_of_row _ _ 6 _ _ _ hr]; rfl, by rw [cell_of_row _ _ 7 _ _ _ hr]; rfl, by rw [cell_of_row _ _ 8 _ _ _ hr]; rfl, by rw [cell_of_row _ _ 9 _ _ _ hr]; rfl⟩, ?_⟩
  exact h7.1 0 (show 0 < 1 by omega)

theorem accTx : (⟨(accF [] [102, 117, 110] [97] [99] [112, 114, 111, 112] 2 ++ [41]).toArray⟩ : ByteArray) = bs txF := rfl

theorem fun_at (w W : World) (h : AwS w W) (W2 : World) (hb : Below W.heap.size W W2) (v : Value) (hv : LeafV W2 1 0 [112, 114, 111, 112] [] v) :
    Calls Tryd.prog 11 #[.agg #[.int .i64 3, .string ⟨#[97]⟩, .int .i64 0, .slice (some ⟨w.heap.size, 0, none⟩) 1 1, .slice none 0 0], v] W2 fun e w' => (∃ v g p5 q5 p6 q6, e = .returned v ∧ v = .agg #[.int .i64 1, .string ⟨#[102, 117, 110]⟩, .int .i64 0, .slice none 0 0, .slice (some ⟨g, 0, none⟩) 2 2] ∧ TyM w' 1 v tF ∧ w'.heap[g]? = some (Obj.cells #[.int .i64 3, .string (bs [97]), .int .i64 0, .slice p5 1 q5, .slice none 0 0, .int .i64 1, .string (bs [112, 114, 111, 112]), .int .i64 0, .slice p6 0 q6, .slice none 0 0] 25)) ∧ Below W2.heap.size W2 w' := by
  refine (funLeaf_any 3 0 [97] [[99]] _ 1 0 [112, 114, 111, 112] [] v W2 (h.later hb).leaf hv (by decide) (by decide) (by decide) (by decide)).mono ?_
  rintro e w' ⟨⟨v', rfl, ⟨g, p5, q5, p6, q6, e1, e2⟩, e3⟩, hb'⟩
  exact ⟨⟨v', g, p5, q5, p6, q6, rfl, e1, e3, e2⟩, hb'⟩

set_option maxRecDepth 100000 in
set_option maxHeartbeats 4000000 in
theorem awake_any (w : World) : Calls Tryd.prog 5 #[] w fun e w' => e = .returned (.bool true) ∧ Below w.heap.size w w' := by
  have r0 := heap_alloc_new w (Obj.cells #[.string ⟨#[99]⟩] 9)
  have b0 := below_alloc w (Obj.cells #[.string ⟨#[99]⟩] 9)
  have z0 : (w.alloc (Obj.cells #[.string ⟨#[99]⟩] 9)).heap.size = w.heap.size + 1 := by simp
  have r1 := heap_alloc_new (w.alloc (Obj.cells #[.string ⟨#[99]⟩] 9)) (Obj.cells #[.int .i64 3, .string ⟨#[97]⟩, .int .i64 0, .slice (some ⟨w.heap.size, 0, none⟩) 1 1, .slice none 0 0] 25)
  have b1 := below_alloc (w.alloc (Obj.cells #[.string ⟨#[99]⟩] 9)) (Obj.cells #[.int .i64 3, .string ⟨#[97]⟩, .int .i64 0, .slice (some ⟨w.heap.size, 0, none⟩) 1 1, .slice none 0 0] 25)
  rw [z0] at r1 b1
  have S1 := Lib.hid (show AwS w ((w.alloc (Obj.cells #[.string ⟨#[99]⟩] 9)).alloc (Obj.cells #[.int .i64 3, .string ⟨#[97]⟩, .int .i64 0, .slice (some ⟨w.heap.size, 0, none⟩) 1 1, .slice none 0 0] 25)).drew from ⟨(b1.block _ (by omega)).trans r0, r1, (b0.trans (b1.mono (by omega))).drew⟩)
  clear r0 b0 z0 r1 b1
  go_enter Tryd.func5, Tryd.ntmps5
  go_upto_region 2 with (fail)
  generalize hW1 : ((w.alloc (Obj.cells #[.string ⟨#[99]⟩] 9)).alloc (Obj.cells #[.int .i64 3, .string ⟨#[97]⟩, .int .i64 0, .slice (some ⟨w.heap.size, 0, none⟩) 1 1, .slice none 0 0] 25)) = W1 at *
  clear hW1
  refine wp_region_held_drew (S := (fun w' => w'.cell? ⟨w.heap.size + 1, 0, none⟩ = some (.int .i64 3) ∧ w'.cell? ⟨w.heap.size + 1, 1, none⟩ = some (.string ⟨#[97]⟩) ∧ w'.cell? ⟨w.heap.size + 1, 2, none⟩ = some (.int .i64 0) ∧ w'.cell? ⟨w.heap.size + 1, 3, none⟩ = some (.slice (some ⟨w.heap.size, 0, none⟩) 1 1) ∧ w'.cell? ⟨w.heap.size + 1, 4, none⟩ = some (.slice none 0 0))) (by kernel_rfl) ?_ (fun hHeld => ?_)
  · exact fiveT S1.out.box
  refine wpAnyH_take (i := 0) (oi := { dst := some 9, op := Op.load 25 (Operand.tmp 1), type := 25, pos := "law.go:16", after := #[], guard := none }) (v := ?v0) rfl (by kernel_rfl) (by kernel_rfl) (by kernel_rfl) (fun _ _ _ h => h) (Or.inl ⟨by rfl, ?hy0⟩) (by assumption) ?rest0
  case hy0 => (intro wq hSq; (try dsimp only at hSq); go_simp; try with_reducible rfl)
  try simp only [Act.put, List.setIfInBounds_toArray, List.set_cons_zero, List.set_cons_succ]
  refine wpAnyH_ready (rs := [1]) (by kernel_rfl) (by simp) ?_
  refine AllReadyH.cons rfl (fun K hK => ?_) AllReadyH.nil
  go_simp
  go_wp2_with (refine (prop_any _).mono ?_; rintro e w2 ⟨⟨v2, rfl, lv2⟩, hb2⟩; have S2 := Lib.hid (S1.out.later hb2))
  refine hK.out _ _ ?_ (fun hHeldN => ?_)
  · (try dsimp only); exact fiveT S2.out.box
  clear hK K hHeld
  have hHeld := hHeldN
  clear hHeldN
  have FU := Lib.hid (fun_at w _ S2.out _ (Below.refl _ _) v2 lv2)
  obtain ⟨p2, q2, rfl, _⟩ := lv2
  clear hb2 S1
  refine wpAnyH_ready (rs := [2]) (by kernel_rfl) (by simp) ?_
  refine AllReadyH.cons rfl (fun K hK => ?_) AllReadyH.nil
  go_simp
  go_wp2_with (refine FU.out.mono ?_; rintro e w3 ⟨⟨v3, g, p5, q5, p6, q6, rfl, rfl, hm3, hr3⟩, hb3⟩; have S3 := Lib.hid (S2.out.later hb3))
  refine hK.out _ _ ?_ (fun hHeldN => ?_)
  · (try dsimp only); exact fiveT S3.out.box
  clear hK K hHeld
  have hHeld := hHeldN
  clear hHeldN
  obtain ⟨bk, o, htw⟩ := two_of hr3 hm3
  have TX := Lib.hid (textFun [102, 117, 110] [97] [99] [112, 114, 111, 112] 0 0 none p6 0 q5 q6 g 2 bk o tF 1 w3 (by decide) htw hm3 tF_size tF_form)
  rw [accTx] at TX
  clear FU hm3 hr3 hb3 S2 htw
  refine wpAnyH_ready (rs := [3]) (by kernel_rfl) (by simp) ?_
  refine AllReadyH.cons rfl (fun K hK => ?_) AllReadyH.nil
  go_simp
  go_wp2_with (refine TX.out.mono ?_; rintro e w4 ⟨rfl, hb4⟩; have S4 := Lib.hid (S3.out.later hb4))
  refine hK.out _ _ ?_ (fun hHeldN => ?_)
  · (try dsimp only); exact fiveT S4.out.box
  clear hK K hHeld
  have hHeld := hHeldN
  clear hHeldN
  clear hb4 TX S3
  refine wpAnyH_take (i := 4) (oi := { dst := some 8, op := Op.move (Operand.tmp 12), type := 34, pos := "law.go:16", after := #[{ on := 3, ground := Ground.data }], guard := none }) (v := ?v4) rfl (by kernel_rfl) (by kernel_rfl) (by kernel_rfl) (fun _ _ _ h => h) (Or.inl ⟨by rfl, ?hy4⟩) (by assumption) ?rest4
  case hy4 => (intro wq hSq; (try dsimp only at hSq); go_simp; try with_reducible rfl)
  try simp only [Act.put, List.setIfInBounds_toArray, List.set_cons_zero, List.set_cons_succ]
  refine wpAnyH_take (i := 5) (oi := { dst := some 13, op := Op.extract (Operand.tmp 8) 0, type := 9, pos := "law.go:16", after := #[{ on := 4, ground := Ground.data }], guard := none }) (v := ?v5) rfl (by kernel_rfl) (by kernel_rfl) (by kernel_rfl) (fun _ _ _ h => h) (Or.inl ⟨by rfl, ?hy5⟩) (by assumption) ?rest5
  case hy5 => (intro wq hSq; (try dsimp only at hSq); go_simp; try with_reducible rfl)
  try simp only [Act.put, List.setIfInBounds_toArray, List.set_cons_zero, List.set_cons_succ]
  refine wpAnyH_take (i := 6) (oi := { dst := some 14, op := Op.extract (Operand.tmp 8) 1, type := 33, pos := "law.go:16", after := #[{ on := 4, ground := Ground.data }, { on := 7, ground := Ground.gcOnly Departure.lateStores }], guard := none }) (v := ?v6) rfl (by kernel_rfl) (by kernel_rfl) (by kernel_rfl) (fun _ _ _ h => h) (Or.inl ⟨by rfl, ?hy6⟩) (by assumption) ?rest6
  case hy6 => (intro wq hSq; (try dsimp only at hSq); go_simp; try with_reducible rfl)
  try simp only [Act.put, List.setIfInBounds_toArray, List.set_cons_zero, List.set_cons_succ]
  refine wpAnyH_take (i := 7) (oi := { dst := some 2, op := Op.assign (Operand.tmp 13), type := 9, pos := "law.go:16", after := #[{ on := 5, ground := Ground.data }, { on := 3, ground := Ground.chain }, { on := 0, ground := Ground.phase }, { on := 1, ground := Ground.phase }, { on := 2, ground := Ground.phase }, { on := 3, ground := Ground.phase }, { on := 4, ground := Ground.phase }, { on := 5, ground := Ground.phase }, { on := 6, ground := Ground.textOnly Departure.lateStores }], guard := none }) (v := ?v7) rfl (by kernel_rfl) (by kernel_rfl) (by kernel_rfl) (fun _ _ _ h => h) (Or.inl ⟨by rfl, ?hy7⟩) (by assumption) ?rest7
  case hy7 => (intro wq hSq; (try dsimp only at hSq); go_simp; try with_reducible rfl)
  try simp only [Act.put, List.setIfInBounds_toArray, List.set_cons_zero, List.set_cons_succ]
  refine wpAnyH_take (i := 8) (oi := { dst := some 3, op := Op.assign (Operand.tmp 14), type := 33, pos := "law.go:16", after := #[{ on := 6, ground := Ground.data }, { on := 7, ground := Ground.chain }, { on := 0, ground := Ground.phase }, { on := 1, ground := Ground.phase }, { on := 2, ground := Ground.phase }, { on := 3, ground := Ground.phase }, { on := 4, ground := Ground.phase }, { on := 5, ground := Ground.phase }, { on := 6, ground := Ground.phase }, { on := 7, ground := Ground.phase }], guard := none }) (v := ?v8) rfl (by kernel_rfl) (by kernel_rfl) (by kernel_rfl) (fun _ _ _ h => h) (Or.inl ⟨by rfl, ?hy8⟩) (by assumption) ?rest8
  case hy8 => (intro wq hSq; (try dsimp only at hSq); go_simp; try with_reducible rfl)
  try simp only [Act.put, List.setIfInBounds_toArray, List.set_cons_zero, List.set_cons_succ]
  refine wpAnyH_done (by kernel_rfl) ?_ _
  clear hHeld
  have RF := Lib.hid (readFun w4)
  go_wp2_with fail
  refine RF.out.mono ?_
  rintro e w5 ⟨⟨v5, rfl, fv5⟩, hb5⟩
  have S5 := Lib.hid (S4.out.later hb5)
  obtain ⟨g5, c5, G, C, rfl, _⟩ := fv5.lv
  have hb6 := below_alloc w5 (Obj.cells #[.int .i64 1, .string (bs [102, 117, 110]), .int .i64 0, .slice none 0 0, .slice (some ⟨G, 0, none⟩) 2 C] 25)
  have S6 := Lib.hid (S5.out.later hb6.drew)
  have T6 : Hid ((w5.alloc (Obj.cells #[.int .i64 1, .string (bs [102, 117, 110]), .int .i64 0, .slice none 0 0, .slice (some ⟨G, 0, none⟩) 2 C] 25)).drew.heap[w5.heap.size]? = some (Obj.cells #[.int .i64 1, .string (bs [102, 117, 110]), .int .i64 0, .slice none 0 0, .slice (some ⟨G, 0, none⟩) 2 C] 25)) := heap_alloc_new w5 _
  have F6 := Lib.hid (fv5.later hb6.drew)
  have HS : Hid (w4.heap.size ≤ w5.heap.size) := hb5.size
  clear fv5 hb5 hb6 S5 S4 RF
  go_upto_region 4 with (fail)
  generalize w5.alloc (Obj.cells #[.int .i64 1, .string (bs [102, 117, 110]), .int .i64 0, .slice none 0 0, .slice (some ⟨G, 0, none⟩) 2 C] 25) = w6 at *
  have hq8 : ((bs [102, 117, 110, 40, 63, 97, 46, 48, 123, 99, 125, 44, 32, 112, 114, 111, 112, 41]).toList == ([102, 117, 110, 40, 63, 97, 46, 48, 123, 99, 125, 44, 32, 112, 114, 111, 112, 41] : List UInt8)) = true := by
    rw [bs_toList]; exact beq_self_eq_true _
  refine wp_region_held_drew (S := (fun w' => (w'.cell? ⟨w.heap.size + 1, 0, none⟩ = some (.int .i64 3) ∧ w'.cell? ⟨w.heap.size + 1, 1, none⟩ = some (.string ⟨#[97]⟩) ∧ w'.cell? ⟨w.heap.size + 1, 2, none⟩ = some (.int .i64 0) ∧ w'.cell? ⟨w.heap.size + 1, 3, none⟩ = some (.slice (some ⟨w.heap.size, 0, none⟩) 1 1) ∧ w'.cell? ⟨w.heap.size + 1, 4, none⟩ = some (.slice none 0 0)) ∧ w'.cell? ⟨w5.heap.size, 0, none⟩ = some (.int .i64 1) ∧ w'.cell? ⟨w5.heap.size, 1, none⟩ = some (.string (bs [102, 117, 110])) ∧ w'.cell? ⟨w5.heap.size, 2, none⟩ = some (.int .i64 0) ∧ w'.cell? ⟨w5.heap.size, 3, none⟩ = some (.slice none 0 0) ∧ w'.cell? ⟨w5.heap.size, 4, none⟩ = some (.slice (some ⟨G, 0, none⟩) 2 C))) (by kernel_rfl) ?_ (fun hHeld => ?_)
  · exact ⟨fiveT S6.out.box, fiveT T6.out⟩
  refine wpAnyH_take (i := 0) (oi := { dst := some 20, op := Op.move (Operand.tmp 3), type := 33, pos := "law.go:18", after := #[], guard := none }) (v := ?v0q) rfl (by kernel_rfl) (by kernel_rfl) (by kernel_rfl) (fun _ _ _ h => h) (Or.inl ⟨by rfl, ?hy0q⟩) (by assumption) ?rest0q
  case hy0q => (intro wq hSq; (try dsimp only at hSq); go_simp; try with_reducible rfl)
  try simp only [Act.put, List.setIfInBounds_toArray, List.set_cons_zero, List.set_cons_succ]
  refine wpAnyH_take (i := 1) (oi := { dst := some 21, op := Op.binOp BinOp.eql 33 (Operand.tmp 20) (Operand.const (Value.int IntKind.i64 0)) 33, type := 4, pos := "law.go:18", after := #[{ on := 0, ground := Ground.data }], guard := none }) (v := ?v1q) rfl (by kernel_rfl) (by kernel_rfl) (by kernel_rfl) (fun _ _ _ h => h) (Or.inl ⟨by rfl, ?hy1q⟩) (by assumption) ?rest1q
  case hy1q => (intro wq hSq; (try dsimp only at hSq); go_simp; try with_reducible rfl)
  try simp only [Act.put, List.setIfInBounds_toArray, List.set_cons_zero, List.set_cons_succ]
  refine wpAnyH_take (i := 2) (oi := { dst := some 22, op := Op.move (Operand.tmp 21), type := 4, pos := "law.go:18", after := #[{ on := 1, ground := Ground.data }], guard := none }) (v := ?v2q) rfl (by kernel_rfl) (by kernel_rfl) (by kernel_rfl) (fun _ _ _ h => h) (Or.inl ⟨by rfl, ?hy2q⟩) (by assumption) ?rest2q
  case hy2q => (intro wq hSq; (try dsimp only at hSq); go_simp; try with_reducible rfl)
  try simp only [Act.put, List.setIfInBounds_toArray, List.set_cons_zero, List.set_cons_succ]
  refine wpAnyH_take (i := 3) (oi := { dst := some 23, op := Op.move (Operand.tmp 5), type := 33, pos := "law.go:18", after := #[{ on := 2, ground := Ground.guard }], guard := some (2, true) }) (v := ?v3q) rfl (by kernel_rfl) (by kernel_rfl) (by kernel_rfl) (fun _ _ _ h => h) (Or.inl ⟨by rfl, ?hy3q⟩) (by assumption) ?rest3q
  case hy3q => (intro wq hSq; (try dsimp only at hSq); go_simp; try with_reducible rfl)
  try simp only [Act.put, List.setIfInBounds_toArray, List.set_cons_zero, List.set_cons_succ]
  refine wpAnyH_take (i := 4) (oi := { dst := some 24, op := Op.binOp BinOp.eql 33 (Operand.tmp 23) (Operand.const (Value.int IntKind.i64 0)) 33, type := 4, pos := "law.go:18", after := #[{ on := 3, ground := Ground.data }, { on := 2, ground := Ground.guard }], guard := some (2, true) }) (v := ?v4q) rfl (by kernel_rfl) (by kernel_rfl) (by kernel_rfl) (fun _ _ _ h => h) (Or.inl ⟨by rfl, ?hy4q⟩) (by assumption) ?rest4q
  case hy4q => (intro wq hSq; (try dsimp only at hSq); go_simp; try with_reducible rfl)
  try simp only [Act.put, List.setIfInBounds_toArray, List.set_cons_zero, List.set_cons_succ]
  refine wpAnyH_take (i := 5) (oi := { dst := some 25, op := Op.pick (Operand.tmp 22) (Operand.tmp 24) (Operand.const (Value.bool false)), type := 4, pos := "law.go:18", after := #[{ on := 2, ground := Ground.data }, { on := 4, ground := Ground.data }], guard := none }) (v := ?v5q) rfl (by kernel_rfl) (by kernel_rfl) (by kernel_rfl) (fun _ _ _ h => h) (Or.inl ⟨by rfl, ?hy5q⟩) (by assumption) ?rest5q
  case hy5q => (intro wq hSq; (try dsimp only at hSq); go_simp; try with_reducible rfl)
  try simp only [Act.put, List.setIfInBounds_toArray, List.set_cons_zero, List.set_cons_succ]
  refine wpAnyH_take (i := 6) (oi := { dst := some 26, op := Op.move (Operand.tmp 25), type := 4, pos := "law.go:18", after := #[{ on := 5, ground := Ground.data }, { on := 2, ground := Ground.chain }], guard := none }) (v := ?v6q) rfl (by kernel_rfl) (by kernel_rfl) (by kernel_rfl) (fun _ _ _ h => h) (Or.inl ⟨by rfl, ?hy6q⟩) (by assumption) ?rest6q
  case hy6q => (intro wq hSq; (try dsimp only at hSq); go_simp; try with_reducible rfl)
  try simp only [Act.put, List.setIfInBounds_toArray, List.set_cons_zero, List.set_cons_succ]
  refine wpAnyH_take (i := 7) (oi := { dst := some 27, op := Op.move (Operand.tmp 2), type := 9, pos := "law.go:18", after := #[{ on := 6, ground := Ground.guard }], guard := some (6, true) }) (v := ?v7q) rfl (by kernel_rfl) (by kernel_rfl) (by kernel_rfl) (fun _ _ _ h => h) (Or.inl ⟨by rfl, ?hy7q⟩) (by assumption) ?rest7q
  case hy7q => (intro wq hSq; (try dsimp only at hSq); go_simp; try with_reducible rfl)
  try simp only [Act.put, List.setIfInBounds_toArray, List.set_cons_zero, List.set_cons_succ]
  refine wpAnyH_take (i := 8) (oi := { dst := some 28, op := Op.binOp BinOp.eql 9 (Operand.tmp 27) (Operand.const (Value.string { data := #[102, 117, 110, 40, 63, 97, 46, 48, 123, 99, 125, 44, 32, 112, 114, 111, 112, 41] })) 9, type := 4, pos := "law.go:18", after := #[{ on := 7, ground := Ground.data }, { on := 6, ground := Ground.guard }], guard := some (6, true) }) (v := ?v8q) rfl (by kernel_rfl) (by kernel_rfl) (by kernel_rfl) (fun _ _ _ h => h) (Or.inl ⟨by rfl, ?hy8q⟩) (by assumption) ?rest8q
  case hy8q => (intro wq hSq; (try dsimp only at hSq); go_simp; try with_reducible rfl)
  try simp only [Act.put, List.setIfInBounds_toArray, List.set_cons_zero, List.set_cons_succ]
  try rw [hq8]
  refine wpAnyH_take (i := 9) (oi := { dst := some 29, op := Op.pick (Operand.tmp 26) (Operand.tmp 28) (Operand.const (Value.bool false)), type := 4, pos := "law.go:18", after := #[{ on := 6, ground := Ground.data }, { on := 8, ground := Ground.data }], guard := none }) (v := ?v9q) rfl (by kernel_rfl) (by kernel_rfl) (by kernel_rfl) (fun _ _ _ h => h) (Or.inl ⟨by rfl, ?hy9q⟩) (by assumption) ?rest9q
  case hy9q => (intro wq hSq; (try dsimp only at hSq); go_simp; try with_reducible rfl)
  try simp only [Act.put, List.setIfInBounds_toArray, List.set_cons_zero, List.set_cons_succ]
  refine wpAnyH_take (i := 10) (oi := { dst := some 30, op := Op.move (Operand.tmp 29), type := 4, pos := "law.go:18", after := #[{ on := 9, ground := Ground.data }, { on := 6, ground := Ground.chain }], guard := none }) (v := ?v10q) rfl (by kernel_rfl) (by kernel_rfl) (by kernel_rfl) (fun _ _ _ h => h) (Or.inl ⟨by rfl, ?hy10q⟩) (by assumption) ?rest10q
  case hy10q => (intro wq hSq; (try dsimp only at hSq); go_simp; try with_reducible rfl)
  try simp only [Act.put, List.setIfInBounds_toArray, List.set_cons_zero, List.set_cons_succ]
  refine wpAnyH_take (i := 11) (oi := { dst := some 31, op := Op.load 25 (Operand.tmp 4), type := 25, pos := "law.go:18", after := #[{ on := 10, ground := Ground.guard }], guard := some (10, true) }) (v := ?v11q) rfl (by kernel_rfl) (by kernel_rfl) (by kernel_rfl) (fun _ _ _ h => h) (Or.inl ⟨by rfl, ?hy11q⟩) (by assumption) ?rest11q
  case hy11q => (intro wq hSq; (try dsimp only at hSq); go_simp; try with_reducible rfl)
  try simp only [Act.put, List.setIfInBounds_toArray, List.set_cons_zero, List.set_cons_succ]
  refine wpAnyH_take (i := 12) (oi := { dst := some 32, op := Op.load 25 (Operand.tmp 1), type := 25, pos := "law.go:18", after := #[{ on := 10, ground := Ground.guard }], guard := some (10, true) }) (v := ?v12q) rfl (by kernel_rfl) (by kernel_rfl) (by kernel_rfl) (fun _ _ _ h => h) (Or.inl ⟨by rfl, ?hy12q⟩) (by assumption) ?rest12q
  case hy12q => (intro wq hSq; (try dsimp only at hSq); go_simp; try with_reducible rfl)
  try simp only [Act.put, List.setIfInBounds_toArray, List.set_cons_zero, List.set_cons_succ]
  refine wpAnyH_ready (rs := [13]) (by kernel_rfl) (by simp) ?_
  refine AllReadyH.cons rfl (fun K hK => ?_) AllReadyH.nil
  go_simp
  go_wp2_with (refine (prop_any _).mono ?_; rintro e w7 ⟨⟨v7, rfl, lv7⟩, hb7⟩; have S7 := Lib.hid (S6.out.later hb7); have T7 := Lib.hid ((hb7.block w5.heap.size (Array.getElem?_eq_some_iff.1 T6.out).1).trans T6.out); have F7 := Lib.hid (F6.out.later hb7))
  refine hK.out _ _ ?_ (fun hHeldN => ?_)
  · (try dsimp only); exact ⟨fiveT S7.out.box, fiveT T7.out⟩
  clear hK K hHeld
  have hHeld := hHeldN
  clear hHeldN
  have FU := Lib.hid (fun_at w _ S7.out _ (Below.refl _ _) v7 lv7)
  obtain ⟨p7, q7, rfl, _⟩ := lv7
  clear hb7 S6 T6 F6
  refine wpAnyH_ready (rs := [14]) (by kernel_rfl) (by simp) ?_
  refine AllReadyH.cons rfl (fun K hK => ?_) AllReadyH.nil
  go_simp
  go_wp2_with (refine FU.out.mono ?_; rintro e w8 ⟨⟨v8, g8, p58, q58, p68, q68, rfl, rfl, hm8, hr8⟩, hb8⟩; have S8 := Lib.hid (S7.out.later hb8); have T8 := Lib.hid ((hb8.block w5.heap.size (Array.getElem?_eq_some_iff.1 T7.out).1).trans T7.out); have F8 := Lib.hid (F7.out.later hb8))
  refine hK.out _ _ ?_ (fun hHeldN => ?_)
  · (try dsimp only); exact ⟨fiveT S8.out.box, fiveT T8.out⟩
  clear hK K hHeld
  have hHeld := hHeldN
  clear hHeldN
  have EQ := Lib.hid (equalT_any _ _ tF tF w8 F8.out.tyM hm8)
  rw [show eqT tF tF = true by decide] at EQ
  clear FU hm8 hr8 hb8 S7 T7 F7
  refine wpAnyH_ready (rs := [15]) (by kernel_rfl) (by simp) ?_
  refine AllReadyH.cons rfl (fun K hK => ?_) AllReadyH.nil
  go_simp
  go_wp2_with (refine EQ.out.mono ?_; rintro e w9 ⟨rfl, hb9⟩; have S9 := Lib.hid (S8.out.later hb9); have T9 := Lib.hid ((hb9.block w5.heap.size (Array.getElem?_eq_some_iff.1 T8.out).1).trans T8.out); have F9 := Lib.hid (F8.out.later hb9))
  refine hK.out _ _ ?_ (fun hHeldN => ?_)
  · (try dsimp only); exact ⟨fiveT S9.out.box, fiveT T9.out⟩
  clear hK K hHeld
  have hHeld := hHeldN
  clear hHeldN
  clear hb9 EQ S8 T8 F8
  refine wpAnyH_take (i := 16) (oi := { dst := some 36, op := Op.pick (Operand.tmp 30) (Operand.tmp 35) (Operand.const (Value.bool false)), type := 4, pos := "law.go:18", after := #[{ on := 10, ground := Ground.data }, { on := 15, ground := Ground.data }], guard := none }) (v := ?v16q) rfl (by kernel_rfl) (by kernel_rfl) (by kernel_rfl) (fun _ _ _ h => h) (Or.inl ⟨by rfl, ?hy16q⟩) (by assumption) ?rest16q
  case hy16q => (intro wq hSq; (try dsimp only at hSq); go_simp; try with_reducible rfl)
  try simp only [Act.put, List.setIfInBounds_toArray, List.set_cons_zero, List.set_cons_succ]
  refine wpAnyH_take (i := 17) (oi := { dst := some 37, op := Op.move (Operand.tmp 36), type := 4, pos := "law.go:18", after := #[{ on := 16, ground := Ground.data }, { on := 15, ground := Ground.chain }], guard := none }) (v := ?v17q) rfl (by kernel_rfl) (by kernel_rfl) (by kernel_rfl) (fun _ _ _ h => h) (Or.inl ⟨by rfl, ?hy17q⟩) (by assumption) ?rest17q
  case hy17q => (intro wq hSq; (try dsimp only at hSq); go_simp; try with_reducible rfl)
  try simp only [Act.put, List.setIfInBounds_toArray, List.set_cons_zero, List.set_cons_succ]
  refine wpAnyH_take (i := 18) (oi := { dst := some 38, op := Op.load 25 (Operand.tmp 4), type := 25, pos := "law.go:18", after := #[{ on := 17, ground := Ground.guard }], guard := some (17, true) }) (v := ?v18q) rfl (by kernel_rfl) (by kernel_rfl) (by kernel_rfl) (fun _ _ _ h => h) (Or.inl ⟨by rfl, ?hy18q⟩) (by assumption) ?rest18q
  case hy18q => (intro wq hSq; (try dsimp only at hSq); go_simp; try with_reducible rfl)
  try simp only [Act.put, List.setIfInBounds_toArray, List.set_cons_zero, List.set_cons_succ]
  obtain ⟨g9, c9, G9, C9, e9, _, _, hG9, _, hlv9⟩ := F9.out.lv
  have hGG : G9 = G ∧ C9 = C := by simpa [eq_comm] using e9
  obtain ⟨rfl, rfl⟩ := hGG
  have MX := Lib.hid (maxIndex_fun (bs [102, 117, 110]) _ C9 _ _ _ _ _ _ _ _ _ w9 hG9 hlv9)
  clear e9 hG9 hlv9
  refine wpAnyH_ready (rs := [19]) (by kernel_rfl) (by simp) ?_
  refine AllReadyH.cons rfl (fun K hK => ?_) AllReadyH.nil
  go_simp
  go_wp2_with (refine MX.out.mono ?_; rintro e w10 ⟨rfl, hb10⟩; have S10 := Lib.hid (S9.out.later hb10); have T10 := Lib.hid ((hb10.block w5.heap.size (Array.getElem?_eq_some_iff.1 T9.out).1).trans T9.out); have F10 := Lib.hid (F9.out.later hb10))
  refine hK.out _ _ ?_ (fun hHeldN => ?_)
  · (try dsimp only); exact ⟨fiveT S10.out.box, fiveT T10.out⟩
  clear hK K hHeld
  have hHeld := hHeldN
  clear hHeldN
  clear hb10 MX S9 T9 F9
  refine wpAnyH_take (i := 20) (oi := { dst := some 40, op := Op.binOp BinOp.eql 3 (Operand.tmp 39) (Operand.const (Value.int IntKind.i64 0)) 3, type := 4, pos := "law.go:18", after := #[{ on := 19, ground := Ground.data }, { on := 17, ground := Ground.guard }], guard := some (17, true) }) (v := ?v20q) rfl (by kernel_rfl) (by kernel_rfl) (by kernel_rfl) (fun _ _ _ h => h) (Or.inl ⟨by rfl, ?hy20q⟩) (by assumption) ?rest20q
  case hy20q => (intro wq hSq; (try dsimp only at hSq); go_simp; try with_reducible rfl)
  try simp only [Act.put, List.setIfInBounds_toArray, List.set_cons_zero, List.set_cons_succ]
  refine wpAnyH_take (i := 21) (oi := { dst := some 41, op := Op.pick (Operand.tmp 37) (Operand.tmp 40) (Operand.const (Value.bool false)), type := 4, pos := "law.go:18", after := #[{ on := 17, ground := Ground.data }, { on := 20, ground := Ground.data }], guard := none }) (v := ?v21q) rfl (by kernel_rfl) (by kernel_rfl) (by kernel_rfl) (fun _ _ _ h => h) (Or.inl ⟨by rfl, ?hy21q⟩) (by assumption) ?rest21q
  case hy21q => (intro wq hSq; (try dsimp only at hSq); go_simp; try with_reducible rfl)
  try simp only [Act.put, List.setIfInBounds_toArray, List.set_cons_zero, List.set_cons_succ]
  refine wpAnyH_take (i := 22) (oi := { dst := some 0, op := Op.assign (Operand.tmp 41), type := 4, pos := "law.go:18", after := #[{ on := 21, ground := Ground.data }, { on := 19, ground := Ground.chain }, { on := 0, ground := Ground.phase }, { on := 1, ground := Ground.phase }, { on := 2, ground := Ground.phase }, { on := 3, ground := Ground.phase }, { on := 4, ground := Ground.phase }, { on := 5, ground := Ground.phase }, { on := 6, ground := Ground.phase }, { on := 7, ground := Ground.phase }, { on := 8, ground := Ground.phase }, { on := 9, ground := Ground.phase }, { on := 10, ground := Ground.phase }, { on := 11, ground := Ground.phase }, { on := 12, ground := Ground.phase }, { on := 13, ground := Ground.phase }, { on := 14, ground := Ground.phase }, { on := 15, ground := Ground.phase }, { on := 16, ground := Ground.phase }, { on := 17, ground := Ground.phase }, { on := 18, ground := Ground.phase }, { on := 19, ground := Ground.phase }, { on := 20, ground := Ground.phase }, { on := 21, ground := Ground.phase }], guard := none }) (v := ?v22q) rfl (by kernel_rfl) (by kernel_rfl) (by kernel_rfl) (fun _ _ _ h => h) (Or.inl ⟨by rfl, ?hy22q⟩) (by assumption) ?rest22q
  case hy22q => (intro wq hSq; (try dsimp only at hSq); go_simp; try with_reducible rfl)
  try simp only [Act.put, List.setIfInBounds_toArray, List.set_cons_zero, List.set_cons_succ]
  refine wpAnyH_done (by kernel_rfl) ?_ _
  clear hHeld
  go_wp2_with fail
  go_ret
  exact ⟨rfl, S10.out.below⟩
end Go.Proofs.YtkmoepabnnjoaaaDoor

