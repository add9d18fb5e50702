/- The reference: under. -/
import Derived.Test.YtehnikgdjnmfcaaR4
import Derived.Test.YtehnikgdjnmfcaaW
namespace Go.Proofs.Ytehnikgdjnmfcaa
open Go.RowKit Go.WideMaps Go.Shelf

set_option maxRecDepth 100000 in
set_option maxHeartbeats 8000000 in
theorem under_any (n c t2 t3 t4 t5 t6 : Value) (cs : List (Nm × List Nm)) (sp ab : List (List Nat)) (a b : Nm) (w : World) (hc : SlC w c cs) (hbu : Built cs sp ab) (h300 : cs.length ≤ 300) (ha : inNs (cs.map Prod.fst) a = true) (hb : inNs (cs.map Prod.fst) b = true) :
    Calls Try.prog 62 #[.agg #[n, c, t2, t3, t4, t5, t6], .string (bs a), .string (bs b)] w fun e w' => e = .returned (.bool (belowB (cs.map Prod.fst) (fun i => ab.getD i []) a b)) ∧ Below w.heap.size w w' := by
  have hB0 := below_alloc w (Obj.cells #[n, c, t2, t3, t4, t5, t6] 29)
  have HC := Lib.hid hc
  have r0 := Lib.hid (heap_alloc_new w (Obj.cells #[n, c, t2, t3, t4, t5, t6] 29))
  have hz0 : w.heap.size < (w.alloc (Obj.cells #[n, c, t2, t3, t4, t5, t6] 29)).heap.size := by simp
  have HBEL := Lib.hid (belowB_iff hbu ha (c := b))
  have HIA : Hid (ixOf (cs.map Prod.fst) a < cs.length) := by unfold Hid; have := ixOf_lt ha; simpa using this
  have HIB : Hid (ixOf (cs.map Prod.fst) b < cs.length) := by unfold Hid; have := ixOf_lt hb; simpa using this
  have HA := Lib.hid ha
  have HB := Lib.hid hb
  have HBU := Lib.hid hbu
  obtain ⟨_, ca, ccap, rfl, _⟩ := hc
  clear ha hb hbu
  go_enter Try.func62, Try.ntmps62
  go_wp2_with fail
  generalize (w.alloc (Obj.cells #[n, .slice ca cs.length ccap, t2, t3, t4, t5, t6] 29)) = w0 at *
  refine wp_region_held_drew (S := (fun w' => w'.cell? ⟨w.heap.size, 0, none⟩ = some n ∧ w'.cell? ⟨w.heap.size, 1, none⟩ = some (.slice ca cs.length ccap) ∧ w'.cell? ⟨w.heap.size, 2, none⟩ = some t2 ∧ w'.cell? ⟨w.heap.size, 3, none⟩ = some t3 ∧ w'.cell? ⟨w.heap.size, 4, none⟩ = some t4 ∧ w'.cell? ⟨w.heap.size, 5, none⟩ = some t5 ∧ w'.cell? ⟨w.heap.size, 6, none⟩ = some t6)) (by kernel_rfl) ?_ (fun hHeld => ?_)
  · exact cells7' r0.out
  refine wpAnyH_take (i := 0) (oi := { dst := some 7, op := Op.load 29 (Operand.tmp 3), type := 29, pos := "ref.go:73", after := #[], guard := none }) (v := ?v0) rfl (by kernel_rfl) (by kernel_rfl) (by kernel_rfl) (fun _ _ _ h => h) (Or.inl ⟨by rfl, ?hy0⟩) (by assumption) ?rest0
  case hy0 => (intro wq hSq; (try dsimp only at hSq); go_simp; try with_reducible rfl)
  try simp only [Act.put, List.setIfInBounds_toArray, List.set_cons_zero, List.set_cons_succ]
  refine wpAnyH_take (i := 1) (oi := { dst := some 8, op := Op.load 29 (Operand.tmp 3), type := 29, pos := "ref.go:73", after := #[], guard := none }) (v := ?v1) rfl (by kernel_rfl) (by kernel_rfl) (by kernel_rfl) (fun _ _ _ h => h) (Or.inl ⟨by rfl, ?hy1⟩) (by assumption) ?rest1
  case hy1 => (intro wq hSq; (try dsimp only at hSq); go_simp; try with_reducible rfl)
  try simp only [Act.put, List.setIfInBounds_toArray, List.set_cons_zero, List.set_cons_succ]
  refine wpAnyH_take (i := 2) (oi := { dst := some 9, op := Op.move (Operand.tmp 1), type := 9, pos := "ref.go:73", after := #[], guard := none }) (v := ?v2) rfl (by kernel_rfl) (by kernel_rfl) (by kernel_rfl) (fun _ _ _ h => h) (Or.inl ⟨by rfl, ?hy2⟩) (by assumption) ?rest2
  case hy2 => (intro wq hSq; (try dsimp only at hSq); go_simp; try with_reducible rfl)
  try simp only [Act.put, List.setIfInBounds_toArray, List.set_cons_zero, List.set_cons_succ]
  refine wpAnyH_take (i := 5) (oi := { dst := some 12, op := Op.load 29 (Operand.tmp 3), type := 29, pos := "ref.go:73", after := #[], guard := none }) (v := ?v5) rfl (by kernel_rfl) (by kernel_rfl) (by kernel_rfl) (fun _ _ _ h => h) (Or.inl ⟨by rfl, ?hy5⟩) (by assumption) ?rest5
  case hy5 => (intro wq hSq; (try dsimp only at hSq); go_simp; try with_reducible rfl)
  try simp only [Act.put, List.setIfInBounds_toArray, List.set_cons_zero, List.set_cons_succ]
  refine wpAnyH_take (i := 6) (oi := { dst := some 13, op := Op.move (Operand.tmp 2), type := 9, pos := "ref.go:73", after := #[], guard := none }) (v := ?v6) rfl (by kernel_rfl) (by kernel_rfl) (by kernel_rfl) (fun _ _ _ h => h) (Or.inl ⟨by rfl, ?hy6⟩) (by assumption) ?rest6
  case hy6 => (intro wq hSq; (try dsimp only at hSq); go_simp; try with_reducible rfl)
  try simp only [Act.put, List.setIfInBounds_toArray, List.set_cons_zero, List.set_cons_succ]
  refine wpAnyH_ready (rs := [3]) (by kernel_rfl) (by simp) ?_
  refine AllReadyH.cons rfl (fun K hK => ?_) AllReadyH.nil
  go_simp
  go_wp2_with (go_at_call 35; refine (class_in n _ t2 t3 t4 t5 t6 a cs w0.drew (HC.out.below hB0.drew (Nat.le_refl _)) HA.out).mono ?_; rintro e w1 ⟨rfl, hb1⟩; have hb1 : Below w0.heap.size w0 w1 := (by first | exact hb1 | exact ((Below.refl _ w0).drew).trans hb1); have hB1 : Below w.heap.size w w1 := hB0.trans (hb1.mono (Nat.le_of_lt hz0)); have hz1 : w.heap.size < w1.heap.size := Nat.lt_of_lt_of_le hz0 hb1.size; have r1 := Lib.hid ((hb1.block w.heap.size hz0).trans r0.out))
  refine hK.out _ _ ?_ (fun hHeldN => ?_)
  · (try dsimp only); exact cells7' r1.out
  clear hK K hHeld
  have hHeld := hHeldN
  clear hHeldN
  clear hb1
  refine wpAnyH_ready (rs := [4]) (by kernel_rfl) (by simp) ?_
  refine AllReadyH.cons rfl (fun K hK => ?_) AllReadyH.nil
  go_simp
  go_wp2_with (go_at_call 36; refine (above_any n _ t2 t3 t4 t5 t6 cs sp ab _ w1 (HC.out.below hB1 (Nat.le_refl _)) HBU.out HIA.out h300).mono ?_; rintro e w2 ⟨bA, f, rfl, hb21, hb22, hba, hfr, hb2⟩; have hb2 : Below w1.heap.size w1 w2 := (by first | exact hb2 | exact ((Below.refl _ w1).drew).trans hb2); have hB2 : Below w.heap.size w w2 := hB1.trans (hb2.mono (Nat.le_of_lt hz1)); have hz2 : w.heap.size < w2.heap.size := Nat.lt_of_lt_of_le hz1 hb2.size; have r2 := Lib.hid ((hb2.block w.heap.size hz1).trans r1.out); have HBA := Lib.hid hba; have HFR := Lib.hid hfr; clear hba hfr)
  refine hK.out _ _ ?_ (fun hHeldN => ?_)
  · (try dsimp only); exact cells7' r2.out
  clear hK K hHeld
  have hHeld := hHeldN
  clear hHeldN
  clear hb2
  refine wpAnyH_ready (rs := [7]) (by kernel_rfl) (by simp) ?_
  refine AllReadyH.cons rfl (fun K hK => ?_) AllReadyH.nil
  go_simp
  go_wp2_with (go_at_call 35; refine (class_in n _ t2 t3 t4 t5 t6 b cs w2 (HC.out.below hB2 (Nat.le_refl _)) HB.out).mono ?_; rintro e w3 ⟨rfl, hb3⟩; have hb3 : Below w2.heap.size w2 w3 := (by first | exact hb3 | exact ((Below.refl _ w2).drew).trans hb3); have hB3 : Below w.heap.size w w3 := hB2.trans (hb3.mono (Nat.le_of_lt hz2)); have hz3 : w.heap.size < w3.heap.size := Nat.lt_of_lt_of_le hz2 hb3.size; have r3 := Lib.hid ((hb3.block w.heap.size hz2).trans r2.out))
  refine hK.out _ _ ?_ (fun hHeldN => ?_)
  · (try dsimp only); exact cells7' r3.out
  clear hK K hHeld
  have hHeld := hHeldN
  clear hHeldN
  have hix := HIB.out
  have hbx := ((HBA.out.below hb3 hb22) _ hix).1
  rw [show f (ixOf (cs.map Prod.fst) b) = belowB (cs.map Prod.fst) (fun i => ab.getD i []) a b from by rw [Bool.eq_iff_iff, HFR.out _ hix]; exact HBEL.out.symm] at hbx
  generalize hr : belowB (cs.map Prod.fst) (fun i => ab.getD i []) a b = r at *
  have HRV := Lib.hid hr
  clear hr
  generalize ixOf (cs.map Prod.fst) b = ib at *
  clear hb3
  refine wpAnyH_take (i := 8) (oi := { dst := some 15, op := Op.indexAddr 72 (Operand.tmp 11) (Operand.tmp 14), type := 0, pos := "ref.go:73", after := #[{ on := 4, ground := Ground.data }, { on := 7, ground := Ground.data }], guard := none }) (v := ?v8) rfl (by kernel_rfl) (by kernel_rfl) (by kernel_rfl) (fun _ _ _ h => h) (Or.inl ⟨by rfl, ?hy8⟩) (by assumption) ?rest8
  case hy8 => (intro wq hSq; (try dsimp only at hSq); go_simp; try with_reducible rfl)
  try simp only [Act.put, List.setIfInBounds_toArray, List.set_cons_zero, List.set_cons_succ]
  refine wpAnyH_ready (rs := [9]) (by kernel_rfl) (by simp) ?_
  refine AllReadyH.cons rfl (fun K hK => ?_) AllReadyH.nil
  go_simp
  refine hK.out _ _ ?_ (fun hHeldN => ?_)
  · (try dsimp only); exact cells7' r3.out
  clear hK K hHeld
  have hHeld := hHeldN
  clear hHeldN
  refine wpAnyH_take (i := 10) (oi := { dst := some 6, op := Op.assign (Operand.tmp 16), type := 4, pos := "ref.go:73", after := #[{ on := 9, ground := Ground.data }, { on := 7, ground := Ground.chain }, { on := 0, ground := Ground.phase }, { on := 1, ground := Ground.phase }, { on := 2, ground := Ground.phase }, { on := 3, ground := Ground.phase }, { on := 4, ground := Ground.phase }, { on := 5, ground := Ground.phase }, { on := 6, ground := Ground.phase }, { on := 7, ground := Ground.phase }, { on := 8, ground := Ground.phase }, { on := 9, ground := Ground.phase }], guard := none }) (v := ?v10) rfl (by kernel_rfl) (by kernel_rfl) (by kernel_rfl) (fun _ _ _ h => h) (Or.inl ⟨by rfl, ?hy10⟩) (by assumption) ?rest10
  case hy10 => (intro wq hSq; (try dsimp only at hSq); go_simp; try with_reducible rfl)
  try simp only [Act.put, List.setIfInBounds_toArray, List.set_cons_zero, List.set_cons_succ]
  refine wpAnyH_done (by kernel_rfl) ?_ _
  go_wp2_with fail
  go_ret
  exact ⟨ret_bool HRV.out.symm, hB3⟩
end Go.Proofs.Ytehnikgdjnmfcaa
