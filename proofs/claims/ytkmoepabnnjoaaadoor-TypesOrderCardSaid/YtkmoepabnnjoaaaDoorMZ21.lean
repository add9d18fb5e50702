/- types.Read 13 of the text of the function type. -/
import Derived.Test.YtkmoepabnnjoaaaDoorMZ19
import Derived.Test.YtkmoepabnnjoaaaDoorMZ20
namespace Go.Proofs.YtkmoepabnnjoaaaDoor
open Go.RowKit Go.WideMaps Go.Shelf Go.Lib
attribute [local go_sem] Oper.semAt_some

def tF : TY := .mk 1 [102, 117, 110] 0 [] [.mk 3 [97] 0 [[99]] [], .mk 1 [112, 114, 111, 112] 0 [] []]

theorem FunV.later {w w' w'' : World} {v : Value} (h : FunV w w' v) (hb : Below w'.heap.size w' w'') : FunV w w'' v := by
  obtain ⟨g, c, G, C, h1, h2, h3, h4, h5⟩ := h
  exact ⟨g, c, G, C, h1, h2, h3, (hb.cell (p := ⟨g, 0, none⟩) (lt_of_cell h4)).trans h4, ownsRow_below h5 hb (Nat.le_refl _)⟩

theorem FunV.mono {w0 w w' : World} {v : Value} (h : FunV w w' v) (hb : w0.heap.size ≤ w.heap.size) : FunV w0 w' v := by
  obtain ⟨g, c, G, C, h1, h2, h3⟩ := h
  exact ⟨g, c, G, C, h1, Nat.le_trans hb h2, h3⟩

theorem FunV.lv {w w' : World} {v : Value} (h : FunV w w' v) : ∃ g c G C, v = ndV (bs [102, 117, 110]) G C ∧ w.heap.size ≤ g ∧ g < G ∧ G < w'.heap.size ∧ w'.cell? ⟨g, 0, none⟩ = some (.string (bs [99])) ∧ LvAt w' G 3 0 ⟨#[97]⟩ (some ⟨g, 0, none⟩) 1 c 1 0 (bs [112, 114, 111, 112]) none 0 0 := by
  obtain ⟨g, c, G, C, h1, h2, h3, h4, h5⟩ := h
  have hG : G < w'.heap.size := by
    rcases h5.2 with ⟨e1, _⟩ | ⟨G', cap', cur, e1, hg1, hh, _⟩
    · cases e1
    · cases e1; exact (Array.getElem?_eq_some_iff.1 hh).1
  have hc : ∀ i, i < 10 → w'.cell? ⟨G, i, none⟩ = (celA g c ++ celB)[i]? := fun i hi => h5.cellAt i hi
  exact ⟨g, c, G, C, h1, h2, h3, hG, h4, ⟨hc 0 (by omega), hc 1 (by omega), hc 2 (by omega), hc 3 (by omega), hc 4 (by omega)⟩, hc 5 (by omega), hc 6 (by omega), hc 7 (by omega), hc 8 (by omega), hc 9 (by omega)⟩

theorem FunV.tyM {w w' : World} {v : Value} (h : FunV w w' v) : TyM w' 1 v tF := by
  obtain ⟨g, c, G, C, rfl, h2, h3, h4, h5, ⟨a0, a1, a2, a3, a4⟩, b0, b1, b2, b3, b4⟩ := h.lv
  refine ⟨.slice none 0 0, .slice (some ⟨G, 0, none⟩) 2 C, rfl, (show 3 ≤ maxLen by decide), slS_nil _, (show 2 ≤ maxLen by decide), _, C, rfl, fun _ => ⟨G, 0, rfl, h4, fun j hj => ?_⟩⟩
  have hj2 : j = 0 ∨ j = 1 := by have : j < 2 := hj; omega
  rcases hj2 with rfl | rfl
  · refine ⟨.slice (some ⟨g, 0, none⟩) 1 c, .slice none 0 0, a0, a1, a2, a3, a4, (show 1 ≤ maxLen by decide), ⟨(show 1 ≤ maxLen by decide), _, c, rfl, fun _ => ⟨g, 0, rfl, lt_of_cell h5, ?_⟩⟩, ⟨none, 0, rfl⟩, rfl⟩
    refine ⟨fun k hk => ?_, fun s hs => ?_⟩
    · have hk0 : k = 0 := by have : k < 1 := hk; omega
      subst hk0
      exact h5
    · have : s = [99] := by have : s ∈ [[99]] := hs; simpa using this
      subst this
      decide
  · exact ⟨.slice none 0 0, .slice none 0 0, b0, b1, b2, b3, b4, (show 4 ≤ maxLen by decide), slS_nil _, ⟨none, 0, rfl⟩, rfl⟩

theorem tF_form : formX tF = 0 := by kernel_rfl
theorem tF_size : tF.size ≤ 20000 := by decide

set_option maxRecDepth 100000 in
set_option maxHeartbeats 2000000 in
theorem readFun (w : World) : Calls Tryd.prog 13 #[.string (bs txF)] w fun e w' => (∃ v, e = .returned (.tuple #[v, .int .i64 0]) ∧ FunV w w' v) ∧ Below w.heap.size w w' := by
  have b0 := below_alloc w (Obj.cells noU5 25)
  have r0 := heap_alloc_new w (Obj.cells noU5 25)
  have z0 : (w.alloc (Obj.cells noU5 25)).heap.size = w.heap.size + 1 := by simp
  have b1 := below_alloc (w.alloc (Obj.cells noU5 25)) (Obj.cells #[.string (bs txF)] 61)
  have r1 := heap_alloc_new (w.alloc (Obj.cells noU5 25)) (Obj.cells #[.string (bs txF)] 61)
  rw [z0] at b1 r1
  have rd : RdAt ((w.alloc (Obj.cells noU5 25)).alloc (Obj.cells #[.string (bs txF)] 61)) (w.heap.size + 1) txF := ⟨by rw [cell_of_row _ _ 0 _ _ _ r1]; rfl, frozen_of_row _ _ _ _ _ r1⟩
  have TF := Lib.hid (typeFun (w.heap.size + 1) _ rd)
  have hq0 : ((bs [102, 117, 110, 40, 63, 97, 46, 48, 123, 99, 125, 44, 32, 112, 114, 111, 112, 41]).size : Int) ≤ 40000 := by simp [bs_size]
  have hq1 : (bs []).toList.isEmpty = true := by rw [bs_toList]; rfl
  go_enter Tryd.func13, Tryd.ntmps13
  go_wp2_with fail
  refine TF.out.mono ?_
  rintro e w2 ⟨⟨v, rfl, hv⟩, p2⟩
  have hw2 : w.heap.size + 2 ≤ w2.heap.size := by have := p2.2.size; simp at this; omega
  have q0 : w2.heap[w.heap.size]? = some (Obj.cells noU5 25) := (p2.2.block w.heap.size (by simp; omega) (by omega)).trans ((b1.block _ (by omega)).trans r0)
  have hb2 : Below w.heap.size w w2 := b0.trans ((b1.mono (by omega)).trans (p2.2.below (by omega) (by simp; omega)))
  obtain ⟨g, c, G, C, rfl, _⟩ := hv.lv
  have ra := heap_alloc_new w2 (Obj.cells #[.int .i64 1, .string (bs [102, 117, 110]), .int .i64 0, .slice none 0 0, .slice (some ⟨G, 0, none⟩) 2 C] 25)
  have hba := below_alloc w2 (Obj.cells #[.int .i64 1, .string (bs [102, 117, 110]), .int .i64 0, .slice none 0 0, .slice (some ⟨G, 0, none⟩) 2 C] 25)
  have q3 := (hba.block w.heap.size (by omega)).trans q0
  have c3 := (p2.1.alloc (Obj.cells #[.int .i64 1, .string (bs [102, 117, 110]), .int .i64 0, .slice none 0 0, .slice (some ⟨G, 0, none⟩) 2 C] 25)).1.1
  have FM := Lib.hid (form_any 1 _ tF _ (hv.tyM.below hba) tF_size)
  have HV := Lib.hid (hv.later hba)
  have HB3 := Lib.hid (hb2.trans (hba.mono (by omega)))
  have Q3 := Lib.hid q3
  have RA := Lib.hid ra
  obtain ⟨y0, y1, y2, y3, y4⟩ := fiveT ra
  clear TF b0 b1 r0 r1 z0 rd p2 q0 hb2 hba hv q3 ra
  rw [tF_form] at FM
  go_wp2_with fail
  refine FM.out.mono ?_
  rintro e w4 ⟨rfl, hb4⟩
  have HV4 := Lib.hid (HV.out.later hb4)
  have HB4 := Lib.hid (HB3.out.trans (hb4.mono HB3.out.size))
  have hw4 := hb4.size
  have ra4 := (hb4.block w2.heap.size (by simp)).trans RA.out
  have q4 := (hb4.block w.heap.size (by simp; omega)).trans Q3.out
  have Q4 := Lib.hid q4
  clear y0 y1 y2 y3 y4
  obtain ⟨y0, y1, y2, y3, y4⟩ := fiveT ra4
  obtain ⟨⟨z0, z1, z2, z3, z4⟩, z5, z6, z7, z8, z9⟩ := five q4
  clear hb4 FM HV Q3 RA ra4 q4
  go_wp2_with fail
  refine bodyPost_ret (results_row_tmp rfl _ _ w.heap.size 25 _ (0, 0) _ rfl (row5 Q4.out) Tryd.underlying25 rfl Tryd.size25) rfl ⟨⟨_, rfl, ?_⟩, below5 HB4.out (Nat.le_refl _)⟩
  obtain ⟨g', c', G', C', e, h2, h3, h4, h5⟩ := HV4.out
  injection e with e
  have h2' : w.heap.size + 2 ≤ g' := by simpa using h2
  refine ⟨g', c', G', C', by rw [← Value.agg.injEq] at e; exact e, by omega, h3, (World.cell?_of_block (a := ⟨g', 0, none⟩) (block5 (show g' ≠ w.heap.size by omega))).trans h4, ownsRow_block h5 (block5 (show G' ≠ w.heap.size by omega))⟩
end Go.Proofs.YtkmoepabnnjoaaaDoor

