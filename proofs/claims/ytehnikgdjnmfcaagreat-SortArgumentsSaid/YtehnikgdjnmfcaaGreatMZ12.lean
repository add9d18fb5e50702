/- The reference: above. -/
import Derived.Test.YtehnikgdjnmfcaaGreatMZ9
import Derived.Test.YtehnikgdjnmfcaaGreatMZ11
import Derived.OwnWalk
namespace Go.Proofs.YtehnikgdjnmfcaaGreat
open Go.RowKit Go.WideMaps Go.Shelf

theorem Built.sup {cs : List (Nm × List Nm)} {sp ab : List (List Nat)} (h : Built cs sp ab) : ∀ k, k < cs.length →
    sp.getD k [] = (cs.getD k ([], [])).2.map (ixOf (cs.map Prod.fst)) ∧ (∀ x ∈ (cs.getD k ([], [])).2, inNs (cs.map Prod.fst) x = true) ∧ (cs.getD k ([], [])).2.length ≤ 20 := by
  induction h with
  | nil => intro k hk; simp at hk
  | @snoc cs sp ab nm sups ys hb he hy ih =>
    intro k hk
    obtain ⟨_, _, h20, hsu⟩ := classErr_zero he
    have hl := hb.len.1
    have hin : ∀ x, inNs (cs.map Prod.fst) x = true → inNs ((cs ++ [(nm, sups)]).map Prod.fst) x = true ∧ ixOf ((cs ++ [(nm, sups)]).map Prod.fst) x = ixOf (cs.map Prod.fst) x := by
      intro x hx
      have := ix_take (cs := cs ++ [(nm, sups)]) (k := cs.length) (s := x) (by rw [List.take_left]; exact hx)
      rw [List.take_left] at this; exact this
    by_cases hkl : k < cs.length
    · have e : (cs ++ [(nm, sups)]).getD k ([], []) = cs.getD k ([], []) := by
        rw [List.getD_eq_getElem?_getD, List.getElem?_append_left hkl, ← List.getD_eq_getElem?_getD]
      rw [e, getD_left sp _ k (by omega)]
      obtain ⟨h1, h2, h3⟩ := ih k hkl
      refine ⟨?_, fun x hx => (hin x (h2 x hx)).1, h3⟩
      rw [h1]
      exact List.map_congr_left fun x hx => ((hin x (h2 x hx)).2).symm
    · have hkk : k = cs.length := by simp at hk; omega
      subst hkk
      have e : (cs ++ [(nm, sups)]).getD cs.length ([], []) = (nm, sups) := by simp
      have h2 := supErr_all _ _ hsu
      rw [e, ← hl, getD_last]
      refine ⟨?_, fun x hx => (hin x (h2 x hx)).1, h20⟩
      exact List.map_congr_left fun x hx => ((hin x (h2 x hx)).2).symm

/-- the classes reached from i0 by steps out of classes from the m-th on -/
def Rm (sup : Nat → List Nat) (i0 m j : Nat) : Prop := j = i0 ∨ ∃ p, m ≤ p ∧ p ≤ i0 ∧ Reach sup i0 p ∧ j ∈ sup p

theorem Rm.start (sup : Nat → List Nat) (i0 j : Nat) : Rm sup i0 (i0 + 1) j ↔ j = i0 :=
  ⟨fun h => h.elim id (fun ⟨p, h1, h2, _⟩ => by omega), .inl⟩

theorem Rm.own {sup : Nat → List Nat} (hs : ∀ i, ∀ s ∈ sup i, s < i) (i0 k : Nat) : Rm sup i0 (k + 1) k ↔ Reach sup i0 k := by
  constructor
  · rintro (rfl | ⟨p, _, _, h, hm⟩)
    · exact .self
    · exact .step h hm
  · intro h
    cases h with
    | self => exact .inl rfl
    | @step k' _ h hm => exact .inr ⟨k', hs _ _ hm, Reach.le hs h, h, hm⟩

theorem Rm.no {sup : Nat → List Nat} {i0 k : Nat} (h : ¬ Reach sup i0 k) (j : Nat) : Rm sup i0 k j ↔ Rm sup i0 (k + 1) j := by
  constructor
  · rintro (rfl | ⟨p, h1, h2, h3, h4⟩)
    · exact .inl rfl
    · have : p ≠ k := fun e => h (e ▸ h3)
      exact .inr ⟨p, by omega, h2, h3, h4⟩
  · rintro (rfl | ⟨p, h1, h2, h3, h4⟩)
    · exact .inl rfl
    · exact .inr ⟨p, by omega, h2, h3, h4⟩

theorem Rm.yes {sup : Nat → List Nat} (hs : ∀ i, ∀ s ∈ sup i, s < i) {i0 k : Nat} (h : Reach sup i0 k) (j : Nat) : Rm sup i0 k j ↔ Rm sup i0 (k + 1) j ∨ j ∈ sup k := by
  constructor
  · rintro (rfl | ⟨p, h1, h2, h3, h4⟩)
    · exact .inl (.inl rfl)
    · by_cases e : p = k
      · subst e; exact .inr h4
      · exact .inl (.inr ⟨p, by omega, h2, h3, h4⟩)
  · rintro ((rfl | ⟨p, h1, h2, h3, h4⟩) | h4)
    · exact .inl rfl
    · exact .inr ⟨p, by omega, h2, h3, h4⟩
    · exact .inr ⟨k, Nat.le_refl _, Reach.le hs h, h, h4⟩

theorem Rm.all {sup : Nat → List Nat} (hs : ∀ i, ∀ s ∈ sup i, s < i) (i0 j : Nat) : Rm sup i0 0 j ↔ Reach sup i0 j := by
  constructor
  · rintro (rfl | ⟨p, _, _, h, hm⟩)
    · exact .self
    · exact .step h hm
  · intro h
    cases h with
    | self => exact .inl rfl
    | @step k' _ h hm => exact .inr ⟨k', Nat.zero_le _, Reach.le hs h, h, hm⟩

/-- a row of bools that may be written -/
def BoolsAt (w : World) (b n : Nat) (f : Nat → Bool) : Prop := ∀ j, j < n → w.cell? ⟨b, j, none⟩ = some (.bool (f j)) ∧ w.frozen? ⟨b, j, none⟩ = false

theorem BoolsAt.set {w : World} {b n : Nat} {f : Nat → Bool} (h : BoolsAt w b n f) (k : Nat) (v : Bool) : BoolsAt (w.setCell ⟨b, k, none⟩ (.bool v)) b n (fun j => if j = k then v else f j) := by
  intro j hj
  obtain ⟨h1, h2⟩ := h j hj
  by_cases e : j = k
  · subst e
    exact ⟨by simp only [↓reduceIte]; exact World.cell?_setCell_same _ _ _ h1, by rw [World.frozen?_setCell]; exact h2⟩
  · refine ⟨?_, by rw [World.frozen?_setCell]; exact h2⟩
    rw [World.cell?_setCell_other _ _ _ _ (by intro hh; injection hh with _ hh; omega), h1]
    simp [e]

theorem BoolsAt.below {w w' : World} {b n B : Nat} {f : Nat → Bool} (h : BoolsAt w b n f) (hb : Below B w w') (hB : b < B) : BoolsAt w' b n f := by
  intro j hj
  obtain ⟨h1, h2⟩ := h j hj
  exact ⟨(hb.cell (p := ⟨b, j, none⟩) hB).trans h1, (hb.frozen (p := ⟨b, j, none⟩) hB).trans h2⟩

theorem Tryz.info4 : (Tryz.prog.info? 4).map (fun i => (i.zero, i.size, i.bytes)) = some (some (.bool false), 1, 1) := by kernel_rfl

theorem made_bools (n j : Nat) (hj : j < n) : (madeCells (Value.cells (.bool false)) (n * 1)).toList[j]? = some (.bool false) := by
  have hs : (madeCells (Value.cells (.bool false)) (n * 1)).size = n * 1 := size_madeCells _ _
  rw [Array.getElem?_toList, Array.getElem?_eq_getElem (by omega)]
  unfold madeCells
  simp only [Array.getElem_map, Array.getElem_range]
  have e : Value.cells (.bool false) = #[.bool false] := rfl
  rw [e]
  simp only [List.size_toArray, List.length_cons, List.length_nil, Nat.zero_add, Nat.mod_one]
  rfl

theorem bools_made {w : World} {base b n : Nat} (h : w.ownsRow base 4 1 (.slice (some ⟨b, 0, none⟩) n n) n (madeCells (Value.cells (.bool false)) (n * 1)).toList) : BoolsAt w b n (fun _ => false) :=
  fun j hj => ⟨(h.cellAt j (by rw [Nat.mul_one]; exact hj)).trans (made_bools n j hj), h.frozenAt j⟩

def UpV (m : Nat) (u : Value) : Prop := (∃ k : Nat, m = k + 1 ∧ u = .int .i64 (k : Int)) ∨ m = 0 ∧ u = .int .i64 (-1)

theorem UpV.pred (k : Nat) : UpV k (.int .i64 ((k : Int) - 1)) := by
  by_cases h : k = 0
  · subst h; exact .inr ⟨rfl, rfl⟩
  · exact .inl ⟨k - 1, by omega, by rw [show ((k : Int) - 1) = ((k - 1 : Nat) : Int) by omega]⟩

/-- a row of bools that says what R does -/
def BoolsR (w : World) (b n : Nat) (R : Nat → Prop) : Prop := ∃ f, BoolsAt w b n f ∧ ∀ j, j < n → (f j = true ↔ R j)

theorem BoolsR.below {w w' : World} {b n B : Nat} {R : Nat → Prop} (h : BoolsR w b n R) (hb : Below B w w') (hB : b < B) : BoolsR w' b n R := by
  obtain ⟨f, h1, h2⟩ := h
  exact ⟨f, h1.below hb hB, h2⟩

theorem BoolsR.congr {w : World} {b n : Nat} {R R' : Nat → Prop} (h : BoolsR w b n R) (e : ∀ j, R j ↔ R' j) : BoolsR w b n R' := by
  obtain ⟨f, h1, h2⟩ := h
  exact ⟨f, h1, fun j hj => (h2 j hj).trans (e j)⟩

theorem BoolsR.set {w : World} {b n : Nat} {R : Nat → Prop} (h : BoolsR w b n R) (k : Nat) : BoolsR (w.setCell ⟨b, k, none⟩ (.bool true)) b n (fun j => R j ∨ j = k) := by
  obtain ⟨f, h1, h2⟩ := h
  refine ⟨_, h1.set k true, fun j hj => ?_⟩
  by_cases e : j = k
  · subst e; simp
  · simp only [e, if_false, or_false]; exact h2 j hj

/-- what above returns -/
def AbovePost (w : World) (n : Nat) (R : Nat → Prop) (e : Ending) (w' : World) : Prop :=
  ∃ b f, e = .returned (.slice (some ⟨b, 0, none⟩) n n) ∧ w.heap.size ≤ b ∧ b < w'.heap.size ∧ BoolsAt w' b n f ∧ (∀ j, j < n → (f j = true ↔ R j)) ∧ Below w.heap.size w w'

set_option maxRecDepth 100000 in
set_option maxHeartbeats 8000000 in
theorem above_any (n c t2 t3 t4 t5 t6 : Value) (cs : List (Nm × List Nm)) (sp ab : List (List Nat)) (i0 : Nat) (w : World) (hc : SlC w c cs) (hbu : Built cs sp ab) (hi0 : i0 < cs.length) (h300 : cs.length ≤ 300) :
    Calls Tryz.prog 59 #[.agg #[n, c, t2, t3, t4, t5, t6], .int .i64 i0] w (AbovePost w cs.length (Reach (fun i => sp.getD i []) i0)) := by
  have hb0 := below_alloc w (Obj.cells #[n, c, t2, t3, t4, t5, t6] 29)
  have HC := Lib.hid hc
  have HR := Lib.hid (heap_alloc_new w (Obj.cells #[n, c, t2, t3, t4, t5, t6] 29))
  have hz0 : (w.alloc (Obj.cells #[n, c, t2, t3, t4, t5, t6] 29)).heap.size = w.heap.size + 1 := by simp
  obtain ⟨hl, ca, ccap, rfl, _⟩ := hc
  have hmx := hl
  unfold maxLen at hl
  have c1 := (cells7' HR.out).2.1
  obtain ⟨bi, hi, hq0, hq1, hq2⟩ := info_parts Tryz.info4
  have hlt' := Lib.hid hbu.lt'
  have HSU := Lib.hid hbu.sup
  have HZ0 := Lib.hid hz0
  clear hbu hz0
  go_enter Tryz.func59, Tryz.ntmps59
  go_wp2_with (refine wpList_make_full _ rfl _ _ 113 rfl (w.alloc (Obj.cells #[n, .slice ca cs.length ccap, t2, t3, t4, t5, t6] 29)).heap.size 4 bi (.bool false) 1 Tryz.underlying113 hi hq0 hq1 .i64 .i64 _ _ cs.length rfl rfl rfl rfl (by rw [hq2]; omega) hmx (Nat.le_refl _) ?_; intro w1 hown hg1; have hbm := bools_made hown; rw [HZ0.out] at hbm; have HM := Lib.hid hbm; obtain ⟨hbx, hbf⟩ := HM.out i0 hi0; clear hown hbm)
  have hR2 : BoolsR (w1.setCell ⟨w.heap.size + 1, i0, none⟩ (.bool true)) (w.heap.size + 1) cs.length (Rm (fun i => sp.getD i []) i0 (i0 + 1)) := by
    refine ((show BoolsR w1 (w.heap.size + 1) cs.length (fun _ => False) from ⟨_, HM.out, fun j _ => by simp⟩).set i0).congr fun j => ?_
    rw [Rm.start]; simp
  have hB2 : Below (w.heap.size + 1) (w.alloc (Obj.cells #[n, .slice ca cs.length ccap, t2, t3, t4, t5, t6] 29)) (w1.setCell ⟨w.heap.size + 1, i0, none⟩ (.bool true)) :=
    (show Below (w.heap.size + 1) (w.alloc (Obj.cells #[n, .slice ca cs.length ccap, t2, t3, t4, t5, t6] 29)) w1 from (Below.refl _ _).grown hg1 (by rw [HZ0.out]; exact Nat.le_refl _) (fun r e => by cases e)).setCell (p := ⟨w.heap.size + 1, i0, none⟩) (Nat.le_refl _) _
  have hz2 : w.heap.size + 1 < (w1.setCell ⟨w.heap.size + 1, i0, none⟩ (.bool true)).heap.size := by
    have := lt_of_cell hbx
    simpa [World.setCell] using this
  have HR2 := Lib.hid ((hB2.block w.heap.size (by omega)).trans HR.out)
  have hBw2 : Below w.heap.size w (w1.setCell ⟨w.heap.size + 1, i0, none⟩ (.bool true)) := hb0.trans (hB2.mono (by omega))
  have HRR := Lib.hid hR2
  clear hbx hbf hg1 HM hB2 HR HZ0 hb0 c1 hR2
  generalize (w1.setCell ⟨w.heap.size + 1, i0, none⟩ (.bool true)) = W2 at *
  go_loopw [6] (fun u wr => ∃ m : Nat, m ≤ i0 + 1 ∧ UpV m u ∧ Hid (BoolsR wr (w.heap.size + 1) cs.length (Rm (fun i => sp.getD i []) i0 m)) ∧ Below (w.heap.size + 1) W2 wr) (fun u _ => (intOf u + 1).toNat)
  case atStart => exact ⟨i0 + 1, Nat.le_refl _, .inl ⟨i0, rfl, rfl⟩, HRR, Below.refl _ _⟩
  case round =>
    obtain ⟨m, hm, hu, hf, hB⟩ := hrel
    have hz := hB.size
    have hBw : Below w.heap.size w wr := hBw2.trans (hB.mono (by omega))
    have hrow := Lib.hid ((hB.block w.heap.size (by omega)).trans HR2.out)
    rcases hu with ⟨k, rfl, rfl⟩ | ⟨rfl, rfl⟩
    · obtain ⟨f, hba, hfr⟩ := hf.out
      obtain ⟨hbx, hbf⟩ := hba k (by omega)
      have hown := (hfr k (by omega)).trans (Rm.own hlt'.out i0 k)
      have HF := Lib.hid hfr
      have HBA := Lib.hid hba
      clear hfr hba
      by_cases hfk : f k = true
      · have hre := Lib.hid (hown.1 hfk)
        rw [hfk] at hbx
        clear hown hfk
        obtain ⟨_, ca', cap', hee, hsx⟩ := HC.out
        injection hee with hee _ hee2
        subst hee hee2
        obtain ⟨b, off, rfl, hb, hcl⟩ := hsx (by omega)
        obtain ⟨_, _, sa, scap, g1, hss⟩ := hcl k (by omega)
        obtain ⟨u1, u2, u3⟩ := HSU.out k (by omega)
        generalize (cs.getD k ([], [])).2 = sups at *
        have HSS := Lib.hid hss
        have HU1 := Lib.hid u1
        have HU2 := Lib.hid u2
        clear hcl hsx u1 u2 hss
        obtain ⟨c0, c1, c2, c3, c4, c5, c6⟩ := cells7' hrow.out
        have G1 := Lib.hid g1
        have g2 := (hBw.cell (p := ⟨b, off + k * 2 + 1, none⟩) hb).trans g1
        have hI0 : Hid (BoolsR wr (w.heap.size + 1) cs.length (fun j => Rm (fun i => sp.getD i []) i0 (k + 1) j ∨ j ∈ (sp.getD k []).take 0)) := hf.out.congr (fun j => by simp)
        have HEND := Lib.hid (fun j => Rm.yes hlt'.out hre.out j)
        have hltk : ∀ x, x ∈ sups → ixOf (cs.map Prod.fst) x < k := fun x hx => hlt'.out k _ (by rw [HU1.out]; exact List.mem_map_of_mem hx)
        have HLT := Lib.hid hltk
        clear hltk
        go_wp2_with fail
        clear c0 c1 c2 c3 c4 c5 c6 hbx hbf hf HF HBA g1 g2
        obtain ⟨wo, rfl⟩ : ∃ wo : World, wo = wr := ⟨_, rfl⟩
        go_loopw [7] (fun u wr => ∃ q : Nat, q ≤ sups.length ∧ u = .int .i64 q ∧ Hid (BoolsR wr (w.heap.size + 1) cs.length (fun j => Rm (fun i => sp.getD i []) i0 (k + 1) j ∨ j ∈ (sp.getD k []).take q)) ∧ Below (w.heap.size + 1) W2 wr ∧ wo.heap.size ≤ wr.heap.size) (fun u _ => sups.length - (intOf u).toNat)
        case atStart => exact ⟨0, by omega, rfl, hI0, hB, Nat.le_refl _⟩
        case round =>
          obtain ⟨q, hq, rfl, hI, hB3, hz3⟩ := hrel
          clear hI0
          have r3 := Lib.hid ((hB3.block w.heap.size (by omega)).trans HR2.out)
          obtain ⟨c0, c1, c2, c3, c4, c5, c6⟩ := cells7' r3.out
          have hBw3 : Below w.heap.size w wr := hBw2.trans (hB3.mono (by omega))
          have g1 := (hBw3.cell (p := ⟨b, off + k * 2 + 1, none⟩) hb).trans G1.out
          by_cases hltq : q < sups.length
          · obtain ⟨b2, off2, x, rfl, hb2x, hck, hwk, hx⟩ := HSS.out.at hltq
            have hckr := (hBw3.cell (p := ⟨b2, off2 + q, none⟩) hb2x).trans hck
            have hckd := Lib.hid hckr
            have g1d := Lib.hid g1
            have hxm : x ∈ sups := by rw [hx]; exact getD_mem sups [] q hltq
            have hin := Lib.hid (HU2.out x hxm)
            have hixk := HLT.out x hxm
            have HTK : Hid ((sp.getD k []).take (q + 1) = (sp.getD k []).take q ++ [ixOf (cs.map Prod.fst) x]) := by
              unfold Hid
              rw [HU1.out, ← List.map_take, ← List.map_take, take_snocD sups [] q hltq, List.map_append, hx]; rfl
            clear hx hck hxm
            have CL := Lib.hid (class_in n _ t2 t3 t4 t5 t6 x cs wr.drew (HC.out.below hBw3.drew (Nat.le_refl _)) hin.out)
            generalize ixOf (cs.map Prod.fst) x = m at *
            have f1 : decide (0 ≤ (m : Int)) = true := by simp
            have hkn : k < cs.length := by omega
            have f2 : decide (m < k) = true := by simpa using hixk
            go_wp2_with fail
            go_region_held3 (fun w' => w'.cell? ⟨w.heap.size, 0, none⟩ = some n ∧ w'.cell? ⟨w.heap.size, 1, none⟩ = some (.slice (some ⟨b, off, none⟩) cs.length ccap) ∧ w'.cell? ⟨w.heap.size, 2, none⟩ = some t2 ∧ w'.cell? ⟨w.heap.size, 3, none⟩ = some t3 ∧ w'.cell? ⟨w.heap.size, 4, none⟩ = some t4 ∧ w'.cell? ⟨w.heap.size, 5, none⟩ = some t5 ∧ w'.cell? ⟨w.heap.size, 6, none⟩ = some t6 ∧ w'.cell? ⟨b, off + k * 2 + 1, none⟩ = some (.slice (some ⟨b2, off2, none⟩) sups.length scap) ∧ w'.cell? ⟨b2, off2 + q, none⟩ = some (.string (bs x)))
              (first | exact cells7and r3.out ⟨g1d.out, hckd.out⟩ | exact cells7and r4.out ⟨g4.out, k4.out⟩)
              ((go_at_call 57; refine CL.out.mono ?_; rintro e w4 ⟨rfl, hb4⟩; have hb4 : Below wr.heap.size wr w4 := ((Below.refl _ wr).drew).trans hb4; have r4 := Lib.hid ((hb4.block w.heap.size (by omega)).trans r3.out); have g4 := Lib.hid ((hb4.cell (p := ⟨b, off + k * 2 + 1, none⟩) (by simp; omega)).trans g1d.out); have k4 := Lib.hid ((hb4.cell (p := ⟨b2, off2 + q, none⟩) (by simp; omega)).trans hckd.out)))
            clear c0 c1 c2 c3 c4 c5 c6 g1 hckr
            have hz4 := hb4.size
            have hI4 := Lib.hid (hI.out.below hb4 (by omega))
            obtain ⟨f4, hba4, hfr4⟩ := hI4.out
            obtain ⟨hbx, hbf⟩ := hba4 m (by omega)
            clear hba4 hfr4
            go_wp2_with fail
            go_roundw
            case rel =>
              refine ⟨q + 1, by omega, by go_num, ?_, (hB3.trans (hb4.mono (by omega))).setCell (p := ⟨w.heap.size + 1, m, none⟩) (Nat.le_refl _) _, by simp [World.setCell]; omega⟩
              refine (hI4.out.set m).congr fun j => ?_
              rw [HTK.out, List.mem_append, List.mem_singleton, or_assoc]
            case measure => simp [intOf]; omega
          · have hqq : q = sups.length := by omega
            have hFin : Hid (BoolsR wr (w.heap.size + 1) cs.length (Rm (fun i => sp.getD i []) i0 k)) := by
              refine hI.out.congr fun j => ?_
              rw [HEND.out j, List.take_of_length_le (by rw [HU1.out, List.length_map]; omega)]
            clear hI
            go_wp2_with fail
            go_roundw
            case rel => exact ⟨k, by omega, UpV.pred k, hFin, hB3⟩
            case measure => simp [intOf]
      · have hfk' : f k = false := by simpa using hfk
        have hre := Lib.hid (fun h => hfk (hown.2 h))
        rw [hfk'] at hbx
        clear hown hfk hfk'
        go_wp2_with fail
        go_roundw
        case rel => exact ⟨k, by omega, UpV.pred k, hf.out.congr (fun j => (Rm.no hre.out j).symm), hB⟩
        case measure => simp [intOf]
    · go_wp2_with fail
      go_ret
      obtain ⟨f, hba, hfr⟩ := hf.out
      exact ⟨w.heap.size + 1, f, rfl, by omega, by omega, hba, fun j hj => (hfr j hj).trans (Rm.all hlt'.out i0 j), hBw⟩
end Go.Proofs.YtehnikgdjnmfcaaGreat

/- The reference: under. -/
namespace Go.Proofs.YtehnikgdjnmfcaaGreat
open Go.RowKit Go.WideMaps Go.Shelf

set_option maxRecDepth 100000 in
set_option maxHeartbeats 8000000 in
theorem under_any (n c t2 t3 t4 t5 t6 : Value) (cs : List (Nm × List Nm)) (sp ab : List (List Nat)) (a b : Nm) (w : World) (hc : SlC w c cs) (hbu : Built cs sp ab) (h300 : cs.length ≤ 300) (ha : inNs (cs.map Prod.fst) a = true) (hb : inNs (cs.map Prod.fst) b = true) :
    Calls Tryz.prog 61 #[.agg #[n, c, t2, t3, t4, t5, t6], .string (bs a), .string (bs b)] w fun e w' => e = .returned (.bool (belowB (cs.map Prod.fst) (fun i => ab.getD i []) a b)) ∧ Below w.heap.size w w' := by
  have hB0 := below_alloc w (Obj.cells #[n, c, t2, t3, t4, t5, t6] 29)
  have HC := Lib.hid hc
  have r0 := Lib.hid (heap_alloc_new w (Obj.cells #[n, c, t2, t3, t4, t5, t6] 29))
  have hz0 : w.heap.size < (w.alloc (Obj.cells #[n, c, t2, t3, t4, t5, t6] 29)).heap.size := by simp
  have HBEL := Lib.hid (belowB_iff hbu ha (c := b))
  have HIA : Hid (ixOf (cs.map Prod.fst) a < cs.length) := by unfold Hid; have := ixOf_lt ha; simpa using this
  have HIB : Hid (ixOf (cs.map Prod.fst) b < cs.length) := by unfold Hid; have := ixOf_lt hb; simpa using this
  have HA := Lib.hid ha
  have HB := Lib.hid hb
  have HBU := Lib.hid hbu
  obtain ⟨_, ca, ccap, rfl, _⟩ := hc
  clear ha hb hbu
  go_enter Tryz.func61, Tryz.ntmps61
  go_wp2_with fail
  generalize (w.alloc (Obj.cells #[n, .slice ca cs.length ccap, t2, t3, t4, t5, t6] 29)) = w0 at *
  refine wp_region_held_drew (S := (fun w' => w'.cell? ⟨w.heap.size, 0, none⟩ = some n ∧ w'.cell? ⟨w.heap.size, 1, none⟩ = some (.slice ca cs.length ccap) ∧ w'.cell? ⟨w.heap.size, 2, none⟩ = some t2 ∧ w'.cell? ⟨w.heap.size, 3, none⟩ = some t3 ∧ w'.cell? ⟨w.heap.size, 4, none⟩ = some t4 ∧ w'.cell? ⟨w.heap.size, 5, none⟩ = some t5 ∧ w'.cell? ⟨w.heap.size, 6, none⟩ = some t6)) (by kernel_rfl) ?_ (fun hHeld => ?_)
  · exact cells7' r0.out
  refine wpAnyH_take (i := 0) (oi := { dst := some 7, op := Op.load 29 (Operand.tmp 3), type := 29, pos := "ref.go:73", after := #[], guard := none }) (v := ?v0) rfl (by kernel_rfl) (by kernel_rfl) (by kernel_rfl) (fun _ _ _ h => h) (Or.inl ⟨by rfl, ?hy0⟩) (by assumption) ?rest0
  case hy0 => (intro wq hSq; (try dsimp only at hSq); go_simp; try with_reducible rfl)
  try simp only [Act.put, List.setIfInBounds_toArray, List.set_cons_zero, List.set_cons_succ]
  refine wpAnyH_take (i := 1) (oi := { dst := some 8, op := Op.load 29 (Operand.tmp 3), type := 29, pos := "ref.go:73", after := #[], guard := none }) (v := ?v1) rfl (by kernel_rfl) (by kernel_rfl) (by kernel_rfl) (fun _ _ _ h => h) (Or.inl ⟨by rfl, ?hy1⟩) (by assumption) ?rest1
  case hy1 => (intro wq hSq; (try dsimp only at hSq); go_simp; try with_reducible rfl)
  try simp only [Act.put, List.setIfInBounds_toArray, List.set_cons_zero, List.set_cons_succ]
  refine wpAnyH_take (i := 2) (oi := { dst := some 9, op := Op.move (Operand.tmp 1), type := 9, pos := "ref.go:73", after := #[], guard := none }) (v := ?v2) rfl (by kernel_rfl) (by kernel_rfl) (by kernel_rfl) (fun _ _ _ h => h) (Or.inl ⟨by rfl, ?hy2⟩) (by assumption) ?rest2
  case hy2 => (intro wq hSq; (try dsimp only at hSq); go_simp; try with_reducible rfl)
  try simp only [Act.put, List.setIfInBounds_toArray, List.set_cons_zero, List.set_cons_succ]
  refine wpAnyH_take (i := 5) (oi := { dst := some 12, op := Op.load 29 (Operand.tmp 3), type := 29, pos := "ref.go:73", after := #[], guard := none }) (v := ?v5) rfl (by kernel_rfl) (by kernel_rfl) (by kernel_rfl) (fun _ _ _ h => h) (Or.inl ⟨by rfl, ?hy5⟩) (by assumption) ?rest5
  case hy5 => (intro wq hSq; (try dsimp only at hSq); go_simp; try with_reducible rfl)
  try simp only [Act.put, List.setIfInBounds_toArray, List.set_cons_zero, List.set_cons_succ]
  refine wpAnyH_take (i := 6) (oi := { dst := some 13, op := Op.move (Operand.tmp 2), type := 9, pos := "ref.go:73", after := #[], guard := none }) (v := ?v6) rfl (by kernel_rfl) (by kernel_rfl) (by kernel_rfl) (fun _ _ _ h => h) (Or.inl ⟨by rfl, ?hy6⟩) (by assumption) ?rest6
  case hy6 => (intro wq hSq; (try dsimp only at hSq); go_simp; try with_reducible rfl)
  try simp only [Act.put, List.setIfInBounds_toArray, List.set_cons_zero, List.set_cons_succ]
  refine wpAnyH_ready (rs := [3]) (by kernel_rfl) (by simp) ?_
  refine AllReadyH.cons rfl (fun K hK => ?_) AllReadyH.nil
  go_simp
  go_wp2_with (go_at_call 57; refine (class_in n _ t2 t3 t4 t5 t6 a cs w0.drew (HC.out.below hB0.drew (Nat.le_refl _)) HA.out).mono ?_; rintro e w1 ⟨rfl, hb1⟩; have hb1 : Below w0.heap.size w0 w1 := (by first | exact hb1 | exact ((Below.refl _ w0).drew).trans hb1); have hB1 : Below w.heap.size w w1 := hB0.trans (hb1.mono (Nat.le_of_lt hz0)); have hz1 : w.heap.size < w1.heap.size := Nat.lt_of_lt_of_le hz0 hb1.size; have r1 := Lib.hid ((hb1.block w.heap.size hz0).trans r0.out))
  refine hK.out _ _ ?_ (fun hHeldN => ?_)
  · (try dsimp only); exact cells7' r1.out
  clear hK K hHeld
  have hHeld := hHeldN
  clear hHeldN
  clear hb1
  refine wpAnyH_ready (rs := [4]) (by kernel_rfl) (by simp) ?_
  refine AllReadyH.cons rfl (fun K hK => ?_) AllReadyH.nil
  go_simp
  go_wp2_with (go_at_call 59; refine (above_any n _ t2 t3 t4 t5 t6 cs sp ab _ w1 (HC.out.below hB1 (Nat.le_refl _)) HBU.out HIA.out h300).mono ?_; rintro e w2 ⟨bA, f, rfl, hb21, hb22, hba, hfr, hb2⟩; have hb2 : Below w1.heap.size w1 w2 := (by first | exact hb2 | exact ((Below.refl _ w1).drew).trans hb2); have hB2 : Below w.heap.size w w2 := hB1.trans (hb2.mono (Nat.le_of_lt hz1)); have hz2 : w.heap.size < w2.heap.size := Nat.lt_of_lt_of_le hz1 hb2.size; have r2 := Lib.hid ((hb2.block w.heap.size hz1).trans r1.out); have HBA := Lib.hid hba; have HFR := Lib.hid hfr; clear hba hfr)
  refine hK.out _ _ ?_ (fun hHeldN => ?_)
  · (try dsimp only); exact cells7' r2.out
  clear hK K hHeld
  have hHeld := hHeldN
  clear hHeldN
  clear hb2
  refine wpAnyH_ready (rs := [7]) (by kernel_rfl) (by simp) ?_
  refine AllReadyH.cons rfl (fun K hK => ?_) AllReadyH.nil
  go_simp
  go_wp2_with (go_at_call 57; refine (class_in n _ t2 t3 t4 t5 t6 b cs w2 (HC.out.below hB2 (Nat.le_refl _)) HB.out).mono ?_; rintro e w3 ⟨rfl, hb3⟩; have hb3 : Below w2.heap.size w2 w3 := (by first | exact hb3 | exact ((Below.refl _ w2).drew).trans hb3); have hB3 : Below w.heap.size w w3 := hB2.trans (hb3.mono (Nat.le_of_lt hz2)); have hz3 : w.heap.size < w3.heap.size := Nat.lt_of_lt_of_le hz2 hb3.size; have r3 := Lib.hid ((hb3.block w.heap.size hz2).trans r2.out))
  refine hK.out _ _ ?_ (fun hHeldN => ?_)
  · (try dsimp only); exact cells7' r3.out
  clear hK K hHeld
  have hHeld := hHeldN
  clear hHeldN
  have hix := HIB.out
  have hbx := ((HBA.out.below hb3 hb22) _ hix).1
  rw [show f (ixOf (cs.map Prod.fst) b) = belowB (cs.map Prod.fst) (fun i => ab.getD i []) a b from by rw [Bool.eq_iff_iff, HFR.out _ hix]; exact HBEL.out.symm] at hbx
  generalize hr : belowB (cs.map Prod.fst) (fun i => ab.getD i []) a b = r at *
  have HRV := Lib.hid hr
  clear hr
  generalize ixOf (cs.map Prod.fst) b = ib at *
  clear hb3
  refine wpAnyH_take (i := 8) (oi := { dst := some 15, op := Op.indexAddr 113 (Operand.tmp 11) (Operand.tmp 14), type := 0, pos := "ref.go:73", after := #[{ on := 4, ground := Ground.data }, { on := 7, ground := Ground.data }], guard := none }) (v := ?v8) rfl (by kernel_rfl) (by kernel_rfl) (by kernel_rfl) (fun _ _ _ h => h) (Or.inl ⟨by rfl, ?hy8⟩) (by assumption) ?rest8
  case hy8 => (intro wq hSq; (try dsimp only at hSq); go_simp; try with_reducible rfl)
  try simp only [Act.put, List.setIfInBounds_toArray, List.set_cons_zero, List.set_cons_succ]
  refine wpAnyH_ready (rs := [9]) (by kernel_rfl) (by simp) ?_
  refine AllReadyH.cons rfl (fun K hK => ?_) AllReadyH.nil
  go_simp
  refine hK.out _ _ ?_ (fun hHeldN => ?_)
  · (try dsimp only); exact cells7' r3.out
  clear hK K hHeld
  have hHeld := hHeldN
  clear hHeldN
  refine wpAnyH_take (i := 10) (oi := { dst := some 6, op := Op.assign (Operand.tmp 16), type := 4, pos := "ref.go:73", after := #[{ on := 9, ground := Ground.data }, { on := 7, ground := Ground.chain }, { on := 0, ground := Ground.phase }, { on := 1, ground := Ground.phase }, { on := 2, ground := Ground.phase }, { on := 3, ground := Ground.phase }, { on := 4, ground := Ground.phase }, { on := 5, ground := Ground.phase }, { on := 6, ground := Ground.phase }, { on := 7, ground := Ground.phase }, { on := 8, ground := Ground.phase }, { on := 9, ground := Ground.phase }], guard := none }) (v := ?v10) rfl (by kernel_rfl) (by kernel_rfl) (by kernel_rfl) (fun _ _ _ h => h) (Or.inl ⟨by rfl, ?hy10⟩) (by assumption) ?rest10
  case hy10 => (intro wq hSq; (try dsimp only at hSq); go_simp; try with_reducible rfl)
  try simp only [Act.put, List.setIfInBounds_toArray, List.set_cons_zero, List.set_cons_succ]
  refine wpAnyH_done (by kernel_rfl) ?_ _
  go_wp2_with fail
  go_ret
  exact ⟨ret_bool HRV.out.symm, hB3⟩
end Go.Proofs.YtehnikgdjnmfcaaGreat

/- The reference: put. -/
namespace Go.Proofs.YtehnikgdjnmfcaaGreat
open Go.RowKit Go.WideMaps Go.Shelf Go.Sort Go.Lib

theorem bytesLess_cb : ∀ a b : Nm, Op.bytesLess a b = decide (Lib.compareBytes a b < 0)
  | [], [] => rfl
  | _ :: _, [] => rfl
  | [], _ :: _ => rfl
  | a :: u, b :: v => by
    unfold Op.bytesLess Lib.compareBytes
    have T : ∀ x y : UInt8, (x < y) = (x.toNat < y.toNat) := fun _ _ => rfl
    by_cases h1 : a < b
    · simp [h1]
    · by_cases h2 : b < a
      · have h3 : a ≠ b := fun e => by subst e; exact h1 h2
        simp [h1, h2, h3]
      · have e : a = b := by
          apply UInt8.toNat.inj
          rw [T] at h1 h2; omega
        simp [e, bytesLess_cb u v]

def geB (x s : Nm) : Bool := !Op.bytesLess (bs x).toList (bs s).toList

theorem geB_iff (x s : Nm) : geB x s = true ↔ ¬ Lib.compareBytes x s < 0 := by
  unfold geB
  rw [ByteArray.toList_eq, ByteArray.toList_eq, bs_list, bs_list, bytesLess_cb]
  simp

def putB : Bool → List Nm → Nm → List Nm
  | d, [], s => if d = true then [] else [s]
  | d, x :: l, s => if d = false ∧ geB x s = true then (if x = s then x :: putB true l s else s :: x :: putB true l s) else x :: putB d l s

theorem putB_true (l : List Nm) (s : Nm) : putB true l s = l := by
  induction l with
  | nil => rfl
  | cons x l ih => unfold putB; rw [if_neg (fun h => by cases h.1), ih]

theorem putB_mem (l : List Nm) (s y : Nm) : y ∈ putB false l s ↔ y ∈ l ∨ y = s := by
  induction l with
  | nil => simp [putB]
  | cons x l ih =>
    unfold putB
    by_cases h : geB x s = true
    · rw [if_pos ⟨rfl, h⟩]
      by_cases e : x = s
      · rw [if_pos e, putB_true]
        subst e
        simp only [List.mem_cons]
        exact ⟨.inl, fun h => h.elim id .inl⟩
      · rw [if_neg e, putB_true]
        simp only [List.mem_cons]
        constructor
        · rintro (h | h | h)
          · exact .inr h
          · exact .inl (.inl h)
          · exact .inl (.inr h)
        · rintro ((h | h) | h)
          · exact .inr (.inl h)
          · exact .inr (.inr h)
          · exact .inl h
    · rw [if_neg (fun hh => h hh.2)]
      simp only [List.mem_cons, ih, or_assoc]

theorem putB_asc (l : List Nm) (s : Nm) (hl : ascB l) : ascB (putB false l s) := by
  induction l with
  | nil => simp [putB, ascB]
  | cons x l ih =>
    obtain ⟨h1, h2⟩ := List.pairwise_cons.1 hl
    unfold putB
    by_cases h : geB x s = true
    · rw [if_pos ⟨rfl, h⟩]
      by_cases e : x = s
      · rw [if_pos e, putB_true]; exact hl
      · rw [if_neg e, putB_true]
        have h3 := (geB_iff x s).1 h
        have h4 : Lib.compareBytes s x < 0 := by
          have := cb_swap x s
          have : Lib.compareBytes x s ≠ 0 := fun h => e (cb_eq _ _ h)
          omega
        refine List.pairwise_cons.2 ⟨fun y hy => ?_, hl⟩
        rcases List.mem_cons.1 hy with rfl | hy
        · exact h4
        · exact cb_trans _ _ _ h4 (h1 y hy)
    · rw [if_neg (fun hh => h hh.2)]
      refine List.pairwise_cons.2 ⟨fun y hy => ?_, ih h2⟩
      rcases (putB_mem l s y).1 hy with hy | rfl
      · exact h1 y hy
      · exact Classical.byContradiction fun hh => h ((geB_iff x _).2 hh)

theorem putB_len (d : Bool) (l : List Nm) (s : Nm) : (putB d l s).length ≤ l.length + 1 := by
  induction l generalizing d with
  | nil => unfold putB; split <;> simp
  | cons x l ih =>
    unfold putB
    split
    · rw [putB_true]; split <;> simp
    · have := ih d
      simp; omega

theorem app_cell {w wr w5 : World} {o : Obj} {v x : Value} {n : Nat} {xs : List Value} {e : TypeId} (hB : RowKit.Below w.heap.size w wr) (hg : (wr.alloc o).grownBy w5 v.ownBlock) (ho : wr.ownsRow w.heap.size e 1 v n xs)
    (b k : Nat) (hb : b < w.heap.size) (hc : w.cell? ⟨b, k, none⟩ = some x) : w5.cell? ⟨b, k, none⟩ = some x ∧ w.heap.size ≤ w5.heap.size := by
  have hB5 : RowKit.Below w.heap.size w w5 := (hB.alloc hB.size _).grown hg (by have := hB.size; simp; omega) (fun r er => ownBlock_ge ho er)
  exact ⟨(hB5.cell (p := ⟨b, k, none⟩) hb).trans hc, hB5.size⟩

theorem putB_eq {x s : Nm} {l : List Nm} (h : geB x s = true) (e : x = s) : putB false (x :: l) s = x :: putB true l s := by
  conv => lhs; unfold putB
  rw [if_pos ⟨rfl, h⟩, if_pos e]
theorem putB_ne {x s : Nm} {l : List Nm} (h : geB x s = true) (e : ¬ x = s) : putB false (x :: l) s = s :: x :: putB true l s := by
  conv => lhs; unfold putB
  rw [if_pos ⟨rfl, h⟩, if_neg e]
theorem putB_lt {x s : Nm} {l : List Nm} (h : ¬ geB x s = true) : putB false (x :: l) s = x :: putB false l s := by
  conv => lhs; unfold putB
  rw [if_neg (fun hh => h hh.2)]
theorem putB_tt {x s : Nm} {l : List Nm} : putB true (x :: l) s = x :: putB true l s := by
  conv => lhs; unfold putB
  rw [if_neg (fun hh => by cases hh.1)]

theorem drop_getD {α : Type} (l : List α) (d : α) (k : Nat) (hk : k < l.length) : l.drop k = l.getD k d :: l.drop (k + 1) := by
  rw [List.drop_eq_getElem_cons hk, List.getD_eq_getElem?_getD, List.getElem?_eq_getElem hk]; rfl

set_option maxRecDepth 100000 in
set_option maxHeartbeats 8000000 in
theorem put_any (v : Value) (l : List Nm) (s : Nm) (w : World) (hs : SlS w v l) (hl : l.length ≤ 1000) (hsl : s.length ≤ maxLen) (hls : ∀ x ∈ l, x.length ≤ maxLen) :
    Calls Tryz.prog 62 #[v, .string (bs s)] w fun e w' => ∃ v', e = .returned v' ∧ SlO w' w.heap.size v' (putB false l s) ∧ Below w.heap.size w w' := by
  have HS := Lib.hid hs
  obtain ⟨_, sa, scap, rfl, _⟩ := hs
  obtain ⟨i0, hi, hq0, hq1, hq2⟩ := info_parts Tryz.info9
  go_enter Tryz.func62, Tryz.ntmps62
  go_wp2_with fail
  have hown0 : (w.alloc (Obj.cells #[] 9)).ownsRow w.heap.size 9 1 (.slice (some ⟨w.heap.size, 0, none⟩) 0 0) 0 [] := World.ownsRow_made w #[] 0 (Nat.le_refl _) (by unfold maxLen; omega) rfl
  have hB0 := below_alloc w (Obj.cells #[] 9)
  have hlm : l.length ≤ 9223372036854775807 := by omega
  have hW0 : w.heap.size ≤ (w.alloc (Obj.cells #[] 9)).heap.size := by simp
  generalize (w.alloc (Obj.cells #[] 9)) = W0 at *
  go_loopw [5, 6, 7] (fun u d i wr => ∃ (k : Nat) (b : Bool) (out : List Nm), k ≤ l.length ∧ i = .int .i64 k ∧ d = .bool b ∧ out.length ≤ 2 * k ∧ wr.ownsRow w.heap.size 9 1 u out.length (out.map encStr) ∧ Hid (putB false l s = out ++ putB b (l.drop k) s) ∧ Below w.heap.size w wr) (fun _ _ i _ => l.length - (intOf i).toNat)
  case atStart => exact ⟨0, false, [], by omega, rfl, rfl, by simp, hown0, rfl, hB0⟩
  case round =>
    obtain ⟨k, d, out, hk, rfl, rfl, hol, hown, hI, hB⟩ := hrel
    have hz := hB.size
    by_cases hlt : k < l.length
    · obtain ⟨b, off, x, rfl, hb, hck, hwk, hx⟩ := HS.out.at hlt
      have hck0 := hck
      have hck := (hB.cell (p := ⟨b, off + k, none⟩) hb).trans hck0
      have hstep : Hid (putB false l s = out ++ putB d (x :: l.drop (k + 1)) s) := by
        unfold Hid; rw [hI.out, drop_getD l [] k hlt, hx]
      clear hI hx
      cases d
      · by_cases hge : geB x s = true
        · by_cases he : x = s
          · have hd2 : ((bs x).toList == (bs s).toList) = true := by rw [bs_eq]; exact decide_eq_true he
            have hd3 : (!Op.bytesLess (bs x).toList (bs s).toList) = true := hge
            have hst : Hid (putB false l s = (out ++ [x]) ++ putB true (l.drop (k + 1)) s) := by
              unfold Hid; rw [hstep.out, List.append_assoc]; rw [putB_eq hge he]; rfl
            clear hstep he hge
            go_wp2_with (at_builtin; refine wpList_append_own _ rfl _ _ 27 rfl w.heap.size 9 i0 (.string ByteArray.empty) 1 16 Tryz.underlying27 hi hq0 hq1 hq2 rfl (by decide) _ _ _ rfl (hown.alloc _) ⟨wr.heap.size, 0, none⟩ 1 1 [.string (bs x)] rfl rfl (cell_one_new _ _ _) (by simp [Value.oneCell']) (by unfold maxLen; omega) (by omega) (by simp; omega) ?_; intro v5 w5 hown5 hgrow5 _)
            have HOWN : Hid (w5.ownsRow w.heap.size 9 1 v5 (out ++ [x]).length ((out ++ [x]).map encStr)) := by
              unfold Hid; rw [List.length_append, List.map_append]; exact hown5
            have HBEL : RowKit.Below w.heap.size w w5 := (hB.alloc hz _).grown hgrow5 (by simp; omega) (fun r er => ownBlock_ge hown er)
            go_roundw
            case rel => exact ⟨k + 1, true, out ++ [x], by omega, by go_num, rfl, by simp; omega, HOWN.out, hst, HBEL⟩
            case measure => simp [intOf]; omega
          · skip
            have hst : Hid (putB false l s = (out ++ [s] ++ [x]) ++ putB true (l.drop (k + 1)) s) := by
              unfold Hid; rw [hstep.out, List.append_assoc, List.append_assoc]; rw [putB_ne hge he]; rfl
            have hd2 : ((bs x).toList == (bs s).toList) = false := by rw [bs_eq]; exact decide_eq_false he
            have hd3 : (!Op.bytesLess (bs x).toList (bs s).toList) = true := hge
            clear hstep he hge
            go_wp2_with (first | (at_builtin; refine wpList_append_own _ rfl _ _ 27 rfl w.heap.size 9 i0 (.string ByteArray.empty) 1 16 Tryz.underlying27 hi hq0 hq1 hq2 rfl (by decide) _ _ _ rfl (hown5.alloc _) ⟨w5.heap.size, 0, none⟩ 1 1 [.string (bs x)] rfl rfl (cell_one_new _ _ _) (by simp [Value.oneCell']) (by unfold maxLen; omega) (by omega) (by simp; omega) ?_; intro v6 w6 hown6 hgrow6 _) | ((at_builtin; refine wpList_append_own _ rfl _ _ 27 rfl w.heap.size 9 i0 (.string ByteArray.empty) 1 16 Tryz.underlying27 hi hq0 hq1 hq2 rfl (by decide) _ _ _ rfl (hown.alloc _) ⟨wr.heap.size, 0, none⟩ 1 1 [.string (bs s)] rfl rfl (cell_one_new _ _ _) (by simp [Value.oneCell']) (by unfold maxLen; omega) (by omega) (by simp; omega) ?_; intro v5 w5 hown5 hgrow5 _); obtain ⟨hck5, hz5⟩ := app_cell hB hgrow5 hown b (off + k) hb hck0))
            have HOWN : Hid (w6.ownsRow w.heap.size 9 1 v6 (out ++ [s] ++ [x]).length ((out ++ [s] ++ [x]).map encStr)) := by
              unfold Hid; rw [List.length_append, List.map_append, List.length_append, List.map_append]; exact hown6
            have HBEL5 : RowKit.Below w.heap.size w w5 := (hB.alloc hz _).grown hgrow5 (by simp; omega) (fun r er => ownBlock_ge hown er)
            have HBEL : RowKit.Below w.heap.size w w6 := (HBEL5.alloc HBEL5.size _).grown hgrow6 (by simp; omega) (fun r er => ownBlock_ge hown5 er)
            go_roundw
            case rel => exact ⟨k + 1, true, out ++ [s] ++ [x], by omega, by go_num, rfl, by simp; omega, HOWN.out, hst, HBEL⟩
            case measure => simp [intOf]; omega
        · have hd3 : (!Op.bytesLess (bs x).toList (bs s).toList) = false := by simpa [geB] using hge
          have hst : Hid (putB false l s = (out ++ [x]) ++ putB false (l.drop (k + 1)) s) := by
            unfold Hid; rw [hstep.out, List.append_assoc]; rw [putB_lt hge]; rfl
          clear hstep hge
          go_wp2_with (at_builtin; refine wpList_append_own _ rfl _ _ 27 rfl w.heap.size 9 i0 (.string ByteArray.empty) 1 16 Tryz.underlying27 hi hq0 hq1 hq2 rfl (by decide) _ _ _ rfl (hown.alloc _) ⟨wr.heap.size, 0, none⟩ 1 1 [.string (bs x)] rfl rfl (cell_one_new _ _ _) (by simp [Value.oneCell']) (by unfold maxLen; omega) (by omega) (by simp; omega) ?_; intro v5 w5 hown5 hgrow5 _)
          have HOWN : Hid (w5.ownsRow w.heap.size 9 1 v5 (out ++ [x]).length ((out ++ [x]).map encStr)) := by
            unfold Hid; rw [List.length_append, List.map_append]; exact hown5
          have HBEL : RowKit.Below w.heap.size w w5 := (hB.alloc hz _).grown hgrow5 (by simp; omega) (fun r er => ownBlock_ge hown er)
          go_roundw
          case rel => exact ⟨k + 1, false, out ++ [x], by omega, by go_num, rfl, by simp; omega, HOWN.out, hst, HBEL⟩
          case measure => simp [intOf]; omega
      · skip
        have hst : Hid (putB false l s = (out ++ [x]) ++ putB true (l.drop (k + 1)) s) := by
          unfold Hid; rw [hstep.out, List.append_assoc]; rw [putB_tt]; rfl
        clear hstep
        go_wp2_with (at_builtin; refine wpList_append_own _ rfl _ _ 27 rfl w.heap.size 9 i0 (.string ByteArray.empty) 1 16 Tryz.underlying27 hi hq0 hq1 hq2 rfl (by decide) _ _ _ rfl (hown.alloc _) ⟨wr.heap.size, 0, none⟩ 1 1 [.string (bs x)] rfl rfl (cell_one_new _ _ _) (by simp [Value.oneCell']) (by unfold maxLen; omega) (by omega) (by simp; omega) ?_; intro v5 w5 hown5 hgrow5 _)
        have HOWN : Hid (w5.ownsRow w.heap.size 9 1 v5 (out ++ [x]).length ((out ++ [x]).map encStr)) := by
          unfold Hid; rw [List.length_append, List.map_append]; exact hown5
        have HBEL : RowKit.Below w.heap.size w w5 := (hB.alloc hz _).grown hgrow5 (by simp; omega) (fun r er => ownBlock_ge hown er)
        go_roundw
        case rel => exact ⟨k + 1, true, out ++ [x], by omega, by go_num, rfl, by simp; omega, HOWN.out, hst, HBEL⟩
        case measure => simp [intOf]; omega
    · have hkk : k = l.length := by omega
      have hnil : l.drop k = [] := List.drop_eq_nil_of_le (by omega)
      have hpl := putB_len false l s
      have HW : Hid (∀ y ∈ putB false l s, y.length ≤ maxLen) := fun y hy => ((putB_mem l s y).1 hy).elim (hls y) (fun e => e ▸ hsl)
      cases d
      · have hst : Hid (putB false l s = out ++ [s]) := by unfold Hid; rw [hI.out, hnil]; rfl
        clear hI hnil
        go_wp2_with (at_builtin; refine wpList_append_own _ rfl _ _ 27 rfl w.heap.size 9 i0 (.string ByteArray.empty) 1 16 Tryz.underlying27 hi hq0 hq1 hq2 rfl (by decide) _ _ _ rfl (hown.alloc _) ⟨wr.heap.size, 0, none⟩ 1 1 [.string (bs s)] rfl rfl (cell_one_new _ _ _) (by simp [Value.oneCell']) (by unfold maxLen; omega) (by omega) (by simp; omega) ?_; intro v5 w5 hown5 hgrow5 _)
        go_ret
        refine ⟨_, rfl, ?_, (hB.alloc hz _).grown hgrow5 (by simp; omega) (fun r er => ownBlock_ge hown er)⟩
        refine slO_of_own ?_ (by omega) HW.out
        rw [hst.out, List.length_append, List.map_append]; exact hown5
      · have hst : Hid (putB false l s = out) := by unfold Hid; rw [hI.out, hnil]; simp [putB]
        clear hI hnil
        go_wp2_with fail
        go_ret
        refine ⟨_, rfl, ?_, hB⟩
        refine slO_of_own ?_ (by omega) HW.out
        rw [hst.out]; exact hown
end Go.Proofs.YtehnikgdjnmfcaaGreat

/- The reference: least. -/
namespace Go.Proofs.YtehnikgdjnmfcaaGreat
open Go.RowKit Go.WideMaps Go.Shelf Go.Sort Go.Lib

/-- whether another class of a sort is below one -/
def rdropB (ns : List Nm) (abv : Nat → List Nat) (x d : Nm) : Bool := !decide (d = x) && belowB ns abv d x

def rleastB (ns : List Nm) (abv : Nat → List Nat) (ss pre : List Nm) : List Nm :=
  pre.foldl (fun L x => if ss.any (rdropB ns abv x) = true then L else putB false L x) []

theorem rleast_snoc (ns : List Nm) (abv : Nat → List Nat) (ss pre : List Nm) (x : Nm) : rleastB ns abv ss (pre ++ [x]) = if ss.any (rdropB ns abv x) = true then rleastB ns abv ss pre else putB false (rleastB ns abv ss pre) x := by
  unfold rleastB
  rw [List.foldl_append]; rfl

theorem rleast_facts (ns : List Nm) (abv : Nat → List Nat) (ss : List Nm) (pre : List Nm) :
    ascB (rleastB ns abv ss pre) ∧ (∀ x, x ∈ rleastB ns abv ss pre ↔ x ∈ pre ∧ ss.any (rdropB ns abv x) = false) ∧ (rleastB ns abv ss pre).length ≤ pre.length := by
  suffices h : ∀ n, ∀ pre : List Nm, pre.length = n → ascB (rleastB ns abv ss pre) ∧ (∀ x, x ∈ rleastB ns abv ss pre ↔ x ∈ pre ∧ ss.any (rdropB ns abv x) = false) ∧ (rleastB ns abv ss pre).length ≤ pre.length from h _ pre rfl
  intro n
  induction n with
  | zero =>
    intro pre h
    rw [List.length_eq_zero_iff.1 h]
    exact ⟨List.Pairwise.nil, fun x => by simp [rleastB], Nat.le_refl _⟩
  | succ n ih =>
    intro pre h
    rcases List.eq_nil_or_concat pre with rfl | ⟨q, y, rfl⟩
    · simp at h
    · rw [List.concat_eq_append] at h ⊢
      obtain ⟨h1, h2, h3⟩ := ih q (by simp at h; omega)
      rw [rleast_snoc]
      by_cases hd : ss.any (rdropB ns abv y) = true
      · rw [if_pos hd]
        refine ⟨h1, fun x => ?_, by simp; omega⟩
        rw [h2, List.mem_append, List.mem_singleton]
        constructor
        · rintro ⟨a, b⟩; exact ⟨.inl a, b⟩
        · rintro ⟨a | rfl, b⟩
          · exact ⟨a, b⟩
          · rw [hd] at b; cases b
      · rw [if_neg hd]
        refine ⟨putB_asc _ _ h1, fun x => ?_, by have := putB_len false (rleastB ns abv ss q) y; simp; omega⟩
        rw [putB_mem, h2, List.mem_append, List.mem_singleton]
        constructor
        · rintro (⟨a, b⟩ | rfl)
          · exact ⟨.inl a, b⟩
          · exact ⟨.inr rfl, by simpa using hd⟩
        · rintro ⟨a | rfl, b⟩
          · exact .inl ⟨a, b⟩
          · exact .inr rfl

theorem rleast_eq {cs : List (Nm × List Nm)} {sp ab : List (List Nat)} (hb : Built cs sp ab) {ss : List Nm} (hk : ∀ x ∈ ss, inNs (cs.map Prod.fst) x = true) :
    rleastB (cs.map Prod.fst) (fun i => ab.getD i []) ss ss = leastB (cs.map Prod.fst) (fun i => ab.getD i []) ss := by
  obtain ⟨h1, h2, _⟩ := rleast_facts (cs.map Prod.fst) (fun i => ab.getD i []) ss ss
  refine ascB.uniq h1 (leastB_asc _ _ _) fun x => ?_
  rw [h2, mem_least hb hk]
  refine and_congr_right fun hx => ?_
  rw [List.any_eq_false]
  constructor
  · intro h d hd hle
    refine Classical.byContradiction fun hne => h d hd ?_
    unfold rdropB
    rw [(belowB_iff hb (hk d hd)).2 hle, decide_eq_false hne]; rfl
  · intro h d hd hdr
    unfold rdropB at hdr
    rw [Bool.and_eq_true] at hdr
    have h3 := h d hd ((belowB_iff hb (hk d hd)).1 hdr.2)
    rw [decide_eq_true h3] at hdr
    cases hdr.1

theorem any_take_succ {α : Type} (l : List α) (d : α) (p : α → Bool) (k : Nat) (hk : k < l.length) : (l.take (k + 1)).any p = ((l.take k).any p || p (l.getD k d)) := by
  rw [take_snocD l d k hk, List.any_append]; simp

set_option maxRecDepth 100000 in
set_option maxHeartbeats 8000000 in
theorem rleast_any (n c t2 t3 t4 t5 t6 v : Value) (cs : List (Nm × List Nm)) (sp ab : List (List Nat)) (ss : List Nm) (w : World) (hc : SlC w c cs) (hbu : Built cs sp ab) (h300 : cs.length ≤ 300) (hs : SlS w v ss) (hl : ss.length ≤ 1000) (hks : ss.all (inNs (cs.map Prod.fst)) = true) :
    Calls Tryz.prog 45 #[.agg #[n, c, t2, t3, t4, t5, t6], v] w fun e w' => ∃ v', e = .returned v' ∧ SlO w' w.heap.size v' (leastB (cs.map Prod.fst) (fun i => ab.getD i []) ss) ∧ Below w.heap.size w w' := by
  have hb0 := below_alloc w (Obj.cells #[n, c, t2, t3, t4, t5, t6] 29)
  have HC := Lib.hid hc
  have HS := Lib.hid hs
  have HR0 := Lib.hid (heap_alloc_new w (Obj.cells #[n, c, t2, t3, t4, t5, t6] 29))
  have hz0 : w.heap.size < (w.alloc (Obj.cells #[n, c, t2, t3, t4, t5, t6] 29)).heap.size := by simp
  have hk1 := List.all_eq_true.1 hks
  have HEQ := Lib.hid (rleast_eq hbu hk1)
  have HK := Lib.hid hk1
  have HBU := Lib.hid hbu
  obtain ⟨_, ca, ccap, rfl, _⟩ := hc
  obtain ⟨_, sa, scap, rfl, _⟩ := hs
  clear hks hk1 hbu
  go_enter Tryz.func45, Tryz.ntmps45
  go_wp2_with fail
  have hb1 := below_alloc (w.alloc (Obj.cells #[n, .slice ca cs.length ccap, t2, t3, t4, t5, t6] 29)) (Obj.cells #[] 9)
  have HR1 := Lib.hid ((hb1.block w.heap.size hz0).trans HR0.out)
  have hB1 : Below w.heap.size w ((w.alloc (Obj.cells #[n, .slice ca cs.length ccap, t2, t3, t4, t5, t6] 29)).alloc (Obj.cells #[] 9)) := hb0.trans (hb1.mono (by omega))
  have hz1 : w.heap.size < ((w.alloc (Obj.cells #[n, .slice ca cs.length ccap, t2, t3, t4, t5, t6] 29)).alloc (Obj.cells #[] 9)).heap.size := by simp; omega
  have hL0 : rleastB (cs.map Prod.fst) (fun i => ab.getD i []) ss (ss.take 0) = [] := rfl
  have hO0 : SlO ((w.alloc (Obj.cells #[n, .slice ca cs.length ccap, t2, t3, t4, t5, t6] 29)).alloc (Obj.cells #[] 9)) w.heap.size (.slice (some ⟨w.heap.size + 1, 0, none⟩) 0 0) (rleastB (cs.map Prod.fst) (fun i => ab.getD i []) ss (ss.take 0)) := by
    rw [hL0]
    exact ⟨by simp, by simp, _, _, rfl, fun h => absurd h (by simp)⟩
  have HO0 := Lib.hid hO0
  clear hL0 hO0 hb1 hb0 HR0
  generalize ((w.alloc (Obj.cells #[n, .slice ca cs.length ccap, t2, t3, t4, t5, t6] 29)).alloc (Obj.cells #[] 9)) = W1 at *
  go_loopw [5, 6] (fun u i wr => ∃ i' : Nat, i' ≤ ss.length ∧ i = .int .i64 i' ∧ Hid (SlO wr w.heap.size u (rleastB (cs.map Prod.fst) (fun i => ab.getD i []) ss (ss.take i'))) ∧ Below W1.heap.size W1 wr) (fun _ i _ => ss.length - (intOf i).toNat)
  case atStart => exact ⟨0, by omega, rfl, HO0, Below.refl _ _⟩
  case round =>
    obtain ⟨i, hi, rfl, hO, hB⟩ := hrel
    have hz := hB.size
    have hBw : Below w.heap.size w wr := hB1.trans (hB.mono (by omega))
    by_cases hlt : i < ss.length
    · obtain ⟨b, off, x, rfl, hb, hck0, hwk, hx⟩ := HS.out.at hlt
      have hxin := Lib.hid (HK.out x (by rw [hx]; exact getD_mem ss [] i hlt))
      have HSN : Hid (rleastB (cs.map Prod.fst) (fun i => ab.getD i []) ss (ss.take (i + 1)) = if ss.any (rdropB (cs.map Prod.fst) (fun i => ab.getD i []) x) = true then rleastB (cs.map Prod.fst) (fun i => ab.getD i []) ss (ss.take i) else putB false (rleastB (cs.map Prod.fst) (fun i => ab.getD i []) ss (ss.take i)) x) := by unfold Hid; rw [take_snocD ss [] i hlt, ← hx, rleast_snoc]
      have HK0 := Lib.hid hck0
      have hI0 : Hid (false = (ss.take 0).any (rdropB (cs.map Prod.fst) (fun i => ab.getD i []) x)) := rfl
      clear hx hck0
      go_wp2_with fail
      obtain ⟨wo, rfl⟩ : ∃ wo : World, wo = wr := ⟨_, rfl⟩
      go_loopw [7, 8] (fun d k wr => ∃ (k' : Nat) (q : Bool), k' ≤ ss.length ∧ k = .int .i64 k' ∧ d = .bool q ∧ Hid (q = (ss.take k').any (rdropB (cs.map Prod.fst) (fun i => ab.getD i []) x)) ∧ Below wo.heap.size wo wr) (fun _ k _ => ss.length - (intOf k).toNat)
      case atStart => exact ⟨0, false, by omega, rfl, rfl, hI0, Below.refl _ _⟩
      case round =>
        obtain ⟨k, q, hk, rfl, rfl, hI, hB3⟩ := hrel
        clear hI0
        have hz3 := hB3.size
        have hBw3 : Below w.heap.size w wr := hBw.trans (hB3.mono (by omega))
        have r3 := Lib.hid ((hB3.block w.heap.size (by omega)).trans ((hB.block w.heap.size hz1).trans HR1.out))
        have hcx := (hBw3.cell (p := ⟨b, off + i, none⟩) hb).trans HK0.out
        by_cases hltk : k < ss.length
        · obtain ⟨b2, off2, d, hee2, hb2, hckd0, hwd, hd⟩ := HS.out.at hltk
          injection hee2 with hee2
          injection hee2 with hq1 hq2
          subst hq1 hq2
          have hcd := (hBw3.cell (p := ⟨b, off + k, none⟩) hb).trans hckd0
          have HT := Lib.hid (any_take_succ ss [] (rdropB (cs.map Prod.fst) (fun i => ab.getD i []) x) k hltk)
          rw [← hd] at HT
          have hdin := Lib.hid (HK.out d (by rw [hd]; exact getD_mem ss [] k hltk))
          clear hd hckd0
          cases q
          · by_cases he : d = x
            · have hd2 : ((bs d).toList == (bs x).toList) = true := by rw [bs_eq]; exact decide_eq_true he
              have hst : Hid (false = (ss.take (k + 1)).any (rdropB (cs.map Prod.fst) (fun i => ab.getD i []) x)) := by
                unfold Hid; rw [HT.out, ← hI.out]; unfold rdropB; rw [decide_eq_true he]; rfl
              clear HT hI he
              go_wp2_with fail
              go_quiet (fail)
              go_wp2_with fail
              go_roundw
              case rel => exact ⟨k + 1, false, by omega, by go_num, rfl, hst, below_drewN hB3 _⟩
              case measure => simp [intOf]; omega
            · have hd2 : ((bs d).toList == (bs x).toList) = false := by rw [bs_eq]; exact decide_eq_false he
              have hst : Hid (belowB (cs.map Prod.fst) (fun i => ab.getD i []) d x = (ss.take (k + 1)).any (rdropB (cs.map Prod.fst) (fun i => ab.getD i []) x)) := by
                unfold Hid; rw [HT.out, ← hI.out]; unfold rdropB; rw [decide_eq_false he]; simp
              have UN := Lib.hid (under_any n _ t2 t3 t4 t5 t6 cs sp ab d x wr.drew (HC.out.below hBw3.drew (Nat.le_refl _)) HBU.out h300 hdin.out hxin.out)
              have hcxd := Lib.hid hcx
              have hcdd := Lib.hid hcd
              obtain ⟨c0, c1, c2, c3, c4, c5, c6⟩ := cells7' r3.out
              clear HT hI he
              generalize belowB (cs.map Prod.fst) (fun i => ab.getD i []) d x = r at *
              go_wp2_with fail
              go_region_held3 (fun w' => w'.cell? ⟨w.heap.size, 0, none⟩ = some n ∧ w'.cell? ⟨w.heap.size, 1, none⟩ = some (.slice ca cs.length ccap) ∧ w'.cell? ⟨w.heap.size, 2, none⟩ = some t2 ∧ w'.cell? ⟨w.heap.size, 3, none⟩ = some t3 ∧ w'.cell? ⟨w.heap.size, 4, none⟩ = some t4 ∧ w'.cell? ⟨w.heap.size, 5, none⟩ = some t5 ∧ w'.cell? ⟨w.heap.size, 6, none⟩ = some t6 ∧ w'.cell? ⟨b, off + i, none⟩ = some (.string (bs x)) ∧ w'.cell? ⟨b, off + k, none⟩ = some (.string (bs d)))
                (first | exact cells7and r3.out ⟨hcxd.out, hcdd.out⟩ | exact cells7and r4.out ⟨k4.out, k5.out⟩)
                ((go_at_call 61; refine UN.out.mono ?_; rintro e w4 ⟨rfl, hb4⟩; have hb4 : Below wr.heap.size wr w4 := ((Below.refl _ wr).drew).trans hb4; have r4 := Lib.hid ((hb4.block w.heap.size (by omega)).trans r3.out); have k4 := Lib.hid ((hb4.cell (p := ⟨b, off + i, none⟩) (by simp; omega)).trans hcxd.out); have k5 := Lib.hid ((hb4.cell (p := ⟨b, off + k, none⟩) (by simp; omega)).trans hcdd.out)))
              clear c0 c1 c2 c3 c4 c5 c6 hcx hcd
              go_wp2_with fail
              go_roundw
              case rel => exact ⟨k + 1, r, by omega, by go_num, rfl, hst, hB3.trans (hb4.mono (by omega))⟩
              case measure => simp [intOf]; omega
          · have hst : Hid (true = (ss.take (k + 1)).any (rdropB (cs.map Prod.fst) (fun i => ab.getD i []) x)) := by
              unfold Hid; rw [HT.out, ← hI.out]; rfl
            clear HT hI
            go_wp2_with fail
            go_quiet (fail)
            go_wp2_with fail
            go_roundw
            case rel => exact ⟨k + 1, true, by omega, by go_num, rfl, hst, below_drewN hB3 _⟩
            case measure => simp [intOf]; omega
        · have hd := hI.out
          rw [List.take_of_length_le (by omega)] at hd
          have hO3 := Lib.hid (hO.out.below hB3 (Nat.le_refl _))
          have hf := rleast_facts (cs.map Prod.fst) (fun i => ab.getD i []) ss (ss.take i)
          have hll : (rleastB (cs.map Prod.fst) (fun i => ab.getD i []) ss (ss.take i)).length ≤ i := by
            have := hf.2.2
            rw [List.length_take] at this; omega
          clear hI hf
          cases q
          · have hst : Hid (rleastB (cs.map Prod.fst) (fun i => ab.getD i []) ss (ss.take (i + 1)) = putB false (rleastB (cs.map Prod.fst) (fun i => ab.getD i []) ss (ss.take i)) x) := by
              unfold Hid; rw [HSN.out, ← hd]; rfl
            clear hd HSN
            have PU := Lib.hid (put_any _ _ x wr hO3.out.sl (by omega) hwk hO3.out.2.1)
            go_wp2_with fail
            refine PU.out.mono ?_
            rintro e w4 ⟨v4, rfl, ho4, hb4⟩
            have HO4 := Lib.hid ho4
            clear ho4
            go_wp2_with fail
            go_roundw
            case rel => exact ⟨i + 1, by omega, by go_num, by rw [hst.out]; exact HO4.out.base (by omega), hB.trans ((hB3.mono (by omega)).trans (hb4.mono (by omega)))⟩
            case measure => simp [intOf]; omega
          · have hst : Hid (rleastB (cs.map Prod.fst) (fun i => ab.getD i []) ss (ss.take (i + 1)) = rleastB (cs.map Prod.fst) (fun i => ab.getD i []) ss (ss.take i)) := by
              unfold Hid; rw [HSN.out, ← hd]; rfl
            clear hd HSN
            go_wp2_with fail
            go_roundw
            case rel => exact ⟨i + 1, by omega, by go_num, by rw [hst.out]; exact hO3.out, hB.trans (hB3.mono (by omega))⟩
            case measure => simp [intOf]; omega
    · have hii : i = ss.length := by omega
      subst hii
      go_wp2_with fail
      go_ret
      refine ⟨_, rfl, ?_, hBw⟩
      have := hO.out
      rw [List.take_length, HEQ.out] at this
      exact this
end Go.Proofs.YtehnikgdjnmfcaaGreat
