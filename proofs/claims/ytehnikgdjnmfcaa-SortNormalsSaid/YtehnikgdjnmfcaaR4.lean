/- The reference: above. -/
import Derived.Test.YtehnikgdjnmfcaaR3
import Derived.Test.YtehnikgdjnmfcaaV
import Derived.OwnWalk
namespace Go.Proofs.Ytehnikgdjnmfcaa
open Go.RowKit Go.WideMaps Go.Shelf

theorem Built.sup {cs : List (Nm × List Nm)} {sp ab : List (List Nat)} (h : Built cs sp ab) : ∀ k, k < cs.length →
    sp.getD k [] = (cs.getD k ([], [])).2.map (ixOf (cs.map Prod.fst)) ∧ (∀ x ∈ (cs.getD k ([], [])).2, inNs (cs.map Prod.fst) x = true) ∧ (cs.getD k ([], [])).2.length ≤ 20 := by
  induction h with
  | nil => intro k hk; simp at hk
  | @snoc cs sp ab nm sups ys hb he hy ih =>
    intro k hk
    obtain ⟨_, _, h20, hsu⟩ := classErr_zero he
    have hl := hb.len.1
    have hin : ∀ x, inNs (cs.map Prod.fst) x = true → inNs ((cs ++ [(nm, sups)]).map Prod.fst) x = true ∧ ixOf ((cs ++ [(nm, sups)]).map Prod.fst) x = ixOf (cs.map Prod.fst) x := by
      intro x hx
      have := ix_take (cs := cs ++ [(nm, sups)]) (k := cs.length) (s := x) (by rw [List.take_left]; exact hx)
      rw [List.take_left] at this; exact this
    by_cases hkl : k < cs.length
    · have e : (cs ++ [(nm, sups)]).getD k ([], []) = cs.getD k ([], []) := by
        rw [List.getD_eq_getElem?_getD, List.getElem?_append_left hkl, ← List.getD_eq_getElem?_getD]
      rw [e, getD_left sp _ k (by omega)]
      obtain ⟨h1, h2, h3⟩ := ih k hkl
      refine ⟨?_, fun x hx => (hin x (h2 x hx)).1, h3⟩
      rw [h1]
      exact List.map_congr_left fun x hx => ((hin x (h2 x hx)).2).symm
    · have hkk : k = cs.length := by simp at hk; omega
      subst hkk
      have e : (cs ++ [(nm, sups)]).getD cs.length ([], []) = (nm, sups) := by simp
      have h2 := supErr_all _ _ hsu
      rw [e, ← hl, getD_last]
      refine ⟨?_, fun x hx => (hin x (h2 x hx)).1, h20⟩
      exact List.map_congr_left fun x hx => ((hin x (h2 x hx)).2).symm

/-- the classes reached from i0 by steps out of classes from the m-th on -/
def Rm (sup : Nat → List Nat) (i0 m j : Nat) : Prop := j = i0 ∨ ∃ p, m ≤ p ∧ p ≤ i0 ∧ Reach sup i0 p ∧ j ∈ sup p

theorem Rm.start (sup : Nat → List Nat) (i0 j : Nat) : Rm sup i0 (i0 + 1) j ↔ j = i0 :=
  ⟨fun h => h.elim id (fun ⟨p, h1, h2, _⟩ => by omega), .inl⟩

theorem Rm.own {sup : Nat → List Nat} (hs : ∀ i, ∀ s ∈ sup i, s < i) (i0 k : Nat) : Rm sup i0 (k + 1) k ↔ Reach sup i0 k := by
  constructor
  · rintro (rfl | ⟨p, _, _, h, hm⟩)
    · exact .self
    · exact .step h hm
  · intro h
    cases h with
    | self => exact .inl rfl
    | @step k' _ h hm => exact .inr ⟨k', hs _ _ hm, Reach.le hs h, h, hm⟩

theorem Rm.no {sup : Nat → List Nat} {i0 k : Nat} (h : ¬ Reach sup i0 k) (j : Nat) : Rm sup i0 k j ↔ Rm sup i0 (k + 1) j := by
  constructor
  · rintro (rfl | ⟨p, h1, h2, h3, h4⟩)
    · exact .inl rfl
    · have : p ≠ k := fun e => h (e ▸ h3)
      exact .inr ⟨p, by omega, h2, h3, h4⟩
  · rintro (rfl | ⟨p, h1, h2, h3, h4⟩)
    · exact .inl rfl
    · exact .inr ⟨p, by omega, h2, h3, h4⟩

theorem Rm.yes {sup : Nat → List Nat} (hs : ∀ i, ∀ s ∈ sup i, s < i) {i0 k : Nat} (h : Reach sup i0 k) (j : Nat) : Rm sup i0 k j ↔ Rm sup i0 (k + 1) j ∨ j ∈ sup k := by
  constructor
  · rintro (rfl | ⟨p, h1, h2, h3, h4⟩)
    · exact .inl (.inl rfl)
    · by_cases e : p = k
      · subst e; exact .inr h4
      · exact .inl (.inr ⟨p, by omega, h2, h3, h4⟩)
  · rintro ((rfl | ⟨p, h1, h2, h3, h4⟩) | h4)
    · exact .inl rfl
    · exact .inr ⟨p, by omega, h2, h3, h4⟩
    · exact .inr ⟨k, Nat.le_refl _, Reach.le hs h, h, h4⟩

theorem Rm.all {sup : Nat → List Nat} (hs : ∀ i, ∀ s ∈ sup i, s < i) (i0 j : Nat) : Rm sup i0 0 j ↔ Reach sup i0 j := by
  constructor
  · rintro (rfl | ⟨p, _, _, h, hm⟩)
    · exact .self
    · exact .step h hm
  · intro h
    cases h with
    | self => exact .inl rfl
    | @step k' _ h hm => exact .inr ⟨k', Nat.zero_le _, Reach.le hs h, h, hm⟩

/-- a row of bools that may be written -/
def BoolsAt (w : World) (b n : Nat) (f : Nat → Bool) : Prop := ∀ j, j < n → w.cell? ⟨b, j, none⟩ = some (.bool (f j)) ∧ w.frozen? ⟨b, j, none⟩ = false

theorem BoolsAt.set {w : World} {b n : Nat} {f : Nat → Bool} (h : BoolsAt w b n f) (k : Nat) (v : Bool) : BoolsAt (w.setCell ⟨b, k, none⟩ (.bool v)) b n (fun j => if j = k then v else f j) := by
  intro j hj
  obtain ⟨h1, h2⟩ := h j hj
  by_cases e : j = k
  · subst e
    exact ⟨by simp only [↓reduceIte]; exact World.cell?_setCell_same _ _ _ h1, by rw [World.frozen?_setCell]; exact h2⟩
  · refine ⟨?_, by rw [World.frozen?_setCell]; exact h2⟩
    rw [World.cell?_setCell_other _ _ _ _ (by intro hh; injection hh with _ hh; omega), h1]
    simp [e]

theorem BoolsAt.below {w w' : World} {b n B : Nat} {f : Nat → Bool} (h : BoolsAt w b n f) (hb : Below B w w') (hB : b < B) : BoolsAt w' b n f := by
  intro j hj
  obtain ⟨h1, h2⟩ := h j hj
  exact ⟨(hb.cell (p := ⟨b, j, none⟩) hB).trans h1, (hb.frozen (p := ⟨b, j, none⟩) hB).trans h2⟩

theorem Try.info4 : (Try.prog.info? 4).map (fun i => (i.zero, i.size, i.bytes)) = some (some (.bool false), 1, 1) := by kernel_rfl

theorem made_bools (n j : Nat) (hj : j < n) : (madeCells (Value.cells (.bool false)) (n * 1)).toList[j]? = some (.bool false) := by
  have hs : (madeCells (Value.cells (.bool false)) (n * 1)).size = n * 1 := size_madeCells _ _
  rw [Array.getElem?_toList, Array.getElem?_eq_getElem (by omega)]
  unfold madeCells
  simp only [Array.getElem_map, Array.getElem_range]
  have e : Value.cells (.bool false) = #[.bool false] := rfl
  rw [e]
  simp only [List.size_toArray, List.length_cons, List.length_nil, Nat.zero_add, Nat.mod_one]
  rfl

theorem bools_made {w : World} {base b n : Nat} (h : w.ownsRow base 4 1 (.slice (some ⟨b, 0, none⟩) n n) n (madeCells (Value.cells (.bool false)) (n * 1)).toList) : BoolsAt w b n (fun _ => false) :=
  fun j hj => ⟨(h.cellAt j (by rw [Nat.mul_one]; exact hj)).trans (made_bools n j hj), h.frozenAt j⟩

def UpV (m : Nat) (u : Value) : Prop := (∃ k : Nat, m = k + 1 ∧ u = .int .i64 (k : Int)) ∨ m = 0 ∧ u = .int .i64 (-1)

theorem UpV.pred (k : Nat) : UpV k (.int .i64 ((k : Int) - 1)) := by
  by_cases h : k = 0
  · subst h; exact .inr ⟨rfl, rfl⟩
  · exact .inl ⟨k - 1, by omega, by rw [show ((k : Int) - 1) = ((k - 1 : Nat) : Int) by omega]⟩

/-- a row of bools that says what R does -/
def BoolsR (w : World) (b n : Nat) (R : Nat → Prop) : Prop := ∃ f, BoolsAt w b n f ∧ ∀ j, j < n → (f j = true ↔ R j)

theorem BoolsR.below {w w' : World} {b n B : Nat} {R : Nat → Prop} (h : BoolsR w b n R) (hb : Below B w w') (hB : b < B) : BoolsR w' b n R := by
  obtain ⟨f, h1, h2⟩ := h
  exact ⟨f, h1.below hb hB, h2⟩

theorem BoolsR.congr {w : World} {b n : Nat} {R R' : Nat → Prop} (h : BoolsR w b n R) (e : ∀ j, R j ↔ R' j) : BoolsR w b n R' := by
  obtain ⟨f, h1, h2⟩ := h
  exact ⟨f, h1, fun j hj => (h2 j hj).trans (e j)⟩

theorem BoolsR.set {w : World} {b n : Nat} {R : Nat → Prop} (h : BoolsR w b n R) (k : Nat) : BoolsR (w.setCell ⟨b, k, none⟩ (.bool true)) b n (fun j => R j ∨ j = k) := by
  obtain ⟨f, h1, h2⟩ := h
  refine ⟨_, h1.set k true, fun j hj => ?_⟩
  by_cases e : j = k
  · subst e; simp
  · simp only [e, if_false, or_false]; exact h2 j hj

/-- what above returns -/
def AbovePost (w : World) (n : Nat) (R : Nat → Prop) (e : Ending) (w' : World) : Prop :=
  ∃ b f, e = .returned (.slice (some ⟨b, 0, none⟩) n n) ∧ w.heap.size ≤ b ∧ b < w'.heap.size ∧ BoolsAt w' b n f ∧ (∀ j, j < n → (f j = true ↔ R j)) ∧ Below w.heap.size w w'

set_option maxRecDepth 100000 in
set_option maxHeartbeats 8000000 in
theorem above_any (n c t2 t3 t4 t5 t6 : Value) (cs : List (Nm × List Nm)) (sp ab : List (List Nat)) (i0 : Nat) (w : World) (hc : SlC w c cs) (hbu : Built cs sp ab) (hi0 : i0 < cs.length) (h300 : cs.length ≤ 300) :
    Calls Try.prog 36 #[.agg #[n, c, t2, t3, t4, t5, t6], .int .i64 i0] w (AbovePost w cs.length (Reach (fun i => sp.getD i []) i0)) := by
  have hb0 := below_alloc w (Obj.cells #[n, c, t2, t3, t4, t5, t6] 29)
  have HC := Lib.hid hc
  have HR := Lib.hid (heap_alloc_new w (Obj.cells #[n, c, t2, t3, t4, t5, t6] 29))
  have hz0 : (w.alloc (Obj.cells #[n, c, t2, t3, t4, t5, t6] 29)).heap.size = w.heap.size + 1 := by simp
  obtain ⟨hl, ca, ccap, rfl, _⟩ := hc
  have hmx := hl
  unfold maxLen at hl
  have c1 := (cells7' HR.out).2.1
  obtain ⟨bi, hi, hq0, hq1, hq2⟩ := info_parts Try.info4
  have hlt' := Lib.hid hbu.lt'
  have HSU := Lib.hid hbu.sup
  have HZ0 := Lib.hid hz0
  clear hbu hz0
  go_enter Try.func36, Try.ntmps36
  go_wp2_with (refine wpList_make_full _ rfl _ _ 72 rfl (w.alloc (Obj.cells #[n, .slice ca cs.length ccap, t2, t3, t4, t5, t6] 29)).heap.size 4 bi (.bool false) 1 Try.underlying72 hi hq0 hq1 .i64 .i64 _ _ cs.length rfl rfl rfl rfl (by rw [hq2]; omega) hmx (Nat.le_refl _) ?_; intro w1 hown hg1; have hbm := bools_made hown; rw [HZ0.out] at hbm; have HM := Lib.hid hbm; obtain ⟨hbx, hbf⟩ := HM.out i0 hi0; clear hown hbm)
  have hR2 : BoolsR (w1.setCell ⟨w.heap.size + 1, i0, none⟩ (.bool true)) (w.heap.size + 1) cs.length (Rm (fun i => sp.getD i []) i0 (i0 + 1)) := by
    refine ((show BoolsR w1 (w.heap.size + 1) cs.length (fun _ => False) from ⟨_, HM.out, fun j _ => by simp⟩).set i0).congr fun j => ?_
    rw [Rm.start]; simp
  have hB2 : Below (w.heap.size + 1) (w.alloc (Obj.cells #[n, .slice ca cs.length ccap, t2, t3, t4, t5, t6] 29)) (w1.setCell ⟨w.heap.size + 1, i0, none⟩ (.bool true)) :=
    (show Below (w.heap.size + 1) (w.alloc (Obj.cells #[n, .slice ca cs.length ccap, t2, t3, t4, t5, t6] 29)) w1 from (Below.refl _ _).grown hg1 (by rw [HZ0.out]; exact Nat.le_refl _) (fun r e => by cases e)).setCell (p := ⟨w.heap.size + 1, i0, none⟩) (Nat.le_refl _) _
  have hz2 : w.heap.size + 1 < (w1.setCell ⟨w.heap.size + 1, i0, none⟩ (.bool true)).heap.size := by
    have := lt_of_cell hbx
    simpa [World.setCell] using this
  have HR2 := Lib.hid ((hB2.block w.heap.size (by omega)).trans HR.out)
  have hBw2 : Below w.heap.size w (w1.setCell ⟨w.heap.size + 1, i0, none⟩ (.bool true)) := hb0.trans (hB2.mono (by omega))
  have HRR := Lib.hid hR2
  clear hbx hbf hg1 HM hB2 HR HZ0 hb0 c1 hR2
  generalize (w1.setCell ⟨w.heap.size + 1, i0, none⟩ (.bool true)) = W2 at *
  go_loopw [6] (fun u wr => ∃ m : Nat, m ≤ i0 + 1 ∧ UpV m u ∧ Hid (BoolsR wr (w.heap.size + 1) cs.length (Rm (fun i => sp.getD i []) i0 m)) ∧ Below (w.heap.size + 1) W2 wr) (fun u _ => (intOf u + 1).toNat)
  case atStart => exact ⟨i0 + 1, Nat.le_refl _, .inl ⟨i0, rfl, rfl⟩, HRR, Below.refl _ _⟩
  case round =>
    obtain ⟨m, hm, hu, hf, hB⟩ := hrel
    have hz := hB.size
    have hBw : Below w.heap.size w wr := hBw2.trans (hB.mono (by omega))
    have hrow := Lib.hid ((hB.block w.heap.size (by omega)).trans HR2.out)
    rcases hu with ⟨k, rfl, rfl⟩ | ⟨rfl, rfl⟩
    · obtain ⟨f, hba, hfr⟩ := hf.out
      obtain ⟨hbx, hbf⟩ := hba k (by omega)
      have hown := (hfr k (by omega)).trans (Rm.own hlt'.out i0 k)
      have HF := Lib.hid hfr
      have HBA := Lib.hid hba
      clear hfr hba
      by_cases hfk : f k = true
      · have hre := Lib.hid (hown.1 hfk)
        rw [hfk] at hbx
        clear hown hfk
        obtain ⟨_, ca', cap', hee, hsx⟩ := HC.out
        injection hee with hee _ hee2
        subst hee hee2
        obtain ⟨b, off, rfl, hb, hcl⟩ := hsx (by omega)
        obtain ⟨_, _, sa, scap, g1, hss⟩ := hcl k (by omega)
        obtain ⟨u1, u2, u3⟩ := HSU.out k (by omega)
        generalize (cs.getD k ([], [])).2 = sups at *
        have HSS := Lib.hid hss
        have HU1 := Lib.hid u1
        have HU2 := Lib.hid u2
        clear hcl hsx u1 u2 hss
        obtain ⟨c0, c1, c2, c3, c4, c5, c6⟩ := cells7' hrow.out
        have G1 := Lib.hid g1
        have g2 := (hBw.cell (p := ⟨b, off + k * 2 + 1, none⟩) hb).trans g1
        have hI0 : Hid (BoolsR wr (w.heap.size + 1) cs.length (fun j => Rm (fun i => sp.getD i []) i0 (k + 1) j ∨ j ∈ (sp.getD k []).take 0)) := hf.out.congr (fun j => by simp)
        have HEND := Lib.hid (fun j => Rm.yes hlt'.out hre.out j)
        have hltk : ∀ x, x ∈ sups → ixOf (cs.map Prod.fst) x < k := fun x hx => hlt'.out k _ (by rw [HU1.out]; exact List.mem_map_of_mem hx)
        have HLT := Lib.hid hltk
        clear hltk
        go_wp2_with fail
        clear c0 c1 c2 c3 c4 c5 c6 hbx hbf hf HF HBA g1 g2
        obtain ⟨wo, rfl⟩ : ∃ wo : World, wo = wr := ⟨_, rfl⟩
        go_loopw [7] (fun u wr => ∃ q : Nat, q ≤ sups.length ∧ u = .int .i64 q ∧ Hid (BoolsR wr (w.heap.size + 1) cs.length (fun j => Rm (fun i => sp.getD i []) i0 (k + 1) j ∨ j ∈ (sp.getD k []).take q)) ∧ Below (w.heap.size + 1) W2 wr ∧ wo.heap.size ≤ wr.heap.size) (fun u _ => sups.length - (intOf u).toNat)
        case atStart => exact ⟨0, by omega, rfl, hI0, hB, Nat.le_refl _⟩
        case round =>
          obtain ⟨q, hq, rfl, hI, hB3, hz3⟩ := hrel
          clear hI0
          have r3 := Lib.hid ((hB3.block w.heap.size (by omega)).trans HR2.out)
          obtain ⟨c0, c1, c2, c3, c4, c5, c6⟩ := cells7' r3.out
          have hBw3 : Below w.heap.size w wr := hBw2.trans (hB3.mono (by omega))
          have g1 := (hBw3.cell (p := ⟨b, off + k * 2 + 1, none⟩) hb).trans G1.out
          by_cases hltq : q < sups.length
          · obtain ⟨b2, off2, x, rfl, hb2x, hck, hwk, hx⟩ := HSS.out.at hltq
            have hckr := (hBw3.cell (p := ⟨b2, off2 + q, none⟩) hb2x).trans hck
            have hckd := Lib.hid hckr
            have g1d := Lib.hid g1
            have hxm : x ∈ sups := by rw [hx]; exact getD_mem sups [] q hltq
            have hin := Lib.hid (HU2.out x hxm)
            have hixk := HLT.out x hxm
            have HTK : Hid ((sp.getD k []).take (q + 1) = (sp.getD k []).take q ++ [ixOf (cs.map Prod.fst) x]) := by
              unfold Hid
              rw [HU1.out, ← List.map_take, ← List.map_take, take_snocD sups [] q hltq, List.map_append, hx]; rfl
            clear hx hck hxm
            have CL := Lib.hid (class_in n _ t2 t3 t4 t5 t6 x cs wr.drew (HC.out.below hBw3.drew (Nat.le_refl _)) hin.out)
            generalize ixOf (cs.map Prod.fst) x = m at *
            have f1 : decide (0 ≤ (m : Int)) = true := by simp
            have hkn : k < cs.length := by omega
            have f2 : decide (m < k) = true := by simpa using hixk
            go_wp2_with fail
            go_region_held3 (fun w' => w'.cell? ⟨w.heap.size, 0, none⟩ = some n ∧ w'.cell? ⟨w.heap.size, 1, none⟩ = some (.slice (some ⟨b, off, none⟩) cs.length ccap) ∧ w'.cell? ⟨w.heap.size, 2, none⟩ = some t2 ∧ w'.cell? ⟨w.heap.size, 3, none⟩ = some t3 ∧ w'.cell? ⟨w.heap.size, 4, none⟩ = some t4 ∧ w'.cell? ⟨w.heap.size, 5, none⟩ = some t5 ∧ w'.cell? ⟨w.heap.size, 6, none⟩ = some t6 ∧ w'.cell? ⟨b, off + k * 2 + 1, none⟩ = some (.slice (some ⟨b2, off2, none⟩) sups.length scap) ∧ w'.cell? ⟨b2, off2 + q, none⟩ = some (.string (bs x)))
              (first | exact cells7and r3.out ⟨g1d.out, hckd.out⟩ | exact cells7and r4.out ⟨g4.out, k4.out⟩)
              ((go_at_call 35; refine CL.out.mono ?_; rintro e w4 ⟨rfl, hb4⟩; have hb4 : Below wr.heap.size wr w4 := ((Below.refl _ wr).drew).trans hb4; have r4 := Lib.hid ((hb4.block w.heap.size (by omega)).trans r3.out); have g4 := Lib.hid ((hb4.cell (p := ⟨b, off + k * 2 + 1, none⟩) (by simp; omega)).trans g1d.out); have k4 := Lib.hid ((hb4.cell (p := ⟨b2, off2 + q, none⟩) (by simp; omega)).trans hckd.out)))
            clear c0 c1 c2 c3 c4 c5 c6 g1 hckr
            have hz4 := hb4.size
            have hI4 := Lib.hid (hI.out.below hb4 (by omega))
            obtain ⟨f4, hba4, hfr4⟩ := hI4.out
            obtain ⟨hbx, hbf⟩ := hba4 m (by omega)
            clear hba4 hfr4
            go_wp2_with fail
            go_roundw
            case rel =>
              refine ⟨q + 1, by omega, by go_num, ?_, (hB3.trans (hb4.mono (by omega))).setCell (p := ⟨w.heap.size + 1, m, none⟩) (Nat.le_refl _) _, by simp [World.setCell]; omega⟩
              refine (hI4.out.set m).congr fun j => ?_
              rw [HTK.out, List.mem_append, List.mem_singleton, or_assoc]
            case measure => simp [intOf]; omega
          · have hqq : q = sups.length := by omega
            have hFin : Hid (BoolsR wr (w.heap.size + 1) cs.length (Rm (fun i => sp.getD i []) i0 k)) := by
              refine hI.out.congr fun j => ?_
              rw [HEND.out j, List.take_of_length_le (by rw [HU1.out, List.length_map]; omega)]
            clear hI
            go_wp2_with fail
            go_roundw
            case rel => exact ⟨k, by omega, UpV.pred k, hFin, hB3⟩
            case measure => simp [intOf]
      · have hfk' : f k = false := by simpa using hfk
        have hre := Lib.hid (fun h => hfk (hown.2 h))
        rw [hfk'] at hbx
        clear hown hfk hfk'
        go_wp2_with fail
        go_roundw
        case rel => exact ⟨k, by omega, UpV.pred k, hf.out.congr (fun j => (Rm.no hre.out j).symm), hB⟩
        case measure => simp [intOf]
    · go_wp2_with fail
      go_ret
      obtain ⟨f, hba, hfr⟩ := hf.out
      exact ⟨w.heap.size + 1, f, rfl, by omega, by omega, hba, fun j hj => (hfr j hj).trans (Rm.all hlt'.out i0 j), hBw⟩
end Go.Proofs.Ytehnikgdjnmfcaa
