/- The reference: IsName, Class, known. -/
import Derived.Test.YtehnikgdjnmfcaaO
import Derived.Deep.RegionHeld3
namespace Go.Proofs.Ytehnikgdjnmfcaa
open Go.RowKit Go.WideMaps Go.Shelf

/-- the index of a name among names, -1 for none -/
def clsI (ns : List Nm) (s : Nm) : Int := if inNs ns s = true then ((ixOf ns s : Nat) : Int) else -1

theorem clsI_in {ns : List Nm} {s : Nm} (h : inNs ns s = true) : clsI ns s = ((ixOf ns s : Nat) : Int) := by unfold clsI; rw [if_pos h]
theorem clsI_out {ns : List Nm} {s : Nm} (h : inNs ns s = false) : clsI ns s = -1 := by unfold clsI; rw [if_neg (by rw [h]; decide)]

theorem inNs_snoc (ns : List Nm) (x s : Nm) : inNs (ns ++ [x]) s = (inNs ns s || decide (s = x)) := by
  unfold inNs
  rw [Bool.eq_iff_iff]; simp

theorem take_names (cs : List (Nm × List Nm)) (k : Nat) (hk : k < cs.length) : (cs.take (k + 1)).map Prod.fst = (cs.take k).map Prod.fst ++ [(cs.getD k ([], [])).1] := by
  rw [take_snocD cs ([], []) k hk, List.map_append]; rfl

theorem ix_first {cs : List (Nm × List Nm)} {k : Nat} {s : Nm} (hk : k < cs.length) (hn : inNs ((cs.take k).map Prod.fst) s = false) (he : (cs.getD k ([], [])).1 = s) :
    inNs (cs.map Prod.fst) s = true ∧ ixOf (cs.map Prod.fst) s = k := by
  have e : cs.map Prod.fst = (cs.take k).map Prod.fst ++ s :: (cs.drop (k + 1)).map Prod.fst := by
    conv => lhs; rw [← List.take_append_drop k cs, List.drop_eq_getElem_cons hk]
    rw [List.map_append, List.map_cons]
    have : cs[k].1 = s := by rw [← he, List.getD_eq_getElem?_getD, List.getElem?_eq_getElem hk]; rfl
    rw [this]
  have hn' : s ∉ (cs.take k).map Prod.fst := of_decide_eq_false hn
  have hm : s ∈ cs.map Prod.fst := by rw [e]; simp
  refine ⟨decide_eq_true hm, ?_⟩
  unfold ixOf
  rw [if_pos hm, e, List.idxOf_append, if_neg hn']
  simp; omega

theorem ix_take {cs : List (Nm × List Nm)} {k : Nat} {s : Nm} (h : inNs ((cs.take k).map Prod.fst) s = true) :
    inNs (cs.map Prod.fst) s = true ∧ ixOf (cs.map Prod.fst) s = ixOf ((cs.take k).map Prod.fst) s := by
  have h' : s ∈ (cs.take k).map Prod.fst := of_decide_eq_true h
  have e : cs.map Prod.fst = (cs.take k).map Prod.fst ++ (cs.drop k).map Prod.fst := by
    rw [← List.map_append, List.take_append_drop]
  have hm : s ∈ cs.map Prod.fst := by rw [e]; simp only [List.mem_append]; exact .inl h'
  refine ⟨decide_eq_true hm, ?_⟩
  unfold ixOf
  rw [if_pos hm, if_pos h', e, List.idxOf_append, if_pos h']

theorem ix_lt_take {cs : List (Nm × List Nm)} {k : Nat} {s : Nm} (h : inNs (cs.map Prod.fst) s = true) (hl : ixOf (cs.map Prod.fst) s < k) : inNs ((cs.take k).map Prod.fst) s = true := by
  have h' : s ∈ cs.map Prod.fst := of_decide_eq_true h
  unfold ixOf at hl
  rw [if_pos h'] at hl
  refine decide_eq_true ?_
  have hlen : (cs.map Prod.fst).idxOf s < (cs.map Prod.fst).length := List.idxOf_lt_length_of_mem h'
  have e := List.getElem_idxOf hlen
  rw [List.map_take, ← e]
  exact List.mem_take_iff_getElem.2 ⟨_, by omega, rfl⟩

theorem bs_eq (x y : Nm) : ((bs x).toList == (bs y).toList) = decide (x = y) := by
  rw [ByteArray.toList_eq, ByteArray.toList_eq]
  rw [Bool.eq_iff_iff]
  simp only [beq_iff_eq, decide_eq_true_eq]
  exact Iff.rfl

set_option maxHeartbeats 4000000 in
theorem class_any (n c t2 t3 t4 t5 t6 : Value) (s : Nm) (cs : List (Nm × List Nm)) (w : World) (hc : SlC w c cs) :
    Calls Try.prog 35 #[.agg #[n, c, t2, t3, t4, t5, t6], .string (bs s)] w fun e w' => e = .returned (.int .i64 (clsI (cs.map Prod.fst) s)) ∧ Below w.heap.size w w' := by
  have hb0 := below_alloc w (Obj.cells #[n, c, t2, t3, t4, t5, t6] 29)
  have HC := Lib.hid (hc.below hb0 (Nat.le_refl _))
  obtain ⟨hl, ca, ccap, rfl, _⟩ := hc
  unfold maxLen at hl
  have H0 : Hid (inNs ((cs.take 0).map Prod.fst) s = false) := by unfold Hid; simp [inNs]
  have HB := Lib.hid hb0
  clear hb0
  go_enter Try.func35, Try.ntmps35
  go_wp2_with fail
  go_loop [5] (fun i => ∃ k : Nat, k ≤ cs.length ∧ i = .int .i64 k ∧ Hid (inNs ((cs.take k).map Prod.fst) s = false)) (fun i => cs.length - (intOf i).toNat)
  case atStart => exact ⟨0, by omega, rfl, H0⟩
  case round =>
    obtain ⟨k, hk, rfl, hI⟩ := hrel
    by_cases hlt : k < cs.length
    · obtain ⟨_, ca', cap', hee, hsx⟩ := HC.out
      injection hee with hee _ hee2
      subst hee hee2
      obtain ⟨b, off, rfl, hb, hcl⟩ := hsx (by omega)
      obtain ⟨g0, _⟩ := hcl k hlt
      have htk := Lib.hid (take_names cs k hlt)
      have hfx := Lib.hid (fun he => ix_first (s := s) hlt hI.out he)
      clear hcl hsx H0
      generalize hx : (cs.getD k ([], [])).1 = x at *
      clear hx
      by_cases he : x = s
      · have hq : ((bs x).toList == (bs s).toList) = true := by rw [bs_eq]; exact decide_eq_true he
        obtain ⟨h1, h2⟩ := hfx.out he
        have HR : Hid (clsI (cs.map Prod.fst) s = ((k : Nat) : Int)) := by unfold Hid; rw [clsI_in h1, h2]
        clear h1 h2 he hfx htk hI
        go_wp2_with fail
        go_ret
        exact ⟨by rw [HR.out]; rfl, HB.out⟩
      · have hq : ((bs x).toList == (bs s).toList) = false := by rw [bs_eq]; exact decide_eq_false he
        have hst : Hid (inNs ((cs.take (k + 1)).map Prod.fst) s = false) := by
          unfold Hid; rw [htk.out, inNs_snoc, hI.out, decide_eq_false (fun e => he e.symm)]; rfl
        clear he hfx htk hI
        go_wp2_with fail
        go_round
        case rel => exact ⟨k + 1, by omega, by go_num, hst⟩
        case measure => simp [intOf]; omega
    · have HR : Hid (clsI (cs.map Prod.fst) s = -1) := by
        unfold Hid
        refine clsI_out ?_
        have := hI.out
        rw [List.take_of_length_le (by omega)] at this; exact this
      clear hI H0
      go_wp2_with fail
      go_ret
      exact ⟨by rw [HR.out]; rfl, HB.out⟩

theorem class_in (n c t2 t3 t4 t5 t6 : Value) (s : Nm) (cs : List (Nm × List Nm)) (w : World) (hc : SlC w c cs) (h : inNs (cs.map Prod.fst) s = true) :
    Calls Try.prog 35 #[.agg #[n, c, t2, t3, t4, t5, t6], .string (bs s)] w fun e w' => e = .returned (.int .i64 ((ixOf (cs.map Prod.fst) s : Nat) : Int)) ∧ Below w.heap.size w w' := by
  rw [← clsI_in h]; exact class_any n c t2 t3 t4 t5 t6 s cs w hc
theorem class_out (n c t2 t3 t4 t5 t6 : Value) (s : Nm) (cs : List (Nm × List Nm)) (w : World) (hc : SlC w c cs) (h : inNs (cs.map Prod.fst) s = false) :
    Calls Try.prog 35 #[.agg #[n, c, t2, t3, t4, t5, t6], .string (bs s)] w fun e w' => e = .returned (.int .i64 (-1)) ∧ Below w.heap.size w w' := by
  rw [← clsI_out h]; exact class_any n c t2 t3 t4 t5 t6 s cs w hc

theorem cells7' {w : World} {k : Nat} {a0 a1 a2 a3 a4 a5 a6 : Value} {t : TypeId} {fr : Nat × Nat} (h : w.heap[k]? = some (.cells #[a0, a1, a2, a3, a4, a5, a6] t fr)) :
    w.cell? ⟨k, 0, none⟩ = some a0 ∧ w.cell? ⟨k, 1, none⟩ = some a1 ∧ w.cell? ⟨k, 2, none⟩ = some a2 ∧ w.cell? ⟨k, 3, none⟩ = some a3 ∧ w.cell? ⟨k, 4, none⟩ = some a4 ∧ w.cell? ⟨k, 5, none⟩ = some a5 ∧ w.cell? ⟨k, 6, none⟩ = some a6 :=
  ⟨by rw [cell_of_row w _ 0 _ _ _ h]; rfl, by rw [cell_of_row w _ 1 _ _ _ h]; rfl, by rw [cell_of_row w _ 2 _ _ _ h]; rfl, by rw [cell_of_row w _ 3 _ _ _ h]; rfl, by rw [cell_of_row w _ 4 _ _ _ h]; rfl, by rw [cell_of_row w _ 5 _ _ _ h]; rfl, by rw [cell_of_row w _ 6 _ _ _ h]; rfl⟩

theorem cells7and {w : World} {k : Nat} {a0 a1 a2 a3 a4 a5 a6 : Value} {t : TypeId} {fr : Nat × Nat} {p : Prop} (h : w.heap[k]? = some (.cells #[a0, a1, a2, a3, a4, a5, a6] t fr)) (hp : p) :
    w.cell? ⟨k, 0, none⟩ = some a0 ∧ w.cell? ⟨k, 1, none⟩ = some a1 ∧ w.cell? ⟨k, 2, none⟩ = some a2 ∧ w.cell? ⟨k, 3, none⟩ = some a3 ∧ w.cell? ⟨k, 4, none⟩ = some a4 ∧ w.cell? ⟨k, 5, none⟩ = some a5 ∧ w.cell? ⟨k, 6, none⟩ = some a6 ∧ p := by
  obtain ⟨h0, h1, h2, h3, h4, h5, h6⟩ := cells7' h
  exact ⟨h0, h1, h2, h3, h4, h5, h6, hp⟩

set_option maxRecDepth 100000 in
set_option maxHeartbeats 4000000 in
theorem rknown_any (n c t2 t3 t4 t5 t6 v : Value) (ss : List Nm) (cs : List (Nm × List Nm)) (w : World) (hc : SlC w c cs) (hs : SlS w v ss) :
    Calls Try.prog 39 #[.agg #[n, c, t2, t3, t4, t5, t6], v] w fun e w' => e = .returned (.bool (ss.all (inNs (cs.map Prod.fst)))) ∧ Below w.heap.size w w' := by
  have hb0 := below_alloc w (Obj.cells #[n, c, t2, t3, t4, t5, t6] 29)
  have HC := Lib.hid (hc.below hb0 (Nat.le_refl _))
  have HS := Lib.hid (hs.below hb0 (Nat.le_refl _))
  have HR := Lib.hid (heap_alloc_new w (Obj.cells #[n, c, t2, t3, t4, t5, t6] 29))
  have hz0 : w.heap.size < (w.alloc (Obj.cells #[n, c, t2, t3, t4, t5, t6] 29)).heap.size := by simp
  obtain ⟨hl, ca, ccap, rfl, _⟩ := hc
  obtain ⟨hls, sa, scap, rfl, _⟩ := hs
  unfold maxLen at hls
  have H0 : Hid (ss.all (inNs (cs.map Prod.fst)) = (ss.drop 0).all (inNs (cs.map Prod.fst))) := rfl
  go_enter Try.func39, Try.ntmps39
  go_wp2_with fail
  generalize (w.alloc (Obj.cells #[n, .slice ca cs.length ccap, t2, t3, t4, t5, t6] 29)) = W0 at *
  go_loopw [5] (fun i wr => ∃ k : Nat, k ≤ ss.length ∧ i = .int .i64 k ∧ Hid (ss.all (inNs (cs.map Prod.fst)) = (ss.drop k).all (inNs (cs.map Prod.fst))) ∧ Below W0.heap.size W0 wr) (fun i _ => ss.length - (intOf i).toNat)
  case atStart => exact ⟨0, by omega, rfl, H0, Below.refl _ _⟩
  case round =>
    obtain ⟨k, hk, rfl, hI, hB⟩ := hrel
    have hz := hB.size
    have hBw : Below w.heap.size w wr := hb0.trans (hB.mono (by omega))
    by_cases hlt : k < ss.length
    · obtain ⟨b, off, x, rfl, hb, hck, hwk, hx⟩ := (HS.out.below hB (Nat.le_refl _)).at hlt
      have hrow := Lib.hid ((hB.block w.heap.size hz0).trans HR.out)
      have hckd := Lib.hid hck
      obtain ⟨c0, c1, c2, c3, c4, c5, c6⟩ := cells7' hrow.out
      have hstep : Hid (ss.all (inNs (cs.map Prod.fst)) = (inNs (cs.map Prod.fst) x && (ss.drop (k + 1)).all (inNs (cs.map Prod.fst)))) := by
        unfold Hid; rw [hI.out, all_drop_getD _ [] _ _ hlt, hx]
      clear hx H0 hI
      have HCr := Lib.hid (HC.out.below hB.drew (Nat.le_refl _))
      by_cases hin : inNs (cs.map Prod.fst) x = true
      · have hst2 : Hid (ss.all (inNs (cs.map Prod.fst)) = (ss.drop (k + 1)).all (inNs (cs.map Prod.fst))) := by
          unfold Hid; rw [hstep.out, hin]; simp
        have HIN := Lib.hid hin
        clear hstep hin
        go_wp2_with fail
        go_region_held3 (fun w' => w'.cell? ⟨w.heap.size, 0, none⟩ = some n ∧ w'.cell? ⟨w.heap.size, 1, none⟩ = some (.slice ca cs.length ccap) ∧ w'.cell? ⟨w.heap.size, 2, none⟩ = some t2 ∧ w'.cell? ⟨w.heap.size, 3, none⟩ = some t3 ∧ w'.cell? ⟨w.heap.size, 4, none⟩ = some t4 ∧ w'.cell? ⟨w.heap.size, 5, none⟩ = some t5 ∧ w'.cell? ⟨w.heap.size, 6, none⟩ = some t6 ∧ w'.cell? ⟨b, off + k, none⟩ = some (.string (bs x)))
          (first | exact cells7and hrow.out hckd.out | exact cells7and r4.out k4.out)
          ((go_at_call 35; refine (class_in n _ t2 t3 t4 t5 t6 x cs _ HCr.out HIN.out).mono ?_; rintro e w4 ⟨rfl, hb4⟩; have hb4 : Below wr.heap.size wr w4 := ((Below.refl _ wr).drew).trans hb4; have r4 := Lib.hid ((hb4.block w.heap.size (by omega)).trans hrow.out); have k4 := Lib.hid ((hb4.cell (p := ⟨b, off + k, none⟩) hb).trans hckd.out)))
        clear c0 c1 c2 c3 c4 c5 c6
        go_wp2_with fail
        go_roundw
        case rel => exact ⟨k + 1, by omega, by go_num, hst2, hB.trans (hb4.mono (by omega))⟩
        case measure => simp [intOf]; omega
      · have hin' : inNs (cs.map Prod.fst) x = false := by simpa using hin
        have hst2 : Hid (ss.all (inNs (cs.map Prod.fst)) = false) := by
          unfold Hid; rw [hstep.out, hin']; simp
        have HIN := Lib.hid hin'
        clear hstep hin hin'
        go_wp2_with fail
        go_region_held3 (fun w' => w'.cell? ⟨w.heap.size, 0, none⟩ = some n ∧ w'.cell? ⟨w.heap.size, 1, none⟩ = some (.slice ca cs.length ccap) ∧ w'.cell? ⟨w.heap.size, 2, none⟩ = some t2 ∧ w'.cell? ⟨w.heap.size, 3, none⟩ = some t3 ∧ w'.cell? ⟨w.heap.size, 4, none⟩ = some t4 ∧ w'.cell? ⟨w.heap.size, 5, none⟩ = some t5 ∧ w'.cell? ⟨w.heap.size, 6, none⟩ = some t6 ∧ w'.cell? ⟨b, off + k, none⟩ = some (.string (bs x)))
          (first | exact cells7and hrow.out hckd.out | exact cells7and r4.out k4.out)
          ((go_at_call 35; refine (class_out n _ t2 t3 t4 t5 t6 x cs _ HCr.out HIN.out).mono ?_; rintro e w4 ⟨rfl, hb4⟩; have hb4 : Below wr.heap.size wr w4 := ((Below.refl _ wr).drew).trans hb4; have r4 := Lib.hid ((hb4.block w.heap.size (by omega)).trans hrow.out); have k4 := Lib.hid ((hb4.cell (p := ⟨b, off + k, none⟩) hb).trans hckd.out)))
        go_wp2_with fail
        go_ret
        exact ⟨ret_bool hst2.out.symm, hBw.trans (hb4.mono (by omega))⟩
    · have hst2 : Hid (ss.all (inNs (cs.map Prod.fst)) = true) := by
        unfold Hid; rw [hI.out, List.drop_eq_nil_of_le (by omega)]; rfl
      clear hI H0
      go_wp2_with fail
      go_ret
      exact ⟨ret_bool hst2.out.symm, hBw⟩

end Go.Proofs.Ytehnikgdjnmfcaa
