/- least, the walk. -/
import Derived.Test.YtehnikgdjnmfcaaQ
namespace Go.Proofs.Ytehnikgdjnmfcaa
open Go.RowKit Go.WideMaps Go.Shelf Go.Sort Go.Lib

/-- the classes that are there once, ascending -/
def onceB (ss : List Nm) : List Nm := Lib.compact (sortB ss)

/-- the least classes -/
def leastB (ns : List Nm) (abv : Nat → List Nat) (ss : List Nm) : List Nm := (onceB ss).filter fun c => !(onceB ss).any (dropB ns abv c)

theorem onceB_sub (ss : List Nm) : ∀ x ∈ onceB ss, x ∈ ss := fun x hx => (sortB_perm ss).mem_iff.1 (compact_sub _ x hx)

theorem onceB_len (ss : List Nm) : (onceB ss).length ≤ ss.length := by
  have := compact_len (sortB ss)
  rw [(sortB_perm ss).length_eq] at this
  exact this

theorem Try.info9 : (Try.prog.info? 9).map (fun i => (i.zero, i.size, i.bytes)) = some (some (.string ByteArray.empty), 1, 16) := by kernel_rfl

theorem slO_of_own {w : World} {B : Nat} {v : Value} {ss : List Nm} (h : w.ownsRow B 9 1 v ss.length (ss.map encStr)) (h1 : ss.length * 16 ≤ 140737488355328) (h2 : ∀ s ∈ ss, s.length ≤ maxLen) : SlO w B v ss := by
  refine ⟨h1, h2, ?_⟩
  rcases h.2 with ⟨e1, e2⟩ | ⟨g, cap', cur, e1, hg1, hh, hc1, hc2, hc3⟩
  · rw [e1]; exact ⟨none, 0, by rw [e2], fun hn => by omega⟩
  · subst e1
    refine ⟨_, cap', rfl, fun hn => ⟨g, rfl, hg1, (Array.getElem?_eq_some_iff.1 hh).1, by omega, holds_iff.2 fun j hj => ⟨?_, h.frozenAt j⟩⟩⟩
    rw [h.cellAt j (by omega), List.getElem?_map, List.getElem?_eq_getElem hj, List.getD_eq_getElem?_getD, List.getElem?_eq_getElem hj]; rfl

theorem filter_snoc (p : Nm → Bool) (l : List Nm) (k : Nat) (hk : k < l.length) : (l.take (k + 1)).filter p = (l.take k).filter p ++ (if p (l.getD k []) = true then [l.getD k []] else []) := by
  rw [take_snocD l [] k hk, List.filter_append, List.filter_cons]
  simp

set_option maxRecDepth 100000 in
set_option maxHeartbeats 4000000 in
theorem least_any (g v : Value) (ss ns : List Nm) (abv : Nat → List Nat) (w : World) (hg : SigAt w g ns abv) (hs : SlS w v ss) (hbig : ss.length * 16 ≤ 140737488355328) (hks : ss.all (inNs ns) = true) :
    Calls Try.prog 63 #[g, v] w fun e w' => ∃ v', e = .returned v' ∧ SlO w' w.heap.size v' (leastB ns abv ss) ∧ Below w.heap.size w w' := by
  have HG := Lib.hid hg
  have HS := Lib.hid hs
  obtain ⟨_, bm, c1, ga, capa, c3, c4, c5, rfl, _, _⟩ := hg
  obtain ⟨_, sa, scap, rfl, _⟩ := hs
  have HKS : Hid ((onceB ss).all (inNs ns) = true) := List.all_eq_true.2 fun x hx => List.all_eq_true.1 hks x (onceB_sub ss x hx)
  clear hks
  go_enter Try.func63, Try.ntmps63
  go_wp2_with fail
  have hb0 := below_alloc w (Obj.cells #[.map (some bm), c1, .slice ga ns.length capa, c3, c4, c5] 66)
  refine (clone_any _ ss _ (HS.out.below hb0 (Nat.le_refl _)) hbig).mono ?_
  rintro e w1 ⟨v1, rfl, ho1, hb1⟩
  have HO1 := Lib.hid ho1
  obtain ⟨_, _, a1, k1, rfl, _⟩ := ho1
  have hz1 := hb1.size
  simp at hz1
  go_wp2_with fail
  refine (sort_any _ _ ss _ HO1.out).mono ?_
  rintro e w2 ⟨rfl, ho2, hb2⟩
  have HO2 := Lib.hid ho2
  have hz2 := hb2.size
  clear HO1 ho2
  go_wp2_with fail
  refine (compact_any _ _ (sortB ss) _ HO2.out).mono ?_
  rintro e w3 ⟨v3, rfl, ho3, hb3⟩
  have HO3 : Hid (SlO w3 (w.heap.size + 1) v3 (onceB ss)) := by have := ho3; simp at this; exact this
  have hB3 : Below w.heap.size w w3 := (hb0.trans (hb1.mono (by simp))).trans ((hb2.mono (by simp)).trans (hb3.mono (by simp)))
  obtain ⟨_, _, a3, k3, rfl, _⟩ := HO3.out
  have hz3 := hb3.size
  obtain ⟨i0, hi, hq0, hq1, hq2⟩ := info_parts Try.info9
  have hbox : w3.heap[w.heap.size]? = some (.cells #[.map (some bm), c1, .slice ga ns.length capa, c3, c4, c5] 66 (0, 0)) :=
    (hb3.block _ (by simp)).trans ((hb2.block _ (by simp)).trans ((hb1.block _ (by simp)).trans (heap_alloc_new w _)))
  have HBX := Lib.hid hbox
  have HG3 := Lib.hid (HG.out.below hB3 (Nat.le_refl _))
  have HLEN : Hid ((onceB ss).length ≤ ss.length) := onceB_len ss
  have HSL := Lib.hid HO3.out.sl
  have hwl : ∀ s ∈ onceB ss, s.length ≤ maxLen := HO3.out.2.1
  have HEQ : Hid (leastB ns abv ss = (onceB ss).filter fun c => !(onceB ss).any (dropB ns abv c)) := rfl
  clear hbox hb0 hb1 hb2 HO2 HG HS ho3 hb3
  generalize onceB ss = L at *
  generalize hp : (fun c => !L.any (dropB ns abv c)) = p at *
  have HP := Lib.hid hp
  have HWL := Lib.hid hwl
  clear hp hwl
  go_wp2_with fail
  go_loopw [6, 17] (fun v i wr => ∃ k : Nat, k ≤ L.length ∧ i = .int .i64 k ∧ wr.ownsRow w3.heap.size 9 1 v ((L.take k).filter p).length (((L.take k).filter p).map encStr) ∧ Below w3.heap.size w3 wr) (fun _ i _ => L.length - (intOf i).toNat)
  case atStart => exact ⟨0, by omega, rfl, World.ownsRow_nil _ _ _ _, Below.refl _ _⟩
  case round =>
    obtain ⟨k, hk, rfl, hown, hB⟩ := hrel
    have hz := hB.size
    by_cases hlt : k < L.length
    · obtain ⟨b, off, x, rfl, hb, hck, hwk, hx⟩ := (HSL.out.below hB (Nat.le_refl _)).at hlt
      have hin : inNs ns x = true := by rw [hx]; exact List.all_eq_true.1 HKS.out _ (getD_mem L [] k hlt)
      have HF := Lib.hid (filter_snoc p L k hlt)
      rw [← hx] at HF
      have hpx : p x = !L.any (dropB ns abv x) := by rw [← HP.out]
      have HBW : wr.heap[w.heap.size]? = some (.cells #[.map (some bm), c1, .slice ga ns.length capa, c3, c4, c5] 66 (0, 0)) := (hB.block _ (by omega)).trans HBX.out
      have p0 : wr.cell? ⟨w.heap.size, 0, none⟩ = some (.map (some bm)) := by rw [cell_of_row wr _ 0 _ _ _ HBW]; rfl
      have p1 : wr.cell? ⟨w.heap.size, 1, none⟩ = some c1 := by rw [cell_of_row wr _ 1 _ _ _ HBW]; rfl
      have p2 : wr.cell? ⟨w.heap.size, 2, none⟩ = some (.slice ga ns.length capa) := by rw [cell_of_row wr _ 2 _ _ _ HBW]; rfl
      have p3 : wr.cell? ⟨w.heap.size, 3, none⟩ = some c3 := by rw [cell_of_row wr _ 3 _ _ _ HBW]; rfl
      have p4 : wr.cell? ⟨w.heap.size, 4, none⟩ = some c4 := by rw [cell_of_row wr _ 4 _ _ _ HBW]; rfl
      have p5 : wr.cell? ⟨w.heap.size, 5, none⟩ = some c5 := by rw [cell_of_row wr _ 5 _ _ _ HBW]; rfl
      have hfl : ((L.take k).filter p).length ≤ k := by
        have := List.length_filter_le p (L.take k)
        rw [List.length_take] at this; omega
      have C := Lib.hid (hasBelow_any _ _ x L ns abv wr (HG3.out.below hB (Nat.le_refl _)) (HSL.out.below hB (Nat.le_refl _)) HKS.out hin hwk)
      clear hx HBW hin
      by_cases hpp : L.any (dropB ns abv x) = true
      · rw [hpp] at C hpx
        have HF2 : Hid ((L.take (k + 1)).filter p = (L.take k).filter p) := by unfold Hid; rw [HF.out, if_neg (by rw [hpx]; decide), List.append_nil]
        clear HF hpx hpp
        go_wp2_with (first | (go_at_call 78; refine C.out.mono ?_; rintro e w4 ⟨rfl, hb4⟩) | fail)
        go_roundw
        case rel =>
          refine ⟨k + 1, by omega, by go_num, ?_, hB.trans (hb4.mono (by omega))⟩
          rw [HF2.out]; exact ownsRow_below hown hb4 (Nat.le_refl _)
        case measure => simp [intOf]; omega
      · have hpp' : L.any (dropB ns abv x) = false := by simpa using hpp
        rw [hpp'] at C hpx
        have HF2 : Hid ((L.take (k + 1)).filter p = (L.take k).filter p ++ [x]) := by unfold Hid; rw [HF.out, if_pos (by rw [hpx]; decide)]
        clear HF hpx hpp hpp'
        go_wp2_with (first | (go_at_call 78; refine C.out.mono ?_; rintro e w4 ⟨rfl, hb4⟩; have hown4 := ownsRow_below hown hb4 (Nat.le_refl _); have hz4 := hb4.size) | (at_builtin; refine wpList_append_own _ rfl _ _ 27 rfl w3.heap.size 9 i0 (.string ByteArray.empty) 1 16 Try.underlying27 hi hq0 hq1 hq2 rfl (by decide) _ _ _ rfl (hown4.alloc _) ⟨w4.heap.size, 0, none⟩ 1 1 [.string (bs x)] rfl rfl (cell_one_new _ _ _) (by simp [Value.oneCell']) (by unfold maxLen; omega) (by omega) (by simp; omega) ?_; intro v' w5 hown5 hgrow5 _))
        have HOWN : Hid (w5.ownsRow w3.heap.size 9 1 v' ((L.take (k + 1)).filter p).length (((L.take (k + 1)).filter p).map encStr)) := by
          unfold Hid
          rw [HF2.out, List.length_append, List.map_append]; exact hown5
        have HBEL : RowKit.Below w3.heap.size w3 w5 := ((hB.trans (hb4.mono (by omega))).alloc (by omega) _).grown hgrow5 (by simp; omega) (fun r er => ownBlock_ge hown4 er)
        go_roundw
        case rel => exact ⟨k + 1, by omega, by go_num, HOWN.out, HBEL⟩
        case measure => simp [intOf]; omega
    · have hkk : k = L.length := by omega
      subst hkk
      rw [List.take_length] at hown
      have hfl := List.length_filter_le p L
      go_wp2_with fail
      go_ret
      refine ⟨_, rfl, ?_, hB3.trans (hB.mono (by omega))⟩
      rw [HEQ.out]
      exact slO_of_own (ownsRow_base hown (by omega)) (by omega) (fun s hs => HWL.out s ((List.mem_filter.1 hs).1))
end Go.Proofs.Ytehnikgdjnmfcaa
