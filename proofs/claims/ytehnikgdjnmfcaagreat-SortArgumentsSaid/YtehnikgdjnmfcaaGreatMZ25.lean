/- complete 54. -/
import Derived.Test.YtehnikgdjnmfcaaGreatMZ22
import Derived.Test.YtehnikgdjnmfcaaGreatMZ21
import Derived.Test.YtehnikgdjnmfcaaGreatMZ23
import Derived.Test.YtehnikgdjnmfcaaGreatMZ24
import Derived.StillTailTactics
import Derived.BigQuiet
namespace Go.Proofs.YtehnikgdjnmfcaaGreat
open Go.RowKit Go.WideMaps Go.Shelf
attribute [local go_sem] Oper.semAt_some

theorem bools_len {w : World} {b : Nat} {ns : List Nm} (h : MapAt w b ns) (hn : ns.Nodup) : ∀ ty, (Builtin.len_ #[58] ty #[.map (some b)]).run Tryz.prog w = .ok (.int .i64 ((ns.length : Nat) : Int)) w := fun ty => h.len hn ty

theorem made_strs (n j : Nat) (hj : j < n) : (madeCells (Value.cells (.string ByteArray.empty)) (n * 1)).toList[j]? = some (.string ByteArray.empty) := by
  have hs : (madeCells (Value.cells (.string ByteArray.empty)) (n * 1)).size = n * 1 := size_madeCells _ _
  rw [Array.getElem?_toList, Array.getElem?_eq_getElem (by omega)]
  unfold madeCells
  simp only [Array.getElem_map, Array.getElem_range]
  have e : Value.cells (.string ByteArray.empty) = #[.string ByteArray.empty] := rfl
  rw [e]
  simp [Nat.mod_one]


theorem keep14 {w : World} {kb gb xb : Nat} {a0 a1 a2 a3 a4 a5 v x0 x1 x2 : Value} {fr1 fr2 fr3 : Nat × Nat} {t1 t2 t3 : TypeId} (h1 : w.heap[kb]? = some (.cells #[v] t1 fr1)) (h2 : w.heap[gb]? = some (.cells #[a0, a1, a2, a3, a4, a5] t2 fr2)) (h3 : w.heap[xb]? = some (.cells #[x0, x1, x2] t3 fr3)) :
    w.cell? ⟨kb, 0, none⟩ = some v ∧ w.cell? ⟨gb, 0, none⟩ = some a0 ∧ w.cell? ⟨gb, 1, none⟩ = some a1 ∧ w.cell? ⟨gb, 2, none⟩ = some a2 ∧ w.cell? ⟨gb, 3, none⟩ = some a3 ∧ w.cell? ⟨gb, 4, none⟩ = some a4 ∧ w.cell? ⟨gb, 5, none⟩ = some a5 ∧ w.cell? ⟨xb, 2, none⟩ = some x2 := by
  obtain ⟨g0, g1, g2, g3, g4, g5⟩ := cells6 h2
  exact ⟨by rw [cell_of_row w _ 0 _ _ _ h1]; rfl, g0, g1, g2, g3, g4, g5, (cells3 h3).2.2⟩

theorem all_snoc12 {p : Nat → Prop} {pre : List Nat} {q : Nat} (h : ∀ z ∈ pre, p z) (hq : p q) : ∀ z ∈ pre ++ [q], p z := by
  intro z hz
  rcases List.mem_append.1 hz with hz | hz
  · exact h z hz
  · have hz : z = q := by simpa using hz
    subst hz; exact hq

theorem go12 {w w11 W W1 : World} {No q : Nat} {pre : List Nat} {p : Nat → Prop} (hb : Below W.heap.size W W1) (hW : Below w11.heap.size w11 W) (_ : Below w.heap.size w W) (hp : ∀ z ∈ pre ++ [q], p z) :
    KeepsFrom w11.heap.size W W1 ∧ KeepC No W W1 ∧ Below w11.heap.size w11 W1 ∧ ∀ z ∈ pre ++ [q], p z :=
  ⟨⟨hb.size, fun k _ _ ho _ => (hb.block k (Array.getElem?_eq_some_iff.1 ho).1).trans ho⟩, KeepC.of_below hb, hW.trans (hb.mono hW.size), hp⟩

theorem stop12 {w w11 W W1 : World} {p : Prop} (hb : Below W.heap.size W W1) (hW : Below w11.heap.size w11 W) (hw : Below w.heap.size w W) (hr : W1.heap[w.heap.size + 1]? = some (.cells #[.int .i64 0] 35 (0, 0))) (hp : p) (h11 : w.heap.size + 1 < w11.heap.size) :
    KeepsFrom w11.heap.size W (W1.setCell ⟨w.heap.size + 1, 0, none⟩ (.int .i64 31)) ∧ p ∧ (∀ k, k < w11.heap.size → k ≠ w.heap.size + 1 → (W1.setCell ⟨w.heap.size + 1, 0, none⟩ (.int .i64 31)).heap[k]? = w11.heap[k]?) ∧
      (W1.setCell ⟨w.heap.size + 1, 0, none⟩ (.int .i64 31)).heap[w.heap.size + 1]? = some (.cells #[.int .i64 31] 35 (0, 0)) ∧ Below w.heap.size w (W1.setCell ⟨w.heap.size + 1, 0, none⟩ (.int .i64 31)) ∧ w11.heap.size ≤ (W1.setCell ⟨w.heap.size + 1, 0, none⟩ (.int .i64 31)).heap.size := by
  have hs : (W1.setCell ⟨w.heap.size + 1, 0, none⟩ (.int .i64 31)).heap.size = W1.heap.size := by simp
  have h1 := hW.size
  have h2 := hb.size
  refine ⟨⟨by omega, fun k _ hk ho _ => ?_⟩, hp, fun k hk hne => ?_, heap_setCell_same _ _ 0 _ 35 _ hr, (hw.trans (hb.mono hw.size)).setCell (Nat.le_succ _) _, by omega⟩
  · have hl := (Array.getElem?_eq_some_iff.1 ho).1
    exact (Below.heap_setCell W1 _ _ _ (by simp; omega)).trans ((hb.block k hl).trans ho)
  · exact (Below.heap_setCell W1 _ _ _ (by simp; omega)).trans ((hb.block k (by omega)).trans (hW.block k hk))

set_option maxRecDepth 100000 in
set_option maxHeartbeats 8000000 in
theorem complete_any : CompleteC := by
  intro gb bm mb am B c3 v a1 ga k1 capa cs sp abl ds rs vs w hbu h300 hr300 hty har hga hso ha hvs
  have HGA := Lib.hid hga
  have HSO := Lib.hid hso
  have HA := Lib.hid ha
  have HVS := Lib.hid hvs
  have HBU := Lib.hid hbu
  have HND := Lib.hid hbu.nodup
  have hgb : gb < w.heap.size := (Array.getElem?_eq_some_iff.1 hga.row).1
  obtain ⟨hl, aa, acap, rfl, _⟩ := ha
  clear hga hso hvs hbu
  have hb0 : Below w.heap.size w ((w.alloc (Obj.cells #[.pointer (some ⟨gb, 0, none⟩)] 104)).alloc (Obj.cells #[.int .i64 0] 35)) := ((Below.refl _ w).alloc (Nat.le_refl _) _).alloc (by simp) _
  have hz0 : ((w.alloc (Obj.cells #[.pointer (some ⟨gb, 0, none⟩)] 104)).alloc (Obj.cells #[.int .i64 0] 35)).heap.size = w.heap.size + 2 := by simp
  have r1 : ((w.alloc (Obj.cells #[.pointer (some ⟨gb, 0, none⟩)] 104)).alloc (Obj.cells #[.int .i64 0] 35)).heap[w.heap.size]? = some (.cells #[.pointer (some ⟨gb, 0, none⟩)] 104 (0, 0)) := heap_alloc2_old _ _ _
  have r2 : ((w.alloc (Obj.cells #[.pointer (some ⟨gb, 0, none⟩)] 104)).alloc (Obj.cells #[.int .i64 0] 35)).heap[w.heap.size + 1]? = some (.cells #[.int .i64 0] 35 (0, 0)) := heap_alloc2_new _ _ _
  have R1 := Lib.hid r1
  have R2 := Lib.hid r2
  have g0 : ((w.alloc (Obj.cells #[.pointer (some ⟨gb, 0, none⟩)] 104)).alloc (Obj.cells #[.int .i64 0] 35)).cell? ⟨gb, 0, none⟩ = some (.map (some bm)) := (cells6 ((hb0.block gb hgb).trans HGA.out.row)).1
  have hlen := fun ty => (HGA.out.cls.below hb0 HGA.out.cls.lt).len HND.out ty
  clear r1 r2
  obtain ⟨E, hE⟩ : ∃ E : Int, E = if regAll cs abl rs = true then 0 else 31 := ⟨_, rfl⟩
  rw [← hE]
  have HE := Lib.hid hE
  clear hE
  refine callsIn_wide.1 (callsIn_of_wp_marks (n := 8) Tryz.func37 rfl trivial (wpIn_wide.2 ?_) rfl)
  simp only [Tryz.ntmps37, List.size_toArray, List.length_cons, List.length_nil, Nat.reduceAdd, Nat.reduceSub, Array.replicate_succ, Array.replicate_zero, List.push_toArray, List.append_toArray, List.nil_append, List.cons_append]
  by_cases hr0 : rs.length = 0
  · have hd0 : decide (((rs.length : Nat) : Int) = 0) = true := decide_eq_true (by omega)
    have hE0 : E = 0 := by
      have h := HE.out
      have e : regAll cs abl rs = true := by unfold regAll; rw [hr0]; rfl
      rw [if_pos e] at h; exact h
    go_wp2_with fail
    exact ⟨_, results_cell_int rfl _ _ (w.heap.size + 1) 0 rfl (by rw [cell_of_row _ _ 0 _ _ _ R2.out]; rfl), by rw [hE0], hb0⟩
  · have hd0 : decide (((rs.length : Nat) : Int) = 0) = false := decide_eq_false (by omega)
    obtain ⟨bi, hi, hq0, hq1, hq2⟩ := info_parts Tryz.info9
    have y0 : ((w.alloc (Obj.cells #[.pointer (some ⟨gb, 0, none⟩)] 104)).alloc (Obj.cells #[.int .i64 0] 35)).cell? ⟨w.heap.size, 0, none⟩ = some (.pointer (some ⟨gb, 0, none⟩)) := by rw [cell_of_row _ _ 0 _ _ _ R1.out]; rfl
    go_wp2_with (first | (at_range; refine wpList_range_own _ rfl _ 58 rfl 9 3 (Maps.string_keyed Tryz.underlying9) Tryz.underlying58 _ bm (cs.map Prod.fst).length _ rfl hownM ?_; intro w2 hrg0 hg0 hs0) | (refine wpList_make_full _ rfl _ _ 27 rfl ((w.alloc (Obj.cells #[.pointer (some ⟨gb, 0, none⟩)] 104)).alloc (Obj.cells #[.int .i64 0] 35)).heap.size 9 bi (.string ByteArray.empty) 1 Tryz.underlying27 hi hq0 hq1 .i64 .i64 _ _ cs.length rfl rfl (by simp) (by simp) (by rw [hq2]; omega) (by unfold maxLen; omega) (Nat.le_refl _) ?_; intro w1 hown hg1; have hb1 : Below ((w.alloc (Obj.cells #[.pointer (some ⟨gb, 0, none⟩)] 104)).alloc (Obj.cells #[.int .i64 0] 35)).heap.size ((w.alloc (Obj.cells #[.pointer (some ⟨gb, 0, none⟩)] 104)).alloc (Obj.cells #[.int .i64 0] 35)) w1 := (Below.refl _ ((w.alloc (Obj.cells #[.pointer (some ⟨gb, 0, none⟩)] 104)).alloc (Obj.cells #[.int .i64 0] 35))).grown hg1 (Nat.le_refl _) (fun r e => by cases e); have hb2 := hb1.trans ((below_alloc w1 (Obj.cells #[.slice (some ⟨w.heap.size + 2, 0, none⟩) cs.length cs.length] 27)).mono hb1.size); have y1 := (hb2.cell (p := ⟨w.heap.size, 0, none⟩) (by simp; omega)).trans y0; have g1 := (hb2.cell (p := ⟨gb, 0, none⟩) (by simp; have := hb0.size; omega)).trans g0; have HOWN := Lib.hid hown; have HB1 := Lib.hid hb1; have HM1 := Lib.hid (HGA.out.cls.below (hb0.trans (hb2.mono (by omega))) HGA.out.cls.lt); obtain ⟨D, hI, hownM, hDk⟩ := HM1.out; have HDK := Lib.hid hDk; have HI := Lib.hid hI; clear hown hg1 hb1 hb2 hlen y0 g0 hDk hI))
    go_frame
    have hvb : (w1.alloc (Obj.cells #[.slice (some ⟨w.heap.size + 2, 0, none⟩) cs.length cs.length] 27)).heap.size = w1.heap.size + 1 := by simp
    rw [hvb] at hrg0 hs0 ⊢
    have hown := HOWN.out
    rw [hz0] at hown
    have hz1 : w.heap.size + 3 ≤ w1.heap.size := by
      rcases hown.2 with ⟨e, _⟩ | ⟨g', _, _, e, _, hh, _⟩
      · cases e
      · injection e with e; injection e with e; injection e with e; subst e
        have := (Array.getElem?_eq_some_iff.1 hh).1; omega
    have hkeep : ∀ k, k < w1.heap.size + 1 → w2.heap[k]? = (w1.alloc (Obj.cells #[.slice (some ⟨w.heap.size + 2, 0, none⟩) cs.length cs.length] 27)).heap[k]? := fun k hk => hg0.block k (by rw [hvb]; exact hk) (by simp)
    have hV2 : Hid (w2.heap[w1.heap.size]? = some (.cells #[.slice (some ⟨w.heap.size + 2, 0, none⟩) cs.length cs.length] 27 (0, 0))) := (hkeep _ (by omega)).trans (heap_alloc_new _ _)
    have hN2 : Hid (NmRow w2 (w.heap.size + 2) (cs.map Prod.fst) (Maps.has D)) := by
      intro j hj
      have hbl : w2.heap[w.heap.size + 2]? = w1.heap[w.heap.size + 2]? := (hkeep _ (by omega)).trans ((below_alloc w1 _).block _ (by omega))
      rw [List.length_map] at hj
      refine ⟨.string ByteArray.empty, (World.cell?_of_block (a := ⟨w.heap.size + 2, j, none⟩) hbl).trans ((hown.cellAt j (by omega)).trans (made_strs cs.length j hj)), (World.frozen?_of_block (a := ⟨w.heap.size + 2, j, none⟩) hbl).trans (hown.frozenAt j), fun hl => ?_⟩
      rw [(HDK.out _).1] at hl
      have : inNs (cs.map Prod.fst) ((cs.map Prod.fst).getD j []) = true := decide_eq_true (List.mem_of_getElem? (getD_some _ j (by rw [List.length_map]; exact hj)))
      rw [this] at hl; cases hl
    have hB2 : Below (w.heap.size + 2) ((w.alloc (Obj.cells #[.pointer (some ⟨gb, 0, none⟩)] 104)).alloc (Obj.cells #[.int .i64 0] 35)) w2 := by
      have h1 := HB1.out
      rw [hz0] at h1
      exact ((h1.trans ((below_alloc w1 _).mono (by omega))).grown hg0 (by rw [hvb]; omega) (fun r e => by cases e))
    have hIK : ∀ key kl, keyOf Tryz.prog 9 key = some kl → ∃ s : Nm, key = .string (bs s) := by
      intro key kl hk
      simp only [keyOf, Tryz.underlying9] at hk
      cases key <;> simp [mapKey, Tryz.underlying9] at hk
      exact ⟨_, rfl⟩
    have hIV : ∀ (u : Value) (z : DataW Unit × List MemPlace), plainElem Tryz.prog 3 u = some z → ∃ c : Int, u = .int .i64 c := fun u z h => by
      obtain ⟨c, rfl, _⟩ := plainElem_int_inv Tryz.underlying3 h
      exact ⟨c, rfl⟩
    clear hkeep hown HOWN HB1 y1 g1 HM1 hvb hs0 hg0
    go_loopw [7] (fun _ wr => ∃ (left : Lit → Bool) (cnt : Nat), wr.ranges Tryz.prog 9 (plainElem Tryz.prog 3) bm (w1.heap.size + 1) (cs.map Prod.fst).length D left cnt ∧ Hid (NmRow wr (w.heap.size + 2) (cs.map Prod.fst) left) ∧ Hid (wr.heap[w1.heap.size]? = some (.cells #[.slice (some ⟨w.heap.size + 2, 0, none⟩) cs.length cs.length] 27 (0, 0))) ∧
      Below (w.heap.size + 2) ((w.alloc (Obj.cells #[.pointer (some ⟨gb, 0, none⟩)] 104)).alloc (Obj.cells #[.int .i64 0] 35)) wr) (fun _ wr => wr.rangeLeft bm (w1.heap.size + 1))
    case atStart => exact ⟨_, _, hrg0, hN2, hV2, hB2⟩
    case round =>
      obtain ⟨left, cnt, hrg, hN, hV, hB⟩ := hrel
      clear hN2 hV2 hB2 hrg0
      go_wp2_with (first
        | (at_next; refine wpList_next_ranges _ rfl _ rfl 9 (Maps.string_keyed Tryz.underlying9) (plainElem Tryz.prog 3) (fun s : Nm => .string (bs s)) (fun c : Int => .int .i64 c) hIK hIV bm (w1.heap.size + 1) (cs.map Prod.fst).length D _ _ rfl hrg ?_ ?_)
        | fail)
      · intro hc0 hl0
        have HNF : Hid (∀ j, j < cs.length → wr.cell? ⟨w.heap.size + 2, j, none⟩ = some (.string (bs ((cs.map Prod.fst).getD j [])))) := by
          intro j hj
          obtain ⟨u, h1, _, h3⟩ := hN.out j (by rw [List.length_map]; exact hj)
          rw [h1, h3 (hl0 _)]
        have hE1 : Hid (E = if ((List.range rs.length).drop 0).all (fun i => regB cs abl rs (rs.getD i ar0)) = true then 0 else 31) := HE.out
        obtain ⟨wn, rfl⟩ : ∃ x, x = wr := ⟨_, rfl⟩
        have HVN := hV
        have HBN : Hid (Below w.heap.size w wn) := hb0.trans (hB.mono (by omega))
        have HBZ := Lib.hid hB
        clear hN hrg hB hV hc0 hl0 hIK hIV hE1
        go_wp2_with fail
        refine wp_loop (fun a' w' => ∃ (k : Nat) (u9 u39 u40 u41 u42 u43 u44 u45 u46 u47 u48 u49 u50 u79 : Value) (dfs : List Deferred), k ≤ rs.length ∧ Below wn.heap.size wn w' ∧ MarksAt wn.heap.size w' dfs ∧
            Hid (E = if ((List.range rs.length).drop k).all (fun i => regB cs abl rs (rs.getD i ar0)) = true then 0 else 31) ∧
            a' = { tmps := List.toArray ((.pointer (some ⟨gb, 0, none⟩) : Value) :: (.slice aa rs.length acap : Value) :: (.pointer (some ⟨w.heap.size, 0, none⟩) : Value) :: undef :: (.pointer (some ⟨w.heap.size + 1, 0, none⟩) : Value) :: (.pointer (some ⟨w1.heap.size, 0, none⟩) : Value) :: (u6 : Value) :: (u7 : Value) :: undef :: (u9 : Value) :: undef :: undef :: undef :: (.slice aa rs.length acap : Value) :: (.int .i64 rs.length : Value) :: (.bool false : Value) :: (.pointer (some ⟨gb, 0, none⟩) : Value) :: (.pointer (some ⟨gb, 0, none⟩) : Value) :: (.pointer (some ⟨gb, 0, none⟩) : Value) :: (.map (some bm) : Value) :: (.int .i64 cs.length : Value) :: (.slice (some ⟨w.heap.size + 2, 0, none⟩) cs.length cs.length : Value) :: (.pointer (some ⟨gb, 0, none⟩) : Value) :: (.pointer (some ⟨gb, 0, none⟩) : Value) :: (.pointer (some ⟨gb, 0, none⟩) : Value) :: (.map (some bm) : Value) :: (.pointer (some ⟨w1.heap.size + 1, 0, none⟩) : Value) :: (.tuple #[.bool false] : Value) :: (.bool false : Value) :: (u29 : Value) :: (u30 : Value) :: (u31 : Value) :: (u32 : Value) :: (u33 : Value) :: (u34 : Value) :: (u35 : Value) :: (.slice aa rs.length acap : Value) :: (.int .i64 rs.length : Value) :: (.int .i64 (k : Int) : Value) :: (u39 : Value) :: (u40 : Value) :: (u41 : Value) :: (u42 : Value) :: (u43 : Value) :: (u44 : Value) :: (u45 : Value) :: (u46 : Value) :: (u47 : Value) :: (u48 : Value) :: (u49 : Value) :: (u50 : Value) :: undef :: undef :: undef :: undef :: undef :: undef :: undef :: undef :: undef :: undef :: undef :: undef :: undef :: undef :: undef :: undef :: undef :: undef :: undef :: undef :: undef :: undef :: undef :: undef :: undef :: undef :: undef :: undef :: (u79 : Value) :: []), defers := dfs })
          (fun a' _ => rs.length - (intOf (a'.tmps.getD 38 undef)).toNat) ?_ ?_
        · exact ⟨0, _, _, _, _, _, _, _, _, _, _, _, _, _, _, [], by omega, Below.refl _ _, trivial, HE.out, rfl⟩
        · rintro _ wr ⟨k, u9, u39, u40, u41, u42, u43, u44, u45, u46, u47, u48, u49, u50, u79, dfs, hk, hB, hM, hI, rfl⟩
          by_cases hlt : k < rs.length
          · obtain ⟨_, aa', acap', hee, hsx⟩ := HA.out
            injection hee with hee _ hee2
            subst hee hee2
            obtain ⟨b, off, rfl, hb, hcl⟩ := hsx (by omega)
            obtain ⟨g0w, hxl, g1w, hyl, p, pc, g2w, hls⟩ := hcl k hlt
            have hBw : Below w.heap.size w wr := HBN.out.trans (hB.mono HBN.out.size)
            have hzn : w1.heap.size < wn.heap.size := (Array.getElem?_eq_some_iff.1 HVN.out).1
            have hzr := hB.size
            have g0 := (hBw.cell (p := ⟨b, off + k * 3, none⟩) hb).trans g0w
            have g1 := (hBw.cell (p := ⟨b, off + k * 3 + 1, none⟩) hb).trans g1w
            have g2 := (hBw.cell (p := ⟨b, off + k * 3 + 2, none⟩) hb).trans g2w
            have hlsr := hls.below hBw (Nat.le_refl _)
            have hst : Hid (E = if (regB cs abl rs (rs.getD k ar0) && ((List.range rs.length).drop (k + 1)).all (fun i => regB cs abl rs (rs.getD i ar0))) = true then 0 else 31) := by
              unfold Hid; rw [hI.out, range_step _ _ _ hlt]
            obtain ⟨_, hiny, _, _, _⟩ := arErr_zero (ars_at har hlt)
            have HNO : Hid (∀ x, inP (rs.map arKey) ((rs.getD k ar0).1, (cs.map Prod.fst).getD x []) = false → regOne cs abl rs (rs.getD k ar0) x = false) := fun x h => regOne_no h
            have HYE : Hid (∀ x, inP (rs.map arKey) ((rs.getD k ar0).1, (cs.map Prod.fst).getD x []) = true → ixP (rs.map arKey) ((rs.getD k ar0).1, (cs.map Prod.fst).getD x []) < rs.length ∧
                (rs.getD k ar0).2.2.length ≤ (rs.getD (ixP (rs.map arKey) ((rs.getD k ar0).1, (cs.map Prod.fst).getD x [])) ar0).2.2.length ∧
                regOne cs abl rs (rs.getD k ar0) x = lessAllB (cs.map Prod.fst) (fun i => abl.getD i []) (rs.getD k ar0).2.2 (rs.getD (ixP (rs.map arKey) ((rs.getD k ar0).1, (cs.map Prod.fst).getD x [])) ar0).2.2) := fun x h => regOne_yes har hlt h
            have HRT : Hid (∀ xs : List Nat, (∀ x, x ∈ xs ↔ Reach (fun i => sp.getD i []) (ixOf (cs.map Prod.fst) (rs.getD k ar0).2.1) x) → (∀ x ∈ xs, regOne cs abl rs (rs.getD k ar0) x = true) → regB cs abl rs (rs.getD k ar0) = true) := fun xs h1 h2 => reg_true HBU.out hiny h1 h2
            have HRF : Hid (∀ x, Reach (fun i => sp.getD i []) (ixOf (cs.map Prod.fst) (rs.getD k ar0).2.1) x → regOne cs abl rs (rs.getD k ar0) x = false → regB cs abl rs (rs.getD k ar0) = false) := fun x h1 h2 => reg_false HBU.out hiny h1 h2
            clear hcl hsx g0w g1w g2w hls hI
            obtain ⟨ar, hak⟩ : ∃ ar, ar = rs.getD k ar0 := ⟨_, rfl⟩
            rw [← hak] at g0 g1 g2 hxl hyl hst hlsr hiny HNO HYE HRT HRF
            clear hak
            obtain ⟨x, y, ls⟩ := ar
            simp only at g0 g1 g2 hxl hyl hlsr hiny HNO HYE HRT HRF
            have hix := ixOf_lt hiny
            rw [List.length_map] at hix
            have HIX := Lib.hid hix
            obtain ⟨c, hc⟩ : ∃ c, c = ixOf (cs.map Prod.fst) y := ⟨_, rfl⟩
            rw [← hc] at HRT HRF hix
            have hb10 : Below wr.heap.size wr (wr.alloc (Obj.cells #[.string (bs x), .string (bs y), .slice p ls.length pc] 50)).drew := (below_alloc wr _).drew
            have hz10 : (wr.alloc (Obj.cells #[.string (bs x), .string (bs y), .slice p ls.length pc] 50)).drew.heap.size = wr.heap.size + 1 := by show (wr.alloc _).heap.size = _; simp
            have hbw10 : Below w.heap.size w (wr.alloc (Obj.cells #[.string (bs x), .string (bs y), .slice p ls.length pc] 50)).drew := hBw.trans (hb10.mono hBw.size)
            have r1n : wr.heap[w.heap.size]? = some (.cells #[.pointer (some ⟨gb, 0, none⟩)] 104 (0, 0)) := (hB.block _ (by omega)).trans ((HBZ.out.block _ (by omega)).trans R1.out)
            have q2 : (wr.alloc (Obj.cells #[.string (bs x), .string (bs y), .slice p ls.length pc] 50)).drew.cell? ⟨w.heap.size, 0, none⟩ = some (.pointer (some ⟨gb, 0, none⟩)) := by
              rw [cell_of_row _ _ 0 _ _ _ ((hb10.block _ (by omega)).trans r1n)]; rfl
            have r10 : (wr.alloc (Obj.cells #[.string (bs x), .string (bs y), .slice p ls.length pc] 50)).drew.heap[wr.heap.size]? = some (.cells #[.string (bs x), .string (bs y), .slice p ls.length pc] 50 (0, 0)) := heap_alloc_new wr _
            obtain ⟨_, q4, _⟩ := cells3 r10
            have q5 := (cells6 ((hbw10.block gb hgb).trans HGA.out.row)).1
            have hlk := ((HGA.out.cls.below hbw10 HGA.out.cls.lt).look0 hyl)
            rw [← hc] at hlk
            have HC := Lib.hid hc
            have R10 := Lib.hid r10
            have RW := Lib.hid r1n
            clear r10 hc r1n
            go_wp2_with fail
            refine wp_region_still_tail 8 (by kernel_rfl) (by kernel_rfl) ?_
            simp only [List.take_succ_cons, List.take_zero, List.drop_succ_cons, List.drop_zero]
            change wpStill _ _ (World.drew (wr.alloc (Obj.cells #[.string (bs x), .string (bs y), .slice p ls.length pc] 50))) (fun a' => wpList _ _ _ _ a' (World.drew (wr.alloc (Obj.cells #[.string (bs x), .string (bs y), .slice p ls.length pc] 50)))) _ _
            generalize (wr.alloc (Obj.cells #[.string (bs x), .string (bs y), .slice p ls.length pc] 50)).drew = w10 at *
            repeat still_step
            refine wpStill_nil ?_
            clear q2 q4 q5 hlk
            go_wp2_with (first | (go_at_call 54; refine (upward_any _ _ _).mono ?_; rintro e w9 ⟨rfl, rfl⟩) | fail)
            have hx9 := heap_alloc2_old w10 (.cells #[.pointer (some ⟨gb, 0, none⟩)] 104) (.cells #[.int .i64 (c : Int)] 3)
            have hy9 := heap_alloc2_new w10 (.cells #[.pointer (some ⟨gb, 0, none⟩)] 104) (.cells #[.int .i64 (c : Int)] 3)
            have hb9 : Below w10.heap.size w10 ((w10.alloc (Obj.cells #[.pointer (some ⟨gb, 0, none⟩)] 104)).alloc (Obj.cells #[.int .i64 (c : Int)] 3)) := ((Below.refl _ w10).alloc (Nat.le_refl _) _).alloc (by simp) _
            have hs9 : ((w10.alloc (Obj.cells #[.pointer (some ⟨gb, 0, none⟩)] 104)).alloc (Obj.cells #[.int .i64 (c : Int)] 3)).heap.size = w10.heap.size + 2 := by simp
            generalize ((w10.alloc (Obj.cells #[.pointer (some ⟨gb, 0, none⟩)] 104)).alloc (Obj.cells #[.int .i64 (c : Int)] 3)) = w11 at *
            have hb11 : Below wr.heap.size wr w11 := hb10.trans (hb9.mono (by omega))
            have hbw11 : Below w.heap.size w w11 := hBw.trans (hb11.mono hBw.size)
            have hz11 : w11.heap.size = wr.heap.size + 3 := by omega
            have HX11 : Hid (w11.heap[wr.heap.size + 1]? = some (.cells #[.pointer (some ⟨gb, 0, none⟩)] 104 (0, 0))) := by rw [← hz10]; exact hx9
            have HY11 : Hid (w11.heap[wr.heap.size + 1 + 1]? = some (.cells #[.int .i64 (c : Int)] 3 (0, 0))) := by rw [← hz10]; exact hy9
            have HA11 := Lib.hid ((hb9.block _ (by omega)).trans R10.out)
            have HR11 := Lib.hid ((hb11.block _ (by omega)).trans RW.out)
            have HRES : Hid (w11.heap[w.heap.size + 1]? = some (.cells #[.int .i64 0] 35 (0, 0))) := (hb11.block _ (by omega)).trans ((hB.block _ (by omega)).trans ((HBZ.out.block _ (by omega)).trans R2.out))
            have HNV : Hid (w11.heap[w1.heap.size]? = some (.cells #[.slice (some ⟨w.heap.size + 2, 0, none⟩) cs.length cs.length] 27 (0, 0))) := (hb11.block _ (by omega)).trans ((hB.block _ (by omega)).trans HVN.out)
            have HNM : Hid (∀ j, j < cs.length → w11.cell? ⟨w.heap.size + 2, j, none⟩ = some (.string (bs ((cs.map Prod.fst).getD j [])))) := fun j hj => (hb11.cell (p := ⟨w.heap.size + 2, j, none⟩) (by simp; omega)).trans ((hB.cell (p := ⟨w.heap.size + 2, j, none⟩) (by simp; omega)).trans (HNF.out j hj))
            have HG11 : Hid (GAr w11 gb bm mb am (.slice a1 cs.length k1) c3 ga capa (cs.map Prod.fst) (fun i => abl.getD i []) ds (rs.map arKey) vs) := HGA.out.turn (ButG.of_below hbw11) (HGA.out.ars.below hbw11 HGA.out.ars.lt)
            have HV11 : Hid (∀ j, j < rs.length → SlSs w11 (vs.getD j undef) (rs.getD j ar0).2.2) := fun j hj => (HVS.out j hj).below hbw11 (Nat.le_refl _)
            have HS11 : Hid (SupO w11 B (.slice a1 cs.length k1) sp cs.length) := HSO.out.below hbw11
            have HL11 : Hid (SlSs w11 (.slice p ls.length pc) ls) := hlsr.below hb11 (Nat.le_refl _)
            have HM11 : Hid (MarksAt wn.heap.size wr dfs) := hM
            have HB11 := Lib.hid hb11
            have HBW11 := Lib.hid hbw11
            clear hx9 hy9 hb9 hs9 hb11 hbw11 hlsr hM g0 g1 g2 hb10 hbw10 R10 RW
            have HNL : Hid (∀ q, ((cs.map Prod.fst).getD q []).length ≤ maxLen) := HBU.out.name_len
            refine (wpIn_wide (n := 6)).1 (wpIn_rangeFunc_C (n := 6) (α := Nat) (ps := #[51]) rfl (by omega) (gf := 74) (lb := #[.pointer (some ⟨wr.heap.size + 1 + 1, 0, none⟩), .pointer (some ⟨wr.heap.size + 1, 0, none⟩)]) rfl trivial (enters_of Tryz.func74 (by kernel_rfl) rfl)
              (encs := fun x : Nat => #[.int .i64 (x : Int)]) (Kp := KeepC (w.heap.size + 1)) (Ok := fun x => x ≤ c) (S := fun xs => ∀ x, x ∈ xs ↔ Reach (fun i => sp.getD i []) c x) (Sp := fun xs => ∀ x ∈ xs, Reach (fun i => sp.getD i []) c x) ?hseq
              (fun h k => h.trans k) (fun W l o o' _ hl ho => KeepC.put W l o o' hl ho) (fun _ => rfl)
              (fun pre W => Below w11.heap.size w11 W ∧ ∀ z ∈ pre, regOne cs abl rs (x, y, ls) z = true)
              (fun pre W => (∃ z ∈ pre, regOne cs abl rs (x, y, ls) z = false) ∧ (∀ k, k < w11.heap.size → k ≠ w.heap.size + 1 → W.heap[k]? = w11.heap[k]?) ∧ W.heap[w.heap.size + 1]? = some (.cells #[.int .i64 31] 35 (0, 0)) ∧ Below w.heap.size w W ∧ w11.heap.size ≤ W.heap.size)
              ?hIx ?hI ?h0 ?a1 ?assign ?body ?done ?stop)
            case hIx =>
              rintro pre A C ⟨h1, h2, h3, h4, h5⟩ hb
              exact ⟨h1, fun k hk hne => (hb.block k hk).trans (h2 k hk hne), (hb.block _ (by omega)).trans h3, h4.trans (hb.mono (by omega)), Nat.le_trans h5 hb.size⟩
            case hI =>
              rintro pre A C ⟨h1, h2⟩ hb
              exact ⟨h1.trans hb, h2⟩
            case h0 => exact ⟨Below.refl _ _, fun z hz => absurd hz (List.not_mem_nil)⟩
            case assign =>
              intro l x W K hK
              gi_wp2
              exact hK
            case hseq =>
              intro W hbW
              have hx := (hbW.block _ (by omega)).trans HX11.out
              have hy := (hbW.block _ (by omega)).trans HY11.out
              have hsz := hbW.size
              exact up_seq2 (w.heap.size + 1) c (wr.heap.size + 1 + 1) (wr.heap.size + 1) gb cs.length _ W (by omega) (by omega) (by omega) hix (by omega) (by rw [cell_of_row W _ 0 _ _ _ hy]; rfl) (by rw [cell_of_row W _ 0 _ _ _ hx]; rfl) (by omega)
                (supAt_of3 (by omega) ((hbW.block _ (by omega)).trans HG11.out.row) rfl (HS11.out.below hbW) ((hbW.block _ (by omega)).trans HRES.out) (by decide) (by decide) (by decide)) (fun i _ s hs => HBU.out.lt' i s hs)
            case done =>
              rintro D xs W hD hS ⟨hI1, hI2⟩ hK
              have hst2 : Hid (E = if ((List.range rs.length).drop (k + 1)).all (fun i => regB cs abl rs (rs.getD i ar0)) = true then 0 else 31) := by
                unfold Hid; rw [hst.out, HRT.out xs hS hI2, Bool.true_and]
              have hBW : Below wr.heap.size wr W := HB11.out.trans (hI1.mono (by omega))
              have hBn : Below wn.heap.size wn W := hB.trans (hBW.mono hzr)
              have hMW := HM11.out.cons (D := D) hBW (by omega) (by omega) hK
              clear hst HRT HRF HNO HYE hI1 hI2 hBW hB hK hS
              go_wp2_with fail
              exact ⟨⟨k + 1, _, _, _, _, _, _, _, _, _, _, _, _, _, _, _, by omega, hBn, hMW, hst2, rfl⟩, by simp [intOf]; omega⟩
            case stop =>
              rintro D pre W hD hSp ⟨⟨z, hz, hz0⟩, h2, h3, h4, h5⟩ hK
              have hE31 : E = 31 := by
                rw [hst.out, HRF.out z (hSp z hz) hz0]; rfl
              have hMW : MarksAt wn.heap.size W ({ target := .collected D, args := #[] } :: dfs) :=
                ⟨⟨D, by omega, rfl, hK, fun d' hd' e => by have := HM11.out.lt d' hd' D e; omega⟩, HM11.out.of_block fun d' hd' r hr => by
                  have g1 := HM11.out.lt d' hd' r hr
                  have g2 := HM11.out.ge d' hd' r hr
                  exact (h2 r (by omega) (by omega)).trans (HB11.out.block r g1)⟩
              refine wpIn_ret ?_
              refine leaves_marks (B := wn.heap.size) _ _ hMW fun w' hb' => ?_
              exact ⟨_, results_cell_int rfl _ _ (w.heap.size + 1) 31 rfl (by rw [cell_of_row _ _ 0 _ _ _ ((hb'.block _ (by omega)).trans h3)]; rfl), by rw [hE31], h4.trans (hb'.mono (by omega))⟩
            case body =>
              rintro l pre q W hq ⟨hW, hpre⟩
              have hqc : q < cs.length := by omega
              have hWB : Below w.heap.size w W := HBW11.out.trans (hW.mono (by omega))
              have hzW := hW.size
              have G := Lib.hid (HG11.out.turn (ButG.of_below hW) (HG11.out.ars.below hW HG11.out.ars.lt))
              have HPRE := Lib.hid hpre
              have HW := Lib.hid hW
              have RB := Lib.hid ((hW.block _ (by omega)).trans HR11.out)
              have RA := Lib.hid ((hW.block _ (by omega)).trans HA11.out)
              have e0 : W.cell? ⟨w.heap.size, 0, none⟩ = some (.pointer (some ⟨gb, 0, none⟩)) := by rw [cell_of_row _ _ 0 _ _ _ RB.out]; rfl
              obtain ⟨_, _, _, _, _, e5⟩ := cells6 G.out.row
              obtain ⟨x0, _, _⟩ := cells3 RA.out
              have n0 : W.cell? ⟨w1.heap.size, 0, none⟩ = some (.slice (some ⟨w.heap.size + 2, 0, none⟩) cs.length cs.length) := by rw [cell_of_row _ _ 0 _ _ _ ((hW.block _ (by omega)).trans HNV.out)]; rfl
              have n1 := (hW.cell (p := ⟨w.heap.size + 2, q, none⟩) (by simp; omega)).trans (HNM.out q hqc)
              have hno := HNO.out q
              have hye := HYE.out q
              have hlk : ∀ n', (Instr.lookup 61 (.map (some am)) (.agg #[.string (bs x), .string (bs ((cs.map Prod.fst).getD q []))]) true).run Tryz.prog (W.drewN n') = .ok (.tuple #[valOf (rs.map arKey) vs (x, (cs.map Prod.fst).getD q []), .bool (inP (rs.map arKey) (x, (cs.map Prod.fst).getD q []))]) (W.drewN n') := fun n' => (G.out.ars.drewN n').look (q := (x, (cs.map Prod.fst).getD q [])) hxl (HNL.out q)
              have hVO : inP (rs.map arKey) (x, (cs.map Prod.fst).getD q []) = true → valOf (rs.map arKey) vs (x, (cs.map Prod.fst).getD q []) = vs.getD (ixP (rs.map arKey) (x, (cs.map Prod.fst).getD q [])) undef := fun h => by unfold valOf; rw [if_pos h]
              have RES : Hid (W.heap[w.heap.size + 1]? = some (.cells #[.int .i64 0] 35 (0, 0))) := (hW.block _ (by omega)).trans HRES.out
              have rc : W.cell? ⟨w.heap.size + 1, 0, none⟩ = some (.int .i64 0) := by rw [cell_of_row _ _ 0 _ _ _ RES.out]; rfl
              have rf : W.frozen? ⟨w.heap.size + 1, 0, none⟩ = false := frozen_of_row _ _ 0 _ _ RES.out
              clear hW hpre
              generalize (cs.map Prod.fst).getD q [] = nm at *
              generalize inP (rs.map arKey) (x, nm) = ip at *
              generalize valOf (rs.map arKey) vs (x, nm) = sv at *
              cases ip with
              | false =>
                have HO := Lib.hid (hno rfl)
                clear hno hye hVO
                gi_wp2_with fail
                refine wpIn_region_quiet_lit_round (by kernel_rfl) (by rintro ⟨a, w, h⟩; exact h) (by kernel_rfl) (by kernel_rfl) ?_
                repeat (go_big_quiet_step (fail))
                refine wpQuiet_nil ?_
                intro _ hw'
                obtain ⟨nq, hw''⟩ := hw'
                subst hw''
                gi_wp2_with fail
                refine wpIn_region_quiet_lit_round (by kernel_rfl) (by rintro ⟨a, w, h⟩; exact h) (by kernel_rfl) (by kernel_rfl) ?_
                repeat (go_big_quiet_step (fail))
                refine wpQuiet_nil ?_
                intro _ hw'
                obtain ⟨nq2, hw''⟩ := hw'
                subst hw''
                gi_wp2_with fail
                exact stop12 (p := ∃ z ∈ pre ++ [q], regOne cs abl rs (x, y, ls) z = false) (W1 := W.drewN (nq + nq2)) (below_drewN (Below.refl _ W) _) HW.out hWB RES.out ⟨q, by simp, HO.out⟩ (by omega)
              | true =>
                obtain ⟨hixp, hle, hone⟩ := hye rfl
                have hsv := hVO rfl
                have hsl : SlSs W sv (rs.getD (ixP (rs.map arKey) (x, nm)) ar0).2.2 := by rw [hsv]; exact (HV11.out _ hixp).below HW.out (Nat.le_refl _)
                clear hno hye hVO hsv hixp
                generalize (rs.getD (ixP (rs.map arKey) (x, nm)) ar0).2.2 = m at *
                have HSL := Lib.hid hsl
                obtain ⟨_, sa, scap, rfl, _⟩ := hsl
                obtain ⟨r, hr⟩ : ∃ r, r = lessAllB (cs.map Prod.fst) (fun i => abl.getD i []) ls m := ⟨_, rfl⟩
                have HLE := Lib.hid hle
                clear hle
                have hone' : regOne cs abl rs (x, y, ls) q = r := by rw [hr]; exact hone
                clear hone
                gi_wp2_with fail
                refine wpIn_region_quiet_lit_round (by kernel_rfl) (by rintro ⟨a, w, h⟩; exact h) (by kernel_rfl) (by kernel_rfl) ?_
                repeat (go_big_quiet_step (fail))
                refine wpQuiet_nil ?_
                intro _ hw'
                obtain ⟨nq, hw''⟩ := hw'
                subst hw''
                have hb2 : Below W.heap.size W (W.drewN nq) := below_drewN (Below.refl _ W) nq
                clear hlk e0 x0 n0 n1 e5 rc rf
                generalize W.drewN nq = W2 at *
                have RB2 := Lib.hid ((hb2.block _ (by omega)).trans RB.out)
                have RA2 := Lib.hid ((hb2.block _ (by omega)).trans RA.out)
                have hg2 := (hb2.block _ (Array.getElem?_eq_some_iff.1 G.out.row).1).trans G.out.row
                rw [List.length_map] at hg2
                have RG2 := Lib.hid hg2
                clear hg2
                have hsig := G.out.sig
                rw [List.length_map] at hsig
                have RS2 := Lib.hid ((hb2.block _ (by omega)).trans RES.out)
                have hz2 := hb2.size
                have LS := Lib.hid (lessAll_p _ (.slice p ls.length pc) (.slice sa m.length scap) ls m _ _ W2.drew (hsig.below hb2.drew (Nat.le_refl _)) ((HL11.out.below HW.out (Nat.le_refl _)).below hb2.drew (Nat.le_refl _)) (HSL.out.below hb2.drew (Nat.le_refl _)) HLE.out)
                rw [← hr] at LS
                clear hsig
                have HO := Lib.hid hone'
                clear hone' hr
                have HB2 := Lib.hid hb2
                clear hb2
                obtain ⟨e0, e1, e2, e3, e4, e5, e6, e7⟩ := keep14 RB2.out RG2.out RA2.out
                cases r with
                | true =>
                  gi_wp2_with fail
                  refine wpIn_region_held_round (S := (fun w' => w'.cell? ⟨w.heap.size, 0, none⟩ = some (.pointer (some ⟨gb, 0, none⟩)) ∧ w'.cell? ⟨gb, 0, none⟩ = some (.map (some bm)) ∧ w'.cell? ⟨gb, 1, none⟩ = some (.slice a1 cs.length k1) ∧ w'.cell? ⟨gb, 2, none⟩ = some (.slice ga cs.length capa) ∧ w'.cell? ⟨gb, 3, none⟩ = some c3 ∧ w'.cell? ⟨gb, 4, none⟩ = some (.map (some mb)) ∧ w'.cell? ⟨gb, 5, none⟩ = some (.map (some am)) ∧ w'.cell? ⟨wr.heap.size, 2, none⟩ = some (.slice p ls.length pc))) (by kernel_rfl) (by rintro ⟨a, w, h⟩; exact h) (by kernel_rfl) ?_ (fun hHeld => ?_)
                  · exact keep14 RB2.out RG2.out RA2.out
                  clear e0 e1 e2 e3 e4 e5 e6 e7
                  refine wpAnyH_take (i := 0) (oi := { dst := some 67, op := Op.move (Operand.tmp 12), type := 4, pos := "signature.go:203", after := #[], guard := none }) (v := ?v0) rfl (by kernel_rfl) (by kernel_rfl) (by kernel_rfl) (fun _ _ _ h => h) (Or.inl ⟨by rfl, ?hy0⟩) (by assumption) ?rest0
                  case hy0 => (intro wq hSq; (try dsimp only at hSq); go_simp; try with_reducible rfl)
                  try simp only [Act.put, List.setIfInBounds_toArray, List.set_cons_zero, List.set_cons_succ]
                  refine wpAnyH_take (i := 1) (oi := { dst := some 68, op := Op.unOp UnOp.not 4 (Operand.tmp 67), type := 4, pos := "signature.go:203", after := #[{ on := 0, ground := Ground.data }], guard := none }) (v := ?v1) rfl (by kernel_rfl) (by kernel_rfl) (by kernel_rfl) (fun _ _ _ h => h) (Or.inl ⟨by rfl, ?hy1⟩) (by assumption) ?rest1
                  case hy1 => (intro wq hSq; (try dsimp only at hSq); go_simp; try with_reducible rfl)
                  try simp only [Act.put, List.setIfInBounds_toArray, List.set_cons_zero, List.set_cons_succ]
                  refine wpAnyH_take (i := 2) (oi := { dst := some 69, op := Op.move (Operand.tmp 68), type := 4, pos := "signature.go:203", after := #[{ on := 1, ground := Ground.data }], guard := none }) (v := ?v2) rfl (by kernel_rfl) (by kernel_rfl) (by kernel_rfl) (fun _ _ _ h => h) (Or.inl ⟨by rfl, ?hy2⟩) (by assumption) ?rest2
                  case hy2 => (intro wq hSq; (try dsimp only at hSq); go_simp; try with_reducible rfl)
                  try simp only [Act.put, List.setIfInBounds_toArray, List.set_cons_zero, List.set_cons_succ]
                  refine wpAnyH_take (i := 3) (oi := { dst := some 70, op := Op.load 104 (Operand.tmp 2), type := 104, pos := "signature.go:203", after := #[{ on := 2, ground := Ground.guard }], guard := some (2, false) }) (v := ?v3) rfl (by kernel_rfl) (by kernel_rfl) (by kernel_rfl) (fun _ _ _ h => h) (Or.inl ⟨by rfl, ?hy3⟩) (by assumption) ?rest3
                  case hy3 => (intro wq hSq; (try dsimp only at hSq); go_simp; try with_reducible rfl)
                  try simp only [Act.put, List.setIfInBounds_toArray, List.set_cons_zero, List.set_cons_succ]
                  refine wpAnyH_take (i := 4) (oi := { dst := some 71, op := Op.nilCheck (Operand.tmp 70), type := 0, pos := "signature.go:203", after := #[{ on := 3, ground := Ground.data }, { on := 2, ground := Ground.guard }], guard := some (2, false) }) (v := ?v4) rfl (by kernel_rfl) (by kernel_rfl) (by kernel_rfl) (fun _ _ _ h => h) (Or.inl ⟨by rfl, ?hy4⟩) (by assumption) ?rest4
                  case hy4 => (intro wq hSq; (try dsimp only at hSq); go_simp; try with_reducible rfl)
                  try simp only [Act.put, List.setIfInBounds_toArray, List.set_cons_zero, List.set_cons_succ]
                  refine wpAnyH_take (i := 5) (oi := { dst := some 72, op := Op.load 63 (Operand.tmp 71), type := 63, pos := "signature.go:203", after := #[{ on := 4, ground := Ground.data }, { on := 2, ground := Ground.guard }], guard := some (2, false) }) (v := ?v5) rfl (by kernel_rfl) (by kernel_rfl) (by kernel_rfl) (fun _ _ _ h => h) (Or.inl ⟨by rfl, ?hy5⟩) (by assumption) ?rest5
                  case hy5 => (intro wq hSq; (try dsimp only at hSq); go_simp; try with_reducible rfl)
                  try simp only [Act.put, List.setIfInBounds_toArray, List.set_cons_zero, List.set_cons_succ]
                  refine wpAnyH_take (i := 6) (oi := { dst := some 73, op := Op.fieldAddr 50 (Operand.tmp 9) 2, type := 0, pos := "signature.go:203", after := #[{ on := 2, ground := Ground.guard }], guard := some (2, false) }) (v := ?v6) rfl (by kernel_rfl) (by kernel_rfl) (by kernel_rfl) (fun _ _ _ h => h) (Or.inl ⟨by rfl, ?hy6⟩) (by assumption) ?rest6
                  case hy6 => (intro wq hSq; (try dsimp only at hSq); go_simp; try with_reducible rfl)
                  try simp only [Act.put, List.setIfInBounds_toArray, List.set_cons_zero, List.set_cons_succ]
                  refine wpAnyH_take (i := 7) (oi := { dst := some 74, op := Op.load 34 (Operand.tmp 73), type := 34, pos := "signature.go:203", after := #[{ on := 6, ground := Ground.data }, { on := 2, ground := Ground.guard }], guard := some (2, false) }) (v := ?v7) rfl (by kernel_rfl) (by kernel_rfl) (by kernel_rfl) (fun _ _ _ h => h) (Or.inl ⟨by rfl, ?hy7⟩) (by assumption) ?rest7
                  case hy7 => (intro wq hSq; (try dsimp only at hSq); go_simp; try with_reducible rfl)
                  try simp only [Act.put, List.setIfInBounds_toArray, List.set_cons_zero, List.set_cons_succ]
                  refine wpAnyH_take (i := 8) (oi := { dst := some 75, op := Op.move (Operand.tmp 11), type := 34, pos := "signature.go:203", after := #[{ on := 2, ground := Ground.guard }], guard := some (2, false) }) (v := ?v8) rfl (by kernel_rfl) (by kernel_rfl) (by kernel_rfl) (fun _ _ _ h => h) (Or.inl ⟨by rfl, ?hy8⟩) (by assumption) ?rest8
                  case hy8 => (intro wq hSq; (try dsimp only at hSq); go_simp; try with_reducible rfl)
                  try simp only [Act.put, List.setIfInBounds_toArray, List.set_cons_zero, List.set_cons_succ]
                  refine wpAnyH_ready (rs := [9]) (by kernel_rfl) (by simp) ?_
                  refine AllReadyH.cons rfl (fun K hK => ?_) AllReadyH.nil
                  go_simp
                  go_wp2_with (go_at_call 55; (with_reducible refine LS.out.mono ?_); rintro e w8 ⟨rfl, hb8⟩; have hb8 : Below W2.heap.size W2 w8 := ((Below.refl _ W2).drew).trans hb8; have RB8 := Lib.hid ((hb8.block _ (by omega)).trans RB2.out); have RA8 := Lib.hid ((hb8.block _ (by omega)).trans RA2.out); have RG8 := Lib.hid ((hb8.block _ (Array.getElem?_eq_some_iff.1 RG2.out).1).trans RG2.out); have RS8 := Lib.hid ((hb8.block _ (by omega)).trans RS2.out))
                  refine hK.out _ _ ?_ (fun hHeldN => ?_)
                  · (try dsimp only); exact keep14 RB8.out RG8.out RA8.out
                  clear hK K hHeld
                  have hHeld := hHeldN
                  clear hHeldN
                  have HB8 := Lib.hid (HB2.out.trans (hb8.mono hz2))
                  clear hb8
                  refine wpAnyH_take (i := 10) (oi := { dst := some 77, op := Op.unOp UnOp.not 4 (Operand.tmp 76), type := 4, pos := "signature.go:203", after := #[{ on := 9, ground := Ground.data }, { on := 2, ground := Ground.guard }], guard := some (2, false) }) (v := ?v10) rfl (by kernel_rfl) (by kernel_rfl) (by kernel_rfl) (fun _ _ _ h => h) (Or.inl ⟨by rfl, ?hy10⟩) (by assumption) ?rest10
                  case hy10 => (intro wq hSq; (try dsimp only at hSq); go_simp; try with_reducible rfl)
                  try simp only [Act.put, List.setIfInBounds_toArray, List.set_cons_zero, List.set_cons_succ]
                  refine wpAnyH_take (i := 11) (oi := { dst := some 78, op := Op.pick (Operand.tmp 69) (Operand.const (Value.bool true)) (Operand.tmp 77), type := 4, pos := "signature.go:203", after := #[{ on := 2, ground := Ground.data }, { on := 10, ground := Ground.data }], guard := none }) (v := ?v11) rfl (by kernel_rfl) (by kernel_rfl) (by kernel_rfl) (fun _ _ _ h => h) (Or.inl ⟨by rfl, ?hy11⟩) (by assumption) ?rest11
                  case hy11 => (intro wq hSq; (try dsimp only at hSq); go_simp; try with_reducible rfl)
                  try simp only [Act.put, List.setIfInBounds_toArray, List.set_cons_zero, List.set_cons_succ]
                  refine wpAnyH_done (by kernel_rfl) ?_ _
                  gi_wp2_with fail
                  exact go12 (p := fun z => regOne cs abl rs (x, y, ls) z = true) HB8.out HW.out hWB (all_snoc12 (p := fun z => regOne cs abl rs (x, y, ls) z = true) HPRE.out HO.out)
                | false =>
                  gi_wp2_with fail
                  refine wpIn_region_held_round (S := (fun w' => w'.cell? ⟨w.heap.size, 0, none⟩ = some (.pointer (some ⟨gb, 0, none⟩)) ∧ w'.cell? ⟨gb, 0, none⟩ = some (.map (some bm)) ∧ w'.cell? ⟨gb, 1, none⟩ = some (.slice a1 cs.length k1) ∧ w'.cell? ⟨gb, 2, none⟩ = some (.slice ga cs.length capa) ∧ w'.cell? ⟨gb, 3, none⟩ = some c3 ∧ w'.cell? ⟨gb, 4, none⟩ = some (.map (some mb)) ∧ w'.cell? ⟨gb, 5, none⟩ = some (.map (some am)) ∧ w'.cell? ⟨wr.heap.size, 2, none⟩ = some (.slice p ls.length pc))) (by kernel_rfl) (by rintro ⟨a, w, h⟩; exact h) (by kernel_rfl) ?_ (fun hHeld => ?_)
                  · exact keep14 RB2.out RG2.out RA2.out
                  clear e0 e1 e2 e3 e4 e5 e6 e7
                  refine wpAnyH_take (i := 0) (oi := { dst := some 67, op := Op.move (Operand.tmp 12), type := 4, pos := "signature.go:203", after := #[], guard := none }) (v := ?v0b) rfl (by kernel_rfl) (by kernel_rfl) (by kernel_rfl) (fun _ _ _ h => h) (Or.inl ⟨by rfl, ?hy0b⟩) (by assumption) ?rest0b
                  case hy0b => (intro wq hSq; (try dsimp only at hSq); go_simp; try with_reducible rfl)
                  try simp only [Act.put, List.setIfInBounds_toArray, List.set_cons_zero, List.set_cons_succ]
                  refine wpAnyH_take (i := 1) (oi := { dst := some 68, op := Op.unOp UnOp.not 4 (Operand.tmp 67), type := 4, pos := "signature.go:203", after := #[{ on := 0, ground := Ground.data }], guard := none }) (v := ?v1b) rfl (by kernel_rfl) (by kernel_rfl) (by kernel_rfl) (fun _ _ _ h => h) (Or.inl ⟨by rfl, ?hy1b⟩) (by assumption) ?rest1b
                  case hy1b => (intro wq hSq; (try dsimp only at hSq); go_simp; try with_reducible rfl)
                  try simp only [Act.put, List.setIfInBounds_toArray, List.set_cons_zero, List.set_cons_succ]
                  refine wpAnyH_take (i := 2) (oi := { dst := some 69, op := Op.move (Operand.tmp 68), type := 4, pos := "signature.go:203", after := #[{ on := 1, ground := Ground.data }], guard := none }) (v := ?v2b) rfl (by kernel_rfl) (by kernel_rfl) (by kernel_rfl) (fun _ _ _ h => h) (Or.inl ⟨by rfl, ?hy2b⟩) (by assumption) ?rest2b
                  case hy2b => (intro wq hSq; (try dsimp only at hSq); go_simp; try with_reducible rfl)
                  try simp only [Act.put, List.setIfInBounds_toArray, List.set_cons_zero, List.set_cons_succ]
                  refine wpAnyH_take (i := 3) (oi := { dst := some 70, op := Op.load 104 (Operand.tmp 2), type := 104, pos := "signature.go:203", after := #[{ on := 2, ground := Ground.guard }], guard := some (2, false) }) (v := ?v3b) rfl (by kernel_rfl) (by kernel_rfl) (by kernel_rfl) (fun _ _ _ h => h) (Or.inl ⟨by rfl, ?hy3b⟩) (by assumption) ?rest3b
                  case hy3b => (intro wq hSq; (try dsimp only at hSq); go_simp; try with_reducible rfl)
                  try simp only [Act.put, List.setIfInBounds_toArray, List.set_cons_zero, List.set_cons_succ]
                  refine wpAnyH_take (i := 4) (oi := { dst := some 71, op := Op.nilCheck (Operand.tmp 70), type := 0, pos := "signature.go:203", after := #[{ on := 3, ground := Ground.data }, { on := 2, ground := Ground.guard }], guard := some (2, false) }) (v := ?v4b) rfl (by kernel_rfl) (by kernel_rfl) (by kernel_rfl) (fun _ _ _ h => h) (Or.inl ⟨by rfl, ?hy4b⟩) (by assumption) ?rest4b
                  case hy4b => (intro wq hSq; (try dsimp only at hSq); go_simp; try with_reducible rfl)
                  try simp only [Act.put, List.setIfInBounds_toArray, List.set_cons_zero, List.set_cons_succ]
                  refine wpAnyH_take (i := 5) (oi := { dst := some 72, op := Op.load 63 (Operand.tmp 71), type := 63, pos := "signature.go:203", after := #[{ on := 4, ground := Ground.data }, { on := 2, ground := Ground.guard }], guard := some (2, false) }) (v := ?v5b) rfl (by kernel_rfl) (by kernel_rfl) (by kernel_rfl) (fun _ _ _ h => h) (Or.inl ⟨by rfl, ?hy5b⟩) (by assumption) ?rest5b
                  case hy5b => (intro wq hSq; (try dsimp only at hSq); go_simp; try with_reducible rfl)
                  try simp only [Act.put, List.setIfInBounds_toArray, List.set_cons_zero, List.set_cons_succ]
                  refine wpAnyH_take (i := 6) (oi := { dst := some 73, op := Op.fieldAddr 50 (Operand.tmp 9) 2, type := 0, pos := "signature.go:203", after := #[{ on := 2, ground := Ground.guard }], guard := some (2, false) }) (v := ?v6b) rfl (by kernel_rfl) (by kernel_rfl) (by kernel_rfl) (fun _ _ _ h => h) (Or.inl ⟨by rfl, ?hy6b⟩) (by assumption) ?rest6b
                  case hy6b => (intro wq hSq; (try dsimp only at hSq); go_simp; try with_reducible rfl)
                  try simp only [Act.put, List.setIfInBounds_toArray, List.set_cons_zero, List.set_cons_succ]
                  refine wpAnyH_take (i := 7) (oi := { dst := some 74, op := Op.load 34 (Operand.tmp 73), type := 34, pos := "signature.go:203", after := #[{ on := 6, ground := Ground.data }, { on := 2, ground := Ground.guard }], guard := some (2, false) }) (v := ?v7b) rfl (by kernel_rfl) (by kernel_rfl) (by kernel_rfl) (fun _ _ _ h => h) (Or.inl ⟨by rfl, ?hy7b⟩) (by assumption) ?rest7b
                  case hy7b => (intro wq hSq; (try dsimp only at hSq); go_simp; try with_reducible rfl)
                  try simp only [Act.put, List.setIfInBounds_toArray, List.set_cons_zero, List.set_cons_succ]
                  refine wpAnyH_take (i := 8) (oi := { dst := some 75, op := Op.move (Operand.tmp 11), type := 34, pos := "signature.go:203", after := #[{ on := 2, ground := Ground.guard }], guard := some (2, false) }) (v := ?v8b) rfl (by kernel_rfl) (by kernel_rfl) (by kernel_rfl) (fun _ _ _ h => h) (Or.inl ⟨by rfl, ?hy8b⟩) (by assumption) ?rest8b
                  case hy8b => (intro wq hSq; (try dsimp only at hSq); go_simp; try with_reducible rfl)
                  try simp only [Act.put, List.setIfInBounds_toArray, List.set_cons_zero, List.set_cons_succ]
                  refine wpAnyH_ready (rs := [9]) (by kernel_rfl) (by simp) ?_
                  refine AllReadyH.cons rfl (fun K hK => ?_) AllReadyH.nil
                  go_simp
                  go_wp2_with (go_at_call 55; (with_reducible refine LS.out.mono ?_); rintro e w8 ⟨rfl, hb8⟩; have hb8 : Below W2.heap.size W2 w8 := ((Below.refl _ W2).drew).trans hb8; have RB8 := Lib.hid ((hb8.block _ (by omega)).trans RB2.out); have RA8 := Lib.hid ((hb8.block _ (by omega)).trans RA2.out); have RG8 := Lib.hid ((hb8.block _ (Array.getElem?_eq_some_iff.1 RG2.out).1).trans RG2.out); have RS8 := Lib.hid ((hb8.block _ (by omega)).trans RS2.out))
                  refine hK.out _ _ ?_ (fun hHeldN => ?_)
                  · (try dsimp only); exact keep14 RB8.out RG8.out RA8.out
                  clear hK K hHeld
                  have hHeld := hHeldN
                  clear hHeldN
                  have HB8 := Lib.hid (HB2.out.trans (hb8.mono hz2))
                  clear hb8
                  refine wpAnyH_take (i := 10) (oi := { dst := some 77, op := Op.unOp UnOp.not 4 (Operand.tmp 76), type := 4, pos := "signature.go:203", after := #[{ on := 9, ground := Ground.data }, { on := 2, ground := Ground.guard }], guard := some (2, false) }) (v := ?v10b) rfl (by kernel_rfl) (by kernel_rfl) (by kernel_rfl) (fun _ _ _ h => h) (Or.inl ⟨by rfl, ?hy10b⟩) (by assumption) ?rest10b
                  case hy10b => (intro wq hSq; (try dsimp only at hSq); go_simp; try with_reducible rfl)
                  try simp only [Act.put, List.setIfInBounds_toArray, List.set_cons_zero, List.set_cons_succ]
                  refine wpAnyH_take (i := 11) (oi := { dst := some 78, op := Op.pick (Operand.tmp 69) (Operand.const (Value.bool true)) (Operand.tmp 77), type := 4, pos := "signature.go:203", after := #[{ on := 2, ground := Ground.data }, { on := 10, ground := Ground.data }], guard := none }) (v := ?v11b) rfl (by kernel_rfl) (by kernel_rfl) (by kernel_rfl) (fun _ _ _ h => h) (Or.inl ⟨by rfl, ?hy11b⟩) (by assumption) ?rest11b
                  case hy11b => (intro wq hSq; (try dsimp only at hSq); go_simp; try with_reducible rfl)
                  try simp only [Act.put, List.setIfInBounds_toArray, List.set_cons_zero, List.set_cons_succ]
                  refine wpAnyH_done (by kernel_rfl) ?_ _
                  have c8 : w8.cell? ⟨w.heap.size + 1, 0, none⟩ = some (.int .i64 0) := by rw [cell_of_row _ _ 0 _ _ _ RS8.out]; rfl
                  have f8 : w8.frozen? ⟨w.heap.size + 1, 0, none⟩ = false := frozen_of_row _ _ 0 _ _ RS8.out
                  gi_wp2_with fail
                  exact stop12 (p := ∃ z ∈ pre ++ [q], regOne cs abl rs (x, y, ls) z = false) (W1 := w8) HB8.out HW.out hWB RS8.out ⟨q, by simp, HO.out⟩ (by omega)

          · have hEz : E = 0 := by rw [hI.out, range_end _ _ _ (by omega)]; rfl
            have r5 : wr.heap[w.heap.size + 1]? = some (.cells #[.int .i64 0] 35 (0, 0)) := (hB.block _ (by have := HBZ.out.size; omega)).trans ((HBZ.out.block _ (by omega)).trans R2.out)
            have c5 : wr.cell? ⟨w.heap.size + 1, 0, none⟩ = some (.int .i64 0) := by rw [cell_of_row _ _ 0 _ _ _ r5]; rfl
            have f5 : wr.frozen? ⟨w.heap.size + 1, 0, none⟩ = false := frozen_of_row _ _ 0 _ _ r5
            have R5 := Lib.hid r5
            have HEZ := Lib.hid hEz
            have hzn : w.heap.size + 2 ≤ wn.heap.size := by have := HBZ.out.size; omega
            clear r5 hEz hI
            go_wp2_with fail
            have hM5 : MarksAt wn.heap.size (wr.setCell ⟨w.heap.size + 1, 0, none⟩ (.int .i64 0)) dfs := hM.of_block fun d' hd' r hr => by
              have g2 := hM.ge d' hd' r hr
              exact Below.heap_setCell wr _ _ _ (by simp; omega)
            refine leaves_marks (B := wn.heap.size) _ _ hM5 fun w' hb' => ?_
            have h3 : w'.heap[w.heap.size + 1]? = some (.cells #[.int .i64 0] 35 (0, 0)) := (hb'.block _ (by omega)).trans (heap_setCell_same wr _ 0 _ 35 _ R5.out)
            exact ⟨_, results_cell_int rfl _ _ (w.heap.size + 1) 0 rfl (by rw [cell_of_row _ _ 0 _ _ _ h3]; rfl), by rw [HEZ.out], ((HBN.out.trans (hB.mono HBN.out.size)).setCell (p := ⟨w.heap.size + 1, 0, none⟩) (Nat.le_succ _) _).trans (hb'.mono (by omega))⟩

      · intro s c kl y ps w3 cnt' hkey hlk hv hat hrg1 hlt hg1 hs1 hen
        have hkl : kl = .string s := by
          simp only [keyOf, Tryz.underlying9] at hkey
          simp [mapKey, Tryz.underlying9] at hkey
          exact hkey.2.symm
        subst hkl
        have hhas := Maps.has_true_of_atKey hat
        have hin : inNs (cs.map Prod.fst) s = true := (HDK.out s).1.symm.trans hhas
        have hc : c = ((ixOf (cs.map Prod.fst) s : Nat) : Int) := by
          obtain ⟨c', hc', hy', _⟩ := plainElem_int_inv Tryz.underlying3 hv
          injection hc' with _ hc'
          subst hc'
          have h1 := hat (.lit (.int .i64 0))
          injection hy' with hy' _
          rw [(HDK.out s).2, hy'] at h1
          injection h1 with h1
          injection h1 with _ h1
          exact h1.symm
        subst hc
        have hix := ixOf_lt hin
        rw [List.length_map] at hix
        have hnw : wr.heap[w.heap.size + 2]? = w3.heap[w.heap.size + 2]? := (hg1.block _ (by have := (Array.getElem?_eq_some_iff.1 hV.out).1; omega) (by intro e; injection e; omega)).symm
        have hN3 := hN.out.below hnw.symm
        have hV3 : Hid (w3.heap[w1.heap.size]? = some (.cells #[.slice (some ⟨w.heap.size + 2, 0, none⟩) cs.length cs.length] 27 (0, 0))) := (hg1.block _ (by have := (Array.getElem?_eq_some_iff.1 hV.out).1; omega) (by intro e; injection e; omega)).trans hV.out
        have hB3 : Below (w.heap.size + 2) ((w.alloc (Obj.cells #[.pointer (some ⟨gb, 0, none⟩)] 104)).alloc (Obj.cells #[.int .i64 0] 35)) w3 := hB.grown hg1 (by have := hB.size; omega) (fun r e => by cases e; omega)
        obtain ⟨vold, n1, n2, _⟩ := hN3 (ixOf (cs.map Prod.fst) s) (by rw [List.length_map]; exact hix)
        have v1 : w3.cell? ⟨w1.heap.size, 0, none⟩ = some (.slice (some ⟨w.heap.size + 2, 0, none⟩) cs.length cs.length) := by rw [cell_of_row _ _ 0 _ _ _ hV3.out]; rfl
        have HN4 : Hid (NmRow (w3.setCell ⟨w.heap.size + 2, ixOf (cs.map Prod.fst) s, none⟩ (.string (bs s))) (w.heap.size + 2) (cs.map Prod.fst) (fun z => left z && !z.sameKey (.string s))) := hN3.set HND.out hin
        have hgS : w3.grownBy (w3.setCell ⟨w.heap.size + 2, ixOf (cs.map Prod.fst) s, none⟩ (.string (bs s))) (some (w.heap.size + 2)) := by
          first | exact World.grownBy_setCell _ _ _ | exact grownBy_setCell _ _ _
        have hrg2 := hrg1.kept hgS (fun e => by have := Option.some.inj e; have := HGA.out.cls.lt; omega) (fun e => by have := Option.some.inj e; omega)
        have HIN := Lib.hid hin
        clear hin hN3 hnw hhas hat hv hkey hlk hN hV hB hg1 hs1
        generalize hx : ixOf (cs.map Prod.fst) s = x at *
        go_wp2_with fail
        go_roundw
        case rel => exact ⟨_, cnt', by rw [List.length_map]; exact hrg2, HN4, (heap_setCell_other _ _ _ _ (show w1.heap.size ≠ w.heap.size + 2 by omega)).trans hV3.out, hB3.setCell (p := ⟨w.heap.size + 2, x, none⟩) (Nat.le_refl _) _⟩
        case measure => rw [hrg2.left_eq, hrg.left_eq]; exact hlt
end Go.Proofs.YtehnikgdjnmfcaaGreat

