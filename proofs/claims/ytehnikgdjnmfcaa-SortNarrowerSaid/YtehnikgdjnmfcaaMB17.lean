/- The reference: arity, IsNormal. -/
import Derived.Test.YtehnikgdjnmfcaaMB9
import Derived.Test.YtehnikgdjnmfcaaMB16
namespace Go.Proofs.Ytehnikgdjnmfcaa
open Go.RowKit Go.WideMaps Go.Shelf

abbrev Ar := Nm × Nm × List (List Nm)
def ar0 : Ar := ([], [], [])
def arKey (a : Ar) : Nm × Nm := (a.1, a.2.1)

def inP (ks : List (Nm × Nm)) (q : Nm × Nm) : Bool := decide (q ∈ ks)
def ixP (ks : List (Nm × Nm)) (q : Nm × Nm) : Nat := if q ∈ ks then ks.idxOf q else 0
/-- the index of a key, -1 for none -/
def arI (ks : List (Nm × Nm)) (q : Nm × Nm) : Int := if inP ks q = true then ((ixP ks q : Nat) : Int) else -1

theorem arI_in {ks : List (Nm × Nm)} {q : Nm × Nm} (h : inP ks q = true) : arI ks q = ((ixP ks q : Nat) : Int) := by unfold arI; rw [if_pos h]
theorem arI_out {ks : List (Nm × Nm)} {q : Nm × Nm} (h : inP ks q = false) : arI ks q = -1 := by unfold arI; rw [if_neg (by rw [h]; decide)]

theorem inP_snoc (ks : List (Nm × Nm)) (x q : Nm × Nm) : inP (ks ++ [x]) q = (inP ks q || decide (q = x)) := by
  unfold inP
  rw [Bool.eq_iff_iff]; simp

theorem ixP_lt {ks : List (Nm × Nm)} {q : Nm × Nm} (h : inP ks q = true) : ixP ks q < ks.length := by
  have hi := of_decide_eq_true h
  unfold ixP; rw [if_pos hi]; exact List.idxOf_lt_length_of_mem hi

theorem ixP_at {ks : List (Nm × Nm)} {q : Nm × Nm} (h : inP ks q = true) (d : Nm × Nm) : ks.getD (ixP ks q) d = q := by
  have hi := of_decide_eq_true h
  have hl := ixP_lt h
  rw [List.getD_eq_getElem?_getD, List.getElem?_eq_getElem hl, Option.getD_some]
  unfold ixP
  simp only [hi, if_true]
  exact List.getElem_idxOf _

theorem ixP_first {ks : List (Nm × Nm)} {k : Nat} {q : Nm × Nm} (d : Nm × Nm) (hk : k < ks.length) (hn : inP (ks.take k) q = false) (he : ks.getD k d = q) : inP ks q = true ∧ ixP ks q = k := by
  have e : ks = ks.take k ++ q :: ks.drop (k + 1) := by
    conv => lhs; rw [← List.take_append_drop k ks, List.drop_eq_getElem_cons hk]
    have : ks[k] = q := by rw [← he, List.getD_eq_getElem?_getD, List.getElem?_eq_getElem hk]; rfl
    rw [this]
  have hn' : q ∉ ks.take k := of_decide_eq_false hn
  have hm : q ∈ ks := by rw [e]; simp
  refine ⟨decide_eq_true hm, ?_⟩
  unfold ixP
  rw [if_pos hm]
  conv => lhs; rw [e]
  rw [List.idxOf_append, if_neg hn']
  simp; omega

theorem ixP_take {ks : List (Nm × Nm)} {k : Nat} {q : Nm × Nm} (h : inP (ks.take k) q = true) : inP ks q = true ∧ ixP ks q = ixP (ks.take k) q := by
  have h' : q ∈ ks.take k := of_decide_eq_true h
  have hm : q ∈ ks := List.mem_of_mem_take h'
  refine ⟨decide_eq_true hm, ?_⟩
  unfold ixP
  rw [if_pos hm, if_pos h']
  conv => lhs; rw [← List.take_append_drop k ks]
  rw [List.idxOf_append, if_pos h']

/-- arities in memory -/
def SlAr (w : World) (v : Value) (rs : List Ar) : Prop :=
  rs.length ≤ maxLen ∧ ∃ a cap, v = .slice a rs.length cap ∧ (0 < rs.length → ∃ b off, a = some ⟨b, off, none⟩ ∧ b < w.heap.size ∧
    ∀ k, k < rs.length → w.cell? ⟨b, off + k * 3, none⟩ = some (.string (bs (rs.getD k ar0).1)) ∧ (rs.getD k ar0).1.length ≤ maxLen ∧ w.cell? ⟨b, off + k * 3 + 1, none⟩ = some (.string (bs (rs.getD k ar0).2.1)) ∧ (rs.getD k ar0).2.1.length ≤ maxLen ∧
      ∃ p c, w.cell? ⟨b, off + k * 3 + 2, none⟩ = some (.slice p (rs.getD k ar0).2.2.length c) ∧ SlSs w (.slice p (rs.getD k ar0).2.2.length c) (rs.getD k ar0).2.2)

theorem SlSs.below {w w' : World} {B : Nat} {v : Value} {ls : List (List Nm)} (h : SlSs w v ls) (hb : Below B w w') (hB : w.heap.size ≤ B) : SlSs w' v ls := by
  obtain ⟨h1, a, cap, h2, h3⟩ := h
  refine ⟨h1, a, cap, h2, fun h => ?_⟩
  obtain ⟨b, off, h4, h5, h6⟩ := h3 h
  refine ⟨b, off, h4, by have := hb.size; omega, fun k hk => ?_⟩
  obtain ⟨p, c, g1, g2⟩ := h6 k hk
  exact ⟨p, c, (hb.cell (p := ⟨b, _, none⟩) (by simp; omega)).trans g1, g2.below hb hB⟩

theorem SlAr.below {w w' : World} {B : Nat} {v : Value} {rs : List Ar} (h : SlAr w v rs) (hb : Below B w w') (hB : w.heap.size ≤ B) : SlAr w' v rs := by
  obtain ⟨h1, a, cap, h2, h3⟩ := h
  refine ⟨h1, a, cap, h2, fun h => ?_⟩
  obtain ⟨b, off, h4, h5, h6⟩ := h3 h
  refine ⟨b, off, h4, by have := hb.size; omega, fun k hk => ?_⟩
  obtain ⟨g1, g2, g3, g4, p, c, g5, g6⟩ := h6 k hk
  exact ⟨(hb.cell (p := ⟨b, _, none⟩) (by simp; omega)).trans g1, g2, (hb.cell (p := ⟨b, _, none⟩) (by simp; omega)).trans g3, g4, p, c, (hb.cell (p := ⟨b, _, none⟩) (by simp; omega)).trans g5, g6.below hb hB⟩

theorem key_at (rs : List Ar) (k : Nat) (hk : k < rs.length) : (rs.map arKey).getD k ([], []) = arKey (rs.getD k ar0) := by
  rw [List.getD_eq_getElem?_getD, List.getElem?_map, List.getElem?_eq_getElem hk, List.getD_eq_getElem?_getD, List.getElem?_eq_getElem hk]; rfl

theorem keys_take (rs : List Ar) (k : Nat) (hk : k < rs.length) : (rs.map arKey).take (k + 1) = (rs.map arKey).take k ++ [arKey (rs.getD k ar0)] := by
  rw [← List.map_take, ← List.map_take, take_snocD rs ar0 k hk, List.map_append]; rfl

set_option maxHeartbeats 8000000 in
theorem arity_any (n c t2 t3 t4 t5 t6 : Value) (x y : Nm) (rs : List Ar) (w : World) (ha : SlAr w t3 rs) :
    Calls Try.prog 56 #[.agg #[n, c, t2, t3, t4, t5, t6], .string (bs x), .string (bs y)] w fun e w' => e = .returned (.int .i64 (arI (rs.map arKey) (x, y))) ∧ Below w.heap.size w w' := by
  have hb0 := below_alloc w (Obj.cells #[n, c, t2, t3, t4, t5, t6] 29)
  have HA := Lib.hid (ha.below hb0 (Nat.le_refl _))
  obtain ⟨hl, aa, acap, rfl, _⟩ := ha
  unfold maxLen at hl
  have H0 : Hid (inP ((rs.map arKey).take 0) (x, y) = false) := by unfold Hid; simp [inP]
  have HB := Lib.hid hb0
  clear hb0
  go_enter Try.func56, Try.ntmps56
  go_wp2_with fail
  go_loop [7] (fun i => ∃ k : Nat, k ≤ rs.length ∧ i = .int .i64 k ∧ Hid (inP ((rs.map arKey).take k) (x, y) = false)) (fun i => rs.length - (intOf i).toNat)
  case atStart => exact ⟨0, by omega, rfl, H0⟩
  case round =>
    obtain ⟨k, hk, rfl, hI⟩ := hrel
    by_cases hlt : k < rs.length
    · obtain ⟨_, aa', acap', hee, hsx⟩ := HA.out
      injection hee with hee _ hee2
      subst hee hee2
      obtain ⟨b, off, rfl, hb, hcl⟩ := hsx (by omega)
      obtain ⟨g0, _, g1, _⟩ := hcl k hlt
      have htk : Hid ((rs.map arKey).take (k + 1) = (rs.map arKey).take k ++ [((rs.getD k ar0).1, (rs.getD k ar0).2.1)]) := keys_take rs k hlt
      have hfx : Hid (((rs.getD k ar0).1, (rs.getD k ar0).2.1) = (x, y) → inP (rs.map arKey) (x, y) = true ∧ ixP (rs.map arKey) (x, y) = k) := fun he => ixP_first (ks := rs.map arKey) (q := (x, y)) (k := k) ([], []) (by simpa using hlt) hI.out ((key_at rs k hlt).trans he)
      clear hcl hsx H0
      generalize hx : (rs.getD k ar0).1 = a at *
      generalize hy : (rs.getD k ar0).2.1 = d at *
      clear hx hy
      by_cases h1 : a = x
      · have hq1 : ((bs a).toList == (bs x).toList) = true := by rw [bs_eq]; exact decide_eq_true h1
        by_cases h2 : d = y
        · have hq2 : ((bs d).toList == (bs y).toList) = true := by rw [bs_eq]; exact decide_eq_true h2
          obtain ⟨h3, h4⟩ := hfx.out (by rw [h1, h2])
          have HR : Hid (arI (rs.map arKey) (x, y) = ((k : Nat) : Int)) := by unfold Hid; rw [arI_in h3, h4]
          clear h1 h2 h3 h4 hfx htk hI
          go_wp2_with fail
          go_ret
          exact ⟨by rw [HR.out]; rfl, HB.out⟩
        · have hq2 : ((bs d).toList == (bs y).toList) = false := by rw [bs_eq]; exact decide_eq_false h2
          have hst : Hid (inP ((rs.map arKey).take (k + 1)) (x, y) = false) := by
            unfold Hid; rw [htk.out, inP_snoc]
            rw [hI.out, decide_eq_false (fun e => h2 (by injection e with _ e; exact e.symm))]; rfl
          clear h1 h2 hfx htk hI
          go_wp2_with fail
          go_round
          case rel => exact ⟨k + 1, by omega, by go_num, hst⟩
          case measure => simp [intOf]; omega
      · have hq1 : ((bs a).toList == (bs x).toList) = false := by rw [bs_eq]; exact decide_eq_false h1
        have hst : Hid (inP ((rs.map arKey).take (k + 1)) (x, y) = false) := by
          unfold Hid; rw [htk.out, inP_snoc]
          rw [hI.out, decide_eq_false (fun e => h1 (by injection e with e _; exact e.symm))]; rfl
        clear h1 hfx htk hI
        go_wp2_with fail
        go_round
        case rel => exact ⟨k + 1, by omega, by go_num, hst⟩
        case measure => simp [intOf]; omega
    · have HR : Hid (arI (rs.map arKey) (x, y) = -1) := by
        unfold Hid
        refine arI_out ?_
        have := hI.out
        rw [List.take_of_length_le (by simp; omega)] at this; exact this
      clear hI H0
      go_wp2_with fail
      go_ret
      exact ⟨by rw [HR.out]; rfl, HB.out⟩

/-- whether a sort is normal -/
def normB (ns : List Nm) (abv : Nat → List Nat) (ss : List Nm) : Bool := ss.all (inNs ns) && (decide (ss.length ≤ 20) && decide (leastB ns abv ss = ss))

theorem take_ext (l s : List Nm) (k : Nat) (hk : k < l.length) (hs : k < s.length) (h : l.take k = s.take k) : l.take (k + 1) = s.take (k + 1) ↔ l.getD k [] = s.getD k [] := by
  rw [take_snocD l [] k hk, take_snocD s [] k hs, h]
  simp

set_option maxRecDepth 100000 in
set_option maxHeartbeats 8000000 in
theorem isNormal_any (n c t2 t3 t4 t5 t6 v : Value) (cs : List (Nm × List Nm)) (sp ab : List (List Nat)) (ss : List Nm) (w : World) (hc : SlC w c cs) (hbu : Built cs sp ab) (h300 : cs.length ≤ 300) (hs : SlS w v ss) :
    Calls Try.prog 57 #[.agg #[n, c, t2, t3, t4, t5, t6], v] w fun e w' => e = .returned (.bool (normB (cs.map Prod.fst) (fun i => ab.getD i []) ss)) ∧ Below w.heap.size w w' := by
  have hb0 := below_alloc w (Obj.cells #[n, c, t2, t3, t4, t5, t6] 29)
  have HC := Lib.hid hc
  have HS := Lib.hid hs
  have r0 := Lib.hid (heap_alloc_new w (Obj.cells #[n, c, t2, t3, t4, t5, t6] 29))
  have hz0 : w.heap.size < (w.alloc (Obj.cells #[n, c, t2, t3, t4, t5, t6] 29)).heap.size := by simp
  have HBU := Lib.hid hbu
  obtain ⟨_, ca, ccap, rfl, _⟩ := hc
  obtain ⟨hsl, sa, scap, rfl, _⟩ := hs
  unfold maxLen at hsl
  clear hbu
  have K1 := Lib.hid (rknown_any n _ t2 t3 t4 t5 t6 _ ss cs _ (HC.out.below hb0 (Nat.le_refl _)) (HS.out.below hb0 (Nat.le_refl _)))
  go_enter Try.func57, Try.ntmps57
  by_cases h1 : ss.all (inNs (cs.map Prod.fst)) = true
  · rw [h1] at K1
    have H1 := Lib.hid h1
    clear h1
    by_cases h20 : 20 < ss.length
    · have hd : decide (20 < ((ss.length : Nat) : Int)) = true := by simp; omega
      have HR : Hid (normB (cs.map Prod.fst) (fun i => ab.getD i []) ss = false) := by unfold Hid normB; rw [H1.out, decide_eq_false (by omega)]; rfl
      go_wp2_with fail
      refine K1.out.mono ?_
      rintro e w1 ⟨rfl, hb1⟩
      go_wp2_with fail
      go_ret
      exact ⟨ret_bool HR.out.symm, hb0.trans (hb1.mono (by omega))⟩
    · have hd : decide (20 < ((ss.length : Nat) : Int)) = false := by simp; omega
      have HR : Hid (normB (cs.map Prod.fst) (fun i => ab.getD i []) ss = decide (leastB (cs.map Prod.fst) (fun i => ab.getD i []) ss = ss)) := by unfold Hid normB; rw [H1.out, decide_eq_true (show ss.length ≤ 20 by omega)]; rfl
      go_wp2_with fail
      refine K1.out.mono ?_
      rintro e w1 ⟨rfl, hb1⟩
      have hB1 : Below w.heap.size w w1 := hb0.trans (hb1.mono (by omega))
      have hz1 : w.heap.size < w1.heap.size := Nat.lt_of_lt_of_le hz0 hb1.size
      have r1 := Lib.hid ((hb1.block w.heap.size hz0).trans r0.out)
      have LE := Lib.hid (rleast_any n _ t2 t3 t4 t5 t6 _ cs sp ab ss w1 (HC.out.below hB1 (Nat.le_refl _)) HBU.out h300 (HS.out.below hB1 (Nat.le_refl _)) (by omega) H1.out)
      clear hb1 hb0 hz0 r0 K1
      obtain ⟨c0, c1, c2, c3, c4, c5, c6⟩ := cells7' r1.out
      obtain ⟨L, hL⟩ : ∃ L, L = leastB (cs.map Prod.fst) (fun i => ab.getD i []) ss := ⟨_, rfl⟩
      have HR2 := HR.out
      rw [← hL] at LE HR2
      have HRR := Lib.hid HR2
      clear hL HR HR2
      go_wp2_with fail
      refine LE.out.mono ?_
      rintro e w2 ⟨v2, rfl, ho2, hb2⟩
      have hB2 : Below w.heap.size w w2 := hB1.trans (hb2.mono (Nat.le_of_lt hz1))
      have HO2 := Lib.hid ho2.sl
      have HSS := Lib.hid (HS.out.below hB2 (Nat.le_refl _))
      obtain ⟨hll, _, la, lcap, rfl, _⟩ := ho2
      clear c0 c1 c2 c3 c4 c5 c6 hb2 r1 LE
      by_cases hlen : L.length = ss.length
      · have hd2 : (((L.length : Nat) : Int) != ((ss.length : Nat) : Int)) = false := by simp [hlen]
        have H0 : Hid (L.take 0 = ss.take 0) := rfl
        go_wp2_with fail
        go_loopw [6] (fun u wr => ∃ k : Nat, k ≤ L.length ∧ u = .int .i64 k ∧ Hid (L.take k = ss.take k) ∧ Below w2.heap.size w2 wr) (fun u _ => L.length - (intOf u).toNat)
        case atStart => exact ⟨0, by omega, rfl, H0, Below.refl _ _⟩
        case round =>
          obtain ⟨k, hk, rfl, hI, hB⟩ := hrel
          clear H0
          have hBw : Below w.heap.size w wr := hB2.trans (hB.mono (by have := hB2.size; omega))
          by_cases hlt : k < L.length
          · obtain ⟨b1, o1, x1, rfl, hb1, hc1, hw1, hx1⟩ := (HO2.out.below hB (Nat.le_refl _)).at hlt
            obtain ⟨b3, o3, x3, rfl, hb3, hc3, hw3, hx3⟩ := (HSS.out.below hB (Nat.le_refl _)).at (k := k) (by omega)
            have HIF := Lib.hid (take_ext L ss k hlt (by omega) hI.out)
            have HIF2 : Hid (L.take (k + 1) = ss.take (k + 1) ↔ x1 = x3) := by unfold Hid; rw [HIF.out, hx1, hx3]
            have hlt2 : k < ss.length := by omega
            clear hx1 hx3 HIF hI
            by_cases he : x1 = x3
            · have hq : ((bs x1).toList == (bs x3).toList) = true := by rw [bs_eq]; exact decide_eq_true he
              have hst := Lib.hid (HIF2.out.2 he)
              clear HIF2 he
              go_wp2_with fail
              go_quiet (fail)
              go_wp2_with fail
              go_roundw
              case rel => exact ⟨k + 1, by omega, by go_num, hst, below_drewN hB _⟩
              case measure => simp [intOf]; omega
            · have hq : ((bs x1).toList == (bs x3).toList) = false := by rw [bs_eq]; exact decide_eq_false he
              have hst : Hid (decide (L = ss) = false) := decide_eq_false fun e => he (HIF2.out.1 (by rw [e]))
              clear HIF2 he
              go_wp2_with fail
              go_quiet (fail)
              go_wp2_with fail
              go_ret
              exact ⟨ret_bool (by rw [HRR.out, hst.out]), below_drewN hBw _⟩
          · have hst : Hid (decide (L = ss) = true) := by
              have := hI.out
              rw [List.take_of_length_le (by omega), List.take_of_length_le (by omega)] at this
              exact decide_eq_true this
            clear hI
            go_wp2_with fail
            go_ret
            exact ⟨ret_bool (by rw [HRR.out, hst.out]), hBw⟩
      · have hd2 : (((L.length : Nat) : Int) != ((ss.length : Nat) : Int)) = true := by rw [bne_iff_ne]; omega
        have hst : Hid (decide (L = ss) = false) := decide_eq_false fun e => hlen (by rw [e])
        go_wp2_with fail
        go_ret
        exact ⟨ret_bool (by rw [HRR.out, hst.out]), hB2⟩
  · have h1' : ss.all (inNs (cs.map Prod.fst)) = false := by simpa using h1
    rw [h1'] at K1
    have HR : Hid (normB (cs.map Prod.fst) (fun i => ab.getD i []) ss = false) := by unfold Hid normB; rw [h1']; rfl
    clear h1 h1'
    go_wp2_with fail
    refine K1.out.mono ?_
    rintro e w1 ⟨rfl, hb1⟩
    go_wp2_with fail
    go_ret
    exact ⟨ret_bool HR.out.symm, hb0.trans (hb1.mono (by omega))⟩
end Go.Proofs.Ytehnikgdjnmfcaa

/- The reference: one arity. -/
namespace Go.Proofs.Ytehnikgdjnmfcaa
open Go.RowKit Go.WideMaps Go.Shelf

theorem cells3 {w : World} {k : Nat} {a0 a1 a2 : Value} {t : TypeId} {fr : Nat × Nat} (h : w.heap[k]? = some (.cells #[a0, a1, a2] t fr)) : w.cell? ⟨k, 0, none⟩ = some a0 ∧ w.cell? ⟨k, 1, none⟩ = some a1 ∧ w.cell? ⟨k, 2, none⟩ = some a2 :=
  ⟨by rw [cell_of_row w _ 0 _ _ _ h]; rfl, by rw [cell_of_row w _ 1 _ _ _ h]; rfl, by rw [cell_of_row w _ 2 _ _ _ h]; rfl⟩

/-- the error of a sort of an arity -/
def sort1Err (ns : List Nm) (abv : Nat → List Nat) (s : List Nm) : Int := if 20 < s.length then 5 else if s.all (inNs ns) = false then 9 else if normB ns abv s = false then 14 else 0
def sorts1 (ns : List Nm) (abv : Nat → List Nat) : List (List Nm) → Int
  | [] => 0
  | s :: r => if sort1Err ns abv s = 0 then sorts1 ns abv r else sort1Err ns abv s

/-- the error of an arity behind some others -/
def arErr (ns : List Nm) (abv : Nat → List Nat) (ds : List (Nm × Int)) (pre : List (Nm × Nm)) (a : Ar) : Int :=
  if inNs (ds.map Prod.fst) a.1 = false then 9 else if inNs ns a.2.1 = false then 9 else if inP pre (a.1, a.2.1) = true then 10
  else if ((a.2.2.length : Nat) : Int) ≠ (ds.getD (ixOf (ds.map Prod.fst) a.1) ([], 0)).2 then 5 else sorts1 ns abv a.2.2

theorem arI_own {rs : List Ar} {i : Nat} {x y : Nm} (hi : i < rs.length) (he : arKey (rs.getD i ar0) = (x, y)) :
    (inP ((rs.map arKey).take i) (x, y) = false → arI (rs.map arKey) (x, y) = ((i : Nat) : Int)) ∧
    (inP ((rs.map arKey).take i) (x, y) = true → (arI (rs.map arKey) (x, y) != ((i : Nat) : Int)) = true) := by
  constructor
  · intro h
    obtain ⟨h1, h2⟩ := ixP_first ([], []) (by simpa using hi) h ((key_at rs i hi).trans he)
    rw [arI_in h1, h2]
  · intro h
    obtain ⟨h1, h2⟩ := ixP_take h
    rw [arI_in h1, h2, bne_iff_ne]
    have := ixP_lt h
    rw [List.length_take, List.length_map] at this; omega

theorem type_in (n c t2 t3 t4 t5 t6 : Value) (s : Nm) (ds : List (Nm × Int)) (w : World) (hd : SlT w t2 ds) (h : inNs (ds.map Prod.fst) s = true) :
    Calls Try.prog 55 #[.agg #[n, c, t2, t3, t4, t5, t6], .string (bs s)] w fun e w' => e = .returned (.int .i64 ((ixOf (ds.map Prod.fst) s : Nat) : Int)) ∧ Below w.heap.size w w' := by
  rw [← clsI_in h]; exact type_any n c t2 t3 t4 t5 t6 s ds w hd
theorem type_out (n c t2 t3 t4 t5 t6 : Value) (s : Nm) (ds : List (Nm × Int)) (w : World) (hd : SlT w t2 ds) (h : inNs (ds.map Prod.fst) s = false) :
    Calls Try.prog 55 #[.agg #[n, c, t2, t3, t4, t5, t6], .string (bs s)] w fun e w' => e = .returned (.int .i64 (-1)) ∧ Below w.heap.size w w' := by
  rw [← clsI_out h]; exact type_any n c t2 t3 t4 t5 t6 s ds w hd

set_option maxRecDepth 100000 in
set_option maxHeartbeats 8000000 in
theorem one_any (n c t2 t3 t4 t5 t6 : Value) (cs : List (Nm × List Nm)) (sp ab : List (List Nat)) (ds : List (Nm × Int)) (rs : List Ar) (i : Nat) (w : World) (hc : SlC w c cs) (hbu : Built cs sp ab) (h300 : cs.length ≤ 300) (hd : SlT w t2 ds) (ha : SlAr w t3 rs) (hi : i < rs.length) :
    Calls Try.prog 33 #[.agg #[n, c, t2, t3, t4, t5, t6], .int .i64 i] w fun e w' => e = .returned (.int .i64 (arErr (cs.map Prod.fst) (fun i => ab.getD i []) ds ((rs.map arKey).take i) (rs.getD i ar0))) ∧ Below w.heap.size w w' := by
  have hb0 := below_alloc w (Obj.cells #[n, c, t2, t3, t4, t5, t6] 29)
  have HC := Lib.hid hc
  have HD := Lib.hid hd
  have HA := Lib.hid ha
  have HBU := Lib.hid hbu
  have r0 := Lib.hid (heap_alloc_new w (Obj.cells #[n, c, t2, t3, t4, t5, t6] 29))
  have hz0 : (w.alloc (Obj.cells #[n, c, t2, t3, t4, t5, t6] 29)).heap.size = w.heap.size + 1 := by simp
  obtain ⟨hdl, da, dcap, rfl, hdx⟩ := hd
  obtain ⟨hal, aa, acap, rfl, hax⟩ := ha
  obtain ⟨b, off, rfl, hb, hcl⟩ := hax (by omega)
  obtain ⟨g0w, hnl, g1w, hyl, sp0, sc, g2w, hss⟩ := hcl i hi
  unfold maxLen at hdl hal
  have hown := Lib.hid (arI_own (x := (rs.getD i ar0).1) (y := (rs.getD i ar0).2.1) hi rfl)
  generalize (rs.map arKey).take i = pre at *
  generalize rs.getD i ar0 = ar at *
  obtain ⟨x, y, ls⟩ := ar
  dsimp only at g0w hnl g1w hyl g2w hss
  have hown' := hown.out
  dsimp only at hown'
  have HOWN := Lib.hid hown'
  have HSS := Lib.hid hss
  have g0 := (hb0.cell (p := ⟨b, off + i * 3, none⟩) hb).trans g0w
  have g1 := (hb0.cell (p := ⟨b, off + i * 3 + 1, none⟩) hb).trans g1w
  have g2 := (hb0.cell (p := ⟨b, off + i * 3 + 2, none⟩) hb).trans g2w
  have HDX := Lib.hid hdx
  have hb1 := below_alloc (w.alloc (Obj.cells #[n, c, .slice da ds.length dcap, .slice (some ⟨b, off, none⟩) rs.length acap, t4, t5, t6] 29)) (Obj.cells #[.string (bs x), .string (bs y), .slice sp0 ls.length sc] 58)
  have q1 := heap_alloc_new (w.alloc (Obj.cells #[n, c, .slice da ds.length dcap, .slice (some ⟨b, off, none⟩) rs.length acap, t4, t5, t6] 29)) (Obj.cells #[.string (bs x), .string (bs y), .slice sp0 ls.length sc] 58)
  rw [hz0] at q1
  have Q1 := Lib.hid q1
  have R1 := Lib.hid ((hb1.block w.heap.size (by omega)).trans r0.out)
  have hB1 : Below w.heap.size w ((w.alloc (Obj.cells #[n, c, .slice da ds.length dcap, .slice (some ⟨b, off, none⟩) rs.length acap, t4, t5, t6] 29)).alloc (Obj.cells #[.string (bs x), .string (bs y), .slice sp0 ls.length sc] 58)) := hb0.trans (hb1.mono (by omega))
  have hz1 : w.heap.size + 1 < ((w.alloc (Obj.cells #[n, c, .slice da ds.length dcap, .slice (some ⟨b, off, none⟩) rs.length acap, t4, t5, t6] 29)).alloc (Obj.cells #[.string (bs x), .string (bs y), .slice sp0 ls.length sc] 58)).heap.size := by simp
  clear hown hown' hss g0w g1w g2w hcl hdx q1 hb1 hax
  obtain ⟨E, hE⟩ : ∃ E, E = arErr (cs.map Prod.fst) (fun i => ab.getD i []) ds pre (x, y, ls) := ⟨_, rfl⟩
  have HE := Lib.hid hE
  rw [← hE]
  clear hE
  go_enter Try.func33, Try.ntmps33
  go_wp2_with fail
  generalize ((w.alloc (Obj.cells #[n, c, .slice da ds.length dcap, .slice (some ⟨b, off, none⟩) rs.length acap, t4, t5, t6] 29)).alloc (Obj.cells #[.string (bs x), .string (bs y), .slice sp0 ls.length sc] 58)) = w1 at *
  have r1 := R1
  have q1 := Q1
  clear R1 Q1 hb0 r0 g0 g1 g2
  by_cases htx : inNs (ds.map Prod.fst) x = true
  · refine (type_in n c _ _ t4 t5 t6 x ds w1 (HD.out.below hB1 (Nat.le_refl _)) htx).mono ?_
    rintro e w2 ⟨rfl, hb2⟩
    have hB2 : Below w.heap.size w w2 := hB1.trans (hb2.mono (by omega))
    have hz2 : w.heap.size + 1 < w2.heap.size := Nat.lt_of_lt_of_le hz1 hb2.size
    have r2 := Lib.hid ((hb2.block w.heap.size (by omega)).trans r1.out)
    have q2 := Lib.hid ((hb2.block (w.heap.size + 1) (by omega)).trans q1.out)
    clear hb2
    have hix : ixOf (ds.map Prod.fst) x < ds.length := by have := ixOf_lt htx; simpa using this
    obtain ⟨bd, offd, rfl, hbd, hdcl⟩ := HDX.out (by omega)
    obtain ⟨_, _, gd⟩ := hdcl _ hix
    have HTX : Hid (¬ inNs (ds.map Prod.fst) x = false) := by unfold Hid; rw [htx]; decide
    have GD := Lib.hid gd
    have HE2 : Hid (E = if inNs (cs.map Prod.fst) y = false then 9 else if inP pre (x, y) = true then 10 else if ((ls.length : Nat) : Int) ≠ (ds.getD (ixOf (ds.map Prod.fst) x) ([], 0)).2 then 5 else sorts1 (cs.map Prod.fst) (fun i => ab.getD i []) ls) := by
      unfold Hid; rw [HE.out]; unfold arErr; rw [if_neg HTX.out]
    clear hdcl gd htx HE
    generalize (ds.getD (ixOf (ds.map Prod.fst) x) ([], 0)).2 = an at *
    generalize ixOf (ds.map Prod.fst) x = ix at *
    have f1 : decide ((ix : Int) < 0) = false := by simp
    obtain ⟨c0, c1, c2, c3, c4, c5, c6⟩ := cells7' r2.out
    obtain ⟨d0, d1, d2⟩ := cells3 q2.out
    by_cases hty : inNs (cs.map Prod.fst) y = true
    · go_wp2_with fail
      refine (class_in n _ _ _ t4 t5 t6 y cs w2 (HC.out.below hB2 (Nat.le_refl _)) hty).mono ?_
      rintro e w3 ⟨rfl, hb3⟩
      clear c0 c1 c2 c3 c4 c5 c6 d0 d1 d2
      have hB3 : Below w.heap.size w w3 := hB2.trans (hb3.mono (by omega))
      have hz3 : w.heap.size + 1 < w3.heap.size := Nat.lt_of_lt_of_le hz2 hb3.size
      have r3 := Lib.hid ((hb3.block w.heap.size (by omega)).trans r2.out)
      have q3 := Lib.hid ((hb3.block (w.heap.size + 1) (by omega)).trans q2.out)
      clear hb3
      have HTY : Hid (¬ inNs (cs.map Prod.fst) y = false) := by unfold Hid; rw [hty]; decide
      have f2 : decide (((ixOf (cs.map Prod.fst) y : Nat) : Int) < 0) = false := by simp
      clear hty
      generalize ixOf (cs.map Prod.fst) y = iy at *
      obtain ⟨c0, c1, c2, c3, c4, c5, c6⟩ := cells7' r3.out
      obtain ⟨d0, d1, d2⟩ := cells3 q3.out
      have AR := Lib.hid (arity_any n c (.slice (some ⟨bd, offd, none⟩) ds.length dcap) (.slice (some ⟨b, off, none⟩) rs.length acap) t4 t5 t6 x y rs w3 (HA.out.below hB3 (Nat.le_refl _)))
      by_cases hdup : inP pre (x, y) = true
      · have hne := HOWN.out.2 hdup
        have hE10 : Hid (E = 10) := by unfold Hid; rw [HE2.out, if_neg HTY.out, if_pos hdup]
        clear hdup HOWN HE2
        generalize arI (rs.map arKey) (x, y) = j at *
        go_wp2_with fail
        refine AR.out.mono ?_
        rintro e w4 ⟨rfl, hb4⟩
        go_wp2_with fail
        go_ret
        exact ⟨by rw [hE10.out]; rfl, hB3.trans (hb4.mono (by omega))⟩
      · have hdup' : inP pre (x, y) = false := by simpa using hdup
        have hji := HOWN.out.1 hdup'
        rw [hji] at AR
        have HE3 : Hid (E = if ((ls.length : Nat) : Int) ≠ an then 5 else sorts1 (cs.map Prod.fst) (fun i => ab.getD i []) ls) := by unfold Hid; rw [HE2.out, if_neg HTY.out, if_neg hdup]
        clear hdup hdup' HOWN hji HE2
        go_wp2_with fail
        refine AR.out.mono ?_
        rintro e w4 ⟨rfl, hb4⟩
        clear c0 c1 c2 c3 c4 c5 c6 d0 d1 d2
        have hB4 : Below w.heap.size w w4 := hB3.trans (hb4.mono (by omega))
        have hz4 : w.heap.size + 1 < w4.heap.size := Nat.lt_of_lt_of_le hz3 hb4.size
        have r4 := Lib.hid ((hb4.block w.heap.size (by omega)).trans r3.out)
        have q4 := Lib.hid ((hb4.block (w.heap.size + 1) (by omega)).trans q3.out)
        clear hb4
        clear AR
        obtain ⟨c0, c1, c2, c3, c4, c5, c6⟩ := cells7' r4.out
        obtain ⟨d0, d1, d2⟩ := cells3 q4.out
        have gd := (hB4.cell (p := ⟨bd, offd + ix * 2 + 1, none⟩) hbd).trans GD.out
        obtain ⟨hlsm, sp1, sc1, hee, hssx⟩ := HSS.out
        injection hee with e1 e2 e3
        subst e1 e3
        unfold maxLen at hlsm
        by_cases hcnt : ((ls.length : Nat) : Int) = an
        · have f3 : (((ls.length : Nat) : Int) != an) = false := by simp [hcnt]
          have HE4 : Hid (E = sorts1 (cs.map Prod.fst) (fun i => ab.getD i []) (ls.drop 0)) := by unfold Hid; rw [HE3.out, if_neg (fun h => h hcnt)]; rfl
          clear hcnt HE3
          go_wp2_with fail
          go_quiet (fail)
          go_wp2_with fail
          clear c0 c1 c2 c3 c4 c5 c6 d0 d1 d2 gd
          clear r1 q1
          go_loopw [7] (fun u wr => ∃ k : Nat, k ≤ ls.length ∧ u = .int .i64 k ∧ Hid (E = sorts1 (cs.map Prod.fst) (fun i => ab.getD i []) (ls.drop k)) ∧ Below w4.heap.size w4 wr) (fun u _ => ls.length - (intOf u).toNat)
          case atStart => exact ⟨0, by omega, rfl, HE4, below_drewN (Below.refl _ _) _⟩
          case round =>
            obtain ⟨k, hk, rfl, hI, hB5⟩ := hrel
            clear HE4
            have hz5 := hB5.size
            have hBw : Below w.heap.size w wr := hB4.trans (hB5.mono (by omega))
            have r5 := Lib.hid ((hB5.block w.heap.size (by omega)).trans r4.out)
            have q5 := Lib.hid ((hB5.block (w.heap.size + 1) (by omega)).trans q4.out)
            obtain ⟨d0, d1, d2⟩ := cells3 q5.out
            by_cases hlt : k < ls.length
            · obtain ⟨b2, off2, rfl, hb2, hcl2⟩ := hssx (by omega)
              obtain ⟨sp2, sc2, gk, hs2⟩ := hcl2 k hlt
              have hstep : Hid (E = if sort1Err (cs.map Prod.fst) (fun i => ab.getD i []) (ls.getD k []) = 0 then sorts1 (cs.map Prod.fst) (fun i => ab.getD i []) (ls.drop (k + 1)) else sort1Err (cs.map Prod.fst) (fun i => ab.getD i []) (ls.getD k [])) := by
                unfold Hid; rw [hI.out, drop_getD ls [] k hlt]; rfl
              generalize ls.getD k [] = s at *
              have hkc := (hBw.cell (p := ⟨b2, off2 + k, none⟩) hb2).trans gk
              have k5 := Lib.hid hkc
              have HS2 := Lib.hid hs2
              clear hcl2 gk hs2 hI
              by_cases h20 : 20 < s.length
              · have hd20 : decide (20 < ((s.length : Nat) : Int)) = true := by simp; omega
                have hE5 : Hid (E = 5) := by
                  have e : sort1Err (cs.map Prod.fst) (fun i => ab.getD i []) s = 5 := by unfold sort1Err; rw [if_pos h20]
                  unfold Hid; rw [hstep.out, e]; rfl
                clear hstep h20
                go_wp2_with fail
                go_ret
                exact ⟨by rw [hE5.out]; rfl, hBw⟩
              · have hd20 : decide (20 < ((s.length : Nat) : Int)) = false := by simp; omega
                have CK := Lib.hid (rknown_any n c (.slice (some ⟨bd, offd, none⟩) ds.length dcap) (.slice (some ⟨b, off, none⟩) rs.length acap) t4 t5 t6 _ s cs wr.drew (HC.out.below hBw.drew (Nat.le_refl _)) (HS2.out.below hBw.drew (Nat.le_refl _)))
                obtain ⟨c0, c1, c2, c3, c4, c5, c6⟩ := cells7' r5.out
                by_cases hall : s.all (inNs (cs.map Prod.fst)) = true
                · rw [hall] at CK
                  have HALL : Hid (¬ s.all (inNs (cs.map Prod.fst)) = false) := by unfold Hid; rw [hall]; decide
                  clear hall
                  go_wp2_with fail
                  go_region_held3 (fun w' => w'.cell? ⟨w.heap.size, 0, none⟩ = some n ∧ w'.cell? ⟨w.heap.size, 1, none⟩ = some c ∧ w'.cell? ⟨w.heap.size, 2, none⟩ = some (.slice (some ⟨bd, offd, none⟩) ds.length dcap) ∧ w'.cell? ⟨w.heap.size, 3, none⟩ = some (.slice (some ⟨b, off, none⟩) rs.length acap) ∧ w'.cell? ⟨w.heap.size, 4, none⟩ = some t4 ∧ w'.cell? ⟨w.heap.size, 5, none⟩ = some t5 ∧ w'.cell? ⟨w.heap.size, 6, none⟩ = some t6 ∧ w'.cell? ⟨w.heap.size + 1, 2, none⟩ = some (.slice (some ⟨b2, off2, none⟩) ls.length sc) ∧ w'.cell? ⟨b2, off2 + k, none⟩ = some (.slice sp2 s.length sc2))
                    (first | exact cells7and r5.out ⟨(cells3 q5.out).2.2, k5.out⟩ | exact cells7and r6.out ⟨(cells3 q6.out).2.2, k6.out⟩)
                    ((go_at_call 39; refine CK.out.mono ?_; rintro e w6 ⟨rfl, hb6⟩; have hb6 : Below wr.heap.size wr w6 := ((Below.refl _ wr).drew).trans hb6; have r6 := Lib.hid ((hb6.block w.heap.size (by omega)).trans r5.out); have q6 := Lib.hid ((hb6.block (w.heap.size + 1) (by omega)).trans q5.out); have k6 := Lib.hid ((hb6.cell (p := ⟨b2, off2 + k, none⟩) (by simp; omega)).trans k5.out)))
                  clear c0 c1 c2 c3 c4 c5 c6 d0 d1 d2 hkc
                  have hz6 := hb6.size
                  have hB6 : Below w4.heap.size w4 w6 := hB5.trans (hb6.mono (by omega))
                  have hBw6 : Below w.heap.size w w6 := hBw.trans (hb6.mono (by omega))
                  have CN := Lib.hid (isNormal_any n c (.slice (some ⟨bd, offd, none⟩) ds.length dcap) (.slice (some ⟨b, off, none⟩) rs.length acap) t4 t5 t6 _ cs sp ab s w6.drew (HC.out.below hBw6.drew (Nat.le_refl _)) HBU.out h300 (HS2.out.below hBw6.drew (Nat.le_refl _)))
                  obtain ⟨c0, c1, c2, c3, c4, c5, c6⟩ := cells7' r6.out
                  obtain ⟨d0, d1, d2⟩ := cells3 q6.out
                  have hkc := k6.out
                  by_cases hno : normB (cs.map Prod.fst) (fun i => ab.getD i []) s = true
                  · have hst : Hid (E = sorts1 (cs.map Prod.fst) (fun i => ab.getD i []) (ls.drop (k + 1))) := by
                      have e : sort1Err (cs.map Prod.fst) (fun i => ab.getD i []) s = 0 := by unfold sort1Err; rw [if_neg h20, if_neg HALL.out, if_neg (by rw [hno]; decide)]
                      unfold Hid; rw [hstep.out, e]; rfl
                    rw [hno] at CN
                    clear hno hstep h20
                    go_wp2_with fail
                    go_region_held3 (fun w' => w'.cell? ⟨w.heap.size, 0, none⟩ = some n ∧ w'.cell? ⟨w.heap.size, 1, none⟩ = some c ∧ w'.cell? ⟨w.heap.size, 2, none⟩ = some (.slice (some ⟨bd, offd, none⟩) ds.length dcap) ∧ w'.cell? ⟨w.heap.size, 3, none⟩ = some (.slice (some ⟨b, off, none⟩) rs.length acap) ∧ w'.cell? ⟨w.heap.size, 4, none⟩ = some t4 ∧ w'.cell? ⟨w.heap.size, 5, none⟩ = some t5 ∧ w'.cell? ⟨w.heap.size, 6, none⟩ = some t6 ∧ w'.cell? ⟨w.heap.size + 1, 2, none⟩ = some (.slice (some ⟨b2, off2, none⟩) ls.length sc) ∧ w'.cell? ⟨b2, off2 + k, none⟩ = some (.slice sp2 s.length sc2))
                      (first | exact cells7and r6.out ⟨(cells3 q6.out).2.2, k6.out⟩ | exact cells7and r7.out ⟨(cells3 q7.out).2.2, k7.out⟩)
                      ((go_at_call 57; refine CN.out.mono ?_; rintro e w7 ⟨rfl, hb7⟩; have hb7 : Below w6.heap.size w6 w7 := ((Below.refl _ w6).drew).trans hb7; have r7 := Lib.hid ((hb7.block w.heap.size (by omega)).trans r6.out); have q7 := Lib.hid ((hb7.block (w.heap.size + 1) (by omega)).trans q6.out); have k7 := Lib.hid ((hb7.cell (p := ⟨b2, off2 + k, none⟩) (by simp; omega)).trans k6.out)))
                    clear c0 c1 c2 c3 c4 c5 c6 d0 d1 d2 hkc
                    go_wp2_with fail
                    go_roundw
                    case rel => exact ⟨k + 1, by omega, by go_num, hst, hB6.trans (hb7.mono (by omega))⟩
                    case measure => simp [intOf]; omega
                  · have hno' : normB (cs.map Prod.fst) (fun i => ab.getD i []) s = false := by simpa using hno
                    have hE14 : Hid (E = 14) := by
                      have e : sort1Err (cs.map Prod.fst) (fun i => ab.getD i []) s = 14 := by unfold sort1Err; rw [if_neg h20, if_neg HALL.out, if_pos hno']
                      unfold Hid; rw [hstep.out, e]; rfl
                    rw [hno'] at CN
                    clear hno hno' hstep h20
                    go_wp2_with fail
                    go_region_held3 (fun w' => w'.cell? ⟨w.heap.size, 0, none⟩ = some n ∧ w'.cell? ⟨w.heap.size, 1, none⟩ = some c ∧ w'.cell? ⟨w.heap.size, 2, none⟩ = some (.slice (some ⟨bd, offd, none⟩) ds.length dcap) ∧ w'.cell? ⟨w.heap.size, 3, none⟩ = some (.slice (some ⟨b, off, none⟩) rs.length acap) ∧ w'.cell? ⟨w.heap.size, 4, none⟩ = some t4 ∧ w'.cell? ⟨w.heap.size, 5, none⟩ = some t5 ∧ w'.cell? ⟨w.heap.size, 6, none⟩ = some t6 ∧ w'.cell? ⟨w.heap.size + 1, 2, none⟩ = some (.slice (some ⟨b2, off2, none⟩) ls.length sc) ∧ w'.cell? ⟨b2, off2 + k, none⟩ = some (.slice sp2 s.length sc2))
                      (first | exact cells7and r6.out ⟨(cells3 q6.out).2.2, k6.out⟩ | exact cells7and r7.out ⟨(cells3 q7.out).2.2, k7.out⟩)
                      ((go_at_call 57; refine CN.out.mono ?_; rintro e w7 ⟨rfl, hb7⟩; have hb7 : Below w6.heap.size w6 w7 := ((Below.refl _ w6).drew).trans hb7; have r7 := Lib.hid ((hb7.block w.heap.size (by omega)).trans r6.out); have q7 := Lib.hid ((hb7.block (w.heap.size + 1) (by omega)).trans q6.out); have k7 := Lib.hid ((hb7.cell (p := ⟨b2, off2 + k, none⟩) (by simp; omega)).trans k6.out)))
                    clear c0 c1 c2 c3 c4 c5 c6 d0 d1 d2 hkc
                    go_wp2_with fail
                    go_ret
                    exact ⟨by rw [hE14.out]; rfl, hBw6.trans (hb7.mono (by omega))⟩
                · have hall' : s.all (inNs (cs.map Prod.fst)) = false := by simpa using hall
                  have hE9 : Hid (E = 9) := by
                    have e : sort1Err (cs.map Prod.fst) (fun i => ab.getD i []) s = 9 := by unfold sort1Err; rw [if_neg h20, if_pos hall']
                    unfold Hid; rw [hstep.out, e]; rfl
                  rw [hall'] at CK
                  clear hall hall' hstep h20
                  go_wp2_with fail
                  go_region_held3 (fun w' => w'.cell? ⟨w.heap.size, 0, none⟩ = some n ∧ w'.cell? ⟨w.heap.size, 1, none⟩ = some c ∧ w'.cell? ⟨w.heap.size, 2, none⟩ = some (.slice (some ⟨bd, offd, none⟩) ds.length dcap) ∧ w'.cell? ⟨w.heap.size, 3, none⟩ = some (.slice (some ⟨b, off, none⟩) rs.length acap) ∧ w'.cell? ⟨w.heap.size, 4, none⟩ = some t4 ∧ w'.cell? ⟨w.heap.size, 5, none⟩ = some t5 ∧ w'.cell? ⟨w.heap.size, 6, none⟩ = some t6 ∧ w'.cell? ⟨w.heap.size + 1, 2, none⟩ = some (.slice (some ⟨b2, off2, none⟩) ls.length sc) ∧ w'.cell? ⟨b2, off2 + k, none⟩ = some (.slice sp2 s.length sc2))
                    (first | exact cells7and r5.out ⟨(cells3 q5.out).2.2, k5.out⟩ | exact cells7and r6.out ⟨(cells3 q6.out).2.2, k6.out⟩)
                    ((go_at_call 39; refine CK.out.mono ?_; rintro e w6 ⟨rfl, hb6⟩; have hb6 : Below wr.heap.size wr w6 := ((Below.refl _ wr).drew).trans hb6; have r6 := Lib.hid ((hb6.block w.heap.size (by omega)).trans r5.out); have q6 := Lib.hid ((hb6.block (w.heap.size + 1) (by omega)).trans q5.out); have k6 := Lib.hid ((hb6.cell (p := ⟨b2, off2 + k, none⟩) (by simp; omega)).trans k5.out)))
                  clear c0 c1 c2 c3 c4 c5 c6 d0 d1 d2 hkc
                  go_wp2_with fail
                  go_ret
                  exact ⟨by rw [hE9.out]; rfl, hBw.trans (hb6.mono (by omega))⟩
            · have hE0 : Hid (E = 0) := by unfold Hid; rw [hI.out, List.drop_eq_nil_of_le (by omega)]; rfl
              clear hI
              go_wp2_with fail
              go_ret
              exact ⟨by rw [hE0.out]; rfl, hBw⟩
        · have f3 : (((ls.length : Nat) : Int) != an) = true := by rw [bne_iff_ne]; exact hcnt
          have hE5 : Hid (E = 5) := by unfold Hid; rw [HE3.out, if_pos hcnt]
          clear hcnt HE3
          go_wp2_with fail
          go_quiet (fail)
          go_wp2_with fail
          go_ret
          exact ⟨by rw [hE5.out]; rfl, below_drewN hB4 _⟩
    · have hty' : inNs (cs.map Prod.fst) y = false := by simpa using hty
      have hE9 : Hid (E = 9) := by unfold Hid; rw [HE2.out, if_pos hty']
      clear hty HE2
      go_wp2_with fail
      refine (class_out n _ _ _ t4 t5 t6 y cs w2 (HC.out.below hB2 (Nat.le_refl _)) hty').mono ?_
      rintro e w3 ⟨rfl, hb3⟩
      go_wp2_with fail
      go_ret
      exact ⟨by rw [hE9.out]; rfl, hB2.trans (hb3.mono (by omega))⟩
  · have htx' : inNs (ds.map Prod.fst) x = false := by simpa using htx
    have hE9 : Hid (E = 9) := by unfold Hid; rw [HE.out]; unfold arErr; rw [if_pos htx']
    refine (type_out n c _ _ t4 t5 t6 x ds w1 (HD.out.below hB1 (Nat.le_refl _)) htx').mono ?_
    rintro e w2 ⟨rfl, hb2⟩
    clear htx htx' HE
    go_wp2_with fail
    go_ret
    exact ⟨by rw [hE9.out]; rfl, hB1.trans (hb2.mono (by omega))⟩
end Go.Proofs.Ytehnikgdjnmfcaa
