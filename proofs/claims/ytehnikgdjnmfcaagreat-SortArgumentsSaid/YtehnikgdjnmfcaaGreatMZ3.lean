/- addAll, Less. -/
import Derived.Test.YtehnikgdjnmfcaaGreatMZ2
import Derived.Laws.Rows
import Derived.Deep.AppendLies
import Derived.Maps.AppendAt
namespace Go.Proofs.YtehnikgdjnmfcaaGreat
open Go.RowKit Go.WideMaps

def W64 : Nat := 18446744073709551616

/-- five words in memory that may be written -/
def WordsAt (w : World) (b off : Nat) (U : Nat → Nat) : Prop :=
  ∀ j, j < 5 → w.cell? ⟨b, off + j, none⟩ = some (.int .u64 ((U j : Nat) : Int)) ∧ w.frozen? ⟨b, off + j, none⟩ = false ∧ U j < 18446744073709551616

theorem WordsAt.set {w : World} {b off : Nat} {U : Nat → Nat} (h : WordsAt w b off U) (k m : Nat) (hk : k < 5) (hm : m < 18446744073709551616) :
    WordsAt (w.setCell ⟨b, off + k, none⟩ (.int .u64 (m : Int))) b off (fun j => if j = k then m else U j) := by
  intro j hj
  obtain ⟨h1, h2, h3⟩ := h j hj
  by_cases e : j = k
  · subst e
    exact ⟨by simp only [↓reduceIte]; exact World.cell?_setCell_same _ _ _ h1, by rw [World.frozen?_setCell]; exact h2, by simpa using hm⟩
  · refine ⟨?_, by rw [World.frozen?_setCell]; exact h2, by simpa [e] using h3⟩
    rw [World.cell?_setCell_other _ _ _ _ (by intro hh; injection hh with _ hh; omega), h1]
    simp [e]

theorem WordsAt.drew {w : World} {b off : Nat} {U : Nat → Nat} (h : WordsAt w b off U) : WordsAt w.drew b off U := h

theorem WordsAt.grown {w w' : World} {b off : Nat} {U : Nat → Nat} {row : Option Nat} (h : WordsAt w b off U) (hg : w.grownBy w' row) (hb : b < w.heap.size) (hne : some b ≠ row) : WordsAt w' b off U := by
  intro j hj
  obtain ⟨h1, h2, h3⟩ := h j hj
  exact ⟨(hg.cell_far ⟨b, off + j, none⟩ hb hne).trans h1, (hg.frozen_far ⟨b, off + j, none⟩ hb hne).trans h2, h3⟩

theorem WordsAt.below {w w' : World} {b off B : Nat} {U : Nat → Nat} (h : WordsAt w b off U) (hg : Below B w w') (hb : b < B) : WordsAt w' b off U := by
  intro j hj
  obtain ⟨h1, h2, h3⟩ := h j hj
  exact ⟨(hg.cell (p := ⟨b, off + j, none⟩) hb).trans h1, (hg.frozen (p := ⟨b, off + j, none⟩) hb).trans h2, h3⟩

theorem WordsAt.congr {w : World} {b off : Nat} {U U' : Nat → Nat} (h : WordsAt w b off U) (e : ∀ j, j < 5 → U j = U' j) : WordsAt w b off U' := by
  intro j hj
  rw [← e j hj]; exact h j hj

theorem grownBy_setCell (w : World) (a : Addr) (v : Value) : w.grownBy (w.setCell a v) (some a.block) :=
  ⟨rfl, rfl, rfl, by simp [World.setCell], fun k _ hne => Below.heap_setCell _ _ _ _ (fun e => hne (by rw [e]))⟩

theorem grownBy_drew {w w' : World} {row : Option Nat} (h : w.grownBy w' row) : w.grownBy w'.drew row := ⟨h.os, h.tape, h.output, h.size, h.block⟩

theorem or_bits (x y : Nat) (hx : x < 18446744073709551616) (hy : y < 18446744073709551616) : bits BinOp.or IntKind.u64 (x : Int) (y : Int) = ((x ||| y : Nat) : Int) := u64_or_nat x y hx hy
theorem or_lt (x y : Nat) (hx : x < 18446744073709551616) (hy : y < 18446744073709551616) : x ||| y < 18446744073709551616 := by
  have := Nat.or_lt_two_pow (n := 64) (x := x) (y := y) (by simpa using hx) (by simpa using hy)
  simpa using this

def wordsV (V : Nat → Nat) : Value := .agg #[.int .u64 ((V 0 : Nat) : Int), .int .u64 ((V 1 : Nat) : Int), .int .u64 ((V 2 : Nat) : Int), .int .u64 ((V 3 : Nat) : Int), .int .u64 ((V 4 : Nat) : Int)]

set_option maxHeartbeats 400000 in
theorem addAll_any (b off : Nat) (U V : Nat → Nat) (w : World) (hb : b < w.heap.size) (hU : WordsAt w b off U) (hV : ∀ j, j < 5 → V j < 18446744073709551616) :
    Calls Tryz.prog 82 #[.pointer (some ⟨b, off, none⟩), wordsV V] w fun e w' => e = .returned (.tuple #[]) ∧ w.grownBy w' (some b) ∧ WordsAt w' b off (fun j => U j ||| V j) := by
  unfold wordsV
  have HU := Lib.hid hU
  have HV := Lib.hid hV
  clear hU hV
  go_enter Tryz.func82, Tryz.ntmps82
  go_wp2
  go_loopw [5] (fun i wr => ∃ k : Nat, k ≤ 5 ∧ i = .int .i64 k ∧ Hid (WordsAt wr b off (fun j => if j < k then U j ||| V j else U j)) ∧ Hid (∀ j, j < 5 → wr.cell? ⟨w.heap.size, j, none⟩ = some (.int .u64 ((V j : Nat) : Int))) ∧ w.grownBy wr (some b)) (fun i _ => 5 - (intOf i).toNat)
  case atStart =>
    refine ⟨0, by omega, rfl, ?_, ?_, World.grownBy_alloc _ _ _⟩
    · exact (HU.out.grown (World.grownBy_alloc w _ none) hb (by simp)).congr (fun j _ => by simp)
    · intro j hj
      have : j = 0 ∨ j = 1 ∨ j = 2 ∨ j = 3 ∨ j = 4 := by omega
      rcases this with rfl | rfl | rfl | rfl | rfl <;> go_simp
  case round =>
    obtain ⟨k, hk, rfl, hW, hB, hG⟩ := hrel
    by_cases hlt : k < 5
    · obtain ⟨h1, h2, h3⟩ := hW.out k hlt
      have h4 := hB.out k hlt
      have h5 := HV.out k hlt
      simp only [Nat.lt_irrefl, if_false] at h1 h3
      have HO := Lib.hid (or_bits (U k) (V k) h3 h5)
      have HL := Lib.hid (or_lt (U k) (V k) h3 h5)
      clear h3 h5
      go_wp2
      go_region
      all_goals
        rw [HO.out]
        go_wp2
        go_roundw
        case rel =>
          refine ⟨k + 1, by omega, by go_num, ?_, ?_, grownBy_drew (hG.trans (grownBy_setCell _ _ _))⟩
          · refine (((hW.out.set k _ hlt HL.out).drew).congr (fun j _ => ?_))
            by_cases e : j = k
            · subst e; simp
            · have : (j < k) ↔ (j < k + 1) := by omega
              simp [e, this]
          · intro j hj
            have := hB.out j hj
            rw [← this]
            exact World.cell?_setCell_other _ _ _ _ (by intro hh; injection hh with hh; omega)
        case measure => simp [intOf]; omega
    · have hk5 : k = 5 := by omega
      subst hk5
      go_wp2
      go_end0
      exact ⟨rfl, hG, hW.out.congr (fun j hj => by simp [hj])⟩
end Go.Proofs.YtehnikgdjnmfcaaGreat

/- Less. -/
namespace Go.Proofs.YtehnikgdjnmfcaaGreat
open Go.RowKit Go.WideMaps

def wordsOf (ys : List Nat) (j : Nat) : Nat := ys.foldl (fun a k => if k / 64 = j then a ||| 2 ^ (k % 64) else a) 0

/-- the words of the union of what is above some classes -/
def upW (ns : List Nm) (abv : Nat → List Nat) (l : List Nm) (j : Nat) : Nat := l.foldl (fun a c => a ||| wordsOf (abv (ixOf ns c)) j) 0

def upHas (ns : List Nm) (abv : Nat → List Nat) (l : List Nm) (c : Nm) : Bool := (upW ns abv l (ixOf ns c / 64)).testBit (ixOf ns c % 64)

/-- the classes above each class, as sets in memory -/
def AbvAt (w : World) (ga : Option Addr) (abv : Nat → List Nat) (n : Nat) : Prop :=
  0 < n → ∃ ba off, ga = some ⟨ba, off, none⟩ ∧ ba < w.heap.size ∧ ∀ i, i < n → WordsAt w ba (off + i * 5) (wordsOf (abv i))

theorem AbvAt.below {w w' : World} {B n : Nat} {ga : Option Addr} {abv : Nat → List Nat} (h : AbvAt w ga abv n) (hb : Below B w w') (hB : w.heap.size ≤ B) : AbvAt w' ga abv n := by
  intro hn
  obtain ⟨ba, off, e, h1, h2⟩ := h hn
  exact ⟨ba, off, e, by have := hb.size; omega, fun i hi => (h2 i hi).below hb (by omega)⟩

theorem bcell {W w1 : World} (hb : Below W.heap.size W w1) : (∀ b o, b < W.heap.size → w1.cell? ⟨b, o, none⟩ = W.cell? ⟨b, o, none⟩) ∧ (∀ b o, b < W.heap.size → w1.frozen? ⟨b, o, none⟩ = W.frozen? ⟨b, o, none⟩) :=
  ⟨fun b o h => hb.cell (p := ⟨b, o, none⟩) h, fun b o h => hb.frozen (p := ⟨b, o, none⟩) h⟩

theorem SlS.at {w : World} {a : Option Addr} {n cap : Nat} {ss : List Nm} (h : SlS w (.slice a n cap) ss) {k : Nat} (hk : k < ss.length) :
    ∃ b off x, a = some ⟨b, off, none⟩ ∧ b < w.heap.size ∧ w.cell? ⟨b, off + k, none⟩ = some (.string (bs x)) ∧ x.length ≤ maxLen ∧ x = ss.getD k [] := by
  obtain ⟨_, a', cap', he, hx⟩ := h
  injection he with e1 _ _
  subst e1
  obtain ⟨b, off, rfl, hb, hc, hw⟩ := hx (by omega)
  exact ⟨b, off, _, rfl, hb, hc k hk, hw _ (getD_mem ss [] k hk), rfl⟩

theorem take_snocD {α : Type} (l : List α) (d : α) (k : Nat) (hk : k < l.length) : l.take (k + 1) = l.take k ++ [l.getD k d] := by
  rw [List.take_succ_eq_append_getElem hk, List.getD_eq_getElem?_getD, List.getElem?_eq_getElem hk]; rfl

theorem below_alloc (w : World) (o : Obj) : Below w.heap.size w (w.alloc o) := (Below.refl _ w).alloc (Nat.le_refl _) _

set_option maxHeartbeats 400000 in
set_option maxRecDepth 100000 in
theorem less_known (bm : Nat) (c1 c3 c4 c5 va vb : Value) (ga : Option Addr) (capa : Nat) (ss ts ns : List Nm) (abv : Nat → List Nat) (w : World) 
    (hm : MapAt w bm ns) (hs : SlS w va ss) (ht : SlS w vb ts)
    (hn : ns.length ≤ 300) (hab : AbvAt w ga abv ns.length)
    (hks : ss.all (inNs ns) = true) (hkt : ts.all (inNs ns) = true) :
    Calls Tryz.prog 76 #[.agg #[.map (some bm), c1, .slice ga ns.length capa, c3, c4, c5], va, vb] w fun e w' => e = .returned (.bool (ts.all (upHas ns abv ss))) ∧ Below w.heap.size w w' := by
  obtain ⟨hls, aa, capa', rfl, hsa⟩ := hs
  obtain ⟨hlt, ab, capb', rfl, hsb⟩ := ht
  have HS : Hid (SlS w (.slice aa ss.length capa') ss) := ⟨hls, aa, capa', rfl, hsa⟩
  have HT : Hid (SlS w (.slice ab ts.length capb') ts) := ⟨hlt, ab, capb', rfl, hsb⟩
  have HSA := Lib.hid hsa
  have HSB := Lib.hid hsb
  unfold maxLen at hls hlt
  have HA := Lib.hid hab
  have HM := Lib.hid hm
  have HKS := Lib.hid hks
  have HKT := Lib.hid hkt
  clear hsa hsb hab hm hks hkt
  go_enter Tryz.func76, Tryz.ntmps76
  go_wp2_with fail
  refine (known_any bm _ _ _ _ _ _ ss ns _ (HM.out.alloc _) (HS.out.below (below_alloc _ _) (Nat.le_refl _))).mono ?_
  rw [HKS.out]
  rintro e w1 ⟨rfl, hb1⟩
  obtain ⟨hc1, hf1⟩ := bcell hb1
  have hz1 : w.heap.size + 1 ≤ w1.heap.size := by have := hb1.size; simp at this; omega
  go_wp2_with fail
  refine (known_any bm _ _ _ _ _ _ ts ns _ ((HM.out.alloc _).below hb1 (by have := HM.out.lt; simp; omega)) ((HT.out.below (below_alloc _ _) (Nat.le_refl _)).below hb1 (Nat.le_refl _))).mono ?_
  rw [HKT.out]
  rintro e w2 ⟨rfl, hb2⟩
  obtain ⟨hc2, hf2⟩ := bcell hb2
  have hz2 : w1.heap.size ≤ w2.heap.size := hb2.size
  go_wp2_with fail
  have hM2 : MapAt w2 bm ns := ((HM.out.alloc _).below hb1 (by have := HM.out.lt; simp; omega)).below hb2 (by have := HM.out.lt; omega)
  have hbx0 : w2.cell? ⟨w.heap.size, 0, none⟩ = some (.map (some bm)) := by rw [hc2 _ _ (by omega), hc1 _ _ (by simp)]; go_simp
  have hbx2 : w2.cell? ⟨w.heap.size, 2, none⟩ = some (.slice ga ns.length capa) := by rw [hc2 _ _ (by omega), hc1 _ _ (by simp)]; go_simp
  have hB2 : Below w.heap.size w w2 := ((below_alloc w _).trans (hb1.mono (by simp))).trans (hb2.mono (by omega))
  have hA2 : Hid (AbvAt w2 ga abv ns.length) := HA.out.below hB2 (Nat.le_refl _)
  have HS2 : Hid (SlS w2 (.slice aa ss.length capa') ss) := HS.out.below hB2 (Nat.le_refl _)
  have HT2 : Hid (SlS w2 (.slice ab ts.length capb') ts) := HT.out.below hB2 (Nat.le_refl _)
  have HM2 := Lib.hid hM2
  have HBX0 := Lib.hid hbx0
  have HBX2 := Lib.hid hbx2
  clear hM2 hbx0 hbx2 hc1 hc2 hf1 hf2 hb1 hb2 HSA HSB HA HM HS HT
  go_loopw [24] (fun i wr => ∃ k : Nat, k ≤ ss.length ∧ i = .int .i64 k ∧ Hid (WordsAt wr w2.heap.size 0 (upW ns abv (ss.take k))) ∧ Below w2.heap.size w2 wr ∧ w2.heap.size < wr.heap.size) (fun i _ => ss.length - (intOf i).toNat)
  case atStart =>
    refine ⟨0, by omega, rfl, ?_, below_alloc _ _, by simp⟩
    intro j hj
    have : j = 0 ∨ j = 1 ∨ j = 2 ∨ j = 3 ∨ j = 4 := by omega
    refine ⟨?_, ?_, by simp [upW]⟩
    · rcases this with rfl | rfl | rfl | rfl | rfl <;> (simp only [upW, List.take_zero, List.foldl_nil]; go_simp)
    · rcases this with rfl | rfl | rfl | rfl | rfl <;> go_simp
  case round =>
    obtain ⟨k, hk, rfl, hW, hB, hz⟩ := hrel
    by_cases hlt2 : k < ss.length
    · obtain ⟨b, off, x, rfl, hb, hck, hwk, hx⟩ := (HS2.out.below hB (Nat.le_refl _)).at hlt2
      have hin : Hid (inNs ns x = true) := by rw [hx]; exact List.all_eq_true.1 HKS.out _ (getD_mem ss [] k hlt2)
      have htake : Hid (ss.take (k + 1) = ss.take k ++ [x]) := by rw [hx]; exact take_snocD ss [] k hlt2
      clear hx
      have hbx0 : wr.cell? ⟨w.heap.size, 0, none⟩ = some (.map (some bm)) := (hB.cell (p := ⟨w.heap.size, 0, none⟩) (by simp; omega)).trans HBX0.out
      have hbx2 : wr.cell? ⟨w.heap.size, 2, none⟩ = some (.slice ga ns.length capa) := (hB.cell (p := ⟨w.heap.size, 2, none⟩) (by simp; omega)).trans HBX2.out
      have hm : MapAt wr bm ns := HM2.out.below hB (by have := HM2.out.lt; omega)
      have hix : ixOf ns x < ns.length := by
        have hi := of_decide_eq_true hin.out
        unfold ixOf; rw [if_pos hi]; exact List.idxOf_lt_length_of_mem hi
      obtain ⟨ba, offa, rfl, hba, hA0⟩ := hA2.out.below hB (Nat.le_refl _) (by omega)
      have hA := Lib.hid (hA0 _ hix)
      clear hA0
      have g0 := (hA.out 0 (by omega)).1
      have g1 := (hA.out 1 (by omega)).1
      have g2 := (hA.out 2 (by omega)).1
      have g3 := (hA.out 3 (by omega)).1
      have g4 := (hA.out 4 (by omega)).1
      simp only [Nat.add_zero] at g0
      go_wp2_with (first | (at_lookup; refine wpList_mapAt _ rfl _ _ rfl bm rfl ns hm x rfl hwk ?_) | fail)
      have C := addAll_any w2.heap.size 0 (upW ns abv (ss.take k)) (wordsOf (abv (ixOf ns x))) wr hz hW.out (fun j hj => (hA.out j hj).2.2)
      unfold wordsV at C
      refine C.mono ?_
      clear C
      rintro e w3 ⟨rfl, hg3, hw3⟩
      have HW3 := Lib.hid hw3
      clear hw3
      go_wp2_with fail
      go_roundw
      case rel =>
        refine ⟨k + 1, by omega, by go_num, ?_, hB.grown hg3 (by omega) (fun k e => by cases e; omega), by have := hg3.size; omega⟩
        refine HW3.out.congr (fun j _ => ?_)
        rw [htake.out]; simp [upW]
      case measure => simp [intOf]; omega
    · have hk5 : k = ss.length := by omega
      subst hk5
      rw [List.take_length] at hW
      go_wp2_with fail
      have HW := Lib.hid (hW.out)
      clear hW
      have H0 : Hid (ts.all (upHas ns abv ss) = (ts.drop 0).all (upHas ns abv ss)) := rfl
      have hbx0 : wr.cell? ⟨w.heap.size, 0, none⟩ = some (.map (some bm)) := (hB.cell (p := ⟨w.heap.size, 0, none⟩) (by simp; omega)).trans HBX0.out
      have hm : MapAt wr bm ns := HM2.out.below hB (by have := HM2.out.lt; omega)
      have HSB := Lib.hid (HT2.out.below hB (Nat.le_refl _))
      have hend : Below w.heap.size w wr := hB2.trans (hB.mono (by omega))
      clear HS2 HT2 hA2 HBX0 HBX2 HM2
      go_loop [40] (fun i => ∃ k : Nat, k ≤ ts.length ∧ i = .int .i64 k ∧ Hid (ts.all (upHas ns abv ss) = (ts.drop k).all (upHas ns abv ss))) (fun i => ts.length - (intOf i).toNat)
      case atStart => exact ⟨0, by omega, rfl, H0⟩
      case round =>
        obtain ⟨k, hk, rfl, hI⟩ := hrel
        by_cases hlt3 : k < ts.length
        · obtain ⟨b, off, x, rfl, hb, hck, hwk, hx⟩ := HSB.out.at hlt3
          have hin : inNs ns x = true := by rw [hx]; exact List.all_eq_true.1 HKT.out _ (getD_mem ts [] k hlt3)
          have hix : ixOf ns x < ns.length := by
            have hi := of_decide_eq_true hin
            unfold ixOf; rw [if_pos hi]; exact List.idxOf_lt_length_of_mem hi
          have hstep : Hid (ts.all (upHas ns abv ss) = (upHas ns abv ss x && (ts.drop (k + 1)).all (upHas ns abv ss))) := by
            unfold Hid; rw [hI.out, all_drop_getD _ [] _ _ hlt3, hx]
          clear hx hI H0 hin
          have hcell := HW.out (ixOf ns x / 64) (by omega)
          have C := has_any w2.heap.size 0 (ixOf ns x) (upW ns abv ss (ixOf ns x / 64)) wr (by omega) hcell.2.2 hcell.1
          by_cases hup : upHas ns abv ss x = true
          · have hst2 : Hid (ts.all (upHas ns abv ss) = (ts.drop (k + 1)).all (upHas ns abv ss)) := by
              unfold Hid; rw [hstep.out, hup]; simp
            have hup' : (upW ns abv ss (ixOf ns x / 64)).testBit (ixOf ns x % 64) = true := hup
            rw [hup'] at C
            have HC := Lib.hid C
            clear C hup hup' hcell hstep
            go_wp2_with (first | (at_lookup; refine wpList_mapAt _ rfl _ _ rfl bm rfl ns hm x rfl hwk ?_) | (go_at_call 75; refine HC.out.mono ?_; rintro e w' ⟨rfl, rfl⟩))
            go_round
            case rel => exact ⟨k + 1, by omega, by go_num, hst2⟩
            case measure => simp [intOf]; omega
          · have hup0 : upHas ns abv ss x = false := by simpa using hup
            have hst2 : Hid (ts.all (upHas ns abv ss) = false) := by
              unfold Hid; rw [hstep.out, hup0]; simp
            have hup' : (upW ns abv ss (ixOf ns x / 64)).testBit (ixOf ns x % 64) = false := hup0
            rw [hup'] at C
            have HC := Lib.hid C
            clear C hup hup' hup0 hcell hstep
            go_wp2_with (first | (at_lookup; refine wpList_mapAt _ rfl _ _ rfl bm rfl ns hm x rfl hwk ?_) | (go_at_call 75; refine HC.out.mono ?_; rintro e w' ⟨rfl, rfl⟩))
            go_ret
            exact ⟨ret_bool hst2.out.symm, hend⟩
        · have hst2 : Hid (ts.all (upHas ns abv ss) = true) := by
            unfold Hid; rw [hI.out, List.drop_eq_nil_of_le (by omega)]; rfl
          clear hI H0
          go_wp2_with fail
          go_ret
          exact ⟨ret_bool hst2.out.symm, hend⟩

/-- what is known of a signature in memory -/
def SigAt (w : World) (g : Value) (ns : List Nm) (abv : Nat → List Nat) : Prop :=
  ns.length ≤ 300 ∧ ∃ bm c1 ga capa c3 c4 c5, g = .agg #[.map (some bm), c1, .slice ga ns.length capa, c3, c4, c5] ∧ MapAt w bm ns ∧ AbvAt w ga abv ns.length

theorem SigAt.below {w w' : World} {B : Nat} {g : Value} {ns : List Nm} {abv : Nat → List Nat} (h : SigAt w g ns abv) (hb : Below B w w') (hB : w.heap.size ≤ B) : SigAt w' g ns abv := by
  obtain ⟨h0, bm, c1, ga, capa, c3, c4, c5, e, h1, h2⟩ := h
  exact ⟨h0, bm, c1, ga, capa, c3, c4, c5, e, h1.below hb (by have := h1.lt; omega), h2.below hb hB⟩

def lessB (ns : List Nm) (abv : Nat → List Nat) (ss ts : List Nm) : Bool := ss.all (inNs ns) && (ts.all (inNs ns) && ts.all (upHas ns abv ss))

set_option maxHeartbeats 400000 in
set_option maxRecDepth 100000 in
theorem less_any (g va vb : Value) (ss ts ns : List Nm) (abv : Nat → List Nat) (w : World) (hg : SigAt w g ns abv) (hs : SlS w va ss) (ht : SlS w vb ts) :
    Calls Tryz.prog 76 #[g, va, vb] w fun e w' => e = .returned (.bool (lessB ns abv ss ts)) ∧ Below w.heap.size w w' := by
  obtain ⟨hn, bm, c1, ga, capa, c3, c4, c5, rfl, hm, hab⟩ := hg
  by_cases hks : ss.all (inNs ns) = true
  · by_cases hkt : ts.all (inNs ns) = true
    · have e : lessB ns abv ss ts = ts.all (upHas ns abv ss) := by unfold lessB; rw [hks, hkt]; simp
      rw [e]
      exact less_known bm c1 c3 c4 c5 va vb ga capa ss ts ns abv w hm hs ht hn hab hks hkt
    · have hkt' : ts.all (inNs ns) = false := by simpa using hkt
      have HE : Hid (lessB ns abv ss ts = false) := by unfold lessB Hid; rw [hks, hkt']; simp
      have HKS := Lib.hid hks
      have HKT := Lib.hid hkt'
      have HM := Lib.hid hm
      have HS := Lib.hid hs
      have HT := Lib.hid ht
      clear hkt hks hkt' hm hab hs ht
      go_enter Tryz.func76, Tryz.ntmps76
      go_wp2_with fail
      refine (known_any bm _ _ _ _ _ va ss ns _ (HM.out.alloc _) (HS.out.below (below_alloc _ _) (Nat.le_refl _))).mono ?_
      rw [HKS.out]
      rintro e w1 ⟨rfl, hb1⟩
      obtain ⟨hc1, hf1⟩ := bcell hb1
      go_wp2_with fail
      refine (known_any bm _ _ _ _ _ vb ts ns _ ((HM.out.alloc _).below hb1 (by have := HM.out.lt; simp; omega)) ((HT.out.below (below_alloc _ _) (Nat.le_refl _)).below hb1 (Nat.le_refl _))).mono ?_
      rw [HKT.out]
      rintro e w2 ⟨rfl, hb2⟩
      go_wp2_with fail
      go_ret
      exact ⟨ret_bool HE.out.symm, ((below_alloc w _).trans (hb1.mono (by simp))).trans (hb2.mono (by have := hb1.size; simp at this; omega))⟩
  · have hks' : ss.all (inNs ns) = false := by simpa using hks
    have HE : Hid (lessB ns abv ss ts = false) := by unfold lessB Hid; rw [hks']; simp
    have HKS := Lib.hid hks'
    have HM := Lib.hid hm
    have HS := Lib.hid hs
    clear hks hks' hm hab hs ht
    go_enter Tryz.func76, Tryz.ntmps76
    go_wp2_with fail
    refine (known_any bm _ _ _ _ _ va ss ns _ (HM.out.alloc _) (HS.out.below (below_alloc _ _) (Nat.le_refl _))).mono ?_
    rw [HKS.out]
    rintro e w1 ⟨rfl, hb1⟩
    go_wp2_with fail
    go_ret
    exact ⟨ret_bool HE.out.symm, (below_alloc w _).trans (hb1.mono (by simp))⟩

end Go.Proofs.YtehnikgdjnmfcaaGreat

/- hasBelow. -/
namespace Go.Proofs.YtehnikgdjnmfcaaGreat
open Go.RowKit Go.WideMaps

def belowB (ns : List Nm) (abv : Nat → List Nat) (d c : Nm) : Bool := (wordsOf (abv (ixOf ns d)) (ixOf ns c / 64)).testBit (ixOf ns c % 64)
def dropB (ns : List Nm) (abv : Nat → List Nat) (c d : Nm) : Bool := !((ixOf ns d : Nat) == ixOf ns c) && belowB ns abv d c

theorem ixOf_lt {ns : List Nm} {x : Nm} (h : inNs ns x = true) : ixOf ns x < ns.length := by
  have hi := of_decide_eq_true h
  unfold ixOf; rw [if_pos hi]; exact List.idxOf_lt_length_of_mem hi

theorem any_drop_getD {α : Type} (l : List α) (d : α) (p : α → Bool) (k : Nat) (hk : k < l.length) :
    (l.drop k).any p = (p (l.getD k d) || (l.drop (k + 1)).any p) := by
  rw [List.drop_eq_getElem_cons hk, List.any_cons, List.getD_eq_getElem?_getD, List.getElem?_eq_getElem hk]
  rfl

set_option maxHeartbeats 400000 in
set_option maxRecDepth 100000 in
theorem hasBelow_any (g va : Value) (c : Nm) (ss ns : List Nm) (abv : Nat → List Nat) (w : World) (hg : SigAt w g ns abv) (hs : SlS w va ss)
    (hks : ss.all (inNs ns) = true) (hkc : inNs ns c = true) (hcl : c.length ≤ maxLen) :
    Calls Tryz.prog 67 #[g, va, .string (bs c)] w fun e w' => e = .returned (.bool (ss.any (dropB ns abv c))) ∧ Below w.heap.size w w' := by
  obtain ⟨hn, bm, c1, ga, capa, c3, c4, c5, rfl, hm, hab⟩ := hg
  obtain ⟨hls, aa, capa', rfl, hsa⟩ := hs
  have hm1 := hm.alloc (Obj.cells #[.map (some bm), c1, .slice ga ns.length capa, c3, c4, c5] 63)
  have HS : Hid (SlS (w.alloc (Obj.cells #[.map (some bm), c1, .slice ga ns.length capa, c3, c4, c5] 63)) (.slice aa ss.length capa') ss) := SlS.below ⟨hls, aa, capa', rfl, hsa⟩ (below_alloc _ _) (Nat.le_refl _)
  have HA : Hid (AbvAt (w.alloc (Obj.cells #[.map (some bm), c1, .slice ga ns.length capa, c3, c4, c5] 63)) ga abv ns.length) := hab.below (below_alloc _ _) (Nat.le_refl _)
  have HKS := Lib.hid hks
  have hixc := ixOf_lt hkc
  unfold maxLen at hls
  have H0 : Hid (ss.any (dropB ns abv c) = (ss.drop 0).any (dropB ns abv c)) := rfl
  clear hm hsa hab hks hkc
  go_enter Tryz.func67, Tryz.ntmps67
  go_wp2_with (at_lookup; refine wpList_mapAt _ rfl _ _ rfl bm rfl ns hm1 c rfl hcl ?_)
  go_loop [17] (fun i => ∃ k : Nat, k ≤ ss.length ∧ i = .int .i64 k ∧ Hid (ss.any (dropB ns abv c) = (ss.drop k).any (dropB ns abv c))) (fun i => ss.length - (intOf i).toNat)
  case atStart => exact ⟨0, by omega, rfl, H0⟩
  case round =>
    obtain ⟨k, hk, rfl, hI⟩ := hrel
    by_cases hlt : k < ss.length
    · obtain ⟨b, off, x, rfl, hb, hck, hwk, hx⟩ := HS.out.at hlt
      have hin : inNs ns x = true := by rw [hx]; exact List.all_eq_true.1 HKS.out _ (getD_mem ss [] k hlt)
      have hix := ixOf_lt hin
      have hstep : Hid (ss.any (dropB ns abv c) = (dropB ns abv c x || (ss.drop (k + 1)).any (dropB ns abv c))) := by
        unfold Hid; rw [hI.out, any_drop_getD _ [] _ _ hlt, hx]
      obtain ⟨ba, offa, rfl, hba, hA0⟩ := HA.out (by omega)
      have hW := Lib.hid (hA0 _ hix)
      clear hx hI H0 hin hA0
      have hcell := hW.out (ixOf ns c / 64) (by omega)
      have C := has_any ba (offa + ixOf ns x * 5) (ixOf ns c) (wordsOf (abv (ixOf ns x)) (ixOf ns c / 64)) _ (by omega) hcell.2.2 hcell.1
      by_cases he : ixOf ns x = ixOf ns c
      · have he1 : (((ixOf ns x : Nat) : Int) == ((ixOf ns c : Nat) : Int)) = true := by simp [he]
        have he2 : (((ixOf ns x : Nat) : Int) != ((ixOf ns c : Nat) : Int)) = false := by simp [he]
        have hst2 : Hid (ss.any (dropB ns abv c) = (ss.drop (k + 1)).any (dropB ns abv c)) := by
          unfold Hid; rw [hstep.out]; simp [dropB, he]
        clear C hstep hcell he hW
        go_wp2_with (at_lookup; refine wpList_mapAt _ rfl _ _ rfl bm rfl ns hm1 x rfl hwk ?_)
        go_round
        case rel => exact ⟨k + 1, by omega, by go_num, hst2⟩
        case measure => simp [intOf]; omega
      · have he1 : (((ixOf ns x : Nat) : Int) == ((ixOf ns c : Nat) : Int)) = false := by rw [beq_eq_false_iff_ne]; omega
        have he2 : (((ixOf ns x : Nat) : Int) != ((ixOf ns c : Nat) : Int)) = true := by rw [bne_iff_ne]; omega
        by_cases hbl : belowB ns abv x c = true
        · have hst2 : Hid (ss.any (dropB ns abv c) = true) := by
            unfold Hid; rw [hstep.out]; simp [dropB, he, hbl]
          have hb2 : (wordsOf (abv (ixOf ns x)) (ixOf ns c / 64)).testBit (ixOf ns c % 64) = true := hbl
          rw [hb2] at C
          have HC := Lib.hid C
          clear C hstep hcell he hW hbl hb2
          go_wp2_with (first | (at_lookup; refine wpList_mapAt _ rfl _ _ rfl bm rfl ns hm1 x rfl hwk ?_) | (go_at_call 75; refine HC.out.mono ?_; rintro e w' ⟨rfl, rfl⟩))
          go_ret
          exact ⟨ret_bool hst2.out.symm, below_alloc _ _⟩
        · have hbl0 : belowB ns abv x c = false := by simpa using hbl
          have hst2 : Hid (ss.any (dropB ns abv c) = (ss.drop (k + 1)).any (dropB ns abv c)) := by
            unfold Hid; rw [hstep.out]; simp [dropB, hbl0]
          have hb2 : (wordsOf (abv (ixOf ns x)) (ixOf ns c / 64)).testBit (ixOf ns c % 64) = false := hbl0
          rw [hb2] at C
          have HC := Lib.hid C
          clear C hstep hcell he hW hbl hb2 hbl0
          go_wp2_with (first | (at_lookup; refine wpList_mapAt _ rfl _ _ rfl bm rfl ns hm1 x rfl hwk ?_) | (go_at_call 75; refine HC.out.mono ?_; rintro e w' ⟨rfl, rfl⟩))
          go_round
          case rel => exact ⟨k + 1, by omega, by go_num, hst2⟩
          case measure => simp [intOf]; omega
    · have hst2 : Hid (ss.any (dropB ns abv c) = false) := by
        unfold Hid; rw [hI.out, List.drop_eq_nil_of_le (by omega)]; rfl
      clear hI H0
      go_wp2_with fail
      go_ret
      exact ⟨ret_bool hst2.out.symm, below_alloc _ _⟩
end Go.Proofs.YtehnikgdjnmfcaaGreat
