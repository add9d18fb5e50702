/- The reference: least. -/
import Derived.Test.YtehnikgdjnmfcaaR6
import Derived.Test.YtehnikgdjnmfcaaT
namespace Go.Proofs.Ytehnikgdjnmfcaa
open Go.RowKit Go.WideMaps Go.Shelf Go.Sort Go.Lib

/-- whether another class of a sort is below one -/
def rdropB (ns : List Nm) (abv : Nat → List Nat) (x d : Nm) : Bool := !decide (d = x) && belowB ns abv d x

def rleastB (ns : List Nm) (abv : Nat → List Nat) (ss pre : List Nm) : List Nm :=
  pre.foldl (fun L x => if ss.any (rdropB ns abv x) = true then L else putB false L x) []

theorem rleast_snoc (ns : List Nm) (abv : Nat → List Nat) (ss pre : List Nm) (x : Nm) : rleastB ns abv ss (pre ++ [x]) = if ss.any (rdropB ns abv x) = true then rleastB ns abv ss pre else putB false (rleastB ns abv ss pre) x := by
  unfold rleastB
  rw [List.foldl_append]; rfl

theorem rleast_facts (ns : List Nm) (abv : Nat → List Nat) (ss : List Nm) (pre : List Nm) :
    ascB (rleastB ns abv ss pre) ∧ (∀ x, x ∈ rleastB ns abv ss pre ↔ x ∈ pre ∧ ss.any (rdropB ns abv x) = false) ∧ (rleastB ns abv ss pre).length ≤ pre.length := by
  suffices h : ∀ n, ∀ pre : List Nm, pre.length = n → ascB (rleastB ns abv ss pre) ∧ (∀ x, x ∈ rleastB ns abv ss pre ↔ x ∈ pre ∧ ss.any (rdropB ns abv x) = false) ∧ (rleastB ns abv ss pre).length ≤ pre.length from h _ pre rfl
  intro n
  induction n with
  | zero =>
    intro pre h
    rw [List.length_eq_zero_iff.1 h]
    exact ⟨List.Pairwise.nil, fun x => by simp [rleastB], Nat.le_refl _⟩
  | succ n ih =>
    intro pre h
    rcases List.eq_nil_or_concat pre with rfl | ⟨q, y, rfl⟩
    · simp at h
    · rw [List.concat_eq_append] at h ⊢
      obtain ⟨h1, h2, h3⟩ := ih q (by simp at h; omega)
      rw [rleast_snoc]
      by_cases hd : ss.any (rdropB ns abv y) = true
      · rw [if_pos hd]
        refine ⟨h1, fun x => ?_, by simp; omega⟩
        rw [h2, List.mem_append, List.mem_singleton]
        constructor
        · rintro ⟨a, b⟩; exact ⟨.inl a, b⟩
        · rintro ⟨a | rfl, b⟩
          · exact ⟨a, b⟩
          · rw [hd] at b; cases b
      · rw [if_neg hd]
        refine ⟨putB_asc _ _ h1, fun x => ?_, by have := putB_len false (rleastB ns abv ss q) y; simp; omega⟩
        rw [putB_mem, h2, List.mem_append, List.mem_singleton]
        constructor
        · rintro (⟨a, b⟩ | rfl)
          · exact ⟨.inl a, b⟩
          · exact ⟨.inr rfl, by simpa using hd⟩
        · rintro ⟨a | rfl, b⟩
          · exact .inl ⟨a, b⟩
          · exact .inr rfl

theorem rleast_eq {cs : List (Nm × List Nm)} {sp ab : List (List Nat)} (hb : Built cs sp ab) {ss : List Nm} (hk : ∀ x ∈ ss, inNs (cs.map Prod.fst) x = true) :
    rleastB (cs.map Prod.fst) (fun i => ab.getD i []) ss ss = leastB (cs.map Prod.fst) (fun i => ab.getD i []) ss := by
  obtain ⟨h1, h2, _⟩ := rleast_facts (cs.map Prod.fst) (fun i => ab.getD i []) ss ss
  refine ascB.uniq h1 (leastB_asc _ _ _) fun x => ?_
  rw [h2, mem_least hb hk]
  refine and_congr_right fun hx => ?_
  rw [List.any_eq_false]
  constructor
  · intro h d hd hle
    refine Classical.byContradiction fun hne => h d hd ?_
    unfold rdropB
    rw [(belowB_iff hb (hk d hd)).2 hle, decide_eq_false hne]; rfl
  · intro h d hd hdr
    unfold rdropB at hdr
    rw [Bool.and_eq_true] at hdr
    have h3 := h d hd ((belowB_iff hb (hk d hd)).1 hdr.2)
    rw [decide_eq_true h3] at hdr
    cases hdr.1

theorem any_take_succ {α : Type} (l : List α) (d : α) (p : α → Bool) (k : Nat) (hk : k < l.length) : (l.take (k + 1)).any p = ((l.take k).any p || p (l.getD k d)) := by
  rw [take_snocD l d k hk, List.any_append]; simp

set_option maxRecDepth 100000 in
set_option maxHeartbeats 8000000 in
theorem rleast_any (n c t2 t3 t4 t5 t6 v : Value) (cs : List (Nm × List Nm)) (sp ab : List (List Nat)) (ss : List Nm) (w : World) (hc : SlC w c cs) (hbu : Built cs sp ab) (h300 : cs.length ≤ 300) (hs : SlS w v ss) (hl : ss.length ≤ 1000) (hks : ss.all (inNs (cs.map Prod.fst)) = true) :
    Calls Try.prog 45 #[.agg #[n, c, t2, t3, t4, t5, t6], v] w fun e w' => ∃ v', e = .returned v' ∧ SlO w' w.heap.size v' (leastB (cs.map Prod.fst) (fun i => ab.getD i []) ss) ∧ Below w.heap.size w w' := by
  have hb0 := below_alloc w (Obj.cells #[n, c, t2, t3, t4, t5, t6] 29)
  have HC := Lib.hid hc
  have HS := Lib.hid hs
  have HR0 := Lib.hid (heap_alloc_new w (Obj.cells #[n, c, t2, t3, t4, t5, t6] 29))
  have hz0 : w.heap.size < (w.alloc (Obj.cells #[n, c, t2, t3, t4, t5, t6] 29)).heap.size := by simp
  have hk1 := List.all_eq_true.1 hks
  have HEQ := Lib.hid (rleast_eq hbu hk1)
  have HK := Lib.hid hk1
  have HBU := Lib.hid hbu
  obtain ⟨_, ca, ccap, rfl, _⟩ := hc
  obtain ⟨_, sa, scap, rfl, _⟩ := hs
  clear hks hk1 hbu
  go_enter Try.func45, Try.ntmps45
  go_wp2_with fail
  have hb1 := below_alloc (w.alloc (Obj.cells #[n, .slice ca cs.length ccap, t2, t3, t4, t5, t6] 29)) (Obj.cells #[] 9)
  have HR1 := Lib.hid ((hb1.block w.heap.size hz0).trans HR0.out)
  have hB1 : Below w.heap.size w ((w.alloc (Obj.cells #[n, .slice ca cs.length ccap, t2, t3, t4, t5, t6] 29)).alloc (Obj.cells #[] 9)) := hb0.trans (hb1.mono (by omega))
  have hz1 : w.heap.size < ((w.alloc (Obj.cells #[n, .slice ca cs.length ccap, t2, t3, t4, t5, t6] 29)).alloc (Obj.cells #[] 9)).heap.size := by simp; omega
  have hL0 : rleastB (cs.map Prod.fst) (fun i => ab.getD i []) ss (ss.take 0) = [] := rfl
  have hO0 : SlO ((w.alloc (Obj.cells #[n, .slice ca cs.length ccap, t2, t3, t4, t5, t6] 29)).alloc (Obj.cells #[] 9)) w.heap.size (.slice (some ⟨w.heap.size + 1, 0, none⟩) 0 0) (rleastB (cs.map Prod.fst) (fun i => ab.getD i []) ss (ss.take 0)) := by
    rw [hL0]
    exact ⟨by simp, by simp, _, _, rfl, fun h => absurd h (by simp)⟩
  have HO0 := Lib.hid hO0
  clear hL0 hO0 hb1 hb0 HR0
  generalize ((w.alloc (Obj.cells #[n, .slice ca cs.length ccap, t2, t3, t4, t5, t6] 29)).alloc (Obj.cells #[] 9)) = W1 at *
  go_loopw [5, 6] (fun u i wr => ∃ i' : Nat, i' ≤ ss.length ∧ i = .int .i64 i' ∧ Hid (SlO wr w.heap.size u (rleastB (cs.map Prod.fst) (fun i => ab.getD i []) ss (ss.take i'))) ∧ Below W1.heap.size W1 wr) (fun _ i _ => ss.length - (intOf i).toNat)
  case atStart => exact ⟨0, by omega, rfl, HO0, Below.refl _ _⟩
  case round =>
    obtain ⟨i, hi, rfl, hO, hB⟩ := hrel
    have hz := hB.size
    have hBw : Below w.heap.size w wr := hB1.trans (hB.mono (by omega))
    by_cases hlt : i < ss.length
    · obtain ⟨b, off, x, rfl, hb, hck0, hwk, hx⟩ := HS.out.at hlt
      have hxin := Lib.hid (HK.out x (by rw [hx]; exact getD_mem ss [] i hlt))
      have HSN : Hid (rleastB (cs.map Prod.fst) (fun i => ab.getD i []) ss (ss.take (i + 1)) = if ss.any (rdropB (cs.map Prod.fst) (fun i => ab.getD i []) x) = true then rleastB (cs.map Prod.fst) (fun i => ab.getD i []) ss (ss.take i) else putB false (rleastB (cs.map Prod.fst) (fun i => ab.getD i []) ss (ss.take i)) x) := by unfold Hid; rw [take_snocD ss [] i hlt, ← hx, rleast_snoc]
      have HK0 := Lib.hid hck0
      have hI0 : Hid (false = (ss.take 0).any (rdropB (cs.map Prod.fst) (fun i => ab.getD i []) x)) := rfl
      clear hx hck0
      go_wp2_with fail
      obtain ⟨wo, rfl⟩ : ∃ wo : World, wo = wr := ⟨_, rfl⟩
      go_loopw [7, 8] (fun d k wr => ∃ (k' : Nat) (q : Bool), k' ≤ ss.length ∧ k = .int .i64 k' ∧ d = .bool q ∧ Hid (q = (ss.take k').any (rdropB (cs.map Prod.fst) (fun i => ab.getD i []) x)) ∧ Below wo.heap.size wo wr) (fun _ k _ => ss.length - (intOf k).toNat)
      case atStart => exact ⟨0, false, by omega, rfl, rfl, hI0, Below.refl _ _⟩
      case round =>
        obtain ⟨k, q, hk, rfl, rfl, hI, hB3⟩ := hrel
        clear hI0
        have hz3 := hB3.size
        have hBw3 : Below w.heap.size w wr := hBw.trans (hB3.mono (by omega))
        have r3 := Lib.hid ((hB3.block w.heap.size (by omega)).trans ((hB.block w.heap.size hz1).trans HR1.out))
        have hcx := (hBw3.cell (p := ⟨b, off + i, none⟩) hb).trans HK0.out
        by_cases hltk : k < ss.length
        · obtain ⟨b2, off2, d, hee2, hb2, hckd0, hwd, hd⟩ := HS.out.at hltk
          injection hee2 with hee2
          injection hee2 with hq1 hq2
          subst hq1 hq2
          have hcd := (hBw3.cell (p := ⟨b, off + k, none⟩) hb).trans hckd0
          have HT := Lib.hid (any_take_succ ss [] (rdropB (cs.map Prod.fst) (fun i => ab.getD i []) x) k hltk)
          rw [← hd] at HT
          have hdin := Lib.hid (HK.out d (by rw [hd]; exact getD_mem ss [] k hltk))
          clear hd hckd0
          cases q
          · by_cases he : d = x
            · have hd2 : ((bs d).toList == (bs x).toList) = true := by rw [bs_eq]; exact decide_eq_true he
              have hst : Hid (false = (ss.take (k + 1)).any (rdropB (cs.map Prod.fst) (fun i => ab.getD i []) x)) := by
                unfold Hid; rw [HT.out, ← hI.out]; unfold rdropB; rw [decide_eq_true he]; rfl
              clear HT hI he
              go_wp2_with fail
              go_quiet (fail)
              go_wp2_with fail
              go_roundw
              case rel => exact ⟨k + 1, false, by omega, by go_num, rfl, hst, below_drewN hB3 _⟩
              case measure => simp [intOf]; omega
            · have hd2 : ((bs d).toList == (bs x).toList) = false := by rw [bs_eq]; exact decide_eq_false he
              have hst : Hid (belowB (cs.map Prod.fst) (fun i => ab.getD i []) d x = (ss.take (k + 1)).any (rdropB (cs.map Prod.fst) (fun i => ab.getD i []) x)) := by
                unfold Hid; rw [HT.out, ← hI.out]; unfold rdropB; rw [decide_eq_false he]; simp
              have UN := Lib.hid (under_any n _ t2 t3 t4 t5 t6 cs sp ab d x wr.drew (HC.out.below hBw3.drew (Nat.le_refl _)) HBU.out h300 hdin.out hxin.out)
              have hcxd := Lib.hid hcx
              have hcdd := Lib.hid hcd
              obtain ⟨c0, c1, c2, c3, c4, c5, c6⟩ := cells7' r3.out
              clear HT hI he
              generalize belowB (cs.map Prod.fst) (fun i => ab.getD i []) d x = r at *
              go_wp2_with fail
              go_region_held3 (fun w' => w'.cell? ⟨w.heap.size, 0, none⟩ = some n ∧ w'.cell? ⟨w.heap.size, 1, none⟩ = some (.slice ca cs.length ccap) ∧ w'.cell? ⟨w.heap.size, 2, none⟩ = some t2 ∧ w'.cell? ⟨w.heap.size, 3, none⟩ = some t3 ∧ w'.cell? ⟨w.heap.size, 4, none⟩ = some t4 ∧ w'.cell? ⟨w.heap.size, 5, none⟩ = some t5 ∧ w'.cell? ⟨w.heap.size, 6, none⟩ = some t6 ∧ w'.cell? ⟨b, off + i, none⟩ = some (.string (bs x)) ∧ w'.cell? ⟨b, off + k, none⟩ = some (.string (bs d)))
                (first | exact cells7and r3.out ⟨hcxd.out, hcdd.out⟩ | exact cells7and r4.out ⟨k4.out, k5.out⟩)
                ((go_at_call 62; refine UN.out.mono ?_; rintro e w4 ⟨rfl, hb4⟩; have hb4 : Below wr.heap.size wr w4 := ((Below.refl _ wr).drew).trans hb4; have r4 := Lib.hid ((hb4.block w.heap.size (by omega)).trans r3.out); have k4 := Lib.hid ((hb4.cell (p := ⟨b, off + i, none⟩) (by simp; omega)).trans hcxd.out); have k5 := Lib.hid ((hb4.cell (p := ⟨b, off + k, none⟩) (by simp; omega)).trans hcdd.out)))
              clear c0 c1 c2 c3 c4 c5 c6 hcx hcd
              go_wp2_with fail
              go_roundw
              case rel => exact ⟨k + 1, r, by omega, by go_num, rfl, hst, hB3.trans (hb4.mono (by omega))⟩
              case measure => simp [intOf]; omega
          · have hst : Hid (true = (ss.take (k + 1)).any (rdropB (cs.map Prod.fst) (fun i => ab.getD i []) x)) := by
              unfold Hid; rw [HT.out, ← hI.out]; rfl
            clear HT hI
            go_wp2_with fail
            go_quiet (fail)
            go_wp2_with fail
            go_roundw
            case rel => exact ⟨k + 1, true, by omega, by go_num, rfl, hst, below_drewN hB3 _⟩
            case measure => simp [intOf]; omega
        · have hd := hI.out
          rw [List.take_of_length_le (by omega)] at hd
          have hO3 := Lib.hid (hO.out.below hB3 (Nat.le_refl _))
          have hf := rleast_facts (cs.map Prod.fst) (fun i => ab.getD i []) ss (ss.take i)
          have hll : (rleastB (cs.map Prod.fst) (fun i => ab.getD i []) ss (ss.take i)).length ≤ i := by
            have := hf.2.2
            rw [List.length_take] at this; omega
          clear hI hf
          cases q
          · have hst : Hid (rleastB (cs.map Prod.fst) (fun i => ab.getD i []) ss (ss.take (i + 1)) = putB false (rleastB (cs.map Prod.fst) (fun i => ab.getD i []) ss (ss.take i)) x) := by
              unfold Hid; rw [HSN.out, ← hd]; rfl
            clear hd HSN
            have PU := Lib.hid (put_any _ _ x wr hO3.out.sl (by omega) hwk hO3.out.2.1)
            go_wp2_with fail
            refine PU.out.mono ?_
            rintro e w4 ⟨v4, rfl, ho4, hb4⟩
            have HO4 := Lib.hid ho4
            clear ho4
            go_wp2_with fail
            go_roundw
            case rel => exact ⟨i + 1, by omega, by go_num, by rw [hst.out]; exact HO4.out.base (by omega), hB.trans ((hB3.mono (by omega)).trans (hb4.mono (by omega)))⟩
            case measure => simp [intOf]; omega
          · have hst : Hid (rleastB (cs.map Prod.fst) (fun i => ab.getD i []) ss (ss.take (i + 1)) = rleastB (cs.map Prod.fst) (fun i => ab.getD i []) ss (ss.take i)) := by
              unfold Hid; rw [HSN.out, ← hd]; rfl
            clear hd HSN
            go_wp2_with fail
            go_roundw
            case rel => exact ⟨i + 1, by omega, by go_num, by rw [hst.out]; exact hO3.out, hB.trans (hB3.mono (by omega))⟩
            case measure => simp [intOf]; omega
    · have hii : i = ss.length := by omega
      subst hii
      go_wp2_with fail
      go_ret
      refine ⟨_, rfl, ?_, hBw⟩
      have := hO.out
      rw [List.take_length, HEQ.out] at this
      exact this
end Go.Proofs.Ytehnikgdjnmfcaa
