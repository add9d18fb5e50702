/- The reference's first 29. -/
import Derived.Test.YtehnikgdjnmfcaaGreatMZ27
import Derived.Test.YtehnikgdjnmfcaaGreatMZ31
namespace Go.Proofs.YtehnikgdjnmfcaaGreat
open Go.RowKit Go.WideMaps Go.Shelf Go.Sort Go.Lib
attribute [local go_sem] Oper.semAt_some

/-- what the reference's first leaves -/
def FrPost (w : World) (d : Nat) (t : GT) (ok : Bool) (e : Ending) (w' : World) : Prop :=
  ∃ o x a k q, e = .returned (.tuple #[.agg #[.int .i64 o, .string x, .int .i64 0, .slice none 0 0, .slice a k q], .bool ok]) ∧ Below w.heap.size w w' ∧ TyIs w' (fun b => b < w.heap.size) d t o x a k

def FirstR (d : Nat) : Prop :=
  ∀ (n c t2 t3 t4 t5 t6 v : Value) (cs : List (Nm × List Nm)) (sp ab : List (List Nat)) (ds : List (Nm × Int)) (rs : List Ar) (ss : List Nm) (w : World), SlC w c cs → Built cs sp ab → cs.length ≤ 300 →
    SlT w t2 ds → SlAr w t3 rs → arsErr cs ab ds rs = 0 → typesErr ds = 0 → SlS w v ss → d ≤ 5 →
    Calls Tryz.prog 29 #[.agg #[n, c, t2, t3, t4, t5, t6], v, .int .i64 d] w (FrPost w d (gT cs ab ds rs d ss) (gB cs ab ds rs d ss))

theorem firstR_end {w w' : World} {d : Nat} {t : GT} {ok : Bool} (h1 : ok = false) (h2 : t = .zero) (hb : Below w.heap.size w w') : FrPost w d t ok (.returned (.tuple #[.agg #[.int .i64 0, .string ByteArray.empty, .int .i64 0, .slice none 0 0, .slice none 0 0], .bool false])) w' := by
  subst h1 h2
  exact ⟨0, ByteArray.empty, none, 0, 0, rfl, hb, tyIs_zero _ _ _ _⟩

theorem slSsO_at {w : World} {B : Nat} {a : Option Addr} {n c : Nat} {ls : List (List Nm)} (h : SlSsO w B (.slice a n c) ls) {k : Nat} (hk : k < ls.length) :
    ∃ b p q, a = some ⟨b, 0, none⟩ ∧ b < w.heap.size ∧ w.cell? ⟨b, k, none⟩ = some (.slice p (ls.getD k []).length q) ∧ SlO w B (.slice p (ls.getD k []).length q) (ls.getD k []) := by
  obtain ⟨_, a', c', e, h2⟩ := h
  injection e with e1 e2 e3
  subst e1 e3
  obtain ⟨b, e, _, hb, hc⟩ := h2 (by omega)
  obtain ⟨p, q, g1, g2⟩ := hc k hk
  exact ⟨b, p, q, e, hb, g1, g2⟩

theorem grown1 {w : World} {g i : Nat} {v : Value} : w.grownBy (w.setCell ⟨g, i, none⟩ v) (some g) := by
  have b := (Below.refl g w).setCell (p := ⟨g, i, none⟩) (Nat.le_refl _) v
  exact ⟨b.os, b.tape, b.output, b.size, fun k _ hn => heap_setCell_other _ _ _ _ fun e => hn (by rw [e])⟩

set_option maxRecDepth 100000 in
set_option maxHeartbeats 8000000 in
theorem firstR_zero : FirstR 0 := by
  intro n c t2 t3 t4 t5 t6 v cs sp ab ds rs ss w hc hbu h300 hd ha har hty hs hd5
  have hb0 := below_alloc w (Obj.cells #[n, c, t2, t3, t4, t5, t6] 29)
  have r0 := heap_alloc_new w (Obj.cells #[n, c, t2, t3, t4, t5, t6] 29)
  have hz0 : (w.alloc (Obj.cells #[n, c, t2, t3, t4, t5, t6] 29)).heap.size = w.heap.size + 1 := by simp
  have hb1 := below_alloc (w.alloc (Obj.cells #[n, c, t2, t3, t4, t5, t6] 29)) (Obj.cells noT5 42)
  have r1 := heap_alloc_new (w.alloc (Obj.cells #[n, c, t2, t3, t4, t5, t6] 29)) (Obj.cells noT5 42)
  rw [hz0] at r1
  have hB1 := hb0.trans (hb1.mono (by omega))
  have R0 := Lib.hid ((hb1.block w.heap.size (by omega)).trans r0)
  have R1 := Lib.hid r1
  have hz1 : ((w.alloc (Obj.cells #[n, c, t2, t3, t4, t5, t6] 29)).alloc (Obj.cells noT5 42)).heap.size = w.heap.size + 2 := by simp
  obtain ⟨w1, hw1⟩ : ∃ w1, w1 = (w.alloc (Obj.cells #[n, c, t2, t3, t4, t5, t6] 29)).alloc (Obj.cells noT5 42) := ⟨_, rfl⟩
  rw [← hw1] at hB1 R0 R1 hz1
  have HW1 := Lib.hid hw1
  clear hw1
  obtain ⟨_, da, dcap, rfl, _⟩ := hd
  obtain ⟨_, sa, scap, rfl, _⟩ := hs
  have hT : Hid (gT cs ab ds rs 0 ss = .zero) := rfl
  have hG : Hid (gB cs ab ds rs 0 ss = false) := rfl
  generalize gT cs ab ds rs 0 ss = gt at *
  generalize gB cs ab ds rs 0 ss = ok at *
  have hd0 : (((0 : Nat) : Int)) = 0 := rfl
  rw [hd0]
  clear hd0 r0 r1 hb0 hb1 hc hbu ha har hty
  go_enter Tryz.func29, Tryz.ntmps29
  go_wp2_with fail
  go_loopw [8] (fun i wr => i = .int .i64 0 ∧ Below (w.heap.size + 2) w1 wr) (fun _ _ => 0)
  case atStart => exact ⟨rfl, by rw [HW1.out]; exact Below.refl _ _⟩
  case round =>
    obtain ⟨rfl, hB⟩ := hrel
    have hzr := hB.size
    have hBr : Below w.heap.size w wr := hB1.trans (hB.mono (by omega))
    have r0 := (hB.block w.heap.size (by omega)).trans R0.out
    have r1 := (hB.block (w.heap.size + 1) (by omega)).trans R1.out
    have RR1 := Lib.hid r1
    obtain ⟨c0, c1, c2, c3, c4, c5, c6⟩ := cells7' r0
    obtain ⟨⟨z0, z1, z2, z3, z4⟩, z5, z6, z7, z8, z9⟩ := five r1
    clear r0 r1
    by_cases hdl : 0 < ds.length
    · go_wp2_with fail
      refine bodyPost_ret (results_row_tmp rfl _ _ (w.heap.size + 1) 42 noT5 (0, 0) _ rfl (row5 RR1.out) Tryz.underlying42 rfl Tryz.size42) rfl ?_
      exact firstR_end hG.out hT.out (below5 hBr (by omega))
    · go_wp2_with fail
      refine bodyPost_ret (results_row_tmp rfl _ _ (w.heap.size + 1) 42 noT5 (0, 0) _ rfl (row5 RR1.out) Tryz.underlying42 rfl Tryz.size42) rfl ?_
      exact firstR_end hG.out hT.out (below5 hBr (by omega))

set_option maxRecDepth 100000 in
set_option maxHeartbeats 8000000 in
theorem firstR_step {d : Nat} (HF : FirstR d) : FirstR (d + 1) := by
  intro n c t2 t3 t4 t5 t6 v cs sp ab ds rs ss w hc hbu h300 hd ha har hty hs hd5
  have HC := Lib.hid hc
  have HD := Lib.hid hd
  have HA := Lib.hid ha
  have HS := Lib.hid hs
  have HBU := Lib.hid hbu
  have HAR := Lib.hid har
  have HTY := Lib.hid hty
  have hds := types_len hty
  have hb0 := below_alloc w (Obj.cells #[n, c, t2, t3, t4, t5, t6] 29)
  have r0 := heap_alloc_new w (Obj.cells #[n, c, t2, t3, t4, t5, t6] 29)
  have hz0 : (w.alloc (Obj.cells #[n, c, t2, t3, t4, t5, t6] 29)).heap.size = w.heap.size + 1 := by simp
  have hb1 := below_alloc (w.alloc (Obj.cells #[n, c, t2, t3, t4, t5, t6] 29)) (Obj.cells noT5 42)
  have r1 := heap_alloc_new (w.alloc (Obj.cells #[n, c, t2, t3, t4, t5, t6] 29)) (Obj.cells noT5 42)
  rw [hz0] at r1
  have hB1 := hb0.trans (hb1.mono (by omega))
  have R0 := Lib.hid ((hb1.block w.heap.size (by omega)).trans r0)
  have R1 := Lib.hid r1
  have hz1 : ((w.alloc (Obj.cells #[n, c, t2, t3, t4, t5, t6] 29)).alloc (Obj.cells noT5 42)).heap.size = w.heap.size + 2 := by simp
  obtain ⟨w1, hw1⟩ : ∃ w1, w1 = (w.alloc (Obj.cells #[n, c, t2, t3, t4, t5, t6] 29)).alloc (Obj.cells noT5 42) := ⟨_, rfl⟩
  rw [← hw1] at hB1 R0 R1 hz1
  have HW1 := Lib.hid hw1
  clear hw1
  obtain ⟨_, ca, ccap, rfl, _⟩ := hc
  obtain ⟨hdl, da, dcap, rfl, hdx⟩ := hd
  obtain ⟨_, aa, acap, rfl, _⟩ := ha
  obtain ⟨_, sa, scap, rfl, _⟩ := hs
  have HDX := Lib.hid hdx
  obtain ⟨ok, hok⟩ : ∃ ok, ok = gB cs ab ds rs (d + 1) ss := ⟨_, rfl⟩
  obtain ⟨gt, hgt⟩ : ∃ gt, gt = gT cs ab ds rs (d + 1) ss := ⟨_, rfl⟩
  rw [← hok, ← hgt]
  rw [gB_any] at hok
  rw [gT_pick] at hgt
  have HT0 : Hid (ok = (ds.drop 0).any (givesB cs ab ds rs d ss)) := hok
  have HP0 : Hid (gt = pickT cs ab ds rs d ss (ds.drop 0)) := hgt
  have HDD : Hid ((((d + 1 : Nat) : Int)) = (d : Int) + 1) := by unfold Hid; omega
  rw [HDD.out]
  have hdp : decide ((0 : Int) < (d : Int) + 1) = true := decide_eq_true (by omega)
  have hwr : IntKind.i64.wrap ((d : Nat) : Int) = (d : Int) := IntWalk.i64_in _ (by omega)
  clear hok hgt hb0 hb1 r0 r1 hbu har hty hdx
  go_enter Tryz.func29, Tryz.ntmps29
  go_wp2_with fail
  go_loopw [8] (fun i wr => ∃ k : Nat, k ≤ ds.length ∧ i = .int .i64 k ∧ Below (w.heap.size + 2) w1 wr ∧ Hid (ok = (ds.drop k).any (givesB cs ab ds rs d ss)) ∧ Hid (gt = pickT cs ab ds rs d ss (ds.drop k))) (fun i _ => ds.length - (intOf i).toNat)
  case atStart => exact ⟨0, by omega, rfl, by rw [HW1.out]; exact Below.refl _ _, HT0, HP0⟩
  case round =>
    clear HT0 HP0
    obtain ⟨k, hk, rfl, hB, hto, hpo⟩ := hrel
    have hzr := hB.size
    have hBr : Below w.heap.size w wr := hB1.trans (hB.mono (by omega))
    have r0 := (hB.block w.heap.size (by omega)).trans R0.out
    have r1 := (hB.block (w.heap.size + 1) (by omega)).trans R1.out
    have RR0 := Lib.hid r0
    have RR1 := Lib.hid r1
    obtain ⟨c0, c1, c2, c3, c4, c5, c6⟩ := cells7' r0
    clear r0 r1
    by_cases hlt : k < ds.length
    · obtain ⟨bd, offd, rfl, hbd, hcl⟩ := HDX.out (by omega)
      obtain ⟨g0, gl, _⟩ := hcl k hlt
      have e0 := (hBr.cell (p := ⟨bd, offd + k * 2, none⟩) hbd).trans g0
      have hdrop : Hid ((ds.drop k).any (givesB cs ab ds rs d ss) = (givesB cs ab ds rs d ss (ds.getD k ([], 0)) || (ds.drop (k + 1)).any (givesB cs ab ds rs d ss))) := by
        unfold Hid; rw [drop_getD ds ([], 0) k hlt]; rfl
      have hpick : Hid (pickT cs ab ds rs d ss (ds.drop k) = if givesB cs ab ds rs d ss (ds.getD k ([], 0)) = true then .mk 1 (ds.getD k ([], 0)).1 ((wantC cs ab ds rs (ds.getD k ([], 0)).1 ss).map (gT cs ab ds rs d)) else pickT cs ab ds rs d ss (ds.drop (k + 1))) := by
        unfold Hid; rw [drop_getD ds ([], 0) k hlt]; exact pickT_cons _ _ _ _ _ _ _ _
      have hin : Hid (inNs (ds.map Prod.fst) (ds.getD k ([], 0)).1 = true) := by
        unfold Hid inNs
        refine decide_eq_true ?_
        exact List.mem_map.2 ⟨_, getDmem ds ([], 0) k hlt, rfl⟩
      generalize hdk : ds.getD k ([], 0) = dc at *
      obtain ⟨nm, nn⟩ := dc
      simp only [] at e0 gl
      have E0 := Lib.hid e0
      have HBD := Lib.hid hbd
      have ND := Lib.hid (needed_r n _ _ _ t4 t5 t6 _ cs sp ab ds rs nm ss wr.drew (HC.out.below hBr.drew (Nat.le_refl _)) HBU.out h300 (HD.out.below hBr.drew (Nat.le_refl _)) (HA.out.below hBr.drew (Nat.le_refl _)) HAR.out HTY.out (HS.out.below hBr.drew (Nat.le_refl _)))
      have hin' : inNs (ds.map Prod.fst) nm = true := hin.out
      rw [hin', Bool.true_and] at ND
      have HGV : Hid (givesB cs ab ds rs d ss (nm, nn) = (hasAll rs nm ss && (wantC cs ab ds rs nm ss).all (gB cs ab ds rs d))) := rfl
      have HWF := Lib.hid (fun hh => wantC_facts (name := nm) (s := ss) HBU.out HAR.out h300 HTY.out hh)
      have hpick2 : Hid (pickT cs ab ds rs d ss (ds.drop k) = if givesB cs ab ds rs d ss (nm, nn) = true then .mk 1 nm ((wantC cs ab ds rs nm ss).map (gT cs ab ds rs d)) else pickT cs ab ds rs d ss (ds.drop (k + 1))) := hpick.out
      clear hcl g0 hin hin' hpick e0 hbd hdk
      generalize givesB cs ab ds rs d ss (nm, nn) = gv at *
      generalize wantC cs ab ds rs nm ss = L at *
      generalize hasAll rs nm ss = okw at *
      unfold NdPost at ND
      obtain ⟨LA, hLA⟩ : ∃ LA, LA = (if okw = true then L else []) := ⟨_, rfl⟩
      rw [← hLA] at ND
      have HLA := Lib.hid hLA
      clear hLA
      have HBr := Lib.hid hBr
      go_wp2_with fail
      go_region_held3 (fun w' => w'.cell? ⟨w.heap.size, 0, none⟩ = some n ∧ w'.cell? ⟨w.heap.size, 1, none⟩ = some (.slice ca cs.length ccap) ∧ w'.cell? ⟨w.heap.size, 2, none⟩ = some (.slice (some ⟨bd, offd, none⟩) ds.length dcap) ∧ w'.cell? ⟨w.heap.size, 3, none⟩ = some (.slice aa rs.length acap) ∧ w'.cell? ⟨w.heap.size, 4, none⟩ = some t4 ∧ w'.cell? ⟨w.heap.size, 5, none⟩ = some t5 ∧ w'.cell? ⟨w.heap.size, 6, none⟩ = some t6 ∧ w'.cell? ⟨bd, offd + k * 2, none⟩ = some (.string (bs nm)))
        (first | exact cells7p RR0.out E0.out | exact cells7p R5.out E5.out)
        ((go_at_call 24; refine ND.out.mono ?_; rintro e w5 ⟨a5, q5, rfl, hb5, hss⟩; have R5 := Lib.hid ((hb5.block w.heap.size (by show w.heap.size < wr.heap.size; omega)).trans RR0.out); have E5 := Lib.hid ((hb5.cell (p := ⟨bd, offd + k * 2, none⟩) (by have := HBD.out; show bd < wr.heap.size; omega)).trans E0.out)))
      have hb5' : Below wr.heap.size wr w5 := (Below.refl wr.heap.size wr).drew.trans hb5
      have hz5 := hb5'.size
      have hB5 : Below (w.heap.size + 2) w1 w5 := hB.trans (hb5'.mono (by omega))
      have hBr5 : Below w.heap.size w w5 := hB1.trans (hB5.mono (by omega))
      have RZ5 := Lib.hid ((hb5'.block (w.heap.size + 1) (by omega)).trans RR1.out)
      have R5' := Lib.hid ((hb5'.block w.heap.size (by omega)).trans RR0.out)
      have E5' := Lib.hid ((hb5'.cell (p := ⟨bd, offd + k * 2, none⟩) (by have := HBD.out; simp only; omega)).trans E0.out)
      have HSS := Lib.hid hss
      have HNX : Hid (gv = false → ok = (ds.drop (k + 1)).any (givesB cs ab ds rs d ss) ∧ gt = pickT cs ab ds rs d ss (ds.drop (k + 1))) := fun h => by
        rw [hto.out, hdrop.out, hpo.out, hpick2.out, h]; exact ⟨rfl, rfl⟩
      have HYES : Hid (gv = true → ok = true ∧ gt = .mk 1 nm (L.map (gT cs ab ds rs d))) := fun h => by
        rw [hto.out, hdrop.out, hpo.out, hpick2.out, h]; exact ⟨rfl, rfl⟩
      clear ND R5 E5 RR0 RR1 E0 hb5 hB hb5' hss hto hpo hdrop hpick2 c0 c1 c2 c3 c4 c5 c6
      obtain ⟨c0, c1, c2, c3, c4, c5, c6⟩ := cells7' R5'.out
      have e0 := E5'.out
      cases okw with
      | false =>
        have hLA0 := HLA.out
        rw [if_neg (by decide)] at hLA0
        subst hLA0
        have HGF : Hid (gv = false) := HGV.out
        simp only [List.length_nil]
        go_wp2_with fail
        obtain ⟨hn1, hn2⟩ := HNX.out HGF.out
        have HN1 := Lib.hid hn1
        have HN2 := Lib.hid hn2
        clear hn1 hn2
        have hbx := below_alloc w5 (Obj.cells #[.int .i64 1, .string (bs nm), .int .i64 0, .slice none 0 0, .slice none 0 0] 42)
        have hBx : Below (w.heap.size + 2) w1 (w5.alloc (Obj.cells #[.int .i64 1, .string (bs nm), .int .i64 0, .slice none 0 0, .slice none 0 0] 42)) := hB5.trans (hbx.mono (by omega))
        generalize w5.alloc (Obj.cells #[.int .i64 1, .string (bs nm), .int .i64 0, .slice none 0 0, .slice none 0 0] 42) = wx at *
        go_loopw [10, 12] (fun o i wr => o = .bool false ∧ i = .int .i64 0 ∧ wr = wx) (fun _ _ _ => 0)
        case atStart => exact ⟨rfl, rfl, rfl⟩
        case round =>
          obtain ⟨rfl, rfl, rfl⟩ := hrel
          go_wp2_with fail
          go_roundw
          case rel => exact ⟨k + 1, by omega, by go_num, hBx, HN1, HN2⟩
          case measure => simp [intOf]; omega
      | true =>
        have hLA0 := HLA.out
        rw [if_pos rfl] at hLA0
        subst hLA0
        obtain ⟨hw10, hwk⟩ := HWF.out rfl
        have HGV1 : Hid (gv = LA.all (gB cs ab ds rs d)) := by unfold Hid; rw [HGV.out]; rfl
        have HWK := Lib.hid hwk
        clear HWF HGV hwk
        go_wp2_with fail
        have hbx := below_alloc w5 (Obj.cells #[.int .i64 1, .string (bs nm), .int .i64 0, .slice none 0 0, .slice none 0 0] 42)
        have rx := heap_alloc_new w5 (Obj.cells #[.int .i64 1, .string (bs nm), .int .i64 0, .slice none 0 0, .slice none 0 0] 42)
        have hzx : (w5.alloc (Obj.cells #[.int .i64 1, .string (bs nm), .int .i64 0, .slice none 0 0, .slice none 0 0] 42)).heap.size = w5.heap.size + 1 := by simp
        have HBX := Lib.hid hbx
        generalize w5.alloc (Obj.cells #[.int .i64 1, .string (bs nm), .int .i64 0, .slice none 0 0, .slice none 0 0] 42) = wx at *
        have hI0 : Hid (wx.heap[w5.heap.size]? = some (.cells #[.int .i64 1, .string (bs nm), .int .i64 0, .slice none 0 0, .slice none 0 0] 42 (0, 0)) ∧ wx.ownsRow (w5.heap.size + 1) 42 5 (.slice none 0 0) 0 (encE []) ∧ EsAt wx (hotV (fun b => b < w5.heap.size + 1) (.slice none 0 0)) d [] ((LA.take 0).map (gT cs ab ds rs d)) ∧ (LA.take 0).all (gB cs ab ds rs d) = true) :=
          ⟨rx, World.ownsRow_nil _ _ _ _, ⟨rfl, fun j hj => absurd hj (by simp)⟩, rfl⟩
        clear rx hbx
        go_loopw [10, 12] (fun o i wr => ∃ (m : Nat) (b : Bool) (p : Option Addr) (pc : Nat) (es : List Tp), m ≤ LA.length ∧ o = .bool b ∧ i = .int .i64 m ∧ Below (w5.heap.size) w5 wr ∧ w5.heap.size + 1 ≤ wr.heap.size ∧
            Hid (b = true → wr.heap[w5.heap.size]? = some (.cells #[.int .i64 1, .string (bs nm), .int .i64 0, .slice none 0 0, .slice p m pc] 42 (0, 0)) ∧ wr.ownsRow (w5.heap.size + 1) 42 5 (.slice p m pc) m (encE es) ∧ EsAt wr (hotV (fun b => b < w5.heap.size + 1) (.slice p m pc)) d es ((LA.take m).map (gT cs ab ds rs d)) ∧ (LA.take m).all (gB cs ab ds rs d) = true) ∧ Hid (b = false → gv = false)) (fun _ i _ => LA.length - (intOf i).toNat)
        case atStart => exact ⟨0, true, none, 0, [], by omega, rfl, rfl, HBX.out, by omega, fun _ => hI0.out, fun h => by cases h⟩
        case round =>
          clear hI0 c0 c1 c2 c3 c4 c5 c6 e0
          obtain ⟨m, b, p, pc, es, hm, rfl, rfl, hBm, hzm, htr, hfa⟩ := hrel
          have hBm2 : Below (w.heap.size + 2) w1 wr := hB5.trans (hBm.mono (by omega))
          have hBrm : Below w.heap.size w wr := hB1.trans (hBm2.mono (by omega))
          cases b with
          | false =>
            obtain ⟨hn1, hn2⟩ := HNX.out (hfa.out rfl)
            have HN1 := Lib.hid hn1
            have HN2 := Lib.hid hn2
            clear hn1 hn2
            by_cases hlm : m < LA.length
            · go_wp2_with fail
              go_roundw
              case rel => exact ⟨k + 1, by omega, by go_num, hBm2, HN1, HN2⟩
              case measure => simp [intOf]; omega
            · go_wp2_with fail
              go_roundw
              case rel => exact ⟨k + 1, by omega, by go_num, hBm2, HN1, HN2⟩
              case measure => simp [intOf]; omega
          | true =>
            obtain ⟨hrow, hown, hes, hall⟩ := htr.out rfl
            have HROW := Lib.hid hrow
            have HOWN := Lib.hid hown
            have HES := Lib.hid hes
            have HALL := Lib.hid hall
            clear htr hfa hrow hown hes hall
            by_cases hlm : m < LA.length
            · obtain ⟨ga, pa, qa, rfl, hga, gm, gms⟩ := slSsO_at (HSS.out.below hBm) hlm
              have R6 := Lib.hid ((hBm.block w.heap.size (by omega)).trans R5'.out)
              have GM := Lib.hid gm
              obtain ⟨hk1, hk2⟩ := HWK.out (LA.getD m []) (getDmem LA [] m hlm)
              have hnext : Hid ((LA.take (m + 1)).map (gT cs ab ds rs d) = (LA.take m).map (gT cs ab ds rs d) ++ [gT cs ab ds rs d (LA.getD m [])]) := take_map_snoc _ LA [] m hlm
              have hall1 : Hid ((LA.take (m + 1)).all (gB cs ab ds rs d) = ((LA.take m).all (gB cs ab ds rs d) && gB cs ab ds rs d (LA.getD m []))) := by unfold Hid; rw [take_snocD LA [] m hlm, List.all_append]; simp
              have hno : Hid (gB cs ab ds rs d (LA.getD m []) = false → gv = false) := fun h => by rw [HGV1.out]; refine Bool.eq_false_iff.2 fun hh => ?_; have := List.all_eq_true.1 hh _ (getDmem LA [] m hlm); rw [h] at this; cases this
              have hdr := (Below.refl wr.heap.size wr).drew
              have hal := (below_alloc wr (Obj.cells noT5 42)).drew
              have FA := Lib.hid (HF n _ _ _ t4 t5 t6 _ cs sp ab ds rs (LA.getD m []) wr.drew (HC.out.below (hBrm.drew) (Nat.le_refl _)) HBU.out h300 (HD.out.below hBrm.drew (Nat.le_refl _)) (HA.out.below hBrm.drew (Nat.le_refl _)) HAR.out HTY.out (gms.sl.below hdr (Nat.le_refl _)) (by omega))
              have FB := Lib.hid (HF n _ _ _ t4 t5 t6 _ cs sp ab ds rs (LA.getD m []) (wr.alloc (Obj.cells noT5 42)).drew (HC.out.below (hBrm.trans (hal.mono (by omega))) (Nat.le_refl _)) HBU.out h300 (HD.out.below (hBrm.trans (hal.mono (by omega))) (Nat.le_refl _)) (HA.out.below (hBrm.trans (hal.mono (by omega))) (Nat.le_refl _)) HAR.out HTY.out (gms.sl.below hal (Nat.le_refl _)) (by omega))
              generalize LA.getD m [] = sm at *
              generalize gB cs ab ds rs d sm = is at *
              generalize gT cs ab ds rs d sm = tm at *
              unfold FrPost at FA FB
              have hza : (wr.alloc (Obj.cells noT5 42)).drew.heap.size = wr.heap.size + 1 := by show (wr.alloc (Obj.cells noT5 42)).heap.size = _; simp
              have ra : (wr.alloc (Obj.cells noT5 42)).drew.heap[wr.heap.size]? = some (.cells noT5 42 (0, 0)) := heap_alloc_new wr _
              have RA := Lib.hid ra
              have HAL := Lib.hid hal
              have hsz : w.heap.size < wr.heap.size := by omega
              clear hk1 hk2 gm gms hal ra
              go_wp2_with fail
              refine wp_region_held_drew (S := (fun w' => w'.cell? ⟨w.heap.size, 0, none⟩ = some n ∧ w'.cell? ⟨w.heap.size, 1, none⟩ = some (.slice ca cs.length ccap) ∧ w'.cell? ⟨w.heap.size, 2, none⟩ = some (.slice (some ⟨bd, offd, none⟩) ds.length dcap) ∧ w'.cell? ⟨w.heap.size, 3, none⟩ = some (.slice aa rs.length acap) ∧ w'.cell? ⟨w.heap.size, 4, none⟩ = some t4 ∧ w'.cell? ⟨w.heap.size, 5, none⟩ = some t5 ∧ w'.cell? ⟨w.heap.size, 6, none⟩ = some t6 ∧ w'.cell? ⟨ga, m, none⟩ = some (.slice pa sm.length qa))) (by kernel_rfl) ?_ (fun hHeld => ?_)
              · exact cells7p R6.out GM.out
              refine wpAnyH_take (i := 0) (oi := { dst := some 55, op := Op.load 29 (Operand.tmp 3), type := 29, pos := "ref.go:252", after := #[], guard := none }) (v := ?v0) rfl (by kernel_rfl) (by kernel_rfl) (by kernel_rfl) (fun _ _ _ h => h) (Or.inl ⟨by rfl, ?hy0⟩) (by assumption) ?rest0
              case hy0 => (intro wq hSq; (try dsimp only at hSq); go_simp; try with_reducible rfl)
              try simp only [Act.put, List.setIfInBounds_toArray, List.set_cons_zero, List.set_cons_succ]
              refine wpAnyH_take (i := 1) (oi := { dst := some 56, op := Op.move (Operand.tmp 9), type := 34, pos := "ref.go:252", after := #[], guard := none }) (v := ?v1) rfl (by kernel_rfl) (by kernel_rfl) (by kernel_rfl) (fun _ _ _ h => h) (Or.inl ⟨by rfl, ?hy1⟩) (by assumption) ?rest1
              case hy1 => (intro wq hSq; (try dsimp only at hSq); go_simp; try with_reducible rfl)
              try simp only [Act.put, List.setIfInBounds_toArray, List.set_cons_zero, List.set_cons_succ]
              refine wpAnyH_take (i := 2) (oi := { dst := some 57, op := Op.move (Operand.tmp 12), type := 3, pos := "ref.go:252", after := #[], guard := none }) (v := ?v2) rfl (by kernel_rfl) (by kernel_rfl) (by kernel_rfl) (fun _ _ _ h => h) (Or.inl ⟨by rfl, ?hy2⟩) (by assumption) ?rest2
              case hy2 => (intro wq hSq; (try dsimp only at hSq); go_simp; try with_reducible rfl)
              try simp only [Act.put, List.setIfInBounds_toArray, List.set_cons_zero, List.set_cons_succ]
              refine wpAnyH_take (i := 3) (oi := { dst := some 58, op := Op.indexAddr 34 (Operand.tmp 56) (Operand.tmp 57), type := 0, pos := "ref.go:252", after := #[{ on := 1, ground := Ground.data }, { on := 2, ground := Ground.data }], guard := none }) (v := ?v3) rfl (by kernel_rfl) (by kernel_rfl) (by kernel_rfl) (fun _ _ _ h => h) (Or.inl ⟨by rfl, ?hy3⟩) (by assumption) ?rest3
              case hy3 => (intro wq hSq; (try dsimp only at hSq); go_simp; try with_reducible rfl)
              try simp only [Act.put, List.setIfInBounds_toArray, List.set_cons_zero, List.set_cons_succ]
              refine wpAnyH_take (i := 4) (oi := { dst := some 59, op := Op.load 27 (Operand.tmp 58), type := 27, pos := "ref.go:252", after := #[{ on := 3, ground := Ground.data }], guard := none }) (v := ?v4) rfl (by kernel_rfl) (by kernel_rfl) (by kernel_rfl) (fun _ _ _ h => h) (Or.inl ⟨by rfl, ?hy4⟩) (by assumption) ?rest4
              case hy4 => (intro wq hSq; (try dsimp only at hSq); go_simp; try with_reducible rfl)
              try simp only [Act.put, List.setIfInBounds_toArray, List.set_cons_zero, List.set_cons_succ]
              refine wpAnyH_take (i := 5) (oi := { dst := some 60, op := Op.move (Operand.tmp 2), type := 3, pos := "ref.go:252", after := #[], guard := none }) (v := ?v5) rfl (by kernel_rfl) (by kernel_rfl) (by kernel_rfl) (fun _ _ _ h => h) (Or.inl ⟨by rfl, ?hy5⟩) (by assumption) ?rest5
              case hy5 => (intro wq hSq; (try dsimp only at hSq); go_simp; try with_reducible rfl)
              try simp only [Act.put, List.setIfInBounds_toArray, List.set_cons_zero, List.set_cons_succ]
              refine wpAnyH_take (i := 6) (oi := { dst := some 61, op := Op.binOp BinOp.sub 3 (Operand.tmp 60) (Operand.const (Value.int IntKind.i64 1)) 3, type := 3, pos := "ref.go:252", after := #[{ on := 5, ground := Ground.data }], guard := none }) (v := ?v6) rfl (by kernel_rfl) (by kernel_rfl) (by kernel_rfl) (fun _ _ _ h => h) (Or.inl ⟨by rfl, ?hy6⟩) (by assumption) ?rest6
              case hy6 => (intro wq hSq; (try dsimp only at hSq); go_simp; try with_reducible rfl)
              try simp only [Act.put, List.setIfInBounds_toArray, List.set_cons_zero, List.set_cons_succ]
              refine wpAnyH_ready (rs := [7, 11]) (by kernel_rfl) (by simp) ?_
              refine AllReadyH.cons rfl (fun K hK => ?_) (AllReadyH.cons rfl (fun K hK => ?_) AllReadyH.nil)
              · skip
                go_simp
                go_wp2_with (go_at_call 29; refine FA.out.mono ?_; rintro e w7 ⟨o7, x7, a7, k7, q7, rfl, hb7, ht7⟩; have hB7 : Below wr.heap.size wr w7 := hdr.trans hb7; have hz7 := hB7.size)
                refine hK.out _ _ ?_ (fun hHeldN => ?_)
                · (try dsimp only); exact cells7p ((hB7.block w.heap.size hsz).trans R6.out) ((hB7.cell (p := ⟨ga, m, none⟩) hga).trans GM.out)
                clear hK K hHeld
                have hHeld := hHeldN
                clear hHeldN
                refine wpAnyH_take (i := 8) (oi := { dst := some 54, op := Op.move (Operand.tmp 62), type := 73, pos := "ref.go:252", after := #[{ on := 7, ground := Ground.data }], guard := none }) (v := ?v8a) rfl (by kernel_rfl) (by kernel_rfl) (by kernel_rfl) (fun _ _ _ h => h) (Or.inl ⟨by rfl, ?hy8a⟩) (by assumption) ?rest8a
                case hy8a => (intro wq hSq; (try dsimp only at hSq); go_simp; try with_reducible rfl)
                try simp only [Act.put, List.setIfInBounds_toArray, List.set_cons_zero, List.set_cons_succ]
                refine wpAnyH_take (i := 9) (oi := { dst := some 63, op := Op.extract (Operand.tmp 54) 0, type := 42, pos := "ref.go:252", after := #[{ on := 8, ground := Ground.data }], guard := none }) (v := ?v9a) rfl (by kernel_rfl) (by kernel_rfl) (by kernel_rfl) (fun _ _ _ h => h) (Or.inl ⟨by rfl, ?hy9a⟩) (by assumption) ?rest9a
                case hy9a => (intro wq hSq; (try dsimp only at hSq); go_simp; try with_reducible rfl)
                try simp only [Act.put, List.setIfInBounds_toArray, List.set_cons_zero, List.set_cons_succ]
                refine wpAnyH_take (i := 10) (oi := { dst := some 64, op := Op.extract (Operand.tmp 54) 1, type := 4, pos := "ref.go:252", after := #[{ on := 8, ground := Ground.data }, { on := 12, ground := Ground.gcOnly Departure.lateStores }], guard := none }) (v := ?v10a) rfl (by kernel_rfl) (by kernel_rfl) (by kernel_rfl) (fun _ _ _ h => h) (Or.inl ⟨by rfl, ?hy10a⟩) (by assumption) ?rest10a
                case hy10a => (intro wq hSq; (try dsimp only at hSq); go_simp; try with_reducible rfl)
                try simp only [Act.put, List.setIfInBounds_toArray, List.set_cons_zero, List.set_cons_succ]
                refine wpAnyH_ready (rs := [11]) (by kernel_rfl) (by simp) ?_
                refine AllReadyH.cons rfl (fun K hK => ?_) AllReadyH.nil
                go_simp
                refine hK.out _ _ ?_ (fun hHeldN => ?_)
                · (try dsimp only); exact cells7p (((hB7.trans ((below_alloc w7 (Obj.cells noT5 42)).mono hz7)).block w.heap.size hsz).trans R6.out) (((hB7.trans ((below_alloc w7 (Obj.cells noT5 42)).mono hz7)).cell (p := ⟨ga, m, none⟩) hga).trans GM.out)
                clear hK K hHeld
                have hHeld := hHeldN
                clear hHeldN
                have rb0 : (w7.alloc (Obj.cells #[.int .i64 0, .string ⟨#[]⟩, .int .i64 0, .slice none 0 0, .slice none 0 0] 42)).heap[w7.heap.size]? = some (.cells noT5 42 (0, 0)) := heap_alloc_new w7 _
                have hbb : Below wr.heap.size wr (w7.alloc (Obj.cells #[.int .i64 0, .string ⟨#[]⟩, .int .i64 0, .slice none 0 0, .slice none 0 0] 42)) := hB7.trans ((below_alloc w7 _).mono hz7)
                have hb77 : Below w7.heap.size w7 (w7.alloc (Obj.cells #[.int .i64 0, .string ⟨#[]⟩, .int .i64 0, .slice none 0 0, .slice none 0 0] 42)) := below_alloc w7 _
                generalize w7.alloc (Obj.cells #[.int .i64 0, .string ⟨#[]⟩, .int .i64 0, .slice none 0 0, .slice none 0 0] 42) = wb at *
                have rb := Lib.hid rb0
                obtain ⟨⟨v0, v1, v2, v3, v4⟩, v5, v6, v7, v8, v9⟩ := five rb0
                clear rb0
                refine wpAnyH_ready (rs := [12]) (by kernel_rfl) (by simp) ?_
                refine AllReadyH.cons rfl (fun K hK => ?_) AllReadyH.nil
                go_simp
                refine hK.out _ _ ?_ (fun hHeldN => ?_)
                · (try dsimp only); exact cells7p (((below5 hbb hz7).block w.heap.size hsz).trans R6.out) (((below5 hbb hz7).cell (p := ⟨ga, m, none⟩) hga).trans GM.out)
                clear hK K hHeld
                have hHeld := hHeldN
                clear hHeldN
                clear v0 v1 v2 v3 v4 v5 v6 v7 v8 v9
                refine wpAnyH_take (i := 13) (oi := { dst := some 14, op := Op.assign (Operand.tmp 64), type := 4, pos := "ref.go:252", after := #[{ on := 10, ground := Ground.data }, { on := 12, ground := Ground.chain }, { on := 0, ground := Ground.phase }, { on := 1, ground := Ground.phase }, { on := 2, ground := Ground.phase }, { on := 3, ground := Ground.phase }, { on := 4, ground := Ground.phase }, { on := 5, ground := Ground.phase }, { on := 6, ground := Ground.phase }, { on := 7, ground := Ground.phase }, { on := 8, ground := Ground.phase }, { on := 9, ground := Ground.phase }, { on := 10, ground := Ground.phase }, { on := 11, ground := Ground.phase }, { on := 12, ground := Ground.phase }], guard := none }) (v := ?v13a) rfl (by kernel_rfl) (by kernel_rfl) (by kernel_rfl) (fun _ _ _ h => h) (Or.inl ⟨by rfl, ?hy13a⟩) (by assumption) ?rest13a
                case hy13a => (intro wq hSq; (try dsimp only at hSq); go_simp; try with_reducible rfl)
                try simp only [Act.put, List.setIfInBounds_toArray, List.set_cons_zero, List.set_cons_succ]
                refine wpAnyH_done (by kernel_rfl) ?_ _
                have HBXR := Lib.hid (row5 (v0 := .int .i64 o7) (v1 := .string x7) (v2 := .int .i64 0) (v3 := .slice none 0 0) (v4 := .slice a7 k7 q7) rb.out)
                have hBz := below5 (v0 := .int .i64 o7) (v1 := .string x7) (v2 := .int .i64 0) (v3 := .slice none 0 0) (v4 := .slice a7 k7 q7) hbb hz7
                have HT7 : Hid (TyIs ((((((wb).setCell ⟨w7.heap.size, 0, none⟩ (.int .i64 o7)).setCell ⟨w7.heap.size, 1, none⟩ (.string x7)).setCell ⟨w7.heap.size, 2, none⟩ (.int .i64 0)).setCell ⟨w7.heap.size, 3, none⟩ (.slice none 0 0)).setCell ⟨w7.heap.size, 4, none⟩ (.slice a7 k7 q7)) (fun b => b < wr.heap.size) d tm o7 x7 a7 k7) :=
                  ht7.below (below5 hb77 (Nat.le_refl _))
                clear hHeld ht7 hb7 hB7 hbb rb hb77
                generalize ((((((wb).setCell ⟨w7.heap.size, 0, none⟩ (.int .i64 o7)).setCell ⟨w7.heap.size, 1, none⟩ (.string x7)).setCell ⟨w7.heap.size, 2, none⟩ (.int .i64 0)).setCell ⟨w7.heap.size, 3, none⟩ (.slice none 0 0)).setCell ⟨w7.heap.size, 4, none⟩ (.slice a7 k7 q7)) = wz at *
                have hbz := below_alloc wz (Obj.cells #[.int .i64 o7, .string x7, .int .i64 0, .slice none 0 0, .slice a7 k7 q7] 42)
                have rz := Lib.hid (heap_alloc_new wz (Obj.cells #[.int .i64 o7, .string x7, .int .i64 0, .slice none 0 0, .slice a7 k7 q7] 42))
                have hownz := Lib.hid (ownsRow_below HOWN.out hBz (Nat.le_refl _))
                have rowz := Lib.hid ((hBz.block w5.heap.size (by omega)).trans HROW.out)
                obtain ⟨⟨x0, x1, x2, x3, x4⟩, y0, y1, y2, y3, y4⟩ := five rowz.out
                obtain ⟨⟨v0, v1, v2, v3, v4⟩, _⟩ := five HBXR.out
                have hzz := hBz.size
                go_wp2_with (at_builtin; refine wpList_append_ty _ rfl _ _ rfl (w5.heap.size + 1) m (.slice p m pc) (encE es) rfl (hownz.out.alloc _) (by omega) (by simp; omega) ⟨wz.heap.size, 0, none⟩ 1 [.int .i64 o7, .string x7, .int .i64 0, .slice none 0 0, .slice a7 k7 q7] rfl rfl (news5 rz.out) (one5 _ _ _ _ _) ?_; intro a8 c8 w8 hown8 hg8 hblk8; have x4' : w8.cell? ⟨w5.heap.size, 4, none⟩ = some (.slice p m pc) := (World.cell?_of_block (a := ⟨w5.heap.size, 4, none⟩) (hg8.block w5.heap.size (by simp; omega) (fun e => absurd (ownBlock_ge hownz.out e.symm) (by omega)))).trans ((hbz.cell (p := ⟨w5.heap.size, 4, none⟩) (by simp only; omega)).trans x4); have y4' : w8.frozen? ⟨w5.heap.size, 4, none⟩ = false := (World.frozen?_of_block (a := ⟨w5.heap.size, 4, none⟩) (hg8.block w5.heap.size (by simp; omega) (fun e => absurd (ownBlock_ge hownz.out e.symm) (by omega)))).trans ((hbz.frozen (p := ⟨w5.heap.size, 4, none⟩) (by simp only; omega)).trans y4))
                have hge : ∀ r, (Value.slice p m pc).ownBlock = some r → w5.heap.size + 1 ≤ r := fun r e => ownBlock_ge hownz.out e
                have hBA : Below wr.heap.size wr (wz.alloc (Obj.cells #[.int .i64 o7, .string x7, .int .i64 0, .slice none 0 0, .slice a7 k7 q7] 42)) := hBz.trans (hbz.mono hzz)
                have hzA : (wz.alloc (Obj.cells #[.int .i64 o7, .string x7, .int .i64 0, .slice none 0 0, .slice a7 k7 q7] 42)).heap.size = wz.heap.size + 1 := by simp
                have hBF : Below w5.heap.size w5 (w8.setCell ⟨w5.heap.size, 4, none⟩ (.slice a8 (m + 1) c8)) := ((hBm.trans (hBA.mono (by omega))).grown hg8 (by omega) (fun r e => by have := hge r e; omega)).setCell (p := ⟨w5.heap.size, 4, none⟩) (Nat.le_refl _) _
                have hz8 := hg8.size
                have hrowF : (w8.setCell ⟨w5.heap.size, 4, none⟩ (.slice a8 (m + 1) c8)).heap[w5.heap.size]? = some (.cells #[.int .i64 1, .string (bs nm), .int .i64 0, .slice none 0 0, .slice a8 (m + 1) c8] 42 (0, 0)) :=
                  heap_setCell_same _ w5.heap.size 4 _ 42 _ ((hg8.block w5.heap.size (by omega) (fun e => by have := hge _ e.symm; omega)).trans ((hbz.block w5.heap.size (by omega)).trans rowz.out))
                have hownF : (w8.setCell ⟨w5.heap.size, 4, none⟩ (.slice a8 (m + 1) c8)).ownsRow (w5.heap.size + 1) 42 5 (.slice a8 (m + 1) c8) (m + 1) (encE (es ++ [(o7, x7, a7, k7, q7)])) := by
                  rw [encE_snoc]
                  exact hown8.kept grown1 (.inr fun e => by have := ownBlock_ge hown8 e; omega)
                have hesF : EsAt (w8.setCell ⟨w5.heap.size, 4, none⟩ (.slice a8 (m + 1) c8)) (hotV (fun b => b < w5.heap.size + 1) (.slice a8 (m + 1) c8)) d (es ++ [(o7, x7, a7, k7, q7)]) ((LA.take (m + 1)).map (gT cs ab ds rs d)) := by
                  rw [hnext.out]
                  have hcold : ∀ b, b < (wz.alloc (Obj.cells #[.int .i64 o7, .string x7, .int .i64 0, .slice none 0 0, .slice a7 k7 q7] 42)).heap.size → hotV (fun b => b < w5.heap.size + 1) (.slice a8 (m + 1) c8) b → hotV (fun b => b < w5.heap.size + 1) (.slice p m pc) b := by
                    intro b hb hx
                    rcases hx with hx | hx
                    · exact .inl hx
                    · rcases hblk8 with e | e
                      · exact .inr (e.symm.trans hx)
                      · rw [e] at hx; injection hx with hx; omega
                  have hA : EsAt (wz.alloc (Obj.cells #[.int .i64 o7, .string x7, .int .i64 0, .slice none 0 0, .slice a7 k7 q7] 42)) (hotV (fun b => b < w5.heap.size + 1) (.slice p m pc)) d (es ++ [(o7, x7, a7, k7, q7)]) ((LA.take m).map (gT cs ab ds rs d) ++ [tm]) := by
                    refine EsAt.snoc (HES.out.turn hBA.size (fun b i u _ hc => (hBA.cell (p := ⟨b, i, none⟩) (lt_of_cell (a := ⟨b, i, none⟩) hc)).trans hc) fun _ _ h => h) ?_
                    refine (HT7.out.below hbz).turn (Nat.le_refl _) (fun _ _ _ _ h => h) (fun b _ hx => ?_)
                    rcases hx with hx | hx
                    · show b < wr.heap.size; have hx : b < w5.heap.size + 1 := hx; omega
                    · show b < wr.heap.size; exact own_lt HOWN.out hx
                  refine hA.turn (by simp; omega) (fun b i u hh hc => ?_) hcold
                  have hne : b ≠ w5.heap.size := fun e => hh (.inl (by rw [e]; exact Nat.lt_succ_self _))
                  exact (World.cell?_of_block (a := ⟨b, i, none⟩) ((heap_setCell_other _ _ _ _ hne).trans (hg8.block b (lt_of_cell (a := ⟨b, i, none⟩) hc) (fun e => hh (.inr e.symm))))).trans hc
                have htF : Hid (is = true → (w8.setCell ⟨w5.heap.size, 4, none⟩ (.slice a8 (m + 1) c8)).heap[w5.heap.size]? = some (.cells #[.int .i64 1, .string (bs nm), .int .i64 0, .slice none 0 0, .slice a8 (m + 1) c8] 42 (0, 0)) ∧ (w8.setCell ⟨w5.heap.size, 4, none⟩ (.slice a8 (m + 1) c8)).ownsRow (w5.heap.size + 1) 42 5 (.slice a8 (m + 1) c8) (m + 1) (encE (es ++ [(o7, x7, a7, k7, q7)])) ∧ EsAt (w8.setCell ⟨w5.heap.size, 4, none⟩ (.slice a8 (m + 1) c8)) (hotV (fun b => b < w5.heap.size + 1) (.slice a8 (m + 1) c8)) d (es ++ [(o7, x7, a7, k7, q7)]) ((LA.take (m + 1)).map (gT cs ab ds rs d)) ∧ (LA.take (m + 1)).all (gB cs ab ds rs d) = true) :=
                  fun h => ⟨hrowF, hownF, hesF, by rw [hall1.out, HALL.out, h]; rfl⟩
                have hzF : w5.heap.size + 1 ≤ (w8.setCell ⟨w5.heap.size, 4, none⟩ (.slice a8 (m + 1) c8)).heap.size := by simp; omega
                clear hrowF hownF hesF hown8 hg8 hblk8 x4' y4' hge hBA v0 v1 v2 v3 v4 x0 x1 x2 x3 x4 y0 y1 y2 y3 y4
                go_wp2_with fail
                go_roundw
                case rel => exact ⟨m + 1, is, a8, c8, _, by omega, rfl, by go_num, hBF, hzF, htF, hno⟩
                case measure => simp [intOf]; omega
              · skip
                go_simp
                refine hK.out _ _ ?_ (fun hHeldN => ?_)
                · (try dsimp only); exact cells7p ((HAL.out.block w.heap.size hsz).trans R6.out) ((HAL.out.cell (p := ⟨ga, m, none⟩) hga).trans GM.out)
                clear hK K hHeld
                have hHeld := hHeldN
                clear hHeldN
                refine wpAnyH_ready (rs := [7]) (by kernel_rfl) (by simp) ?_
                refine AllReadyH.cons rfl (fun K hK => ?_) AllReadyH.nil
                go_simp
                go_wp2_with (go_at_call 29; refine FB.out.mono ?_; rintro e w7 ⟨o7, x7, a7, k7, q7, rfl, hb7, ht7⟩; have hB7 : Below wr.heap.size wr w7 := HAL.out.trans (hb7.mono (by omega)); have hz7 := hb7.size; have rb := Lib.hid ((hb7.block wr.heap.size (by omega)).trans RA.out))
                refine hK.out _ _ ?_ (fun hHeldN => ?_)
                · (try dsimp only); exact cells7p ((hB7.block w.heap.size hsz).trans R6.out) ((hB7.cell (p := ⟨ga, m, none⟩) hga).trans GM.out)
                clear hK K hHeld
                have hHeld := hHeldN
                clear hHeldN
                obtain ⟨⟨v0, v1, v2, v3, v4⟩, v5, v6, v7, v8, v9⟩ := five rb.out
                refine wpAnyH_take (i := 8) (oi := { dst := some 54, op := Op.move (Operand.tmp 62), type := 73, pos := "ref.go:252", after := #[{ on := 7, ground := Ground.data }], guard := none }) (v := ?v8b) rfl (by kernel_rfl) (by kernel_rfl) (by kernel_rfl) (fun _ _ _ h => h) (Or.inl ⟨by rfl, ?hy8b⟩) (by assumption) ?rest8b
                case hy8b => (intro wq hSq; (try dsimp only at hSq); go_simp; try with_reducible rfl)
                try simp only [Act.put, List.setIfInBounds_toArray, List.set_cons_zero, List.set_cons_succ]
                refine wpAnyH_take (i := 9) (oi := { dst := some 63, op := Op.extract (Operand.tmp 54) 0, type := 42, pos := "ref.go:252", after := #[{ on := 8, ground := Ground.data }], guard := none }) (v := ?v9b) rfl (by kernel_rfl) (by kernel_rfl) (by kernel_rfl) (fun _ _ _ h => h) (Or.inl ⟨by rfl, ?hy9b⟩) (by assumption) ?rest9b
                case hy9b => (intro wq hSq; (try dsimp only at hSq); go_simp; try with_reducible rfl)
                try simp only [Act.put, List.setIfInBounds_toArray, List.set_cons_zero, List.set_cons_succ]
                refine wpAnyH_take (i := 10) (oi := { dst := some 64, op := Op.extract (Operand.tmp 54) 1, type := 4, pos := "ref.go:252", after := #[{ on := 8, ground := Ground.data }, { on := 12, ground := Ground.gcOnly Departure.lateStores }], guard := none }) (v := ?v10b) rfl (by kernel_rfl) (by kernel_rfl) (by kernel_rfl) (fun _ _ _ h => h) (Or.inl ⟨by rfl, ?hy10b⟩) (by assumption) ?rest10b
                case hy10b => (intro wq hSq; (try dsimp only at hSq); go_simp; try with_reducible rfl)
                try simp only [Act.put, List.setIfInBounds_toArray, List.set_cons_zero, List.set_cons_succ]
                refine wpAnyH_ready (rs := [12]) (by kernel_rfl) (by simp) ?_
                refine AllReadyH.cons rfl (fun K hK => ?_) AllReadyH.nil
                go_simp
                refine hK.out _ _ ?_ (fun hHeldN => ?_)
                · (try dsimp only); exact cells7p (((below5 hB7 (Nat.le_refl _)).block w.heap.size hsz).trans R6.out) (((below5 hB7 (Nat.le_refl _)).cell (p := ⟨ga, m, none⟩) hga).trans GM.out)
                clear hK K hHeld
                have hHeld := hHeldN
                clear hHeldN
                clear v0 v1 v2 v3 v4 v5 v6 v7 v8 v9
                refine wpAnyH_take (i := 13) (oi := { dst := some 14, op := Op.assign (Operand.tmp 64), type := 4, pos := "ref.go:252", after := #[{ on := 10, ground := Ground.data }, { on := 12, ground := Ground.chain }, { on := 0, ground := Ground.phase }, { on := 1, ground := Ground.phase }, { on := 2, ground := Ground.phase }, { on := 3, ground := Ground.phase }, { on := 4, ground := Ground.phase }, { on := 5, ground := Ground.phase }, { on := 6, ground := Ground.phase }, { on := 7, ground := Ground.phase }, { on := 8, ground := Ground.phase }, { on := 9, ground := Ground.phase }, { on := 10, ground := Ground.phase }, { on := 11, ground := Ground.phase }, { on := 12, ground := Ground.phase }], guard := none }) (v := ?v13b) rfl (by kernel_rfl) (by kernel_rfl) (by kernel_rfl) (fun _ _ _ h => h) (Or.inl ⟨by rfl, ?hy13b⟩) (by assumption) ?rest13b
                case hy13b => (intro wq hSq; (try dsimp only at hSq); go_simp; try with_reducible rfl)
                try simp only [Act.put, List.setIfInBounds_toArray, List.set_cons_zero, List.set_cons_succ]
                refine wpAnyH_done (by kernel_rfl) ?_ _
                have HBXR := Lib.hid (row5 (v0 := .int .i64 o7) (v1 := .string x7) (v2 := .int .i64 0) (v3 := .slice none 0 0) (v4 := .slice a7 k7 q7) rb.out)
                have hBz := below5 (v0 := .int .i64 o7) (v1 := .string x7) (v2 := .int .i64 0) (v3 := .slice none 0 0) (v4 := .slice a7 k7 q7) hB7 (Nat.le_refl _)
                have HT7 : Hid (TyIs ((((((w7).setCell ⟨wr.heap.size, 0, none⟩ (.int .i64 o7)).setCell ⟨wr.heap.size, 1, none⟩ (.string x7)).setCell ⟨wr.heap.size, 2, none⟩ (.int .i64 0)).setCell ⟨wr.heap.size, 3, none⟩ (.slice none 0 0)).setCell ⟨wr.heap.size, 4, none⟩ (.slice a7 k7 q7)) (fun b => b < wr.heap.size) d tm o7 x7 a7 k7) :=
                  ht7.turn (by simp) (fun b i u hh hc => (World.cell?_of_block (a := ⟨b, i, none⟩) (block5 fun e => hh (by have e' : b = wr.heap.size := e; show b < (wr.alloc (Obj.cells noT5 42)).drew.heap.size; rw [hza]; omega))).trans hc) (fun b _ hx => by have hx : b < wr.heap.size := hx; show b < (wr.alloc (Obj.cells noT5 42)).drew.heap.size; rw [hza]; omega)
                clear hHeld ht7 hb7 hB7 rb
                generalize (((((w7).setCell ⟨wr.heap.size, 0, none⟩ (.int .i64 o7)).setCell ⟨wr.heap.size, 1, none⟩ (.string x7)).setCell ⟨wr.heap.size, 2, none⟩ (.int .i64 0)).setCell ⟨wr.heap.size, 3, none⟩ (.slice none 0 0)).setCell ⟨wr.heap.size, 4, none⟩ (.slice a7 k7 q7) = wz at *
                have hbz := below_alloc wz (Obj.cells #[.int .i64 o7, .string x7, .int .i64 0, .slice none 0 0, .slice a7 k7 q7] 42)
                have rz := Lib.hid (heap_alloc_new wz (Obj.cells #[.int .i64 o7, .string x7, .int .i64 0, .slice none 0 0, .slice a7 k7 q7] 42))
                have hownz := Lib.hid (ownsRow_below HOWN.out hBz (Nat.le_refl _))
                have rowz := Lib.hid ((hBz.block w5.heap.size (by omega)).trans HROW.out)
                obtain ⟨⟨x0, x1, x2, x3, x4⟩, y0, y1, y2, y3, y4⟩ := five rowz.out
                obtain ⟨⟨v0, v1, v2, v3, v4⟩, _⟩ := five HBXR.out
                have hzz := hBz.size
                go_wp2_with (at_builtin; refine wpList_append_ty _ rfl _ _ rfl (w5.heap.size + 1) m (.slice p m pc) (encE es) rfl (hownz.out.alloc _) (by omega) (by simp; omega) ⟨wz.heap.size, 0, none⟩ 1 [.int .i64 o7, .string x7, .int .i64 0, .slice none 0 0, .slice a7 k7 q7] rfl rfl (news5 rz.out) (one5 _ _ _ _ _) ?_; intro a8 c8 w8 hown8 hg8 hblk8; have x4' : w8.cell? ⟨w5.heap.size, 4, none⟩ = some (.slice p m pc) := (World.cell?_of_block (a := ⟨w5.heap.size, 4, none⟩) (hg8.block w5.heap.size (by simp; omega) (fun e => absurd (ownBlock_ge hownz.out e.symm) (by omega)))).trans ((hbz.cell (p := ⟨w5.heap.size, 4, none⟩) (by simp only; omega)).trans x4); have y4' : w8.frozen? ⟨w5.heap.size, 4, none⟩ = false := (World.frozen?_of_block (a := ⟨w5.heap.size, 4, none⟩) (hg8.block w5.heap.size (by simp; omega) (fun e => absurd (ownBlock_ge hownz.out e.symm) (by omega)))).trans ((hbz.frozen (p := ⟨w5.heap.size, 4, none⟩) (by simp only; omega)).trans y4))
                have hge : ∀ r, (Value.slice p m pc).ownBlock = some r → w5.heap.size + 1 ≤ r := fun r e => ownBlock_ge hownz.out e
                have hBA : Below wr.heap.size wr (wz.alloc (Obj.cells #[.int .i64 o7, .string x7, .int .i64 0, .slice none 0 0, .slice a7 k7 q7] 42)) := hBz.trans (hbz.mono hzz)
                have hzA : (wz.alloc (Obj.cells #[.int .i64 o7, .string x7, .int .i64 0, .slice none 0 0, .slice a7 k7 q7] 42)).heap.size = wz.heap.size + 1 := by simp
                have hBF : Below w5.heap.size w5 (w8.setCell ⟨w5.heap.size, 4, none⟩ (.slice a8 (m + 1) c8)) := ((hBm.trans (hBA.mono (by omega))).grown hg8 (by omega) (fun r e => by have := hge r e; omega)).setCell (p := ⟨w5.heap.size, 4, none⟩) (Nat.le_refl _) _
                have hz8 := hg8.size
                have hrowF : (w8.setCell ⟨w5.heap.size, 4, none⟩ (.slice a8 (m + 1) c8)).heap[w5.heap.size]? = some (.cells #[.int .i64 1, .string (bs nm), .int .i64 0, .slice none 0 0, .slice a8 (m + 1) c8] 42 (0, 0)) :=
                  heap_setCell_same _ w5.heap.size 4 _ 42 _ ((hg8.block w5.heap.size (by omega) (fun e => by have := hge _ e.symm; omega)).trans ((hbz.block w5.heap.size (by omega)).trans rowz.out))
                have hownF : (w8.setCell ⟨w5.heap.size, 4, none⟩ (.slice a8 (m + 1) c8)).ownsRow (w5.heap.size + 1) 42 5 (.slice a8 (m + 1) c8) (m + 1) (encE (es ++ [(o7, x7, a7, k7, q7)])) := by
                  rw [encE_snoc]
                  exact hown8.kept grown1 (.inr fun e => by have := ownBlock_ge hown8 e; omega)
                have hesF : EsAt (w8.setCell ⟨w5.heap.size, 4, none⟩ (.slice a8 (m + 1) c8)) (hotV (fun b => b < w5.heap.size + 1) (.slice a8 (m + 1) c8)) d (es ++ [(o7, x7, a7, k7, q7)]) ((LA.take (m + 1)).map (gT cs ab ds rs d)) := by
                  rw [hnext.out]
                  have hcold : ∀ b, b < (wz.alloc (Obj.cells #[.int .i64 o7, .string x7, .int .i64 0, .slice none 0 0, .slice a7 k7 q7] 42)).heap.size → hotV (fun b => b < w5.heap.size + 1) (.slice a8 (m + 1) c8) b → hotV (fun b => b < w5.heap.size + 1) (.slice p m pc) b := by
                    intro b hb hx
                    rcases hx with hx | hx
                    · exact .inl hx
                    · rcases hblk8 with e | e
                      · exact .inr (e.symm.trans hx)
                      · rw [e] at hx; injection hx with hx; omega
                  have hA : EsAt (wz.alloc (Obj.cells #[.int .i64 o7, .string x7, .int .i64 0, .slice none 0 0, .slice a7 k7 q7] 42)) (hotV (fun b => b < w5.heap.size + 1) (.slice p m pc)) d (es ++ [(o7, x7, a7, k7, q7)]) ((LA.take m).map (gT cs ab ds rs d) ++ [tm]) := by
                    refine EsAt.snoc (HES.out.turn hBA.size (fun b i u _ hc => (hBA.cell (p := ⟨b, i, none⟩) (lt_of_cell (a := ⟨b, i, none⟩) hc)).trans hc) fun _ _ h => h) ?_
                    refine (HT7.out.below hbz).turn (Nat.le_refl _) (fun _ _ _ _ h => h) (fun b _ hx => ?_)
                    rcases hx with hx | hx
                    · show b < wr.heap.size; have hx : b < w5.heap.size + 1 := hx; omega
                    · show b < wr.heap.size; exact own_lt HOWN.out hx
                  refine hA.turn (by simp; omega) (fun b i u hh hc => ?_) hcold
                  have hne : b ≠ w5.heap.size := fun e => hh (.inl (by rw [e]; exact Nat.lt_succ_self _))
                  exact (World.cell?_of_block (a := ⟨b, i, none⟩) ((heap_setCell_other _ _ _ _ hne).trans (hg8.block b (lt_of_cell (a := ⟨b, i, none⟩) hc) (fun e => hh (.inr e.symm))))).trans hc
                have htF : Hid (is = true → (w8.setCell ⟨w5.heap.size, 4, none⟩ (.slice a8 (m + 1) c8)).heap[w5.heap.size]? = some (.cells #[.int .i64 1, .string (bs nm), .int .i64 0, .slice none 0 0, .slice a8 (m + 1) c8] 42 (0, 0)) ∧ (w8.setCell ⟨w5.heap.size, 4, none⟩ (.slice a8 (m + 1) c8)).ownsRow (w5.heap.size + 1) 42 5 (.slice a8 (m + 1) c8) (m + 1) (encE (es ++ [(o7, x7, a7, k7, q7)])) ∧ EsAt (w8.setCell ⟨w5.heap.size, 4, none⟩ (.slice a8 (m + 1) c8)) (hotV (fun b => b < w5.heap.size + 1) (.slice a8 (m + 1) c8)) d (es ++ [(o7, x7, a7, k7, q7)]) ((LA.take (m + 1)).map (gT cs ab ds rs d)) ∧ (LA.take (m + 1)).all (gB cs ab ds rs d) = true) :=
                  fun h => ⟨hrowF, hownF, hesF, by rw [hall1.out, HALL.out, h]; rfl⟩
                have hzF : w5.heap.size + 1 ≤ (w8.setCell ⟨w5.heap.size, 4, none⟩ (.slice a8 (m + 1) c8)).heap.size := by simp; omega
                clear hrowF hownF hesF hown8 hg8 hblk8 x4' y4' hge hBA v0 v1 v2 v3 v4 x0 x1 x2 x3 x4 y0 y1 y2 y3 y4
                go_wp2_with fail
                go_roundw
                case rel => exact ⟨m + 1, is, a8, c8, _, by omega, rfl, by go_num, hBF, hzF, htF, hno⟩
                case measure => simp [intOf]; omega
            · have hmm : m = LA.length := by omega
              subst hmm
              have hg : gv = true := by rw [HGV1.out]; have h := HALL.out; rw [List.take_length] at h; exact h
              obtain ⟨hy1, hy2⟩ := HYES.out hg
              have HY1 := Lib.hid hy1
              have HY2 := Lib.hid hy2
              have hta : TyAt wr (fun b => b < w5.heap.size + 1) (d + 1) (LA.map (gT cs ab ds rs d)) p LA.length := by
                have h := HES.out
                rw [List.take_length] at h
                exact esAt_ty h (by have := h.1; rw [this, List.length_map]) hw10 HOWN.out (fun b hb => hb)
              have HTA := Lib.hid hta
              have rz := (hBm.block (w.heap.size + 1) (by omega)).trans RZ5.out
              have HRZ := Lib.hid rz
              obtain ⟨⟨x0, x1, x2, x3, x4⟩, _⟩ := five HROW.out
              obtain ⟨⟨z0, z1, z2, z3, z4⟩, z5, z6, z7, z8, z9⟩ := five rz
              clear rz hta hy1 hy2 hg
              go_wp2_with fail
              refine bodyPost_ret (results_row_tmp rfl _ _ (w.heap.size + 1) 42 #[.int .i64 1, .string (bs nm), .int .i64 0, .slice none 0 0, .slice p LA.length pc] (0, 0) _ rfl (row5 HRZ.out) Tryz.underlying42 rfl Tryz.size42) rfl ?_
              refine ⟨1, bs nm, p, LA.length, pc, by rw [HY1.out]; rfl, below5 hBrm (by omega), ?_⟩
              rw [HY2.out]
              exact ⟨TyAt.turn (by simp) (fun b i u hh hc => (World.cell?_of_block (a := ⟨b, i, none⟩) (block5 fun e => hh (by have e' : b = w.heap.size + 1 := e; show b < w5.heap.size + 1; omega))).trans hc) (fun b _ hx => by show b < w5.heap.size + 1; have hx : b < w.heap.size := hx; omega) _ _ _ _ HTA.out, rfl, rfl⟩
    · have hkk : k = ds.length := by omega
      subst hkk
      have HOF : Hid (ok = false) := by unfold Hid; rw [hto.out, List.drop_length]; rfl
      have HZ : Hid (gt = .zero) := by unfold Hid; rw [hpo.out, List.drop_length]; rfl
      obtain ⟨⟨z0, z1, z2, z3, z4⟩, z5, z6, z7, z8, z9⟩ := five RR1.out
      go_wp2_with fail
      refine bodyPost_ret (results_row_tmp rfl _ _ (w.heap.size + 1) 42 noT5 (0, 0) _ rfl (row5 RR1.out) Tryz.underlying42 rfl Tryz.size42) rfl ?_
      exact firstR_end HOF.out HZ.out (below5 hBr (by omega))

/-- the reference's first, at every depth -/
theorem firstR_any : ∀ d : Nat, FirstR d
  | 0 => firstR_zero
  | d + 1 => firstR_step (firstR_any d)
end Go.Proofs.YtehnikgdjnmfcaaGreat

