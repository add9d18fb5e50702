/- The reference: one arity. -/
import Derived.Test.YtehnikgdjnmfcaaGreatMZ17
namespace Go.Proofs.YtehnikgdjnmfcaaGreat
open Go.RowKit Go.WideMaps Go.Shelf

theorem cells3 {w : World} {k : Nat} {a0 a1 a2 : Value} {t : TypeId} {fr : Nat × Nat} (h : w.heap[k]? = some (.cells #[a0, a1, a2] t fr)) : w.cell? ⟨k, 0, none⟩ = some a0 ∧ w.cell? ⟨k, 1, none⟩ = some a1 ∧ w.cell? ⟨k, 2, none⟩ = some a2 :=
  ⟨by rw [cell_of_row w _ 0 _ _ _ h]; rfl, by rw [cell_of_row w _ 1 _ _ _ h]; rfl, by rw [cell_of_row w _ 2 _ _ _ h]; rfl⟩

/-- the error of a sort of an arity -/
def sort1Err (ns : List Nm) (abv : Nat → List Nat) (s : List Nm) : Int := if 20 < s.length then 5 else if s.all (inNs ns) = false then 9 else if normB ns abv s = false then 14 else 0
def sorts1 (ns : List Nm) (abv : Nat → List Nat) : List (List Nm) → Int
  | [] => 0
  | s :: r => if sort1Err ns abv s = 0 then sorts1 ns abv r else sort1Err ns abv s

/-- the error of an arity behind some others -/
def arErr (ns : List Nm) (abv : Nat → List Nat) (ds : List (Nm × Int)) (pre : List (Nm × Nm)) (a : Ar) : Int :=
  if inNs (ds.map Prod.fst) a.1 = false then 9 else if inNs ns a.2.1 = false then 9 else if inP pre (a.1, a.2.1) = true then 10
  else if ((a.2.2.length : Nat) : Int) ≠ (ds.getD (ixOf (ds.map Prod.fst) a.1) ([], 0)).2 then 5 else sorts1 ns abv a.2.2

theorem arI_own {rs : List Ar} {i : Nat} {x y : Nm} (hi : i < rs.length) (he : arKey (rs.getD i ar0) = (x, y)) :
    (inP ((rs.map arKey).take i) (x, y) = false → arI (rs.map arKey) (x, y) = ((i : Nat) : Int)) ∧
    (inP ((rs.map arKey).take i) (x, y) = true → (arI (rs.map arKey) (x, y) != ((i : Nat) : Int)) = true) := by
  constructor
  · intro h
    obtain ⟨h1, h2⟩ := ixP_first ([], []) (by simpa using hi) h ((key_at rs i hi).trans he)
    rw [arI_in h1, h2]
  · intro h
    obtain ⟨h1, h2⟩ := ixP_take h
    rw [arI_in h1, h2, bne_iff_ne]
    have := ixP_lt h
    rw [List.length_take, List.length_map] at this; omega

theorem type_in (n c t2 t3 t4 t5 t6 : Value) (s : Nm) (ds : List (Nm × Int)) (w : World) (hd : SlT w t2 ds) (h : inNs (ds.map Prod.fst) s = true) :
    Calls Tryz.prog 22 #[.agg #[n, c, t2, t3, t4, t5, t6], .string (bs s)] w fun e w' => e = .returned (.int .i64 ((ixOf (ds.map Prod.fst) s : Nat) : Int)) ∧ Below w.heap.size w w' := by
  rw [← clsI_in h]; exact type_any n c t2 t3 t4 t5 t6 s ds w hd
theorem type_out (n c t2 t3 t4 t5 t6 : Value) (s : Nm) (ds : List (Nm × Int)) (w : World) (hd : SlT w t2 ds) (h : inNs (ds.map Prod.fst) s = false) :
    Calls Tryz.prog 22 #[.agg #[n, c, t2, t3, t4, t5, t6], .string (bs s)] w fun e w' => e = .returned (.int .i64 (-1)) ∧ Below w.heap.size w w' := by
  rw [← clsI_out h]; exact type_any n c t2 t3 t4 t5 t6 s ds w hd

set_option maxRecDepth 100000 in
set_option maxHeartbeats 8000000 in
theorem one_any (n c t2 t3 t4 t5 t6 : Value) (cs : List (Nm × List Nm)) (sp ab : List (List Nat)) (ds : List (Nm × Int)) (rs : List Ar) (i : Nat) (w : World) (hc : SlC w c cs) (hbu : Built cs sp ab) (h300 : cs.length ≤ 300) (hd : SlT w t2 ds) (ha : SlAr w t3 rs) (hi : i < rs.length) :
    Calls Tryz.prog 41 #[.agg #[n, c, t2, t3, t4, t5, t6], .int .i64 i] w fun e w' => e = .returned (.int .i64 (arErr (cs.map Prod.fst) (fun i => ab.getD i []) ds ((rs.map arKey).take i) (rs.getD i ar0))) ∧ Below w.heap.size w w' := by
  have hb0 := below_alloc w (Obj.cells #[n, c, t2, t3, t4, t5, t6] 29)
  have HC := Lib.hid hc
  have HD := Lib.hid hd
  have HA := Lib.hid ha
  have HBU := Lib.hid hbu
  have r0 := Lib.hid (heap_alloc_new w (Obj.cells #[n, c, t2, t3, t4, t5, t6] 29))
  have hz0 : (w.alloc (Obj.cells #[n, c, t2, t3, t4, t5, t6] 29)).heap.size = w.heap.size + 1 := by simp
  obtain ⟨hdl, da, dcap, rfl, hdx⟩ := hd
  obtain ⟨hal, aa, acap, rfl, hax⟩ := ha
  obtain ⟨b, off, rfl, hb, hcl⟩ := hax (by omega)
  obtain ⟨g0w, hnl, g1w, hyl, sp0, sc, g2w, hss⟩ := hcl i hi
  unfold maxLen at hdl hal
  have hown := Lib.hid (arI_own (x := (rs.getD i ar0).1) (y := (rs.getD i ar0).2.1) hi rfl)
  generalize (rs.map arKey).take i = pre at *
  generalize rs.getD i ar0 = ar at *
  obtain ⟨x, y, ls⟩ := ar
  dsimp only at g0w hnl g1w hyl g2w hss
  have hown' := hown.out
  dsimp only at hown'
  have HOWN := Lib.hid hown'
  have HSS := Lib.hid hss
  have g0 := (hb0.cell (p := ⟨b, off + i * 3, none⟩) hb).trans g0w
  have g1 := (hb0.cell (p := ⟨b, off + i * 3 + 1, none⟩) hb).trans g1w
  have g2 := (hb0.cell (p := ⟨b, off + i * 3 + 2, none⟩) hb).trans g2w
  have HDX := Lib.hid hdx
  have hb1 := below_alloc (w.alloc (Obj.cells #[n, c, .slice da ds.length dcap, .slice (some ⟨b, off, none⟩) rs.length acap, t4, t5, t6] 29)) (Obj.cells #[.string (bs x), .string (bs y), .slice sp0 ls.length sc] 50)
  have q1 := heap_alloc_new (w.alloc (Obj.cells #[n, c, .slice da ds.length dcap, .slice (some ⟨b, off, none⟩) rs.length acap, t4, t5, t6] 29)) (Obj.cells #[.string (bs x), .string (bs y), .slice sp0 ls.length sc] 50)
  rw [hz0] at q1
  have Q1 := Lib.hid q1
  have R1 := Lib.hid ((hb1.block w.heap.size (by omega)).trans r0.out)
  have hB1 : Below w.heap.size w ((w.alloc (Obj.cells #[n, c, .slice da ds.length dcap, .slice (some ⟨b, off, none⟩) rs.length acap, t4, t5, t6] 29)).alloc (Obj.cells #[.string (bs x), .string (bs y), .slice sp0 ls.length sc] 50)) := hb0.trans (hb1.mono (by omega))
  have hz1 : w.heap.size + 1 < ((w.alloc (Obj.cells #[n, c, .slice da ds.length dcap, .slice (some ⟨b, off, none⟩) rs.length acap, t4, t5, t6] 29)).alloc (Obj.cells #[.string (bs x), .string (bs y), .slice sp0 ls.length sc] 50)).heap.size := by simp
  clear hown hown' hss g0w g1w g2w hcl hdx q1 hb1 hax
  obtain ⟨E, hE⟩ : ∃ E, E = arErr (cs.map Prod.fst) (fun i => ab.getD i []) ds pre (x, y, ls) := ⟨_, rfl⟩
  have HE := Lib.hid hE
  rw [← hE]
  clear hE
  go_enter Tryz.func41, Tryz.ntmps41
  go_wp2_with fail
  generalize ((w.alloc (Obj.cells #[n, c, .slice da ds.length dcap, .slice (some ⟨b, off, none⟩) rs.length acap, t4, t5, t6] 29)).alloc (Obj.cells #[.string (bs x), .string (bs y), .slice sp0 ls.length sc] 50)) = w1 at *
  have r1 := R1
  have q1 := Q1
  clear R1 Q1 hb0 r0 g0 g1 g2
  by_cases htx : inNs (ds.map Prod.fst) x = true
  · refine (type_in n c _ _ t4 t5 t6 x ds w1 (HD.out.below hB1 (Nat.le_refl _)) htx).mono ?_
    rintro e w2 ⟨rfl, hb2⟩
    have hB2 : Below w.heap.size w w2 := hB1.trans (hb2.mono (by omega))
    have hz2 : w.heap.size + 1 < w2.heap.size := Nat.lt_of_lt_of_le hz1 hb2.size
    have r2 := Lib.hid ((hb2.block w.heap.size (by omega)).trans r1.out)
    have q2 := Lib.hid ((hb2.block (w.heap.size + 1) (by omega)).trans q1.out)
    clear hb2
    have hix : ixOf (ds.map Prod.fst) x < ds.length := by have := ixOf_lt htx; simpa using this
    obtain ⟨bd, offd, rfl, hbd, hdcl⟩ := HDX.out (by omega)
    obtain ⟨_, _, gd⟩ := hdcl _ hix
    have HTX : Hid (¬ inNs (ds.map Prod.fst) x = false) := by unfold Hid; rw [htx]; decide
    have GD := Lib.hid gd
    have HE2 : Hid (E = if inNs (cs.map Prod.fst) y = false then 9 else if inP pre (x, y) = true then 10 else if ((ls.length : Nat) : Int) ≠ (ds.getD (ixOf (ds.map Prod.fst) x) ([], 0)).2 then 5 else sorts1 (cs.map Prod.fst) (fun i => ab.getD i []) ls) := by
      unfold Hid; rw [HE.out]; unfold arErr; rw [if_neg HTX.out]
    clear hdcl gd htx HE
    generalize (ds.getD (ixOf (ds.map Prod.fst) x) ([], 0)).2 = an at *
    generalize ixOf (ds.map Prod.fst) x = ix at *
    have f1 : decide ((ix : Int) < 0) = false := by simp
    obtain ⟨c0, c1, c2, c3, c4, c5, c6⟩ := cells7' r2.out
    obtain ⟨d0, d1, d2⟩ := cells3 q2.out
    by_cases hty : inNs (cs.map Prod.fst) y = true
    · go_wp2_with fail
      refine (class_in n _ _ _ t4 t5 t6 y cs w2 (HC.out.below hB2 (Nat.le_refl _)) hty).mono ?_
      rintro e w3 ⟨rfl, hb3⟩
      clear c0 c1 c2 c3 c4 c5 c6 d0 d1 d2
      have hB3 : Below w.heap.size w w3 := hB2.trans (hb3.mono (by omega))
      have hz3 : w.heap.size + 1 < w3.heap.size := Nat.lt_of_lt_of_le hz2 hb3.size
      have r3 := Lib.hid ((hb3.block w.heap.size (by omega)).trans r2.out)
      have q3 := Lib.hid ((hb3.block (w.heap.size + 1) (by omega)).trans q2.out)
      clear hb3
      have HTY : Hid (¬ inNs (cs.map Prod.fst) y = false) := by unfold Hid; rw [hty]; decide
      have f2 : decide (((ixOf (cs.map Prod.fst) y : Nat) : Int) < 0) = false := by simp
      clear hty
      generalize ixOf (cs.map Prod.fst) y = iy at *
      obtain ⟨c0, c1, c2, c3, c4, c5, c6⟩ := cells7' r3.out
      obtain ⟨d0, d1, d2⟩ := cells3 q3.out
      have AR := Lib.hid (arity_any n c (.slice (some ⟨bd, offd, none⟩) ds.length dcap) (.slice (some ⟨b, off, none⟩) rs.length acap) t4 t5 t6 x y rs w3 (HA.out.below hB3 (Nat.le_refl _)))
      by_cases hdup : inP pre (x, y) = true
      · have hne := HOWN.out.2 hdup
        have hE10 : Hid (E = 10) := by unfold Hid; rw [HE2.out, if_neg HTY.out, if_pos hdup]
        clear hdup HOWN HE2
        generalize arI (rs.map arKey) (x, y) = j at *
        go_wp2_with fail
        refine AR.out.mono ?_
        rintro e w4 ⟨rfl, hb4⟩
        go_wp2_with fail
        go_ret
        exact ⟨by rw [hE10.out]; rfl, hB3.trans (hb4.mono (by omega))⟩
      · have hdup' : inP pre (x, y) = false := by simpa using hdup
        have hji := HOWN.out.1 hdup'
        rw [hji] at AR
        have HE3 : Hid (E = if ((ls.length : Nat) : Int) ≠ an then 5 else sorts1 (cs.map Prod.fst) (fun i => ab.getD i []) ls) := by unfold Hid; rw [HE2.out, if_neg HTY.out, if_neg hdup]
        clear hdup hdup' HOWN hji HE2
        go_wp2_with fail
        refine AR.out.mono ?_
        rintro e w4 ⟨rfl, hb4⟩
        clear c0 c1 c2 c3 c4 c5 c6 d0 d1 d2
        have hB4 : Below w.heap.size w w4 := hB3.trans (hb4.mono (by omega))
        have hz4 : w.heap.size + 1 < w4.heap.size := Nat.lt_of_lt_of_le hz3 hb4.size
        have r4 := Lib.hid ((hb4.block w.heap.size (by omega)).trans r3.out)
        have q4 := Lib.hid ((hb4.block (w.heap.size + 1) (by omega)).trans q3.out)
        clear hb4
        clear AR
        obtain ⟨c0, c1, c2, c3, c4, c5, c6⟩ := cells7' r4.out
        obtain ⟨d0, d1, d2⟩ := cells3 q4.out
        have gd := (hB4.cell (p := ⟨bd, offd + ix * 2 + 1, none⟩) hbd).trans GD.out
        obtain ⟨hlsm, sp1, sc1, hee, hssx⟩ := HSS.out
        injection hee with e1 e2 e3
        subst e1 e3
        unfold maxLen at hlsm
        by_cases hcnt : ((ls.length : Nat) : Int) = an
        · have f3 : (((ls.length : Nat) : Int) != an) = false := by simp [hcnt]
          have HE4 : Hid (E = sorts1 (cs.map Prod.fst) (fun i => ab.getD i []) (ls.drop 0)) := by unfold Hid; rw [HE3.out, if_neg (fun h => h hcnt)]; rfl
          clear hcnt HE3
          go_wp2_with fail
          go_quiet (fail)
          go_wp2_with fail
          clear c0 c1 c2 c3 c4 c5 c6 d0 d1 d2 gd
          clear r1 q1
          go_loopw [7] (fun u wr => ∃ k : Nat, k ≤ ls.length ∧ u = .int .i64 k ∧ Hid (E = sorts1 (cs.map Prod.fst) (fun i => ab.getD i []) (ls.drop k)) ∧ Below w4.heap.size w4 wr) (fun u _ => ls.length - (intOf u).toNat)
          case atStart => exact ⟨0, by omega, rfl, HE4, below_drewN (Below.refl _ _) _⟩
          case round =>
            obtain ⟨k, hk, rfl, hI, hB5⟩ := hrel
            clear HE4
            have hz5 := hB5.size
            have hBw : Below w.heap.size w wr := hB4.trans (hB5.mono (by omega))
            have r5 := Lib.hid ((hB5.block w.heap.size (by omega)).trans r4.out)
            have q5 := Lib.hid ((hB5.block (w.heap.size + 1) (by omega)).trans q4.out)
            obtain ⟨d0, d1, d2⟩ := cells3 q5.out
            by_cases hlt : k < ls.length
            · obtain ⟨b2, off2, rfl, hb2, hcl2⟩ := hssx (by omega)
              obtain ⟨sp2, sc2, gk, hs2⟩ := hcl2 k hlt
              have hstep : Hid (E = if sort1Err (cs.map Prod.fst) (fun i => ab.getD i []) (ls.getD k []) = 0 then sorts1 (cs.map Prod.fst) (fun i => ab.getD i []) (ls.drop (k + 1)) else sort1Err (cs.map Prod.fst) (fun i => ab.getD i []) (ls.getD k [])) := by
                unfold Hid; rw [hI.out, drop_getD ls [] k hlt]; rfl
              generalize ls.getD k [] = s at *
              have hkc := (hBw.cell (p := ⟨b2, off2 + k, none⟩) hb2).trans gk
              have k5 := Lib.hid hkc
              have HS2 := Lib.hid hs2
              clear hcl2 gk hs2 hI
              by_cases h20 : 20 < s.length
              · have hd20 : decide (20 < ((s.length : Nat) : Int)) = true := by simp; omega
                have hE5 : Hid (E = 5) := by
                  have e : sort1Err (cs.map Prod.fst) (fun i => ab.getD i []) s = 5 := by unfold sort1Err; rw [if_pos h20]
                  unfold Hid; rw [hstep.out, e]; rfl
                clear hstep h20
                go_wp2_with fail
                go_ret
                exact ⟨by rw [hE5.out]; rfl, hBw⟩
              · have hd20 : decide (20 < ((s.length : Nat) : Int)) = false := by simp; omega
                have CK := Lib.hid (rknown_any n c (.slice (some ⟨bd, offd, none⟩) ds.length dcap) (.slice (some ⟨b, off, none⟩) rs.length acap) t4 t5 t6 _ s cs wr.drew (HC.out.below hBw.drew (Nat.le_refl _)) (HS2.out.below hBw.drew (Nat.le_refl _)))
                obtain ⟨c0, c1, c2, c3, c4, c5, c6⟩ := cells7' r5.out
                by_cases hall : s.all (inNs (cs.map Prod.fst)) = true
                · rw [hall] at CK
                  have HALL : Hid (¬ s.all (inNs (cs.map Prod.fst)) = false) := by unfold Hid; rw [hall]; decide
                  clear hall
                  go_wp2_with fail
                  go_region_held3 (fun w' => w'.cell? ⟨w.heap.size, 0, none⟩ = some n ∧ w'.cell? ⟨w.heap.size, 1, none⟩ = some c ∧ w'.cell? ⟨w.heap.size, 2, none⟩ = some (.slice (some ⟨bd, offd, none⟩) ds.length dcap) ∧ w'.cell? ⟨w.heap.size, 3, none⟩ = some (.slice (some ⟨b, off, none⟩) rs.length acap) ∧ w'.cell? ⟨w.heap.size, 4, none⟩ = some t4 ∧ w'.cell? ⟨w.heap.size, 5, none⟩ = some t5 ∧ w'.cell? ⟨w.heap.size, 6, none⟩ = some t6 ∧ w'.cell? ⟨w.heap.size + 1, 2, none⟩ = some (.slice (some ⟨b2, off2, none⟩) ls.length sc) ∧ w'.cell? ⟨b2, off2 + k, none⟩ = some (.slice sp2 s.length sc2))
                    (first | exact cells7and r5.out ⟨(cells3 q5.out).2.2, k5.out⟩ | exact cells7and r6.out ⟨(cells3 q6.out).2.2, k6.out⟩)
                    ((go_at_call 43; refine CK.out.mono ?_; rintro e w6 ⟨rfl, hb6⟩; have hb6 : Below wr.heap.size wr w6 := ((Below.refl _ wr).drew).trans hb6; have r6 := Lib.hid ((hb6.block w.heap.size (by omega)).trans r5.out); have q6 := Lib.hid ((hb6.block (w.heap.size + 1) (by omega)).trans q5.out); have k6 := Lib.hid ((hb6.cell (p := ⟨b2, off2 + k, none⟩) (by simp; omega)).trans k5.out)))
                  clear c0 c1 c2 c3 c4 c5 c6 d0 d1 d2 hkc
                  have hz6 := hb6.size
                  have hB6 : Below w4.heap.size w4 w6 := hB5.trans (hb6.mono (by omega))
                  have hBw6 : Below w.heap.size w w6 := hBw.trans (hb6.mono (by omega))
                  have CN := Lib.hid (isNormal_any n c (.slice (some ⟨bd, offd, none⟩) ds.length dcap) (.slice (some ⟨b, off, none⟩) rs.length acap) t4 t5 t6 _ cs sp ab s w6.drew (HC.out.below hBw6.drew (Nat.le_refl _)) HBU.out h300 (HS2.out.below hBw6.drew (Nat.le_refl _)))
                  obtain ⟨c0, c1, c2, c3, c4, c5, c6⟩ := cells7' r6.out
                  obtain ⟨d0, d1, d2⟩ := cells3 q6.out
                  have hkc := k6.out
                  by_cases hno : normB (cs.map Prod.fst) (fun i => ab.getD i []) s = true
                  · have hst : Hid (E = sorts1 (cs.map Prod.fst) (fun i => ab.getD i []) (ls.drop (k + 1))) := by
                      have e : sort1Err (cs.map Prod.fst) (fun i => ab.getD i []) s = 0 := by unfold sort1Err; rw [if_neg h20, if_neg HALL.out, if_neg (by rw [hno]; decide)]
                      unfold Hid; rw [hstep.out, e]; rfl
                    rw [hno] at CN
                    clear hno hstep h20
                    go_wp2_with fail
                    go_region_held3 (fun w' => w'.cell? ⟨w.heap.size, 0, none⟩ = some n ∧ w'.cell? ⟨w.heap.size, 1, none⟩ = some c ∧ w'.cell? ⟨w.heap.size, 2, none⟩ = some (.slice (some ⟨bd, offd, none⟩) ds.length dcap) ∧ w'.cell? ⟨w.heap.size, 3, none⟩ = some (.slice (some ⟨b, off, none⟩) rs.length acap) ∧ w'.cell? ⟨w.heap.size, 4, none⟩ = some t4 ∧ w'.cell? ⟨w.heap.size, 5, none⟩ = some t5 ∧ w'.cell? ⟨w.heap.size, 6, none⟩ = some t6 ∧ w'.cell? ⟨w.heap.size + 1, 2, none⟩ = some (.slice (some ⟨b2, off2, none⟩) ls.length sc) ∧ w'.cell? ⟨b2, off2 + k, none⟩ = some (.slice sp2 s.length sc2))
                      (first | exact cells7and r6.out ⟨(cells3 q6.out).2.2, k6.out⟩ | exact cells7and r7.out ⟨(cells3 q7.out).2.2, k7.out⟩)
                      ((go_at_call 58; refine CN.out.mono ?_; rintro e w7 ⟨rfl, hb7⟩; have hb7 : Below w6.heap.size w6 w7 := ((Below.refl _ w6).drew).trans hb7; have r7 := Lib.hid ((hb7.block w.heap.size (by omega)).trans r6.out); have q7 := Lib.hid ((hb7.block (w.heap.size + 1) (by omega)).trans q6.out); have k7 := Lib.hid ((hb7.cell (p := ⟨b2, off2 + k, none⟩) (by simp; omega)).trans k6.out)))
                    clear c0 c1 c2 c3 c4 c5 c6 d0 d1 d2 hkc
                    go_wp2_with fail
                    go_roundw
                    case rel => exact ⟨k + 1, by omega, by go_num, hst, hB6.trans (hb7.mono (by omega))⟩
                    case measure => simp [intOf]; omega
                  · have hno' : normB (cs.map Prod.fst) (fun i => ab.getD i []) s = false := by simpa using hno
                    have hE14 : Hid (E = 14) := by
                      have e : sort1Err (cs.map Prod.fst) (fun i => ab.getD i []) s = 14 := by unfold sort1Err; rw [if_neg h20, if_neg HALL.out, if_pos hno']
                      unfold Hid; rw [hstep.out, e]; rfl
                    rw [hno'] at CN
                    clear hno hno' hstep h20
                    go_wp2_with fail
                    go_region_held3 (fun w' => w'.cell? ⟨w.heap.size, 0, none⟩ = some n ∧ w'.cell? ⟨w.heap.size, 1, none⟩ = some c ∧ w'.cell? ⟨w.heap.size, 2, none⟩ = some (.slice (some ⟨bd, offd, none⟩) ds.length dcap) ∧ w'.cell? ⟨w.heap.size, 3, none⟩ = some (.slice (some ⟨b, off, none⟩) rs.length acap) ∧ w'.cell? ⟨w.heap.size, 4, none⟩ = some t4 ∧ w'.cell? ⟨w.heap.size, 5, none⟩ = some t5 ∧ w'.cell? ⟨w.heap.size, 6, none⟩ = some t6 ∧ w'.cell? ⟨w.heap.size + 1, 2, none⟩ = some (.slice (some ⟨b2, off2, none⟩) ls.length sc) ∧ w'.cell? ⟨b2, off2 + k, none⟩ = some (.slice sp2 s.length sc2))
                      (first | exact cells7and r6.out ⟨(cells3 q6.out).2.2, k6.out⟩ | exact cells7and r7.out ⟨(cells3 q7.out).2.2, k7.out⟩)
                      ((go_at_call 58; refine CN.out.mono ?_; rintro e w7 ⟨rfl, hb7⟩; have hb7 : Below w6.heap.size w6 w7 := ((Below.refl _ w6).drew).trans hb7; have r7 := Lib.hid ((hb7.block w.heap.size (by omega)).trans r6.out); have q7 := Lib.hid ((hb7.block (w.heap.size + 1) (by omega)).trans q6.out); have k7 := Lib.hid ((hb7.cell (p := ⟨b2, off2 + k, none⟩) (by simp; omega)).trans k6.out)))
                    clear c0 c1 c2 c3 c4 c5 c6 d0 d1 d2 hkc
                    go_wp2_with fail
                    go_ret
                    exact ⟨by rw [hE14.out]; rfl, hBw6.trans (hb7.mono (by omega))⟩
                · have hall' : s.all (inNs (cs.map Prod.fst)) = false := by simpa using hall
                  have hE9 : Hid (E = 9) := by
                    have e : sort1Err (cs.map Prod.fst) (fun i => ab.getD i []) s = 9 := by unfold sort1Err; rw [if_neg h20, if_pos hall']
                    unfold Hid; rw [hstep.out, e]; rfl
                  rw [hall'] at CK
                  clear hall hall' hstep h20
                  go_wp2_with fail
                  go_region_held3 (fun w' => w'.cell? ⟨w.heap.size, 0, none⟩ = some n ∧ w'.cell? ⟨w.heap.size, 1, none⟩ = some c ∧ w'.cell? ⟨w.heap.size, 2, none⟩ = some (.slice (some ⟨bd, offd, none⟩) ds.length dcap) ∧ w'.cell? ⟨w.heap.size, 3, none⟩ = some (.slice (some ⟨b, off, none⟩) rs.length acap) ∧ w'.cell? ⟨w.heap.size, 4, none⟩ = some t4 ∧ w'.cell? ⟨w.heap.size, 5, none⟩ = some t5 ∧ w'.cell? ⟨w.heap.size, 6, none⟩ = some t6 ∧ w'.cell? ⟨w.heap.size + 1, 2, none⟩ = some (.slice (some ⟨b2, off2, none⟩) ls.length sc) ∧ w'.cell? ⟨b2, off2 + k, none⟩ = some (.slice sp2 s.length sc2))
                    (first | exact cells7and r5.out ⟨(cells3 q5.out).2.2, k5.out⟩ | exact cells7and r6.out ⟨(cells3 q6.out).2.2, k6.out⟩)
                    ((go_at_call 43; refine CK.out.mono ?_; rintro e w6 ⟨rfl, hb6⟩; have hb6 : Below wr.heap.size wr w6 := ((Below.refl _ wr).drew).trans hb6; have r6 := Lib.hid ((hb6.block w.heap.size (by omega)).trans r5.out); have q6 := Lib.hid ((hb6.block (w.heap.size + 1) (by omega)).trans q5.out); have k6 := Lib.hid ((hb6.cell (p := ⟨b2, off2 + k, none⟩) (by simp; omega)).trans k5.out)))
                  clear c0 c1 c2 c3 c4 c5 c6 d0 d1 d2 hkc
                  go_wp2_with fail
                  go_ret
                  exact ⟨by rw [hE9.out]; rfl, hBw.trans (hb6.mono (by omega))⟩
            · have hE0 : Hid (E = 0) := by unfold Hid; rw [hI.out, List.drop_eq_nil_of_le (by omega)]; rfl
              clear hI
              go_wp2_with fail
              go_ret
              exact ⟨by rw [hE0.out]; rfl, hBw⟩
        · have f3 : (((ls.length : Nat) : Int) != an) = true := by rw [bne_iff_ne]; exact hcnt
          have hE5 : Hid (E = 5) := by unfold Hid; rw [HE3.out, if_pos hcnt]
          clear hcnt HE3
          go_wp2_with fail
          go_quiet (fail)
          go_wp2_with fail
          go_ret
          exact ⟨by rw [hE5.out]; rfl, below_drewN hB4 _⟩
    · have hty' : inNs (cs.map Prod.fst) y = false := by simpa using hty
      have hE9 : Hid (E = 9) := by unfold Hid; rw [HE2.out, if_pos hty']
      clear hty HE2
      go_wp2_with fail
      refine (class_out n _ _ _ t4 t5 t6 y cs w2 (HC.out.below hB2 (Nat.le_refl _)) hty').mono ?_
      rintro e w3 ⟨rfl, hb3⟩
      go_wp2_with fail
      go_ret
      exact ⟨by rw [hE9.out]; rfl, hB2.trans (hb3.mono (by omega))⟩
  · have htx' : inNs (ds.map Prod.fst) x = false := by simpa using htx
    have hE9 : Hid (E = 9) := by unfold Hid; rw [HE.out]; unfold arErr; rw [if_pos htx']
    refine (type_out n c _ _ t4 t5 t6 x ds w1 (HD.out.below hB1 (Nat.le_refl _)) htx').mono ?_
    rintro e w2 ⟨rfl, hb2⟩
    clear htx htx' HE
    go_wp2_with fail
    go_ret
    exact ⟨by rw [hE9.out]; rfl, hB1.trans (hb2.mono (by omega))⟩
end Go.Proofs.YtehnikgdjnmfcaaGreat

/- The reference: regular. -/
namespace Go.Proofs.YtehnikgdjnmfcaaGreat
open Go.RowKit Go.WideMaps Go.Shelf

theorem sorts1_zero {ns : List Nm} {abv : Nat → List Nat} : ∀ {l : List (List Nm)}, sorts1 ns abv l = 0 → ∀ s ∈ l, s.all (inNs ns) = true ∧ normB ns abv s = true ∧ s.length ≤ 20
  | [], _, s, hs => absurd hs (by simp)
  | x :: r, h, s, hs => by
    unfold sorts1 at h
    by_cases h0 : sort1Err ns abv x = 0
    · rw [if_pos h0] at h
      rcases List.mem_cons.1 hs with rfl | hs
      · unfold sort1Err at h0
        by_cases h1 : 20 < s.length
        · rw [if_pos h1] at h0; exact absurd h0 (by decide)
        · rw [if_neg h1] at h0
          by_cases h2 : s.all (inNs ns) = false
          · rw [if_pos h2] at h0; exact absurd h0 (by decide)
          · rw [if_neg h2] at h0
            by_cases h3 : normB ns abv s = false
            · rw [if_pos h3] at h0; exact absurd h0 (by decide)
            · exact ⟨by simpa using h2, by simpa using h3, by omega⟩
      · exact sorts1_zero h s hs
    · rw [if_neg h0] at h; exact absurd h h0

theorem arErr_zero {ns : List Nm} {abv : Nat → List Nat} {ds : List (Nm × Int)} {pre : List (Nm × Nm)} {a : Ar} (h : arErr ns abv ds pre a = 0) :
    inNs (ds.map Prod.fst) a.1 = true ∧ inNs ns a.2.1 = true ∧ inP pre (a.1, a.2.1) = false ∧ ((a.2.2.length : Nat) : Int) = (ds.getD (ixOf (ds.map Prod.fst) a.1) ([], 0)).2 ∧ ∀ s ∈ a.2.2, s.all (inNs ns) = true := by
  unfold arErr at h
  by_cases h1 : inNs (ds.map Prod.fst) a.1 = false
  · rw [if_pos h1] at h; exact absurd h (by decide)
  · rw [if_neg h1] at h
    by_cases h2 : inNs ns a.2.1 = false
    · rw [if_pos h2] at h; exact absurd h (by decide)
    · rw [if_neg h2] at h
      by_cases h3 : inP pre (a.1, a.2.1) = true
      · rw [if_pos h3] at h; exact absurd h (by decide)
      · rw [if_neg h3] at h
        by_cases h4 : ((a.2.2.length : Nat) : Int) ≠ (ds.getD (ixOf (ds.map Prod.fst) a.1) ([], 0)).2
        · rw [if_pos h4] at h; exact absurd h (by decide)
        · rw [if_neg h4] at h
          exact ⟨by simpa using h1, by simpa using h2, by simpa using h3, by simpa using h4, fun s hs => (sorts1_zero h s hs).1⟩

/-- whether sorts are within others, one by one -/
def withAll (ns : List Nm) (abv : Nat → List Nat) (l m : List (List Nm)) : Bool := (List.range l.length).all fun q => withB ns abv (l.getD q []) (m.getD q [])

/-- whether there is an arity for a class, with sorts within which those of an arity are -/
def regOne (cs : List (Nm × List Nm)) (ab : List (List Nat)) (rs : List Ar) (a : Ar) (k : Nat) : Bool :=
  inP (rs.map arKey) (a.1, (cs.getD k ([], [])).1) && withAll (cs.map Prod.fst) (fun i => ab.getD i []) a.2.2 (rs.getD (ixP (rs.map arKey) (a.1, (cs.getD k ([], [])).1)) ar0).2.2

def regB (cs : List (Nm × List Nm)) (ab : List (List Nat)) (rs : List Ar) (a : Ar) : Bool :=
  (List.range cs.length).all fun k => !decide (k ∈ ab.getD (ixOf (cs.map Prod.fst) a.2.1) []) || regOne cs ab rs a k

theorem range_step (p : Nat → Bool) (n k : Nat) (hk : k < n) : ((List.range n).drop k).all p = (p k && ((List.range n).drop (k + 1)).all p) := by
  rw [all_drop_getD _ 0 _ k (by simpa using hk)]
  congr 2
  rw [List.getD_eq_getElem?_getD, List.getElem?_range hk]; rfl

theorem range_end (p : Nat → Bool) (n k : Nat) (hk : n ≤ k) : ((List.range n).drop k).all p = true := by
  rw [List.drop_eq_nil_of_le (by simpa using hk)]; rfl

set_option maxRecDepth 100000 in
set_option maxHeartbeats 8000000 in
theorem regular_any (n c t2 t3 t4 t5 t6 : Value) (cs : List (Nm × List Nm)) (sp ab : List (List Nat)) (ds : List (Nm × Int)) (rs : List Ar) (i : Nat) (w : World) (hc : SlC w c cs) (hbu : Built cs sp ab) (h300 : cs.length ≤ 300) (ha : SlAr w t3 rs) (hi : i < rs.length)
    (hok : ∀ j, j < rs.length → arErr (cs.map Prod.fst) (fun i => ab.getD i []) ds ((rs.map arKey).take j) (rs.getD j ar0) = 0) :
    Calls Tryz.prog 42 #[.agg #[n, c, t2, t3, t4, t5, t6], .int .i64 i] w fun e w' => e = .returned (.bool (regB cs ab rs (rs.getD i ar0))) ∧ Below w.heap.size w w' := by
  have hb0 := below_alloc w (Obj.cells #[n, c, t2, t3, t4, t5, t6] 29)
  have HC := Lib.hid hc
  have HA := Lib.hid ha
  have HBU := Lib.hid hbu
  have HOK := Lib.hid hok
  have r0 := Lib.hid (heap_alloc_new w (Obj.cells #[n, c, t2, t3, t4, t5, t6] 29))
  have hz0 : (w.alloc (Obj.cells #[n, c, t2, t3, t4, t5, t6] 29)).heap.size = w.heap.size + 1 := by simp
  obtain ⟨hclm, ca, ccap, rfl, hcx⟩ := hc
  obtain ⟨hal, aa, acap, rfl, hax⟩ := ha
  obtain ⟨b, off, rfl, hb, hcl⟩ := hax (by omega)
  obtain ⟨g0w, hnl, g1w, hyl, sp0, sc, g2w, hss⟩ := hcl i hi
  obtain ⟨z1, z2, z3, z4, z5⟩ := arErr_zero (hok i hi)
  have HCL := Lib.hid hcl
  unfold maxLen at hal hclm
  obtain ⟨E, hE⟩ : ∃ E, E = regB cs ab rs (rs.getD i ar0) := ⟨_, rfl⟩
  rw [← hE]
  generalize rs.getD i ar0 = ar at *
  obtain ⟨x, y, ls⟩ := ar
  dsimp only at g0w hnl g1w hyl g2w hss z1 z2 z3 z4 z5
  have HE : Hid (E = ((List.range cs.length).drop 0).all fun k => !decide (k ∈ ab.getD (ixOf (cs.map Prod.fst) y) []) || regOne cs ab rs (x, y, ls) k) := hE
  have HSS := Lib.hid hss
  have HZ4 := Lib.hid z4
  have HZ5 := Lib.hid z5
  have HZ2 := Lib.hid z2
  have hix : ixOf (cs.map Prod.fst) y < cs.length := by have := ixOf_lt z2; simpa using this
  obtain ⟨bc, offc, rfl, hbc, hccl⟩ := hcx (by omega)
  have HCCL := Lib.hid hccl
  have g0 := (hb0.cell (p := ⟨b, off + i * 3, none⟩) hb).trans g0w
  have g1 := (hb0.cell (p := ⟨b, off + i * 3 + 1, none⟩) hb).trans g1w
  have g2 := (hb0.cell (p := ⟨b, off + i * 3 + 2, none⟩) hb).trans g2w
  have hb1 := below_alloc (w.alloc (Obj.cells #[n, .slice (some ⟨bc, offc, none⟩) cs.length ccap, t2, .slice (some ⟨b, off, none⟩) rs.length acap, t4, t5, t6] 29)) (Obj.cells #[.string (bs x), .string (bs y), .slice sp0 ls.length sc] 50)
  have q1' := heap_alloc_new (w.alloc (Obj.cells #[n, .slice (some ⟨bc, offc, none⟩) cs.length ccap, t2, .slice (some ⟨b, off, none⟩) rs.length acap, t4, t5, t6] 29)) (Obj.cells #[.string (bs x), .string (bs y), .slice sp0 ls.length sc] 50)
  rw [hz0] at q1'
  have q1 := Lib.hid q1'
  have r1 := Lib.hid ((hb1.block w.heap.size (by omega)).trans r0.out)
  have hB1 : Below w.heap.size w ((w.alloc (Obj.cells #[n, .slice (some ⟨bc, offc, none⟩) cs.length ccap, t2, .slice (some ⟨b, off, none⟩) rs.length acap, t4, t5, t6] 29)).alloc (Obj.cells #[.string (bs x), .string (bs y), .slice sp0 ls.length sc] 50)) := hb0.trans (hb1.mono (by omega))
  have hz1 : w.heap.size + 1 < ((w.alloc (Obj.cells #[n, .slice (some ⟨bc, offc, none⟩) cs.length ccap, t2, .slice (some ⟨b, off, none⟩) rs.length acap, t4, t5, t6] 29)).alloc (Obj.cells #[.string (bs x), .string (bs y), .slice sp0 ls.length sc] 50)).heap.size := by simp
  clear hss z1 z2 z3 z4 z5 g0w g1w g2w hcl q1' hb1 hax hE hok hccl hcx
  go_enter Tryz.func42, Tryz.ntmps42
  go_wp2_with fail
  clear g0 g1 g2 r0 hb0
  generalize ((w.alloc (Obj.cells #[n, .slice (some ⟨bc, offc, none⟩) cs.length ccap, t2, .slice (some ⟨b, off, none⟩) rs.length acap, t4, t5, t6] 29)).alloc (Obj.cells #[.string (bs x), .string (bs y), .slice sp0 ls.length sc] 50)) = w1 at *
  have CI := Lib.hid (class_in n (.slice (some ⟨bc, offc, none⟩) cs.length ccap) t2 (.slice (some ⟨b, off, none⟩) rs.length acap) t4 t5 t6 y cs w1.drew (HC.out.below hB1.drew (Nat.le_refl _)) HZ2.out)
  have AB := Lib.hid (fun W (hB : Below w.heap.size w W) => above_any n (.slice (some ⟨bc, offc, none⟩) cs.length ccap) t2 (.slice (some ⟨b, off, none⟩) rs.length acap) t4 t5 t6 cs sp ab (ixOf (cs.map Prod.fst) y) W (HC.out.below hB (Nat.le_refl _)) HBU.out hix h300)
  generalize ixOf (cs.map Prod.fst) y = iy at *
  obtain ⟨c0, c1, c2, c3, c4, c5, c6⟩ := cells7' r1.out
  obtain ⟨d0, d1, d2⟩ := cells3 q1.out
  go_region_held3 (fun w' => w'.cell? ⟨w.heap.size, 0, none⟩ = some n ∧ w'.cell? ⟨w.heap.size, 1, none⟩ = some (.slice (some ⟨bc, offc, none⟩) cs.length ccap) ∧ w'.cell? ⟨w.heap.size, 2, none⟩ = some t2 ∧ w'.cell? ⟨w.heap.size, 3, none⟩ = some (.slice (some ⟨b, off, none⟩) rs.length acap) ∧ w'.cell? ⟨w.heap.size, 4, none⟩ = some t4 ∧ w'.cell? ⟨w.heap.size, 5, none⟩ = some t5 ∧ w'.cell? ⟨w.heap.size, 6, none⟩ = some t6 ∧ w'.cell? ⟨w.heap.size + 1, 1, none⟩ = some (.string (bs y)))
    (first | exact cells7and r1.out (cells3 q1.out).2.1 | exact cells7and r3.out (cells3 q3.out).2.1 | exact cells7and r2.out (cells3 q2.out).2.1)
    (first | (go_at_call 59; refine (AB.out _ hB2).mono ?_; rintro e w3 ⟨bA, f, rfl, hbA1, hbA2, hba, hfr, hb3⟩; have r3 := Lib.hid ((hb3.block w.heap.size (by omega)).trans r2.out); have q3 := Lib.hid ((hb3.block (w.heap.size + 1) (by omega)).trans q2.out); have HBA := Lib.hid hba; have HFR := Lib.hid hfr; clear hba hfr) | (go_at_call 57; refine CI.out.mono ?_; rintro e w2 ⟨rfl, hb2⟩; have hb2 : Below w1.heap.size w1 w2 := ((Below.refl _ w1).drew).trans hb2; have hB2 : Below w.heap.size w w2 := hB1.trans (hb2.mono (by omega)); have hz2 : w.heap.size + 1 < w2.heap.size := Nat.lt_of_lt_of_le hz1 hb2.size; have r2 := Lib.hid ((hb2.block w.heap.size (by omega)).trans r1.out); have q2 := Lib.hid ((hb2.block (w.heap.size + 1) (by omega)).trans q1.out)))
  clear c0 c1 c2 c3 c4 c5 c6 d0 d1 d2
  have hB3 : Below w.heap.size w w3 := hB2.trans (hb3.mono (by omega))
  have hz3 : w.heap.size + 1 < w3.heap.size := Nat.lt_of_lt_of_le hz2 hb3.size
  have HMEM : Hid (∀ k, k < cs.length → (f k = decide (k ∈ ab.getD iy []))) := by
    intro k hk
    rw [Bool.eq_iff_iff, HFR.out k hk, decide_eq_true_iff]
    exact (HBU.out.mem iy hix k).symm
  clear hb2 hb3 r1 r2 q1 q2 HFR CI AB
  go_wp2_with fail
  go_loopw [7] (fun u wr => ∃ k : Nat, k ≤ cs.length ∧ u = .int .i64 k ∧ Hid (E = ((List.range cs.length).drop k).all fun k => !decide (k ∈ ab.getD iy []) || regOne cs ab rs (x, y, ls) k) ∧ Below w3.heap.size w3 wr) (fun u _ => cs.length - (intOf u).toNat)
  case atStart => exact ⟨0, by omega, rfl, HE, Below.refl _ _⟩
  case round =>
    obtain ⟨k, hk, rfl, hI, hB⟩ := hrel
    clear HE
    have hz := hB.size
    have hBw : Below w.heap.size w wr := hB3.trans (hB.mono (by omega))
    have r4 := Lib.hid ((hB.block w.heap.size (by omega)).trans r3.out)
    have q4 := Lib.hid ((hB.block (w.heap.size + 1) (by omega)).trans q3.out)
    by_cases hlt : k < cs.length
    · have hbx := ((HBA.out.below hB hbA2) k hlt).1
      have hfk := HMEM.out k hlt
      have hstep : Hid (E = ((!decide (k ∈ ab.getD iy []) || regOne cs ab rs (x, y, ls) k) && ((List.range cs.length).drop (k + 1)).all fun k => !decide (k ∈ ab.getD iy []) || regOne cs ab rs (x, y, ls) k)) := by
        unfold Hid; rw [hI.out, range_step _ _ _ hlt]
      clear hI
      by_cases hm : k ∈ ab.getD iy []
      · rw [decide_eq_true hm] at hfk
        rw [hfk] at hbx
        have hst1 : Hid (E = (regOne cs ab rs (x, y, ls) k && ((List.range cs.length).drop (k + 1)).all fun k => !decide (k ∈ ab.getD iy []) || regOne cs ab rs (x, y, ls) k)) := by
          unfold Hid; rw [hstep.out, decide_eq_true hm]; rfl
        clear hstep hm hfk
        obtain ⟨gc0w, hznl, _⟩ := HCCL.out k hlt
        have hst2 : Hid (E = ((inP (rs.map arKey) (x, (cs.getD k ([], [])).1) && withAll (cs.map Prod.fst) (fun i => ab.getD i []) ls (rs.getD (ixP (rs.map arKey) (x, (cs.getD k ([], [])).1)) ar0).2.2) && ((List.range cs.length).drop (k + 1)).all fun k => !decide (k ∈ ab.getD iy []) || regOne cs ab rs (x, y, ls) k)) := hst1.out
        generalize (cs.getD k ([], [])).1 = z at *
        have gc0 := (hBw.cell (p := ⟨bc, offc + k * 2, none⟩) hbc).trans gc0w
        have gcd := Lib.hid gc0
        clear gc0w hst1
        have AR := Lib.hid (arity_any n (.slice (some ⟨bc, offc, none⟩) cs.length ccap) t2 (.slice (some ⟨b, off, none⟩) rs.length acap) t4 t5 t6 x z rs wr.drew (HA.out.below hBw.drew (Nat.le_refl _)))
        obtain ⟨c0, c1, c2, c3, c4, c5, c6⟩ := cells7' r4.out
        obtain ⟨d0, d1, d2⟩ := cells3 q4.out
        by_cases hp : inP (rs.map arKey) (x, z) = true
        · rw [arI_in hp] at AR
          have hjl : ixP (rs.map arKey) (x, z) < rs.length := by have := ixP_lt hp; simpa using this
          have hja := ixP_at hp ([], [])
          rw [key_at rs _ hjl] at hja
          have hst3 : Hid (E = (withAll (cs.map Prod.fst) (fun i => ab.getD i []) ls (rs.getD (ixP (rs.map arKey) (x, z)) ar0).2.2 && ((List.range cs.length).drop (k + 1)).all fun k => !decide (k ∈ ab.getD iy []) || regOne cs ab rs (x, y, ls) k)) := by
            unfold Hid; rw [hst2.out, hp, Bool.true_and]
          obtain ⟨z1, z2, z3, z4, z5⟩ := arErr_zero (HOK.out _ hjl)
          obtain ⟨_, _, _, _, spj, scj, gjw, hssj⟩ := HCL.out _ hjl
          clear hst2 hp
          generalize ixP (rs.map arKey) (x, z) = j at *
          generalize rs.getD j ar0 = aj at *
          obtain ⟨xj, yj, lj⟩ := aj
          have exj : xj = x := by unfold arKey at hja; injection hja
          dsimp only at z4 z5 gjw hssj hst3
          rw [exj] at z4
          have hlen : lj.length = ls.length := by have := HZ4.out; omega
          have HZJ := Lib.hid z5
          have HSSJ := Lib.hid hssj
          have GJ := Lib.hid gjw
          have f1 : decide ((j : Int) < 0) = false := by simp
          clear hja z1 z2 z3 z4 z5 hssj gjw exj
          go_wp2_with fail
          go_region_held3 (fun w' => w'.cell? ⟨w.heap.size, 0, none⟩ = some n ∧ w'.cell? ⟨w.heap.size, 1, none⟩ = some (.slice (some ⟨bc, offc, none⟩) cs.length ccap) ∧ w'.cell? ⟨w.heap.size, 2, none⟩ = some t2 ∧ w'.cell? ⟨w.heap.size, 3, none⟩ = some (.slice (some ⟨b, off, none⟩) rs.length acap) ∧ w'.cell? ⟨w.heap.size, 4, none⟩ = some t4 ∧ w'.cell? ⟨w.heap.size, 5, none⟩ = some t5 ∧ w'.cell? ⟨w.heap.size, 6, none⟩ = some t6 ∧ w'.cell? ⟨w.heap.size + 1, 0, none⟩ = some (.string (bs x)) ∧ w'.cell? ⟨bc, offc + k * 2, none⟩ = some (.string (bs z)))
            (first | exact cells7and r4.out ⟨(cells3 q4.out).1, gcd.out⟩ | exact cells7and r5.out ⟨(cells3 q5.out).1, k5.out⟩)
            ((go_at_call 44; refine AR.out.mono ?_; rintro e w5 ⟨rfl, hb5⟩; have hb5 : Below wr.heap.size wr w5 := ((Below.refl _ wr).drew).trans hb5; have r5 := Lib.hid ((hb5.block w.heap.size (by omega)).trans r4.out); have q5 := Lib.hid ((hb5.block (w.heap.size + 1) (by omega)).trans q4.out); have k5 := Lib.hid ((hb5.cell (p := ⟨bc, offc + k * 2, none⟩) (by simp; omega)).trans gcd.out)))
          clear c0 c1 c2 c3 c4 c5 c6 d0 d1 d2 gc0
          have hz5 := hb5.size
          have hB5 : Below w3.heap.size w3 w5 := hB.trans (hb5.mono (by omega))
          have H0 : Hid (withAll (cs.map Prod.fst) (fun i => ab.getD i []) ls lj = ((List.range ls.length).drop 0).all fun q => withB (cs.map Prod.fst) (fun i => ab.getD i []) (ls.getD q []) (lj.getD q [])) := rfl
          go_wp2_with fail
          obtain ⟨wo, rfl⟩ : ∃ wo : World, wo = wr := ⟨_, rfl⟩
          go_loopw [9] (fun u wr => ∃ q : Nat, q ≤ ls.length ∧ u = .int .i64 q ∧ Hid (withAll (cs.map Prod.fst) (fun i => ab.getD i []) ls lj = ((List.range ls.length).drop q).all fun q => withB (cs.map Prod.fst) (fun i => ab.getD i []) (ls.getD q []) (lj.getD q [])) ∧ Below w5.heap.size w5 wr) (fun u _ => ls.length - (intOf u).toNat)
          case atStart => exact ⟨0, by omega, rfl, H0, Below.refl _ _⟩
          case round =>
            obtain ⟨q, hq, rfl, hI2, hB6⟩ := hrel
            clear H0
            have hz6 := hB6.size
            have hB7 : Below w3.heap.size w3 wr := hB5.trans (hB6.mono (by omega))
            have hBw7 : Below w.heap.size w wr := hB3.trans (hB7.mono (by omega))
            have r7 := Lib.hid ((hB7.block w.heap.size (by omega)).trans r3.out)
            have q7 := Lib.hid ((hB7.block (w.heap.size + 1) (by omega)).trans q3.out)
            obtain ⟨hlsm, _⟩ := HSS.out
            unfold maxLen at hlsm
            obtain ⟨d0, d1, d2⟩ := cells3 q7.out
            by_cases hltq : q < ls.length
            · obtain ⟨_, sa1, sk1, hee1, hsx1⟩ := HSS.out
              injection hee1 with e1 e2 e3
              subst e1 e3
              obtain ⟨b1, o1, rfl, hb1x, hcl1⟩ := hsx1 (by omega)
              obtain ⟨p1, k1, gs1w, hs1⟩ := hcl1 q hltq
              obtain ⟨_, sa2, sk2, hee2, hsx2⟩ := HSSJ.out
              injection hee2 with e1 e2 e3
              subst e1 e3
              obtain ⟨b2, o2, rfl, hb2x, hcl2⟩ := hsx2 (by omega)
              obtain ⟨p2, k2, gs2w, hs2⟩ := hcl2 q (by omega)
              have hk1 := HZ5.out (ls.getD q []) (getD_mem ls [] q hltq)
              have hk2 := HZJ.out (lj.getD q []) (getD_mem lj [] q (by omega))
              have hstq : Hid (withAll (cs.map Prod.fst) (fun i => ab.getD i []) ls lj = (withB (cs.map Prod.fst) (fun i => ab.getD i []) (ls.getD q []) (lj.getD q []) && ((List.range ls.length).drop (q + 1)).all fun q => withB (cs.map Prod.fst) (fun i => ab.getD i []) (ls.getD q []) (lj.getD q []))) := by
                unfold Hid; rw [hI2.out, range_step _ _ _ hltq]
              have hqj : q < lj.length := by omega
              clear hcl1 hcl2 hsx1 hsx2 hI2
              generalize ls.getD q [] = s1 at *
              generalize lj.getD q [] = s2 at *
              have gs1 := (hBw7.cell (p := ⟨b1, o1 + q, none⟩) hb1x).trans gs1w
              have gs2 := (hBw7.cell (p := ⟨b2, o2 + q, none⟩) hb2x).trans gs2w
              have gj := (hBw7.cell (p := ⟨b, off + j * 3 + 2, none⟩) hb).trans GJ.out
              have gs1d := Lib.hid gs1
              have gs2d := Lib.hid gs2
              have gjd := Lib.hid gj
              have WI := Lib.hid (within_any n (.slice (some ⟨bc, offc, none⟩) cs.length ccap) t2 (.slice (some ⟨b, off, none⟩) rs.length acap) t4 t5 t6 _ _ cs sp ab s1 s2 wr.drew (HC.out.below hBw7.drew (Nat.le_refl _)) HBU.out h300 (hs1.below hBw7.drew (Nat.le_refl _)) (hs2.below hBw7.drew (Nat.le_refl _)) hk1 hk2)
              clear hs1 hs2 hk1 hk2 gs1w gs2w
              obtain ⟨c0, c1, c2, c3, c4, c5, c6⟩ := cells7' r7.out
              by_cases hwi : withB (cs.map Prod.fst) (fun i => ab.getD i []) s1 s2 = true
              · rw [hwi] at WI
                have hst4 : Hid (withAll (cs.map Prod.fst) (fun i => ab.getD i []) ls lj = ((List.range ls.length).drop (q + 1)).all fun q => withB (cs.map Prod.fst) (fun i => ab.getD i []) (ls.getD q []) (lj.getD q [])) := by
                  unfold Hid; rw [hstq.out, hwi, Bool.true_and]
                clear hwi hstq
                go_wp2_with fail
                go_region_held3 (fun w' => w'.cell? ⟨w.heap.size, 0, none⟩ = some n ∧ w'.cell? ⟨w.heap.size, 1, none⟩ = some (.slice (some ⟨bc, offc, none⟩) cs.length ccap) ∧ w'.cell? ⟨w.heap.size, 2, none⟩ = some t2 ∧ w'.cell? ⟨w.heap.size, 3, none⟩ = some (.slice (some ⟨b, off, none⟩) rs.length acap) ∧ w'.cell? ⟨w.heap.size, 4, none⟩ = some t4 ∧ w'.cell? ⟨w.heap.size, 5, none⟩ = some t5 ∧ w'.cell? ⟨w.heap.size, 6, none⟩ = some t6 ∧ w'.cell? ⟨w.heap.size + 1, 2, none⟩ = some (.slice (some ⟨b1, o1, none⟩) ls.length sc) ∧ w'.cell? ⟨b1, o1 + q, none⟩ = some (.slice p1 s1.length k1) ∧ w'.cell? ⟨b, off + j * 3 + 2, none⟩ = some (.slice (some ⟨b2, o2, none⟩) lj.length scj) ∧ w'.cell? ⟨b2, o2 + q, none⟩ = some (.slice p2 s2.length k2))
                  (first | exact cells7and r7.out ⟨(cells3 q7.out).2.2, gs1d.out, gjd.out, gs2d.out⟩ | exact cells7and r8.out ⟨(cells3 q8.out).2.2, x1.out, x2.out, x3.out⟩)
                  ((go_at_call 60; refine WI.out.mono ?_; rintro e w8 ⟨rfl, hb8⟩; have hb8 : Below wr.heap.size wr w8 := ((Below.refl _ wr).drew).trans hb8; have r8 := Lib.hid ((hb8.block w.heap.size (by omega)).trans r7.out); have q8 := Lib.hid ((hb8.block (w.heap.size + 1) (by omega)).trans q7.out); have x1 := Lib.hid ((hb8.cell (p := ⟨b1, o1 + q, none⟩) (by simp; omega)).trans gs1d.out); have x2 := Lib.hid ((hb8.cell (p := ⟨b, off + j * 3 + 2, none⟩) (by simp; omega)).trans gjd.out); have x3 := Lib.hid ((hb8.cell (p := ⟨b2, o2 + q, none⟩) (by simp; omega)).trans gs2d.out)))
                clear c0 c1 c2 c3 c4 c5 c6 d0 d1 d2 gs1 gs2 gj
                go_wp2_with fail
                go_roundw
                case rel => exact ⟨q + 1, by omega, by go_num, hst4, hB6.trans (hb8.mono (by omega))⟩
                case measure => simp [intOf]; omega
              · have hwi' : withB (cs.map Prod.fst) (fun i => ab.getD i []) s1 s2 = false := by simpa using hwi
                rw [hwi'] at WI
                have hEf : Hid (E = false) := by
                  unfold Hid; rw [hst3.out, hstq.out, hwi']; rfl
                clear hwi hwi' hstq
                go_wp2_with fail
                go_region_held3 (fun w' => w'.cell? ⟨w.heap.size, 0, none⟩ = some n ∧ w'.cell? ⟨w.heap.size, 1, none⟩ = some (.slice (some ⟨bc, offc, none⟩) cs.length ccap) ∧ w'.cell? ⟨w.heap.size, 2, none⟩ = some t2 ∧ w'.cell? ⟨w.heap.size, 3, none⟩ = some (.slice (some ⟨b, off, none⟩) rs.length acap) ∧ w'.cell? ⟨w.heap.size, 4, none⟩ = some t4 ∧ w'.cell? ⟨w.heap.size, 5, none⟩ = some t5 ∧ w'.cell? ⟨w.heap.size, 6, none⟩ = some t6 ∧ w'.cell? ⟨w.heap.size + 1, 2, none⟩ = some (.slice (some ⟨b1, o1, none⟩) ls.length sc) ∧ w'.cell? ⟨b1, o1 + q, none⟩ = some (.slice p1 s1.length k1) ∧ w'.cell? ⟨b, off + j * 3 + 2, none⟩ = some (.slice (some ⟨b2, o2, none⟩) lj.length scj) ∧ w'.cell? ⟨b2, o2 + q, none⟩ = some (.slice p2 s2.length k2))
                  (first | exact cells7and r7.out ⟨(cells3 q7.out).2.2, gs1d.out, gjd.out, gs2d.out⟩ | exact cells7and r8.out ⟨(cells3 q8.out).2.2, x1.out, x2.out, x3.out⟩)
                  ((go_at_call 60; refine WI.out.mono ?_; rintro e w8 ⟨rfl, hb8⟩; have hb8 : Below wr.heap.size wr w8 := ((Below.refl _ wr).drew).trans hb8; have r8 := Lib.hid ((hb8.block w.heap.size (by omega)).trans r7.out); have q8 := Lib.hid ((hb8.block (w.heap.size + 1) (by omega)).trans q7.out); have x1 := Lib.hid ((hb8.cell (p := ⟨b1, o1 + q, none⟩) (by simp; omega)).trans gs1d.out); have x2 := Lib.hid ((hb8.cell (p := ⟨b, off + j * 3 + 2, none⟩) (by simp; omega)).trans gjd.out); have x3 := Lib.hid ((hb8.cell (p := ⟨b2, o2 + q, none⟩) (by simp; omega)).trans gs2d.out)))
                clear c0 c1 c2 c3 c4 c5 c6 d0 d1 d2 gs1 gs2 gj
                go_wp2_with fail
                go_ret
                exact ⟨ret_bool hEf.out.symm, hBw7.trans (hb8.mono (by omega))⟩
            · have hst4 : Hid (E = ((List.range cs.length).drop (k + 1)).all fun k => !decide (k ∈ ab.getD iy []) || regOne cs ab rs (x, y, ls) k) := by
                unfold Hid; rw [hst3.out, hI2.out, range_end _ _ _ (by omega), Bool.true_and]
              clear hI2 hst3
              go_wp2_with fail
              go_roundw
              case rel => exact ⟨k + 1, by omega, by go_num, hst4, hB7⟩
              case measure => simp [intOf]; omega
        · have hp' : inP (rs.map arKey) (x, z) = false := by simpa using hp
          rw [arI_out hp'] at AR
          have hEf : Hid (E = false) := by unfold Hid; rw [hst2.out, hp']; rfl
          clear hst2 hp hp'
          go_wp2_with fail
          go_region_held3 (fun w' => w'.cell? ⟨w.heap.size, 0, none⟩ = some n ∧ w'.cell? ⟨w.heap.size, 1, none⟩ = some (.slice (some ⟨bc, offc, none⟩) cs.length ccap) ∧ w'.cell? ⟨w.heap.size, 2, none⟩ = some t2 ∧ w'.cell? ⟨w.heap.size, 3, none⟩ = some (.slice (some ⟨b, off, none⟩) rs.length acap) ∧ w'.cell? ⟨w.heap.size, 4, none⟩ = some t4 ∧ w'.cell? ⟨w.heap.size, 5, none⟩ = some t5 ∧ w'.cell? ⟨w.heap.size, 6, none⟩ = some t6 ∧ w'.cell? ⟨w.heap.size + 1, 0, none⟩ = some (.string (bs x)) ∧ w'.cell? ⟨bc, offc + k * 2, none⟩ = some (.string (bs z)))
            (first | exact cells7and r4.out ⟨(cells3 q4.out).1, gcd.out⟩ | exact cells7and r5.out ⟨(cells3 q5.out).1, k5.out⟩)
            ((go_at_call 44; refine AR.out.mono ?_; rintro e w5 ⟨rfl, hb5⟩; have hb5 : Below wr.heap.size wr w5 := ((Below.refl _ wr).drew).trans hb5; have r5 := Lib.hid ((hb5.block w.heap.size (by omega)).trans r4.out); have q5 := Lib.hid ((hb5.block (w.heap.size + 1) (by omega)).trans q4.out); have k5 := Lib.hid ((hb5.cell (p := ⟨bc, offc + k * 2, none⟩) (by simp; omega)).trans gcd.out)))
          clear c0 c1 c2 c3 c4 c5 c6 d0 d1 d2 gc0
          go_wp2_with fail
          go_ret
          exact ⟨ret_bool hEf.out.symm, hBw.trans (hb5.mono (by omega))⟩
      · rw [decide_eq_false hm] at hfk
        rw [hfk] at hbx
        have hst1 : Hid (E = ((List.range cs.length).drop (k + 1)).all fun k => !decide (k ∈ ab.getD iy []) || regOne cs ab rs (x, y, ls) k) := by
          unfold Hid; rw [hstep.out, decide_eq_false hm]; rfl
        clear hstep hm hfk
        go_wp2_with fail
        go_roundw
        case rel => exact ⟨k + 1, by omega, by go_num, hst1, hB⟩
        case measure => simp [intOf]; omega
    · have hEt : Hid (E = true) := by unfold Hid; rw [hI.out, range_end _ _ _ (by omega)]
      clear hI
      go_wp2_with fail
      go_ret
      exact ⟨ret_bool hEt.out.symm, hBw⟩
end Go.Proofs.YtehnikgdjnmfcaaGreat

/- The reference: Below, Check. -/
namespace Go.Proofs.YtehnikgdjnmfcaaGreat
open Go.RowKit Go.WideMaps Go.Shelf

theorem withB_one (ns : List Nm) (abv : Nat → List Nat) (x y : Nm) : withB ns abv [x] [y] = belowB ns abv x y := by
  unfold withB; simp

theorem lB_one {cs : List (Nm × List Nm)} {ab : List (List Nat)} {x y : Nm} (h : clsErr cs = 0) : lB cs ab [x] [y] = (inNs (cs.map Prod.fst) x && (inNs (cs.map Prod.fst) y && belowB (cs.map Prod.fst) (fun i => ab.getD i []) x y)) := by
  rw [lB_zero h, withB_one]; simp

theorem lB_no {cs : List (Nm × List Nm)} {ab : List (List Nat)} {x y : Nm} (h : inNs (cs.map Prod.fst) x = false ∨ inNs (cs.map Prod.fst) y = false ∨ clsErr cs ≠ 0) : lB cs ab [x] [y] = false := by
  by_cases h0 : clsErr cs = 0
  · rw [lB_one h0]
    rcases h with h | h | h
    · rw [h]; rfl
    · rw [h, Bool.false_and, Bool.and_false]
    · exact absurd h0 h
  · unfold lB; rw [decide_eq_false h0]; rfl

def arsErrFrom (cs : List (Nm × List Nm)) (ab : List (List Nat)) (ds : List (Nm × Int)) (rs : List Ar) : Nat → Nat → Int
  | 0, _ => 0
  | f + 1, k => if arErr (cs.map Prod.fst) (fun i => ab.getD i []) ds ((rs.map arKey).take k) (rs.getD k ar0) = 0 then arsErrFrom cs ab ds rs f (k + 1) else arErr (cs.map Prod.fst) (fun i => ab.getD i []) ds ((rs.map arKey).take k) (rs.getD k ar0)

def regAll (cs : List (Nm × List Nm)) (ab : List (List Nat)) (rs : List Ar) : Bool := (List.range rs.length).all fun i => regB cs ab rs (rs.getD i ar0)

/-- the error of a theory -/
def chkErr (cs : List (Nm × List Nm)) (ab : List (List Nat)) (ds : List (Nm × Int)) (rs : List Ar) : Int :=
  if clsErr cs = 0 then (if typesErr ds = 0 then (if 300 < rs.length then 5 else if arsErrFrom cs ab ds rs rs.length 0 = 0 then (if regAll cs ab rs = true then 0 else 31) else arsErrFrom cs ab ds rs rs.length 0) else typesErr ds) else clsErr cs

theorem arsErr_zero {cs : List (Nm × List Nm)} {ab : List (List Nat)} {ds : List (Nm × Int)} {rs : List Ar} : ∀ f k, arsErrFrom cs ab ds rs f k = 0 → ∀ j, k ≤ j → j < k + f → arErr (cs.map Prod.fst) (fun i => ab.getD i []) ds ((rs.map arKey).take j) (rs.getD j ar0) = 0
  | 0, _, _, j, h1, h2 => absurd h2 (by omega)
  | f + 1, k, h, j, h1, h2 => by
    unfold arsErrFrom at h
    by_cases h0 : arErr (cs.map Prod.fst) (fun i => ab.getD i []) ds ((rs.map arKey).take k) (rs.getD k ar0) = 0
    · rw [if_pos h0] at h
      by_cases e : j = k
      · subst e; exact h0
      · exact arsErr_zero f (k + 1) h j (by omega) (by omega)
    · rw [if_neg h0] at h; exact absurd h h0

set_option maxRecDepth 100000 in
set_option maxHeartbeats 8000000 in
theorem check_r (n c t2 t3 t4 t5 t6 : Value) (cs : List (Nm × List Nm)) (ab0 : List (List Nat)) (ds : List (Nm × Int)) (rs : List Ar) (w : World) (hc : SlC w c cs) (hd : SlT w t2 ds) (ha : SlAr w t3 rs) (hab : clsErr cs = 0 → ∃ sp, Built cs sp ab0) :
    Calls Tryz.prog 21 #[.agg #[n, c, t2, t3, t4, t5, t6]] w fun e w' => e = .returned (.int .i64 (chkErr cs ab0 ds rs)) ∧ Below w.heap.size w w' := by
  have hb0 := below_alloc w (Obj.cells #[n, c, t2, t3, t4, t5, t6] 29)
  have HC := Lib.hid hc
  have HD := Lib.hid hd
  have HA := Lib.hid ha
  have HAB := Lib.hid hab
  have r0 := Lib.hid (heap_alloc_new w (Obj.cells #[n, c, t2, t3, t4, t5, t6] 29))
  have hz0 : w.heap.size < (w.alloc (Obj.cells #[n, c, t2, t3, t4, t5, t6] 29)).heap.size := by simp
  obtain ⟨_, ca, ccap, rfl, _⟩ := hc
  obtain ⟨_, da, dcap, rfl, _⟩ := hd
  obtain ⟨hal, aa, acap, rfl, _⟩ := ha
  unfold maxLen at hal
  obtain ⟨E, hE⟩ : ∃ E, E = chkErr cs ab0 ds rs := ⟨_, rfl⟩
  have HE := Lib.hid hE
  rw [← hE]
  clear hab hE
  have CL := Lib.hid (classes_any n _ (.slice da ds.length dcap) (.slice aa rs.length acap) t4 t5 t6 cs _ (HC.out.below hb0 (Nat.le_refl _)))
  go_enter Tryz.func21, Tryz.ntmps21
  go_wp2_with fail
  refine CL.out.mono ?_
  rintro e w1 ⟨rfl, hb1⟩
  have hB1 : Below w.heap.size w w1 := hb0.trans (hb1.mono (by omega))
  have hz1 : w.heap.size < w1.heap.size := Nat.lt_of_lt_of_le hz0 hb1.size
  have r1 := Lib.hid ((hb1.block w.heap.size hz0).trans r0.out)
  clear hb1 r0 hb0 hz0 CL
  by_cases h0 : clsErr cs = 0
  · obtain ⟨sp, hbu⟩ := HAB.out h0
    have HBU := Lib.hid hbu
    have H300 := clsErr_len h0
    have HE2 : Hid (E = if typesErr ds = 0 then (if 300 < rs.length then 5 else if arsErrFrom cs ab0 ds rs rs.length 0 = 0 then (if regAll cs ab0 rs = true then 0 else 31) else arsErrFrom cs ab0 ds rs rs.length 0) else typesErr ds) := by
      unfold Hid; rw [HE.out]; unfold chkErr; rw [if_pos h0]
    rw [h0]
    clear h0 hbu HE
    obtain ⟨c0, c1, c2, c3, c4, c5, c6⟩ := cells7' r1.out
    go_wp2_with fail
    refine (constructors_any n (.slice ca cs.length ccap) _ (.slice aa rs.length acap) t4 t5 t6 ds w1 (HD.out.below hB1 (Nat.le_refl _))).mono ?_
    rintro e w2 ⟨rfl, hb2⟩
    have hB2 : Below w.heap.size w w2 := hB1.trans (hb2.mono (by omega))
    have hz2 : w.heap.size < w2.heap.size := Nat.lt_of_lt_of_le hz1 hb2.size
    have r2 := Lib.hid ((hb2.block w.heap.size hz1).trans r1.out)
    clear hb2 r1 c0 c1 c2 c3 c4 c5 c6
    obtain ⟨c0, c1, c2, c3, c4, c5, c6⟩ := cells7' r2.out
    by_cases h1 : typesErr ds = 0
    · rw [h1]
      have HE3 : Hid (E = if 300 < rs.length then 5 else if arsErrFrom cs ab0 ds rs rs.length 0 = 0 then (if regAll cs ab0 rs = true then 0 else 31) else arsErrFrom cs ab0 ds rs rs.length 0) := by
        unfold Hid; rw [HE2.out, if_pos h1]
      clear h1 HE2
      by_cases h3 : 300 < rs.length
      · have hd3 : decide (300 < ((rs.length : Nat) : Int)) = true := by simp; omega
        have hE5 : Hid (E = 5) := by unfold Hid; rw [HE3.out, if_pos h3]
        clear HE3
        go_wp2_with fail
        go_ret
        exact ⟨by rw [hE5.out]; rfl, hB2⟩
      · have hd3 : decide (300 < ((rs.length : Nat) : Int)) = false := by simp; omega
        obtain ⟨A, hA⟩ : ∃ A, A = arsErrFrom cs ab0 ds rs rs.length 0 := ⟨_, rfl⟩
        have HE4 : Hid (E = if A = 0 then (if regAll cs ab0 rs = true then 0 else 31) else A) := by
          unfold Hid; rw [HE3.out, if_neg h3, hA]
        have HAA : Hid (A = arsErrFrom cs ab0 ds rs (rs.length - 0) 0) := hA
        have HAR := Lib.hid hA
        clear HE3 hA h3
        go_wp2_with fail
        clear c0 c1 c2 c3 c4 c5 c6
        go_loopw [5] (fun u wr => ∃ k : Nat, k ≤ rs.length ∧ u = .int .i64 k ∧ Hid (A = arsErrFrom cs ab0 ds rs (rs.length - k) k) ∧ Below w2.heap.size w2 wr) (fun u _ => rs.length - (intOf u).toNat)
        case atStart => exact ⟨0, by omega, rfl, HAA, Below.refl _ _⟩
        case round =>
          obtain ⟨k, hk, rfl, hI, hB⟩ := hrel
          clear HAA
          have hz := hB.size
          have hBw : Below w.heap.size w wr := hB2.trans (hB.mono (by omega))
          have r3 := Lib.hid ((hB.block w.heap.size (by omega)).trans r2.out)
          obtain ⟨c0, c1, c2, c3, c4, c5, c6⟩ := cells7' r3.out
          by_cases hlt : k < rs.length
          · have hstep : Hid (A = if arErr (cs.map Prod.fst) (fun i => ab0.getD i []) ds ((rs.map arKey).take k) (rs.getD k ar0) = 0 then arsErrFrom cs ab0 ds rs (rs.length - (k + 1)) (k + 1) else arErr (cs.map Prod.fst) (fun i => ab0.getD i []) ds ((rs.map arKey).take k) (rs.getD k ar0)) := by
              unfold Hid; rw [hI.out]
              have : rs.length - k = (rs.length - (k + 1)) + 1 := by omega
              rw [this]; rfl
            have ON := Lib.hid (one_any n _ _ _ t4 t5 t6 cs sp ab0 ds rs k wr (HC.out.below hBw (Nat.le_refl _)) HBU.out H300 (HD.out.below hBw (Nat.le_refl _)) (HA.out.below hBw (Nat.le_refl _)) hlt)
            generalize arErr (cs.map Prod.fst) (fun i => ab0.getD i []) ds ((rs.map arKey).take k) (rs.getD k ar0) = er at *
            clear hI
            go_wp2_with fail
            refine ON.out.mono ?_
            rintro e w4 ⟨rfl, hb4⟩
            by_cases he : er = 0
            · have hst : Hid (A = arsErrFrom cs ab0 ds rs (rs.length - (k + 1)) (k + 1)) := by unfold Hid; rw [hstep.out, if_pos he]
              subst he
              clear hstep ON
              go_wp2_with fail
              go_roundw
              case rel => exact ⟨k + 1, by omega, by go_num, hst, hB.trans (hb4.mono (by omega))⟩
              case measure => simp [intOf]; omega
            · have hd4 : (er != 0) = true := by rw [bne_iff_ne]; exact he
              have hEE : Hid (E = er) := by
                have : A = er := by rw [hstep.out, if_neg he]
                unfold Hid; rw [HE4.out, this, if_neg he]
              clear hstep ON he
              go_wp2_with fail
              go_ret
              exact ⟨by rw [hEE.out]; rfl, hBw.trans (hb4.mono (by omega))⟩
          · have hA0 : A = 0 := by
              rw [hI.out]
              have : rs.length - k = 0 := by omega
              rw [this]; rfl
            have HOK := Lib.hid (arsErr_zero (cs := cs) (ab := ab0) (ds := ds) (rs := rs) rs.length 0 (by rw [← HAR.out]; exact hA0))
            have HE5 : Hid (E = if ((List.range rs.length).drop 0).all (fun i => regB cs ab0 rs (rs.getD i ar0)) = true then 0 else 31) := by
              unfold Hid; rw [HE4.out, if_pos hA0]; rfl
            clear hI hA0 HE4 HAR
            go_wp2_with fail
            clear c0 c1 c2 c3 c4 c5 c6
            obtain ⟨wo, rfl⟩ : ∃ wo : World, wo = wr := ⟨_, rfl⟩
            go_loopw [7] (fun u wr => ∃ k : Nat, k ≤ rs.length ∧ u = .int .i64 k ∧ Hid (E = if ((List.range rs.length).drop k).all (fun i => regB cs ab0 rs (rs.getD i ar0)) = true then 0 else 31) ∧ Below w2.heap.size w2 wr) (fun u _ => rs.length - (intOf u).toNat)
            case atStart => exact ⟨0, by omega, rfl, HE5, hB⟩
            case round =>
              obtain ⟨k, hk, rfl, hI, hB⟩ := hrel
              clear HE5
              have hz := hB.size
              have hBw : Below w.heap.size w wr := hB2.trans (hB.mono (by omega))
              have r3 := Lib.hid ((hB.block w.heap.size (by omega)).trans r2.out)
              obtain ⟨c0, c1, c2, c3, c4, c5, c6⟩ := cells7' r3.out
              by_cases hlt : k < rs.length
              · have hstep : Hid (E = if (regB cs ab0 rs (rs.getD k ar0) && ((List.range rs.length).drop (k + 1)).all (fun i => regB cs ab0 rs (rs.getD i ar0))) = true then 0 else 31) := by
                  unfold Hid; rw [hI.out, range_step _ _ _ hlt]
                have RE := Lib.hid (regular_any n _ (.slice da ds.length dcap) _ t4 t5 t6 cs sp ab0 ds rs k wr (HC.out.below hBw (Nat.le_refl _)) HBU.out H300 (HA.out.below hBw (Nat.le_refl _)) hlt (fun j hj => HOK.out j (Nat.zero_le _) (by omega)))
                clear hI
                by_cases hr : regB cs ab0 rs (rs.getD k ar0) = true
                · rw [hr] at RE
                  have hst : Hid (E = if ((List.range rs.length).drop (k + 1)).all (fun i => regB cs ab0 rs (rs.getD i ar0)) = true then 0 else 31) := by
                    unfold Hid; rw [hstep.out, hr, Bool.true_and]
                  clear hstep hr
                  go_wp2_with fail
                  refine RE.out.mono ?_
                  rintro e w4 ⟨rfl, hb4⟩
                  go_wp2_with fail
                  go_roundw
                  case rel => exact ⟨k + 1, by omega, by go_num, hst, hB.trans (hb4.mono (by omega))⟩
                  case measure => simp [intOf]; omega
                · have hr' : regB cs ab0 rs (rs.getD k ar0) = false := by simpa using hr
                  rw [hr'] at RE
                  have hEE : Hid (E = 31) := by
                    unfold Hid; rw [hstep.out, hr']; rfl
                  clear hstep hr hr'
                  go_wp2_with fail
                  refine RE.out.mono ?_
                  rintro e w4 ⟨rfl, hb4⟩
                  go_wp2_with fail
                  go_ret
                  exact ⟨by rw [hEE.out]; rfl, hBw.trans (hb4.mono (by omega))⟩
              · have hEE : Hid (E = 0) := by
                  unfold Hid; rw [hI.out, range_end _ _ _ (by omega)]; rfl
                clear hI
                go_wp2_with fail
                go_ret
                exact ⟨by rw [hEE.out]; rfl, hBw⟩
    · have hd1 : decide (typesErr ds = 0) = false := by simpa using h1
      have hEE : Hid (E = typesErr ds) := by unfold Hid; rw [HE2.out, if_neg h1]
      clear HE2
      generalize typesErr ds = te at *
      go_wp2_with fail
      go_ret
      exact ⟨by rw [hEE.out]; rfl, hB2⟩
  · have hd : decide (clsErr cs = 0) = false := by simpa using h0
    have hEE : Hid (E = clsErr cs) := by unfold Hid; rw [HE.out]; unfold chkErr; rw [if_neg h0]
    clear HE
    generalize clsErr cs = ce at *
    go_wp2_with fail
    go_ret
    exact ⟨by rw [hEE.out]; rfl, hB1⟩
end Go.Proofs.YtehnikgdjnmfcaaGreat
