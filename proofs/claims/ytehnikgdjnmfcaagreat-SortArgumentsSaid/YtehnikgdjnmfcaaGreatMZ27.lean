/- The reference's Needed 24. -/
import Derived.Test.YtehnikgdjnmfcaaGreatMZ26
import Derived.Test.YtehnikgdjnmfcaaGreatMZ18
namespace Go.Proofs.YtehnikgdjnmfcaaGreat
open Go.RowKit Go.WideMaps Go.Shelf Go.Sort Go.Lib
attribute [local go_sem] Oper.semAt_some

theorem cells7p {w : World} {k : Nat} {a0 a1 a2 a3 a4 a5 a6 : Value} {t : TypeId} {fr : Nat × Nat} {p : Prop} (h : w.heap[k]? = some (.cells #[a0, a1, a2, a3, a4, a5, a6] t fr)) (hp : p) :
    w.cell? ⟨k, 0, none⟩ = some a0 ∧ w.cell? ⟨k, 1, none⟩ = some a1 ∧ w.cell? ⟨k, 2, none⟩ = some a2 ∧ w.cell? ⟨k, 3, none⟩ = some a3 ∧ w.cell? ⟨k, 4, none⟩ = some a4 ∧ w.cell? ⟨k, 5, none⟩ = some a5 ∧ w.cell? ⟨k, 6, none⟩ = some a6 ∧ p := by
  obtain ⟨h0, h1, h2, h3, h4, h5, h6⟩ := cells7' h
  exact ⟨h0, h1, h2, h3, h4, h5, h6, hp⟩

theorem news1 {w : World} {k : Nat} {a0 : Value} {t : TypeId} (h : w.heap[k]? = some (.cells #[a0] t (0, 0))) : ∀ j u, [a0][j]? = some u → w.cell? (Addr.add ⟨k, 0, none⟩ j) = some u := by
  intro j u hj
  rw [add_none, Nat.zero_add, cell_of_row _ _ j _ _ _ h]
  rw [← hj]; simp

theorem one1 (a : Option Addr) (n c : Nat) : ∀ u ∈ [Value.slice a n c], u.oneCell' = true := by
  intro u hu
  simp at hu
  subst hu; rfl

def NdPost (w : World) (ok : Bool) (l : List (List Nm)) (e : Ending) (w' : World) : Prop :=
  ∃ a q, e = .returned (.tuple #[.slice a (if ok = true then l else []).length q, .bool ok]) ∧ Below w.heap.size w w' ∧ SlSsO w' w.heap.size (.slice a (if ok = true then l else []).length q) (if ok = true then l else [])

theorem ndFail {w w' : World} {ok : Bool} {l : List (List Nm)} (h : ok = false) (hb : Below w.heap.size w w') : NdPost w ok l (.returned (.tuple #[.slice none 0 0, .bool false])) w' := by
  subst h
  refine ⟨none, 0, rfl, hb, ?_⟩
  show SlSsO w' w.heap.size (.slice none 0 0) []
  exact ⟨by decide, none, 0, rfl, fun h => absurd h (by decide)⟩

theorem slSs_at {w : World} {a : Option Addr} {n c : Nat} {ls : List (List Nm)} (h : SlSs w (.slice a n c) ls) {k : Nat} (hk : k < ls.length) :
    ∃ b off p q, a = some ⟨b, off, none⟩ ∧ b < w.heap.size ∧ w.cell? ⟨b, off + k, none⟩ = some (.slice p (ls.getD k []).length q) ∧ SlS w (.slice p (ls.getD k []).length q) (ls.getD k []) := by
  obtain ⟨_, a', c', e, h2⟩ := h
  injection e with e1 e2 e3
  subst e1 e3
  obtain ⟨b, off, e, hb, hc⟩ := h2 (by omega)
  obtain ⟨p, q, g1, g2⟩ := hc k hk
  exact ⟨b, off, p, q, e, hb, g1, g2⟩

theorem WLeast.below2 {w w' : World} {sb n k : Nat} {f f' : Nat → List Nm} (h : WLeast w sb n f f' k) (hb : Below w.heap.size w w') (hsb : sb < w.heap.size ∨ n = 0) : WLeast w' sb n f f' k := by
  intro i hi
  have hsb : sb < w.heap.size := hsb.resolve_right (by omega)
  obtain ⟨v, h1, h2, h3⟩ := h i hi
  exact ⟨v, (hb.cell (p := ⟨sb, i, none⟩) hsb).trans h1, (hb.frozen (p := ⟨sb, i, none⟩) hsb).trans h2, h3.below hb (Nat.le_refl _)⟩

theorem WLeast.next {w : World} {sb n : Nat} {f f' f'' : Nat → List Nm} (h : WLeast w sb n f f' n) : WLeast w sb n f' f'' 0 := by
  intro i hi
  obtain ⟨v, h1, h2, h3⟩ := h i hi
  rw [if_pos hi] at h3
  exact ⟨v, h1, h2, by rw [if_neg (by omega)]; exact h3⟩

theorem WLeast.prev {w : World} {sb n : Nat} {f f' : Nat → List Nm} (h : WLeast w sb n f f' 0) : WLeast w sb n f' f n := by
  intro i hi
  obtain ⟨v, h1, h2, h3⟩ := h i hi
  rw [if_neg (by omega)] at h3
  exact ⟨v, h1, h2, by rw [if_pos hi]; exact h3⟩

set_option maxRecDepth 100000 in
set_option maxHeartbeats 8000000 in
theorem needed_r (n c t2 t3 t4 t5 t6 v : Value) (cs : List (Nm × List Nm)) (sp ab : List (List Nat)) (ds : List (Nm × Int)) (rs : List Ar) (name : Nm) (ss : List Nm) (w : World) (hc : SlC w c cs) (hbu : Built cs sp ab) (h300 : cs.length ≤ 300)
    (hd : SlT w t2 ds) (ha : SlAr w t3 rs) (har : arsErr cs ab ds rs = 0) (hty : typesErr ds = 0) (hs : SlS w v ss) :
    Calls Tryz.prog 24 #[.agg #[n, c, t2, t3, t4, t5, t6], .string (bs name), v] w (NdPost w (inNs (ds.map Prod.fst) name && hasAll rs name ss) (wantC cs ab ds rs name ss)) := by
  have hb0 := below_alloc w (Obj.cells #[n, c, t2, t3, t4, t5, t6] 29)
  have HC := Lib.hid hc
  have HD := Lib.hid hd
  have HA := Lib.hid ha
  have HS := Lib.hid hs
  have HBU := Lib.hid hbu
  have HAR := Lib.hid har
  have r0 := Lib.hid (heap_alloc_new w (Obj.cells #[n, c, t2, t3, t4, t5, t6] 29))
  have hz0 : (w.alloc (Obj.cells #[n, c, t2, t3, t4, t5, t6] 29)).heap.size = w.heap.size + 1 := by simp
  obtain ⟨hN0, hN10⟩ := types_num hty name
  obtain ⟨_, ca, ccap, rfl, _⟩ := hc
  obtain ⟨hdl, da, dcap, rfl, hdx⟩ := hd
  obtain ⟨hal, aa, acap, rfl, hax⟩ := ha
  obtain ⟨hsl, sa, scap, rfl, _⟩ := hs
  unfold maxLen at hdl hal hsl
  have HDX := Lib.hid hdx
  have HAX := Lib.hid hax
  obtain ⟨L, hL⟩ : ∃ L, L = wantC cs ab ds rs name ss := ⟨_, rfl⟩
  have HLn : Hid (L.length = (numOf ds name).toNat) := by unfold Hid; rw [hL]; exact wantC_len1
  have HLast : Hid (∀ i, i < (numOf ds name).toNat → L.getD i [] = needF (cs.map Prod.fst) (fun i => ab.getD i []) rs name ss ss.length i) := fun i hi => by rw [hL]; exact need_last rfl i hi
  rw [← hL]
  obtain ⟨ok, hok⟩ : ∃ ok, ok = (inNs (ds.map Prod.fst) name && hasAll rs name ss) := ⟨_, rfl⟩
  rw [← hok]
  have HOK := Lib.hid hok
  have HB0 := Lib.hid hb0
  clear hL hok hbu har hty hdx hax
  go_enter Tryz.func24, Tryz.ntmps24
  go_wp2_with fail
  by_cases hin : inNs (ds.map Prod.fst) name = true
  · refine (type_in n _ _ _ t4 t5 t6 name ds _ (HD.out.below HB0.out (Nat.le_refl _)) hin).mono ?_
    rintro e w1 ⟨rfl, hb1⟩
    have hB1 : Below w.heap.size w w1 := HB0.out.trans (hb1.mono (by omega))
    have hz1 : w.heap.size < w1.heap.size := by have := hb1.size; omega
    have R1 := Lib.hid ((hb1.block w.heap.size (by omega)).trans r0.out)
    have hix : ixOf (ds.map Prod.fst) name < ds.length := by have := ixOf_lt hin; simpa using this
    obtain ⟨bd, offd, rfl, hbd, hdcl⟩ := HDX.out (by omega)
    obtain ⟨_, _, gd⟩ := hdcl _ hix
    rw [num_in hin] at gd
    have GD := Lib.hid ((hB1.cell (p := ⟨bd, offd + ixOf (ds.map Prod.fst) name * 2 + 1, none⟩) hbd).trans gd)
    have HOK1 : Hid (ok = hasAll rs name ss) := by unfold Hid; rw [HOK.out, hin]; rfl
    clear hdcl gd hin HDX HOK hb0 r0 hz0 HB0
    generalize ixOf (ds.map Prod.fst) name = ix at *
    obtain ⟨N, hN⟩ : ∃ N : Nat, numOf ds name = (N : Int) := ⟨(numOf ds name).toNat, by omega⟩
    rw [hN] at GD hN10
    have hNt : (numOf ds name).toNat = N := by omega
    rw [hNt] at HLn HLast
    have HNUM := Lib.hid hN
    have hN10' : N ≤ 10 := by omega
    clear hN hN0 hNt hN10
    have f1 : decide ((ix : Int) < 0) = false := by simp
    have hbA := below_alloc w1 (Obj.cells #[] 27)
    have hO0 : (w1.alloc (Obj.cells #[] 27)).ownsRow (w.heap.size + 1) 27 1 (.slice (some ⟨w1.heap.size, 0, none⟩) 0 0) 0 [] := World.ownsRow_made w1 #[] 0 hz1 (by unfold maxLen; omega) rfl
    have HO0 := Lib.hid hO0
    have RA := Lib.hid ((hbA.block w.heap.size hz1).trans R1.out)
    have GDA := Lib.hid ((hbA.cell (p := ⟨bd, offd + ix * 2 + 1, none⟩) (by simp only; omega)).trans GD.out)
    have hBA : Below w.heap.size w (w1.alloc (Obj.cells #[] 27)) := hB1.trans (hbA.mono (by omega))
    have hzA : (w1.alloc (Obj.cells #[] 27)).heap.size = w1.heap.size + 1 := by simp
    clear hO0 hbA GD R1
    go_wp2_with fail
    generalize w1.alloc (Obj.cells #[] 27) = wA at *
    go_loopw [9, 10] (fun o i wr => ∃ (k : Nat) (a : Option Addr) (q : Nat) (xs : List Value), k ≤ N ∧ i = .int .i64 k ∧ o = .slice a k q ∧ Hid (wr.ownsRow (w.heap.size + 1) 27 1 (.slice a k q) k xs ∧ ∀ x ∈ xs, ∃ a c, x = Value.slice a 0 c) ∧ Below (w.heap.size + 1) wA wr) (fun _ i _ => N - (intOf i).toNat)
    case atStart => exact ⟨0, _, 0, [], by omega, rfl, rfl, ⟨HO0.out, by simp⟩, Below.refl _ _⟩
    case round =>
      obtain ⟨k, a, q, xs, hk, rfl, rfl, hown, hB⟩ := hrel
      have hzr := hB.size
      have r1 := (hB.block w.heap.size (by omega)).trans RA.out
      obtain ⟨c0, c1, c2, c3, c4, c5, c6⟩ := cells7' r1
      have gd := (hB.cell (p := ⟨bd, offd + ix * 2 + 1, none⟩) (by simp only; omega)).trans GDA.out
      have HR1 := Lib.hid r1
      clear r1
      by_cases hlt : k < N
      · have hg1 := below_alloc wr (Obj.cells #[] 9)
        have hg2 := below_alloc (wr.alloc (Obj.cells #[] 9)) (Obj.cells #[.slice (some ⟨wr.heap.size, 0, none⟩) 0 0] 27)
        have rn := heap_alloc_new (wr.alloc (Obj.cells #[] 9)) (Obj.cells #[.slice (some ⟨wr.heap.size, 0, none⟩) 0 0] 27)
        rw [show (wr.alloc (Obj.cells #[] 9)).heap.size = wr.heap.size + 1 by simp] at rn
        have RN := Lib.hid rn
        have hg12 : Below wr.heap.size wr ((wr.alloc (Obj.cells #[] 9)).alloc (Obj.cells #[.slice (some ⟨wr.heap.size, 0, none⟩) 0 0] 27)) := hg1.trans (hg2.mono (by simp))
        have HG12 := Lib.hid hg12
        clear hg1 hg2 rn hg12
        go_wp2_with (at_builtin; refine wpList_append_sl _ rfl _ _ rfl (w.heap.size + 1) k (.slice a k q) xs rfl ((hown.out.1.alloc _).alloc _) (by omega) (by simp; omega) ⟨wr.heap.size + 1, 0, none⟩ 1 [.slice (some ⟨wr.heap.size, 0, none⟩) 0 0] rfl rfl (news1 RN.out) (one1 _ _ _) ?_; intro a5 c5 w5 hown5 hg5)
        have hge : ∀ r, (Value.slice a k q).ownBlock = some r → w.heap.size + 1 ≤ r := fun r e => ownBlock_ge hown.out.1 e
        have hB5 : Below (w.heap.size + 1) wA w5 := (hB.trans (HG12.out.mono (by omega))).grown hg5 (by have := HG12.out.size; omega) hge
        have hO5 : Hid (w5.ownsRow (w.heap.size + 1) 27 1 (.slice a5 (k + 1) c5) (k + 1) (xs ++ [.slice (some ⟨wr.heap.size, 0, none⟩) 0 0]) ∧ ∀ x ∈ xs ++ [Value.slice (some ⟨wr.heap.size, 0, none⟩) 0 0], ∃ a c, x = Value.slice a 0 c) := ⟨hown5, fun x hx => (List.mem_append.1 hx).elim (hown.out.2 x) fun hx => ⟨_, _, List.mem_singleton.1 hx⟩⟩
        clear hown5 hg5 hge hown HG12
        go_roundw
        case rel => exact ⟨k + 1, a5, c5, _, by omega, by go_num, rfl, hO5, hB5⟩
        case measure => simp [intOf]; omega
      · have hkN : k = N := by omega
        subst hkN
        obtain ⟨g, hga, hg1, hg2, hWL⟩ : ∃ g, (0 < k → a = some ⟨g, 0, none⟩) ∧ w.heap.size + 1 ≤ g ∧ (0 < k → g < wr.heap.size) ∧ Hid (WLeast wr g k (needF (cs.map Prod.fst) (fun i => ab.getD i []) rs name ss 0) (needF (cs.map Prod.fst) (fun i => ab.getD i []) rs name ss 1) 0) := by
          by_cases h0 : 0 < k
          · have hform : ∃ g, a = some ⟨g, 0, none⟩ := by
              rcases hown.out.1.2 with ⟨e, e2⟩ | ⟨g, cap', cur, e, _⟩
              · omega
              · injection e with e; exact ⟨g, e⟩
            obtain ⟨g, rfl⟩ := hform
            obtain ⟨hBg, cur, hh, _⟩ := own_obj hown.out.1
            exact ⟨g, fun _ => rfl, hBg, fun _ => (Array.getElem?_eq_some_iff.1 hh).1, wLeast_zero hown.out.1 hown.out.2 (fun i => by unfold needF; rw [List.take_zero]; exact least_nil _ _)⟩
          · exact ⟨w.heap.size + 1, fun h => absurd h h0, Nat.le_refl _, fun h => absurd h h0, fun i hi => absurd hi (by omega)⟩
        have hBw : Below w.heap.size w wr := hBA.trans (hB.mono (by omega))
        clear hown hB RA GDA HO0
        go_wp2_with fail
        clear gd hlt
        obtain ⟨w2, hw2⟩ : ∃ w2 : World, w2 = wr := ⟨_, rfl⟩
        rw [← hw2] at hBw hzr hg2
        have hH0 : Hid (hasAll rs name (ss.take 0) = true) := rfl
        have HR2 : Hid (w2.heap[w.heap.size]? = some (Obj.cells #[n, .slice ca cs.length ccap, .slice (some ⟨bd, offd, none⟩) ds.length dcap, .slice aa rs.length acap, t4, t5, t6] 29 (0, 0))) := by rw [hw2]; exact HR1.out
        have hB0 : Below (w.heap.size + 1) w2 wr := by rw [hw2]; exact Below.refl _ _
        clear HR1 hw2 c0 c1 c2 c3 c4 c5 c6
        go_loopw [11] (fun i wr => ∃ j : Nat, j ≤ ss.length ∧ i = .int .i64 j ∧ Hid (hasAll rs name (ss.take j) = true) ∧ Below (w.heap.size + 1) w2 wr ∧ Hid (WLeast wr g k (needF (cs.map Prod.fst) (fun i => ab.getD i []) rs name ss j) (needF (cs.map Prod.fst) (fun i => ab.getD i []) rs name ss (j + 1)) 0)) (fun i _ => ss.length - (intOf i).toNat)
        case atStart => exact ⟨0, by omega, rfl, hH0, hB0, hWL⟩
        case round =>
          clear hWL hH0 hB0
          obtain ⟨j, hj, rfl, hHA, hB, hWL⟩ := hrel
          have hz2 := hB.size
          have hBr : Below w.heap.size w wr := hBw.trans (hB.mono (by omega))
          by_cases hltj : j < ss.length
          · obtain ⟨b, off, x, rfl, hb, hcx0, hxl, hx⟩ := HS.out.at hltj
            have hcx := (hBr.cell (p := ⟨b, off + j, none⟩) hb).trans hcx0
            have R3 := Lib.hid ((hB.block w.heap.size (by omega)).trans HR2.out)
            have AR := Lib.hid (arity_any n (.slice ca cs.length ccap) (.slice (some ⟨bd, offd, none⟩) ds.length dcap) _ t4 t5 t6 name x rs wr.drew (HA.out.below hBr.drew (Nat.le_refl _)))
            have HCX := Lib.hid hcx
            have HBB := Lib.hid hb
            obtain ⟨c0, c1, c2, c3, c4, c5, c6⟩ := cells7' R3.out
            clear hcx0
            have HX := Lib.hid hx
            clear hx
            go_wp2_with fail
            go_region_held3 (fun w' => w'.cell? ⟨w.heap.size, 0, none⟩ = some n ∧ w'.cell? ⟨w.heap.size, 1, none⟩ = some (.slice ca cs.length ccap) ∧ w'.cell? ⟨w.heap.size, 2, none⟩ = some (.slice (some ⟨bd, offd, none⟩) ds.length dcap) ∧ w'.cell? ⟨w.heap.size, 3, none⟩ = some (.slice aa rs.length acap) ∧ w'.cell? ⟨w.heap.size, 4, none⟩ = some t4 ∧ w'.cell? ⟨w.heap.size, 5, none⟩ = some t5 ∧ w'.cell? ⟨w.heap.size, 6, none⟩ = some t6 ∧ w'.cell? ⟨b, off + j, none⟩ = some (.string (bs x)))
              (first | exact cells7p R3.out HCX.out | exact cells7p R5.out HCX5.out)
              ((go_at_call 44; refine AR.out.mono ?_; rintro e w5 ⟨rfl, hb5⟩; have hb5' : Below wr.heap.size wr w5 := ((Below.refl _ wr).drew).trans hb5; have R5 := Lib.hid ((hb5'.block w.heap.size (by omega)).trans R3.out); have HCX5 := Lib.hid ((hb5'.cell (p := ⟨b, off + j, none⟩) (by simp; omega)).trans HCX.out)))
            clear c0 c1 c2 c3 c4 c5 c6 hcx
            have hz5 := hb5'.size
            have hB5 : Below (w.heap.size + 1) w2 w5 := hB.trans (hb5'.mono (by omega))
            have hBr5 : Below w.heap.size w w5 := hBw.trans (hB5.mono (by omega))
            have R5' := Lib.hid ((hb5'.block w.heap.size (by omega)).trans R3.out)
            have hW5 := Lib.hid (hWL.out.below2 hb5' (by by_cases h0 : 0 < k; exact .inl (by have := hg2 h0; omega); exact .inr (by omega)))
            clear AR R3 R5 HCX5 HCX hb5 hB hWL hb5' HBB
            by_cases hia : inP (rs.map arKey) (name, x) = true
            · have hnext : Hid (hasAll rs name (ss.take (j + 1)) = true) := hasAll_take2 hltj hHA.out (by rw [← HX.out]; exact hia)
              obtain ⟨hjx, hlen, hsorts⟩ := arAt_facts HAR.out hia
              rw [HNUM.out] at hlen
              have hstep : Hid (∀ i, leastB (cs.map Prod.fst) (fun i => ab.getD i []) (needF (cs.map Prod.fst) (fun i => ab.getD i []) rs name ss j i ++ (arAt rs (name, x)).getD i []) = needF (cs.map Prod.fst) (fun i => ab.getD i []) rs name ss (j + 1) i) := fun i => by
                rw [HX.out]; exact need_step HBU.out HAR.out hltj hHA.out (by rw [← HX.out]; exact hia) i
              have hknown : Hid (∀ i, (needF (cs.map Prod.fst) (fun i => ab.getD i []) rs name ss j i).all (inNs (cs.map Prod.fst)) = true ∧ (needF (cs.map Prod.fst) (fun i => ab.getD i []) rs name ss j i).length ≤ 300) := fun i => need_known HBU.out HAR.out h300 hHA.out i
              have hget : Hid (∀ i, ((arAt rs (name, x)).getD i []).all (inNs (cs.map Prod.fst)) = true ∧ ((arAt rs (name, x)).getD i []).length ≤ 20) := fun i => arAt_get HAR.out hia i
              obtain ⟨ba, offa, rfl, hba, hacl⟩ := HAX.out (by omega)
              obtain ⟨_, _, _, _, pa, qa, ga, hss⟩ := hacl _ hjx
              have eA : (rs.getD (ixP (rs.map arKey) (name, x)) ar0).2.2 = arAt rs (name, x) := rfl
              rw [eA] at ga hss
              rw [arI_in hia]
              generalize ixP (rs.map arKey) (name, x) = jx at *
              generalize hA : arAt rs (name, x) = A at *
              have hAl : A.length = k := by omega
              have GA := Lib.hid ga
              have HSS := Lib.hid hss
              have f2 : decide ((jx : Int) < 0) = false := by simp
              clear hacl ga hss eA hsorts hlen hia hA
              go_wp2_with fail
              obtain ⟨w3, hw3⟩ : ∃ w3 : World, w3 = w5 := ⟨_, rfl⟩
              rw [← hw3] at hB5 hBr5 R5' hz5
              have hB50 : Below (w.heap.size + 1) w3 w5 := by rw [hw3]; exact Below.refl _ _
              clear hw3
              go_loopw [13] (fun i wr => ∃ m : Nat, m ≤ k ∧ i = .int .i64 m ∧ Below (w.heap.size + 1) w3 wr ∧ Hid (WLeast wr g k (needF (cs.map Prod.fst) (fun i => ab.getD i []) rs name ss j) (needF (cs.map Prod.fst) (fun i => ab.getD i []) rs name ss (j + 1)) m)) (fun i _ => k - (intOf i).toNat)
              case atStart => exact ⟨0, by omega, rfl, hB50, hW5⟩
              case round =>
                clear hW5 hB50
                obtain ⟨m, hm, rfl, hB6, hW6⟩ := hrel
                have hz6 := hB6.size
                by_cases hltm : m < k
                · obtain rfl := hga (by omega)
                  have hgw := hg2 (by omega)
                  obtain ⟨u, q1, q2, hu⟩ := hW6.out m hltm
                  rw [if_neg (Nat.lt_irrefl m)] at hu
                  have HU := Lib.hid hu
                  obtain ⟨_, _, aj, cj, rfl, _⟩ := hu
                  have hBr6 : Below w.heap.size w wr := hBr5.trans (hB6.mono (by omega))
                  obtain ⟨bs', offs', pm, qm, rfl, hbs', gm0, hsm⟩ := slSs_at HSS.out (show m < A.length by omega)
                  have R6 := Lib.hid ((hB6.block w.heap.size (by omega)).trans R5'.out)
                  have GA6 := Lib.hid ((hBr6.cell (p := ⟨ba, offa + jx * 3 + 2, none⟩) hba).trans GA.out)
                  have GM6 := Lib.hid ((hBr6.cell (p := ⟨bs', offs' + m, none⟩) hbs').trans gm0)
                  obtain ⟨hkn1, hkn2⟩ := hknown.out m
                  obtain ⟨hgt1, hgt2⟩ := hget.out m
                  have hstm := Lib.hid (hstep.out m)
                  have HSM := Lib.hid hsm
                  generalize A.getD m [] = am at *
                  generalize hfm : needF (cs.map Prod.fst) (fun i => ab.getD i []) rs name ss j m = fm at *
                  rw [hAl] at GA6
                  have hgs : g < wr.heap.size := by omega
                  have hsz : w.heap.size < wr.heap.size := by omega
                  have hdr := (Below.refl wr.heap.size wr).drew
                  have hal := (below_alloc wr (Obj.cells #[] 9)).drew
                  have q1d := (hdr.cell (p := ⟨g, m, none⟩) hgs).trans q1
                  have q1a := (hal.cell (p := ⟨g, m, none⟩) hgs).trans q1
                  have R6d := Lib.hid ((hdr.block w.heap.size hsz).trans R6.out)
                  have GA6d := Lib.hid ((hdr.cell (p := ⟨ba, offa + jx * 3 + 2, none⟩) (by simp only; omega)).trans GA6.out)
                  have GM6d := Lib.hid ((hdr.cell (p := ⟨bs', offs' + m, none⟩) (by simp only; omega)).trans GM6.out)
                  have R6a := Lib.hid ((hal.block w.heap.size hsz).trans R6.out)
                  have GA6a := Lib.hid ((hal.cell (p := ⟨ba, offa + jx * 3 + 2, none⟩) (by simp only; omega)).trans GA6.out)
                  have GM6a := Lib.hid ((hal.cell (p := ⟨bs', offs' + m, none⟩) (by simp only; omega)).trans GM6.out)
                  have hownA : (wr.alloc (Obj.cells #[] 9)).drew.ownsRow wr.heap.size 9 1 (.slice (some ⟨wr.heap.size, 0, none⟩) 0 0) 0 [] := World.ownsRow_made wr #[] 0 (Nat.le_refl _) (by unfold maxLen; omega) rfl
                  have HOA := Lib.hid hownA
                  have HAL := Lib.hid hal
                  have hza : wr.heap.size ≤ (wr.alloc (Obj.cells #[] 9)).drew.heap.size := hal.size
                  clear hownA hsm gm0
                  go_wp2_with fail
                  refine wp_region_held_drew (S := (fun w' => w'.cell? ⟨w.heap.size, 0, none⟩ = some n ∧ w'.cell? ⟨w.heap.size, 1, none⟩ = some (.slice ca cs.length ccap) ∧ w'.cell? ⟨w.heap.size, 2, none⟩ = some (.slice (some ⟨bd, offd, none⟩) ds.length dcap) ∧ w'.cell? ⟨w.heap.size, 3, none⟩ = some (.slice (some ⟨ba, offa, none⟩) rs.length acap) ∧ w'.cell? ⟨w.heap.size, 4, none⟩ = some t4 ∧ w'.cell? ⟨w.heap.size, 5, none⟩ = some t5 ∧ w'.cell? ⟨w.heap.size, 6, none⟩ = some t6 ∧ w'.cell? ⟨ba, offa + jx * 3 + 2, none⟩ = some (.slice (some ⟨bs', offs', none⟩) k qa) ∧ w'.cell? ⟨bs', offs' + m, none⟩ = some (.slice pm am.length qm))) (by kernel_rfl) ?_ (fun hHeld => ?_)
                  · exact cells7p R6d.out ⟨GA6d.out, GM6d.out⟩
                  refine wpAnyH_take (i := 0) (oi := { dst := some 55, op := Op.move (Operand.tmp 9), type := 34, pos := "ref.go:217", after := #[], guard := none }) (v := ?v0) rfl (by kernel_rfl) (by kernel_rfl) (by kernel_rfl) (fun _ _ _ h => h) (Or.inl ⟨by rfl, ?hy0⟩) (by assumption) ?rest0
                  case hy0 => (intro wq hSq; (try dsimp only at hSq); go_simp; try with_reducible rfl)
                  try simp only [Act.put, List.setIfInBounds_toArray, List.set_cons_zero, List.set_cons_succ]
                  refine wpAnyH_take (i := 1) (oi := { dst := some 56, op := Op.move (Operand.tmp 13), type := 3, pos := "ref.go:217", after := #[], guard := none }) (v := ?v1) rfl (by kernel_rfl) (by kernel_rfl) (by kernel_rfl) (fun _ _ _ h => h) (Or.inl ⟨by rfl, ?hy1⟩) (by assumption) ?rest1
                  case hy1 => (intro wq hSq; (try dsimp only at hSq); go_simp; try with_reducible rfl)
                  try simp only [Act.put, List.setIfInBounds_toArray, List.set_cons_zero, List.set_cons_succ]
                  refine wpAnyH_take (i := 2) (oi := { dst := some 57, op := Op.load 29 (Operand.tmp 3), type := 29, pos := "ref.go:217", after := #[], guard := none }) (v := ?v2) rfl (by kernel_rfl) (by kernel_rfl) (by kernel_rfl) (fun _ _ _ h => h) (Or.inl ⟨by rfl, ?hy2⟩) (by assumption) ?rest2
                  case hy2 => (intro wq hSq; (try dsimp only at hSq); go_simp; try with_reducible rfl)
                  try simp only [Act.put, List.setIfInBounds_toArray, List.set_cons_zero, List.set_cons_succ]
                  refine wpAnyH_take (i := 4) (oi := { dst := some 59, op := Op.move (Operand.tmp 9), type := 34, pos := "ref.go:217", after := #[], guard := none }) (v := ?v4) rfl (by kernel_rfl) (by kernel_rfl) (by kernel_rfl) (fun _ _ _ h => h) (Or.inl ⟨by rfl, ?hy4⟩) (by assumption) ?rest4
                  case hy4 => (intro wq hSq; (try dsimp only at hSq); go_simp; try with_reducible rfl)
                  try simp only [Act.put, List.setIfInBounds_toArray, List.set_cons_zero, List.set_cons_succ]
                  refine wpAnyH_take (i := 5) (oi := { dst := some 60, op := Op.move (Operand.tmp 13), type := 3, pos := "ref.go:217", after := #[], guard := none }) (v := ?v5) rfl (by kernel_rfl) (by kernel_rfl) (by kernel_rfl) (fun _ _ _ h => h) (Or.inl ⟨by rfl, ?hy5⟩) (by assumption) ?rest5
                  case hy5 => (intro wq hSq; (try dsimp only at hSq); go_simp; try with_reducible rfl)
                  try simp only [Act.put, List.setIfInBounds_toArray, List.set_cons_zero, List.set_cons_succ]
                  refine wpAnyH_take (i := 6) (oi := { dst := some 61, op := Op.indexAddr 34 (Operand.tmp 59) (Operand.tmp 60), type := 0, pos := "ref.go:217", after := #[{ on := 4, ground := Ground.data }, { on := 5, ground := Ground.data }], guard := none }) (v := ?v6) rfl (by kernel_rfl) (by kernel_rfl) (by kernel_rfl) (fun _ _ _ h => h) (Or.inl ⟨by rfl, ?hy6⟩) (by assumption) ?rest6
                  case hy6 => (intro wq hSq; (try dsimp only at hSq); go_simp; try with_reducible rfl)
                  try simp only [Act.put, List.setIfInBounds_toArray, List.set_cons_zero, List.set_cons_succ]
                  refine wpAnyH_take (i := 9) (oi := { dst := some 64, op := Op.fieldAddr 29 (Operand.tmp 3) 3, type := 0, pos := "ref.go:217", after := #[], guard := none }) (v := ?v9) rfl (by kernel_rfl) (by kernel_rfl) (by kernel_rfl) (fun _ _ _ h => h) (Or.inl ⟨by rfl, ?hy9⟩) (by assumption) ?rest9
                  case hy9 => (intro wq hSq; (try dsimp only at hSq); go_simp; try with_reducible rfl)
                  try simp only [Act.put, List.setIfInBounds_toArray, List.set_cons_zero, List.set_cons_succ]
                  refine wpAnyH_take (i := 10) (oi := { dst := some 65, op := Op.load 24 (Operand.tmp 64), type := 24, pos := "ref.go:217", after := #[{ on := 9, ground := Ground.data }], guard := none }) (v := ?v10) rfl (by kernel_rfl) (by kernel_rfl) (by kernel_rfl) (fun _ _ _ h => h) (Or.inl ⟨by rfl, ?hy10⟩) (by assumption) ?rest10
                  case hy10 => (intro wq hSq; (try dsimp only at hSq); go_simp; try with_reducible rfl)
                  try simp only [Act.put, List.setIfInBounds_toArray, List.set_cons_zero, List.set_cons_succ]
                  refine wpAnyH_take (i := 11) (oi := { dst := some 66, op := Op.move (Operand.tmp 12), type := 3, pos := "ref.go:217", after := #[], guard := none }) (v := ?v11) rfl (by kernel_rfl) (by kernel_rfl) (by kernel_rfl) (fun _ _ _ h => h) (Or.inl ⟨by rfl, ?hy11⟩) (by assumption) ?rest11
                  case hy11 => (intro wq hSq; (try dsimp only at hSq); go_simp; try with_reducible rfl)
                  try simp only [Act.put, List.setIfInBounds_toArray, List.set_cons_zero, List.set_cons_succ]
                  refine wpAnyH_take (i := 12) (oi := { dst := some 67, op := Op.indexAddr 24 (Operand.tmp 65) (Operand.tmp 66), type := 0, pos := "ref.go:217", after := #[{ on := 10, ground := Ground.data }, { on := 11, ground := Ground.data }], guard := none }) (v := ?v12) rfl (by kernel_rfl) (by kernel_rfl) (by kernel_rfl) (fun _ _ _ h => h) (Or.inl ⟨by rfl, ?hy12⟩) (by assumption) ?rest12
                  case hy12 => (intro wq hSq; (try dsimp only at hSq); go_simp; try with_reducible rfl)
                  try simp only [Act.put, List.setIfInBounds_toArray, List.set_cons_zero, List.set_cons_succ]
                  refine wpAnyH_take (i := 13) (oi := { dst := some 68, op := Op.fieldAddr 50 (Operand.tmp 67) 2, type := 0, pos := "ref.go:217", after := #[{ on := 12, ground := Ground.data }], guard := none }) (v := ?v13) rfl (by kernel_rfl) (by kernel_rfl) (by kernel_rfl) (fun _ _ _ h => h) (Or.inl ⟨by rfl, ?hy13⟩) (by assumption) ?rest13
                  case hy13 => (intro wq hSq; (try dsimp only at hSq); go_simp; try with_reducible rfl)
                  try simp only [Act.put, List.setIfInBounds_toArray, List.set_cons_zero, List.set_cons_succ]
                  refine wpAnyH_take (i := 14) (oi := { dst := some 69, op := Op.load 34 (Operand.tmp 68), type := 34, pos := "ref.go:217", after := #[{ on := 13, ground := Ground.data }], guard := none }) (v := ?v14) rfl (by kernel_rfl) (by kernel_rfl) (by kernel_rfl) (fun _ _ _ h => h) (Or.inl ⟨by rfl, ?hy14⟩) (by assumption) ?rest14
                  case hy14 => (intro wq hSq; (try dsimp only at hSq); go_simp; try with_reducible rfl)
                  try simp only [Act.put, List.setIfInBounds_toArray, List.set_cons_zero, List.set_cons_succ]
                  refine wpAnyH_take (i := 15) (oi := { dst := some 70, op := Op.move (Operand.tmp 13), type := 3, pos := "ref.go:217", after := #[], guard := none }) (v := ?v15) rfl (by kernel_rfl) (by kernel_rfl) (by kernel_rfl) (fun _ _ _ h => h) (Or.inl ⟨by rfl, ?hy15⟩) (by assumption) ?rest15
                  case hy15 => (intro wq hSq; (try dsimp only at hSq); go_simp; try with_reducible rfl)
                  try simp only [Act.put, List.setIfInBounds_toArray, List.set_cons_zero, List.set_cons_succ]
                  refine wpAnyH_take (i := 16) (oi := { dst := some 71, op := Op.indexAddr 34 (Operand.tmp 69) (Operand.tmp 70), type := 0, pos := "ref.go:217", after := #[{ on := 14, ground := Ground.data }, { on := 15, ground := Ground.data }], guard := none }) (v := ?v16) rfl (by kernel_rfl) (by kernel_rfl) (by kernel_rfl) (fun _ _ _ h => h) (Or.inl ⟨by rfl, ?hy16⟩) (by assumption) ?rest16
                  case hy16 => (intro wq hSq; (try dsimp only at hSq); go_simp; try with_reducible rfl)
                  try simp only [Act.put, List.setIfInBounds_toArray, List.set_cons_zero, List.set_cons_succ]
                  refine wpAnyH_take (i := 17) (oi := { dst := some 72, op := Op.load 27 (Operand.tmp 71), type := 27, pos := "ref.go:217", after := #[{ on := 16, ground := Ground.data }], guard := none }) (v := ?v17) rfl (by kernel_rfl) (by kernel_rfl) (by kernel_rfl) (fun _ _ _ h => h) (Or.inl ⟨by rfl, ?hy17⟩) (by assumption) ?rest17
                  case hy17 => (intro wq hSq; (try dsimp only at hSq); go_simp; try with_reducible rfl)
                  try simp only [Act.put, List.setIfInBounds_toArray, List.set_cons_zero, List.set_cons_succ]
                  refine wpAnyH_ready (rs := [3, 7]) (by kernel_rfl) (by simp) ?_
                  refine AllReadyH.cons rfl (fun K hK => ?_) (AllReadyH.cons rfl (fun K hK => ?_) AllReadyH.nil)
                  · skip
                    go_simp
                    refine hK.out _ _ ?_ (fun hHeldN => ?_)
                    · (try dsimp only); exact cells7p R6a.out ⟨GA6a.out, GM6a.out⟩
                    clear hK K hHeld
                    have hHeld := hHeldN
                    clear hHeldN
                    refine wpAnyH_ready (rs := [7]) (by kernel_rfl) (by simp) ?_
                    refine AllReadyH.cons rfl (fun K hK => ?_) AllReadyH.nil
                    go_simp
                    refine hK.out _ _ ?_ (fun hHeldN => ?_)
                    · (try dsimp only); exact cells7p R6a.out ⟨GA6a.out, GM6a.out⟩
                    clear hK K hHeld
                    have hHeld := hHeldN
                    clear hHeldN
                    refine wpAnyH_ready (rs := [8]) (by kernel_rfl) (by simp) ?_
                    refine AllReadyH.cons (o := { dst := some 63, op := Op.call { callee := Callee.builtin Builtin.append, args := #[Operand.tmp 58, Operand.tmp 62], argTypes := #[27, 27] }, type := 27, pos := "ref.go:217", after := #[{ on := 3, ground := Ground.data }, { on := 7, ground := Ground.data }], guard := none }) rfl (fun K hK => ?_) AllReadyH.nil
                    rw [if_pos (by rfl)]
                    refine op_append_strs _ _ rfl wr.heap.size 0 _ _ [] fm rfl HOA.out rfl (HU.out.sl.below HAL.out (Nat.le_refl _)) (by omega) hza ?_
                    intro v7 w7 hown7 hg7; have hB7 : Below wr.heap.size wr w7 := HAL.out.grown hg7 hza (fun r er => ownBlock_ge HOA.out er); have hz7 := hB7.size
                    simp only [Act.put, List.setIfInBounds_toArray, List.set_cons_zero, List.set_cons_succ]
                    refine hK.out _ _ ?_ (fun hHeldN => ?_)
                    · (try dsimp only); exact cells7p ((hB7.block w.heap.size hsz).trans R6.out) ⟨(hB7.cell (p := ⟨ba, offa + jx * 3 + 2, none⟩) (by simp only; omega)).trans GA6.out, (hB7.cell (p := ⟨bs', offs' + m, none⟩) (by simp only; omega)).trans GM6.out⟩
                    clear hK K hHeld
                    have hHeld := hHeldN
                    clear hHeldN
                    refine wpAnyH_ready (rs := [18]) (by kernel_rfl) (by simp) ?_
                    refine AllReadyH.cons (o := { dst := some 73, op := Op.call { callee := Callee.builtin Builtin.append, args := #[Operand.tmp 63, Operand.tmp 72], argTypes := #[27, 27] }, type := 27, pos := "ref.go:217", after := #[{ on := 8, ground := Ground.data }, { on := 17, ground := Ground.data }, { on := 8, ground := Ground.chain }], guard := none }) rfl (fun K hK => ?_) AllReadyH.nil
                    rw [if_pos (by rfl)]
                    refine op_append_strs _ _ rfl wr.heap.size (0 + fm.length) _ _ ([] ++ fm.map encStr) am rfl hown7 rfl (HSM.out.below (hBr6.trans (hB7.mono (Nat.le_of_lt hsz))) (Nat.le_refl _)) (by omega) hz7 ?_
                    intro v8 w8 hown8 hg8; have hB8 : Below wr.heap.size wr w8 := hB7.grown hg8 hz7 (fun r er => ownBlock_ge hown7 er); have hz8 := hB8.size
                    simp only [Act.put, List.setIfInBounds_toArray, List.set_cons_zero, List.set_cons_succ]
                    refine hK.out _ _ ?_ (fun hHeldN => ?_)
                    · (try dsimp only); exact cells7p ((hB8.block w.heap.size hsz).trans R6.out) ⟨(hB8.cell (p := ⟨ba, offa + jx * 3 + 2, none⟩) (by simp only; omega)).trans GA6.out, (hB8.cell (p := ⟨bs', offs' + m, none⟩) (by simp only; omega)).trans GM6.out⟩
                    clear hK K hHeld
                    have hHeld := hHeldN
                    clear hHeldN
                    have ho8 : SlO w8 wr.heap.size v8 (fm ++ am) := slO_of_own (by rw [List.map_append, List.length_append]; rw [Nat.zero_add] at hown8; exact hown8) (by rw [List.length_append]; omega) (fun x hx => (List.mem_append.1 hx).elim (HU.out.sl.words x) (HSM.out.words x))
                    have HO8 := Lib.hid ho8.sl
                    have HB8 := Lib.hid hB8
                    clear ho8 hown8 hown7 hB7
                    have LE := Lib.hid (rleast_any n _ (.slice (some ⟨bd, offd, none⟩) ds.length dcap) (.slice (some ⟨ba, offa, none⟩) rs.length acap) t4 t5 t6 _ cs sp ab (fm ++ am) w8 (HC.out.below (hBr6.trans (HB8.out.mono (Nat.le_of_lt hsz))) (Nat.le_refl _)) HBU.out h300 HO8.out (by rw [List.length_append]; omega) (by rw [List.all_append, hkn1, hgt1]; rfl))
                    rw [hstm.out] at LE
                    refine wpAnyH_ready (rs := [19]) (by kernel_rfl) (by simp) ?_
                    refine AllReadyH.cons rfl (fun K hK => ?_) AllReadyH.nil
                    go_simp
                    go_wp2_with (go_at_call 45; refine LE.out.mono ?_; rintro e w9 ⟨v9, rfl, ho9, hb9⟩; have hB9 : Below wr.heap.size wr w9 := HB8.out.trans (hb9.mono hz8))
                    refine hK.out _ _ ?_ (fun hHeldN => ?_)
                    · (try dsimp only); exact cells7p ((hB9.block w.heap.size hsz).trans R6.out) ⟨(hB9.cell (p := ⟨ba, offa + jx * 3 + 2, none⟩) (by simp only; omega)).trans GA6.out, (hB9.cell (p := ⟨bs', offs' + m, none⟩) (by simp only; omega)).trans GM6.out⟩
                    clear hK K hHeld
                    have hHeld := hHeldN
                    clear hHeldN
                    have HO9 := Lib.hid ho9
                    obtain ⟨_, _, a9, k9, rfl, _⟩ := ho9
                    have qs := (hB9.cell (p := ⟨g, m, none⟩) hgs).trans q1
                    have qf := (hB9.frozen (p := ⟨g, m, none⟩) hgs).trans q2
                    refine wpAnyH_take (i := 20) (oi := { dst := some 75, op := Op.indexAddr 34 (Operand.tmp 55) (Operand.tmp 56), type := 0, pos := "ref.go:217", after := #[{ on := 0, ground := Ground.data }, { on := 1, ground := Ground.data }, { on := 0, ground := Ground.phase }, { on := 1, ground := Ground.phase }, { on := 2, ground := Ground.phase }, { on := 3, ground := Ground.phase }, { on := 4, ground := Ground.phase }, { on := 5, ground := Ground.phase }, { on := 6, ground := Ground.phase }, { on := 7, ground := Ground.phase }, { on := 8, ground := Ground.phase }, { on := 9, ground := Ground.phase }, { on := 10, ground := Ground.phase }, { on := 11, ground := Ground.phase }, { on := 12, ground := Ground.phase }, { on := 13, ground := Ground.phase }, { on := 14, ground := Ground.phase }, { on := 15, ground := Ground.phase }, { on := 16, ground := Ground.phase }, { on := 17, ground := Ground.phase }, { on := 18, ground := Ground.phase }, { on := 19, ground := Ground.phase }], guard := none }) (v := ?v20b) rfl (by kernel_rfl) (by kernel_rfl) (by kernel_rfl) (fun _ _ _ h => h) (Or.inl ⟨by rfl, ?hy20b⟩) (by assumption) ?rest20b
                    case hy20b => (intro wq hSq; (try dsimp only at hSq); go_simp; try with_reducible rfl)
                    try simp only [Act.put, List.setIfInBounds_toArray, List.set_cons_zero, List.set_cons_succ]
                    refine wpAnyH_ready (rs := [21]) (by kernel_rfl) (by simp) ?_
                    refine AllReadyH.cons rfl (fun K hK => ?_) AllReadyH.nil
                    go_simp
                    refine hK.out _ _ ?_ (fun hHeldN => ?_)
                    · (try dsimp only); exact cells7p ((heap_setCell_other _ _ _ _ (by simp only; omega)).trans ((hB9.block w.heap.size hsz).trans R6.out)) ⟨(World.cell?_setCell_other _ _ _ _ (by intro hh; injection hh; omega)).trans ((hB9.cell (p := ⟨ba, offa + jx * 3 + 2, none⟩) (by simp only; omega)).trans GA6.out), (World.cell?_setCell_other _ _ _ _ (by intro hh; injection hh; omega)).trans ((hB9.cell (p := ⟨bs', offs' + m, none⟩) (by simp only; omega)).trans GM6.out)⟩
                    clear hK K hHeld
                    have hHeld := hHeldN
                    clear hHeldN
                    refine wpAnyH_done (by kernel_rfl) ?_ _
                    have hst := Lib.hid (hW6.out.step (v := .slice a9 (needF (cs.map Prod.fst) (fun i => ab.getD i []) rs name ss (j + 1) m).length k9) hB9 hgs (HO9.out.base (show g + 1 ≤ w8.heap.size by omega)))
                    have hBF : Below (w.heap.size + 1) w3 (w9.setCell ⟨g, m, none⟩ (.slice a9 (needF (cs.map Prod.fst) (fun i => ab.getD i []) rs name ss (j + 1) m).length k9)) := (hB6.trans (hB9.mono (by omega))).setCell (p := ⟨g, m, none⟩) hg1 _
                    clear qs qf hHeld hB9 hb9 HO9
                    go_wp2_with fail
                    go_roundw
                    case rel => exact ⟨m + 1, by omega, by go_num, hBF, hst⟩
                    case measure => simp [intOf]; omega
                  · skip
                    go_simp
                    refine hK.out _ _ ?_ (fun hHeldN => ?_)
                    · (try dsimp only); exact cells7p R6d.out ⟨GA6d.out, GM6d.out⟩
                    clear hK K hHeld
                    have hHeld := hHeldN
                    clear hHeldN
                    refine wpAnyH_ready (rs := [3]) (by kernel_rfl) (by simp) ?_
                    refine AllReadyH.cons rfl (fun K hK => ?_) AllReadyH.nil
                    go_simp
                    refine hK.out _ _ ?_ (fun hHeldN => ?_)
                    · (try dsimp only); exact cells7p R6a.out ⟨GA6a.out, GM6a.out⟩
                    clear hK K hHeld
                    have hHeld := hHeldN
                    clear hHeldN
                    refine wpAnyH_ready (rs := [8]) (by kernel_rfl) (by simp) ?_
                    refine AllReadyH.cons (o := { dst := some 63, op := Op.call { callee := Callee.builtin Builtin.append, args := #[Operand.tmp 58, Operand.tmp 62], argTypes := #[27, 27] }, type := 27, pos := "ref.go:217", after := #[{ on := 3, ground := Ground.data }, { on := 7, ground := Ground.data }], guard := none }) rfl (fun K hK => ?_) AllReadyH.nil
                    rw [if_pos (by rfl)]
                    refine op_append_strs _ _ rfl wr.heap.size 0 _ _ [] fm rfl HOA.out rfl (HU.out.sl.below HAL.out (Nat.le_refl _)) (by omega) hza ?_
                    intro v7 w7 hown7 hg7; have hB7 : Below wr.heap.size wr w7 := HAL.out.grown hg7 hza (fun r er => ownBlock_ge HOA.out er); have hz7 := hB7.size
                    simp only [Act.put, List.setIfInBounds_toArray, List.set_cons_zero, List.set_cons_succ]
                    refine hK.out _ _ ?_ (fun hHeldN => ?_)
                    · (try dsimp only); exact cells7p ((hB7.block w.heap.size hsz).trans R6.out) ⟨(hB7.cell (p := ⟨ba, offa + jx * 3 + 2, none⟩) (by simp only; omega)).trans GA6.out, (hB7.cell (p := ⟨bs', offs' + m, none⟩) (by simp only; omega)).trans GM6.out⟩
                    clear hK K hHeld
                    have hHeld := hHeldN
                    clear hHeldN
                    refine wpAnyH_ready (rs := [18]) (by kernel_rfl) (by simp) ?_
                    refine AllReadyH.cons (o := { dst := some 73, op := Op.call { callee := Callee.builtin Builtin.append, args := #[Operand.tmp 63, Operand.tmp 72], argTypes := #[27, 27] }, type := 27, pos := "ref.go:217", after := #[{ on := 8, ground := Ground.data }, { on := 17, ground := Ground.data }, { on := 8, ground := Ground.chain }], guard := none }) rfl (fun K hK => ?_) AllReadyH.nil
                    rw [if_pos (by rfl)]
                    refine op_append_strs _ _ rfl wr.heap.size (0 + fm.length) _ _ ([] ++ fm.map encStr) am rfl hown7 rfl (HSM.out.below (hBr6.trans (hB7.mono (Nat.le_of_lt hsz))) (Nat.le_refl _)) (by omega) hz7 ?_
                    intro v8 w8 hown8 hg8; have hB8 : Below wr.heap.size wr w8 := hB7.grown hg8 hz7 (fun r er => ownBlock_ge hown7 er); have hz8 := hB8.size
                    simp only [Act.put, List.setIfInBounds_toArray, List.set_cons_zero, List.set_cons_succ]
                    refine hK.out _ _ ?_ (fun hHeldN => ?_)
                    · (try dsimp only); exact cells7p ((hB8.block w.heap.size hsz).trans R6.out) ⟨(hB8.cell (p := ⟨ba, offa + jx * 3 + 2, none⟩) (by simp only; omega)).trans GA6.out, (hB8.cell (p := ⟨bs', offs' + m, none⟩) (by simp only; omega)).trans GM6.out⟩
                    clear hK K hHeld
                    have hHeld := hHeldN
                    clear hHeldN
                    have ho8 : SlO w8 wr.heap.size v8 (fm ++ am) := slO_of_own (by rw [List.map_append, List.length_append]; rw [Nat.zero_add] at hown8; exact hown8) (by rw [List.length_append]; omega) (fun x hx => (List.mem_append.1 hx).elim (HU.out.sl.words x) (HSM.out.words x))
                    have HO8 := Lib.hid ho8.sl
                    have HB8 := Lib.hid hB8
                    clear ho8 hown8 hown7 hB7
                    have LE := Lib.hid (rleast_any n _ (.slice (some ⟨bd, offd, none⟩) ds.length dcap) (.slice (some ⟨ba, offa, none⟩) rs.length acap) t4 t5 t6 _ cs sp ab (fm ++ am) w8 (HC.out.below (hBr6.trans (HB8.out.mono (Nat.le_of_lt hsz))) (Nat.le_refl _)) HBU.out h300 HO8.out (by rw [List.length_append]; omega) (by rw [List.all_append, hkn1, hgt1]; rfl))
                    rw [hstm.out] at LE
                    refine wpAnyH_ready (rs := [19]) (by kernel_rfl) (by simp) ?_
                    refine AllReadyH.cons rfl (fun K hK => ?_) AllReadyH.nil
                    go_simp
                    go_wp2_with (go_at_call 45; refine LE.out.mono ?_; rintro e w9 ⟨v9, rfl, ho9, hb9⟩; have hB9 : Below wr.heap.size wr w9 := HB8.out.trans (hb9.mono hz8))
                    refine hK.out _ _ ?_ (fun hHeldN => ?_)
                    · (try dsimp only); exact cells7p ((hB9.block w.heap.size hsz).trans R6.out) ⟨(hB9.cell (p := ⟨ba, offa + jx * 3 + 2, none⟩) (by simp only; omega)).trans GA6.out, (hB9.cell (p := ⟨bs', offs' + m, none⟩) (by simp only; omega)).trans GM6.out⟩
                    clear hK K hHeld
                    have hHeld := hHeldN
                    clear hHeldN
                    have HO9 := Lib.hid ho9
                    obtain ⟨_, _, a9, k9, rfl, _⟩ := ho9
                    have qs := (hB9.cell (p := ⟨g, m, none⟩) hgs).trans q1
                    have qf := (hB9.frozen (p := ⟨g, m, none⟩) hgs).trans q2
                    refine wpAnyH_take (i := 20) (oi := { dst := some 75, op := Op.indexAddr 34 (Operand.tmp 55) (Operand.tmp 56), type := 0, pos := "ref.go:217", after := #[{ on := 0, ground := Ground.data }, { on := 1, ground := Ground.data }, { on := 0, ground := Ground.phase }, { on := 1, ground := Ground.phase }, { on := 2, ground := Ground.phase }, { on := 3, ground := Ground.phase }, { on := 4, ground := Ground.phase }, { on := 5, ground := Ground.phase }, { on := 6, ground := Ground.phase }, { on := 7, ground := Ground.phase }, { on := 8, ground := Ground.phase }, { on := 9, ground := Ground.phase }, { on := 10, ground := Ground.phase }, { on := 11, ground := Ground.phase }, { on := 12, ground := Ground.phase }, { on := 13, ground := Ground.phase }, { on := 14, ground := Ground.phase }, { on := 15, ground := Ground.phase }, { on := 16, ground := Ground.phase }, { on := 17, ground := Ground.phase }, { on := 18, ground := Ground.phase }, { on := 19, ground := Ground.phase }], guard := none }) (v := ?v20d) rfl (by kernel_rfl) (by kernel_rfl) (by kernel_rfl) (fun _ _ _ h => h) (Or.inl ⟨by rfl, ?hy20d⟩) (by assumption) ?rest20d
                    case hy20d => (intro wq hSq; (try dsimp only at hSq); go_simp; try with_reducible rfl)
                    try simp only [Act.put, List.setIfInBounds_toArray, List.set_cons_zero, List.set_cons_succ]
                    refine wpAnyH_ready (rs := [21]) (by kernel_rfl) (by simp) ?_
                    refine AllReadyH.cons rfl (fun K hK => ?_) AllReadyH.nil
                    go_simp
                    refine hK.out _ _ ?_ (fun hHeldN => ?_)
                    · (try dsimp only); exact cells7p ((heap_setCell_other _ _ _ _ (by simp only; omega)).trans ((hB9.block w.heap.size hsz).trans R6.out)) ⟨(World.cell?_setCell_other _ _ _ _ (by intro hh; injection hh; omega)).trans ((hB9.cell (p := ⟨ba, offa + jx * 3 + 2, none⟩) (by simp only; omega)).trans GA6.out), (World.cell?_setCell_other _ _ _ _ (by intro hh; injection hh; omega)).trans ((hB9.cell (p := ⟨bs', offs' + m, none⟩) (by simp only; omega)).trans GM6.out)⟩
                    clear hK K hHeld
                    have hHeld := hHeldN
                    clear hHeldN
                    refine wpAnyH_done (by kernel_rfl) ?_ _
                    have hst := Lib.hid (hW6.out.step (v := .slice a9 (needF (cs.map Prod.fst) (fun i => ab.getD i []) rs name ss (j + 1) m).length k9) hB9 hgs (HO9.out.base (show g + 1 ≤ w8.heap.size by omega)))
                    have hBF : Below (w.heap.size + 1) w3 (w9.setCell ⟨g, m, none⟩ (.slice a9 (needF (cs.map Prod.fst) (fun i => ab.getD i []) rs name ss (j + 1) m).length k9)) := (hB6.trans (hB9.mono (by omega))).setCell (p := ⟨g, m, none⟩) hg1 _
                    clear qs qf hHeld hB9 hb9 HO9
                    go_wp2_with fail
                    go_roundw
                    case rel => exact ⟨m + 1, by omega, by go_num, hBF, hst⟩
                    case measure => simp [intOf]; omega
                · have hmk : m = k := by omega
                  subst hmk
                  have hnx := Lib.hid (hW6.out.next (f'' := needF (cs.map Prod.fst) (fun i => ab.getD i []) rs name ss (j + 1 + 1)))
                  have hBn : Below (w.heap.size + 1) w2 wr := hB5.trans hB6
                  go_wp2_with fail
                  go_roundw
                  case rel => exact ⟨j + 1, by omega, by go_num, hnext, hBn, hnx⟩
                  case measure => simp [intOf]; omega
            · have hia' : inP (rs.map arKey) (name, x) = false := by simpa using hia
              have HOF : Hid (ok = false) := by unfold Hid; rw [HOK1.out]; exact hasAll_take hltj (by rw [← HX.out]; exact hia')
              rw [arI_out hia']
              clear hia hia'
              go_wp2_with fail
              go_ret2
              exact ndFail HOF.out hBr5
          · have hjj : j = ss.length := by omega
            subst hjj
            have HOT : Hid (ok = true) := by unfold Hid; rw [HOK1.out]; have h := hHA.out; rw [List.take_length] at h; exact h
            have hall : SlSsO wr w.heap.size (.slice a L.length q) L := by
              by_cases h0 : 0 < k
              · obtain rfl := hga h0
                refine (hWL.out.prev).all (by omega) (by have := hg2 h0; omega) HLn.out (by unfold maxLen; omega) HLast.out
              · have hL0 : L = [] := List.eq_nil_of_length_eq_zero (by rw [HLn.out]; omega)
                subst hL0
                exact ⟨by decide, a, q, rfl, fun h => absurd h (by decide)⟩
            have HALL := Lib.hid hall
            clear hall hWL
            go_wp2_with fail
            go_ret2
            exact ⟨a, q, by rw [HOT.out, if_pos rfl, HLn.out]; rfl, hBr, by rw [HOT.out, if_pos rfl]; exact HALL.out⟩
  · have hin' : inNs (ds.map Prod.fst) name = false := by simpa using hin
    have hof : ok = false := by rw [HOK.out, hin']; rfl
    refine (type_any n _ _ _ t4 t5 t6 name ds _ (HD.out.below HB0.out (Nat.le_refl _))).mono ?_
    rintro e w1 ⟨rfl, hb1⟩
    rw [clsI_out hin']
    have HOF := Lib.hid hof
    clear hin hin' hof
    go_wp2_with fail
    go_ret2
    exact ndFail HOF.out (HB0.out.trans (hb1.mono (by omega)))
end Go.Proofs.YtehnikgdjnmfcaaGreat

/- The reference's Args 9. -/
namespace Go.Proofs.YtehnikgdjnmfcaaGreat
open Go.RowKit Go.WideMaps Go.Shelf Go.Sort Go.Lib
attribute [local go_sem] Oper.semAt_some

theorem sorts_norm {cs : List (Nm × List Nm)} {ss : List Nm} (h : clsErr cs = 0) : sortsErr cs [ss] = normErr (cs.map Prod.fst) ss := by
  rw [nErr_sorts]
  unfold nErr
  rw [if_pos h]

set_option maxRecDepth 100000 in
set_option maxHeartbeats 8000000 in
theorem args_r (n c t2 t3 t4 t5 t6 v : Value) (cs : List (Nm × List Nm)) (ab0 : List (List Nat)) (ds : List (Nm × Int)) (rs : List Ar) (name : Nm) (ss : List Nm) (w : World) (hc : SlC w c cs) (hd : SlT w t2 ds) (ha : SlAr w t3 rs)
    (hab : clsErr cs = 0 → ∃ sp, Built cs sp ab0) (hs : SlS w v ss) :
    Calls Tryz.prog 9 #[.agg #[n, c, t2, t3, t4, t5, t6], .string (bs name), v] w (APost w (argsErr2 cs ab0 ds rs name ss) (wantC cs ab0 ds rs name ss)) := by
  have hb0 := below_alloc w (Obj.cells #[n, c, t2, t3, t4, t5, t6] 29)
  have HC := Lib.hid hc
  have HD := Lib.hid hd
  have HA := Lib.hid ha
  have HS := Lib.hid hs
  have HAB := Lib.hid hab
  have r0 := Lib.hid (heap_alloc_new w (Obj.cells #[n, c, t2, t3, t4, t5, t6] 29))
  have hz0 : w.heap.size < (w.alloc (Obj.cells #[n, c, t2, t3, t4, t5, t6] 29)).heap.size := by simp
  have CK := Lib.hid (check_r n c t2 t3 t4 t5 t6 cs ab0 ds rs _ (hc.below hb0 (Nat.le_refl _)) (hd.below hb0 (Nat.le_refl _)) (ha.below hb0 (Nat.le_refl _)) hab)
  obtain ⟨_, ca, ccap, rfl, _⟩ := hc
  obtain ⟨_, da, dcap, rfl, _⟩ := hd
  obtain ⟨_, aa, acap, rfl, _⟩ := ha
  obtain ⟨_, sa, scap, rfl, _⟩ := hs
  obtain ⟨er, her⟩ : ∃ er, er = argsErr2 cs ab0 ds rs name ss := ⟨_, rfl⟩
  rw [← her]
  unfold argsErr2 at her
  have HER := Lib.hid her
  have HB0 := Lib.hid hb0
  clear hab her hb0
  go_enter Tryz.func9, Tryz.ntmps9
  go_wp2_with fail
  refine CK.out.mono ?_
  rintro e w1 ⟨rfl, hb1⟩
  have hB1 : Below w.heap.size w w1 := HB0.out.trans (hb1.mono (Nat.le_of_lt hz0))
  have R1 := Lib.hid ((hb1.block w.heap.size hz0).trans r0.out)
  have hz1 : w.heap.size < w1.heap.size := Nat.lt_of_lt_of_le hz0 hb1.size
  clear CK r0 hz0 HB0 hb1
  by_cases h0 : chkErr cs ab0 ds rs = 0
  · obtain ⟨k1, k2, k3, _⟩ := chk_zero h0
    obtain ⟨sp, hbu⟩ := HAB.out k1
    have HBU := Lib.hid hbu
    have HK1 := Lib.hid k1
    have HK2 := Lib.hid k2
    have HK3 := Lib.hid k3
    have hE1 : Hid (er = argErr cs ab0 ds rs name ss) := by unfold Hid; rw [HER.out, if_pos h0]
    rw [h0]
    unfold argErr at hE1
    clear k1 k2 k3 hbu HER h0
    obtain ⟨c0, c1, c2, c3, c4, c5, c6⟩ := cells7' R1.out
    go_wp2_with fail
    by_cases hin : inNs (ds.map Prod.fst) name = true
    · refine (type_in n _ _ _ t4 t5 t6 name ds w1 (HD.out.below hB1 (Nat.le_refl _)) hin).mono ?_
      rintro e w2 ⟨rfl, hb2⟩
      have hB2 : Below w.heap.size w w2 := hB1.trans (hb2.mono (Nat.le_of_lt hz1))
      have hz2 : w.heap.size < w2.heap.size := Nat.lt_of_lt_of_le hz1 hb2.size
      have R2 := Lib.hid ((hb2.block w.heap.size hz1).trans R1.out)
      have hE2 : Hid (er = if normErr (cs.map Prod.fst) ss ≠ 0 then normErr (cs.map Prod.fst) ss else if hasAll rs name ss = false then 14 else if fewAll (wantC cs ab0 ds rs name ss) = false then 5 else 0) := by
        unfold Hid; rw [hE1.out, if_neg (by rw [hin]; decide)]
      have HIN := Lib.hid hin
      clear c0 c1 c2 c3 c4 c5 c6 hb2 R1 hE1 hin
      generalize ixOf (ds.map Prod.fst) name = ix at *
      have f1 : decide ((ix : Int) < 0) = false := by simp
      obtain ⟨c0, c1, c2, c3, c4, c5, c6⟩ := cells7' R2.out
      have hb3 := below_alloc w2 (Obj.cells #[.slice sa ss.length scap] 27)
      have q3 := heap_alloc_new w2 (Obj.cells #[.slice sa ss.length scap] 27)
      have hB3 := hB2.trans (hb3.mono (Nat.le_of_lt hz2))
      have hs3 := slSs1 (cap := 1) q3 (HS.out.below hB3 (Nat.le_refl _))
      have R3 := Lib.hid ((hb3.block w.heap.size hz2).trans R2.out)
      have hz3 : w.heap.size < (w2.alloc (Obj.cells #[.slice sa ss.length scap] 27)).heap.size := Nat.lt_of_lt_of_le hz2 hb3.size
      have SO := Lib.hid (sorts_any n _ (.slice da ds.length dcap) (.slice aa rs.length acap) t4 t5 t6 _ cs [ss] _ (HC.out.below hB3 (Nat.le_refl _)) hs3)
      rw [sorts_norm HK1.out] at SO
      clear hb3 q3 hs3 R2
      go_wp2_with fail
      refine SO.out.mono ?_
      rintro e w4 ⟨rfl, hb4⟩
      have hB4 : Below w.heap.size w w4 := hB3.trans (hb4.mono (Nat.le_of_lt hz3))
      have hz4 : w.heap.size < w4.heap.size := Nat.lt_of_lt_of_le hz3 hb4.size
      have R4 := Lib.hid ((hb4.block w.heap.size hz3).trans R3.out)
      clear c0 c1 c2 c3 c4 c5 c6 hb4 R3 SO hB3 hz3
      by_cases hne : normErr (cs.map Prod.fst) ss = 0
      · have hE3 : Hid (er = if hasAll rs name ss = false then 14 else if fewAll (wantC cs ab0 ds rs name ss) = false then 5 else 0) := by
          unfold Hid; rw [hE2.out, if_neg (fun h => h hne)]
        have ND := Lib.hid (needed_r n _ _ _ t4 t5 t6 _ cs sp ab0 ds rs name ss w4 (HC.out.below hB4 (Nat.le_refl _)) HBU.out (clsErr_len HK1.out) (HD.out.below hB4 (Nat.le_refl _)) (HA.out.below hB4 (Nat.le_refl _)) HK3.out HK2.out (HS.out.below hB4 (Nat.le_refl _)))
        rw [HIN.out, Bool.true_and] at ND
        rw [hne]
        generalize wantC cs ab0 ds rs name ss = L at *
        generalize hasAll rs name ss = okw at *
        unfold NdPost at ND
        obtain ⟨c0, c1, c2, c3, c4, c5, c6⟩ := cells7' R4.out
        clear hne hE2
        cases okw with
        | false =>
          have hE4 : Hid (er = 14) := by unfold Hid; rw [hE3.out, if_pos rfl]
          rw [show (if false = true then L else []) = [] from rfl] at ND
          clear hE3
          go_wp2_with fail
          refine ND.out.mono ?_
          rintro e w5 ⟨a5, q5, rfl, hb5, _⟩
          go_wp2_with fail
          go_ret2
          exact aFail hE4.out (by decide) (hB4.trans (hb5.mono (Nat.le_of_lt hz4)))
        | true =>
          have hE4 : Hid (er = if fewAll L = false then 5 else 0) := by unfold Hid; rw [hE3.out, if_neg (by decide)]
          rw [show (if true = true then L else []) = L from rfl] at ND
          clear hE3
          go_wp2_with fail
          refine ND.out.mono ?_
          rintro e w5 ⟨a5, q5, rfl, hb5, hss⟩
          have hB5 : Below w.heap.size w w5 := hB4.trans (hb5.mono (Nat.le_of_lt hz4))
          have hss := hss.ss
          have HSS := Lib.hid hss
          have hLl : L.length ≤ 9223372036854775807 := by have := hss.1; unfold maxLen at this; omega
          have HF0 : Hid (fewAll L = (L.drop 0).all fun a => decide (a.length ≤ 20)) := rfl
          clear hss hb5 c0 c1 c2 c3 c4 c5 c6 ND
          go_wp2_with fail
          go_loop [12] (fun i => ∃ k : Nat, k ≤ L.length ∧ i = .int .i64 k ∧ Hid (fewAll L = (L.drop k).all fun a => decide (a.length ≤ 20))) (fun i => L.length - (intOf i).toNat)
          case atStart => exact ⟨0, by omega, rfl, HF0⟩
          case round =>
            obtain ⟨k, hk, rfl, hF⟩ := hrel
            clear HF0
            by_cases hlt : k < L.length
            · obtain ⟨b, off, p, q, rfl, hb, g1, _⟩ := slSs_at HSS.out hlt
              have hst : Hid (fewAll L = (decide ((L.getD k []).length ≤ 20) && (L.drop (k + 1)).all fun a => decide (a.length ≤ 20))) := by
                unfold Hid; rw [hF.out, drop_getD L [] k hlt]; rfl
              clear hF
              generalize L.getD k [] = x at *
              by_cases h20x : 20 < x.length
              · have hd : decide (20 < ((x.length : Nat) : Int)) = true := by simp; omega
                have hE5 : Hid (er = 5) := by
                  unfold Hid; rw [hE4.out, if_pos (by rw [hst.out, decide_eq_false (by omega)]; rfl)]
                clear hst h20x
                go_wp2_with fail
                go_ret2
                exact aFail hE5.out (by decide) hB5
              · have hd : decide (20 < ((x.length : Nat) : Int)) = false := by simp; omega
                have hF2 : Hid (fewAll L = (L.drop (k + 1)).all fun a => decide (a.length ≤ 20)) := by
                  unfold Hid; rw [hst.out, decide_eq_true (by omega)]; rfl
                clear hst h20x
                go_wp2_with fail
                go_round
                case rel => exact ⟨k + 1, by omega, by go_num, hF2⟩
                case measure => simp [intOf]; omega
            · have hE5 : Hid (er = 0) := by
                unfold Hid; rw [hE4.out, if_neg (by rw [hF.out, List.drop_eq_nil_of_le (by omega)]; decide)]
              clear hF
              go_wp2_with fail
              go_ret2
              exact ⟨_, by rw [hE5.out]; rfl, hB5, by rw [hE5.out, if_pos rfl]; exact HSS.out⟩
      · have hE3 : Hid (er = normErr (cs.map Prod.fst) ss) := by unfold Hid; rw [hE2.out, if_pos hne]
        have HNZ := Lib.hid hne
        generalize normErr (cs.map Prod.fst) ss = ne at *
        have hd : (ne != 0) = true := by simpa using HNZ.out
        clear hne hE2
        go_wp2_with fail
        go_ret2
        exact aFail hE3.out HNZ.out hB4
    · have hin' : inNs (ds.map Prod.fst) name = false := by simpa using hin
      have hE2 : Hid (er = 9) := by unfold Hid; rw [hE1.out, if_pos hin']
      refine (type_any n _ _ _ t4 t5 t6 name ds w1 (HD.out.below hB1 (Nat.le_refl _))).mono ?_
      rintro e w2 ⟨rfl, hb2⟩
      rw [clsI_out hin']
      clear c0 c1 c2 c3 c4 c5 c6 hin hin' hE1
      go_wp2_with fail
      go_ret2
      exact aFail hE2.out (by decide) (hB1.trans (hb2.mono (Nat.le_of_lt hz1)))
  · have hE1 : Hid (er = chkErr cs ab0 ds rs) := by unfold Hid; rw [HER.out, if_neg h0]
    have HNZ := Lib.hid h0
    clear HER
    generalize chkErr cs ab0 ds rs = ce at *
    have hd : (ce != 0) = true := by simpa using HNZ.out
    clear h0
    go_wp2_with fail
    go_ret2
    exact aFail hE1.out HNZ.out hB1
end Go.Proofs.YtehnikgdjnmfcaaGreat
