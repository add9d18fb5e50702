/- Args of a signature 47; Args 26. -/
import Derived.Test.YtehnikgdjnmfcaaGreatMZ22
import Derived.Test.YtehnikgdjnmfcaaGreatMZ25
namespace Go.Proofs.YtehnikgdjnmfcaaGreat
open Go.RowKit Go.WideMaps Go.Shelf
attribute [local go_sem] Oper.semAt_some

/-- whether sorts have at most 20 classes -/
def fewAll (l : List (List Nm)) : Bool := l.all fun a => decide (a.length ≤ 20)
/-- what the arguments must have -/
def wantC (cs : List (Nm × List Nm)) (abl : List (List Nat)) (ds : List (Nm × Int)) (rs : List Ar) (name : Nm) (ss : List Nm) : List (List Nm) := wantB (cs.map Prod.fst) (fun i => abl.getD i []) ds rs name ss
def argErr (cs : List (Nm × List Nm)) (abl : List (List Nat)) (ds : List (Nm × Int)) (rs : List Ar) (name : Nm) (ss : List Nm) : Int :=
  if inNs (ds.map Prod.fst) name = false then 9 else if normErr (cs.map Prod.fst) ss ≠ 0 then normErr (cs.map Prod.fst) ss else if hasAll rs name ss = false then 14 else if fewAll (wantC cs abl ds rs name ss) = false then 5 else 0

def APost (w : World) (er : Int) (l : List (List Nm)) (e : Ending) (w' : World) : Prop :=
  ∃ v, e = .returned (.tuple #[v, .int .i64 er]) ∧ Below w.heap.size w w' ∧ SlSs w' v (if er = 0 then l else [])

theorem aFail {w w' : World} {er x : Int} {l : List (List Nm)} (h : er = x) (h0 : x ≠ 0) (hb : Below w.heap.size w w') : APost w er l (.returned (.tuple #[.slice none 0 0, .int .i64 x])) w' :=
  ⟨_, by rw [h], hb, by rw [h, if_neg h0]; exact ⟨by decide, none, 0, rfl, fun h => absurd h (by decide)⟩⟩

set_option maxRecDepth 100000 in
set_option maxHeartbeats 2000000 in
theorem sigArgs_any (g v : Value) (cs : List (Nm × List Nm)) (sp abl : List (List Nat)) (ds : List (Nm × Int)) (rs : List Ar) (name : Nm) (ss : List Nm) (w : World) (hg : SgF w g cs abl ds rs) (hbu : Built cs sp abl) (har : arsErr cs abl ds rs = 0)
    (hty : typesErr ds = 0) (hnl : name.length ≤ maxLen) (hs : SlS w v ss) :
    Calls Tryz.prog 20 #[g, .string (bs name), v] w (APost w (argErr cs abl ds rs name ss) (wantC cs abl ds rs name ss)) := by
  have HSG := Lib.hid hg
  have HS := Lib.hid hs
  have HBU := Lib.hid hbu
  have HAR := Lib.hid har
  have HTY := Lib.hid hty
  obtain ⟨bm, c1, ga, capa, c3, mb, am, vs, rfl, hsig, hmv, _, _, _⟩ := hg
  obtain ⟨_, sa, scap, rfl, _⟩ := hs
  have HSIG := Lib.hid hsig
  have hb0 := below_alloc w (Obj.cells #[.map (some bm), c1, .slice ga cs.length capa, c3, .map (some mb), .map (some am)] 63)
  have r0 := heap_alloc_new w (Obj.cells #[.map (some bm), c1, .slice ga cs.length capa, c3, .map (some mb), .map (some am)] 63)
  have hz0 : (w.alloc (Obj.cells #[.map (some bm), c1, .slice ga cs.length capa, c3, .map (some mb), .map (some am)] 63)).heap.size = w.heap.size + 1 := by simp
  have hlk := (hmv.below hb0 hmv.lt).look hnl
  have R0 := Lib.hid r0
  obtain ⟨p0, p1, p2, p3, p4, p5⟩ := cells6 r0
  obtain ⟨er, her⟩ : ∃ er, er = argErr cs abl ds rs name ss := ⟨_, rfl⟩
  rw [← her]
  unfold argErr at her
  have HER := Lib.hid her
  generalize numOf ds name = nn at *
  clear hsig hmv r0 hbu har hty her
  go_enter Tryz.func20, Tryz.ntmps20
  by_cases hin : inNs (ds.map Prod.fst) name = true
  · rw [hin] at hlk
    have hE1 : Hid (er = if normErr (cs.map Prod.fst) ss ≠ 0 then normErr (cs.map Prod.fst) ss else if hasAll rs name ss = false then 14 else if fewAll (wantC cs abl ds rs name ss) = false then 5 else 0) := by
      unfold Hid; rw [HER.out, if_neg (by rw [hin]; decide)]
    clear hin HER
    have NS := Lib.hid (normal_sig _ _ ss _ _ _ (HSIG.out.below hb0 (Nat.le_refl _)) (HS.out.below hb0 (Nat.le_refl _)))
    unfold NormPost at NS
    go_wp2_with fail
    generalize hne : normErr (cs.map Prod.fst) ss = ne at *
    have HNE := Lib.hid hne
    clear hne
    refine NS.out.mono ?_
    rintro e w1 ⟨v1, rfl, hb1, hok, _⟩
    have hB1 : Below w.heap.size w w1 := hb0.trans (hb1.mono (by omega))
    have hz1 := hb1.size
    have r1 := (hb1.block w.heap.size (by omega)).trans R0.out
    have R1 := Lib.hid r1
    clear p0 p1 p2 p3 p4 p5
    obtain ⟨p0, p1, p2, p3, p4, p5⟩ := cells6 r1
    clear r1 hok hlk
    by_cases hne : ne = 0
    · have hE2 : Hid (er = if hasAll rs name ss = false then 14 else if fewAll (wantC cs abl ds rs name ss) = false then 5 else 0) := by
        unfold Hid; rw [hE1.out, if_neg (by simpa using hne)]
      have h20 := (normErr_zero (HNE.out.trans hne)).1
      subst hne
      have WN := Lib.hid (wanted_any _ _ cs sp abl ds rs name ss w1 (HSG.out.below hB1) HBU.out HAR.out HTY.out hnl (HS.out.below hB1 (Nat.le_refl _)) (by omega))
      have eW : wantB (cs.map Prod.fst) (fun i => abl.getD i []) ds rs name ss = wantC cs abl ds rs name ss := rfl
      rw [eW] at WN
      clear eW hE1 NS
      generalize wantC cs abl ds rs name ss = L at *
      generalize hasAll rs name ss = ok at *
      unfold WPost at WN
      cases ok with
      | false =>
        have hE3 : Hid (er = 14) := by unfold Hid; rw [hE2.out, if_pos rfl]
        clear hE2
        go_wp2_with fail
        refine WN.out.mono ?_
        rintro e w2 ⟨a2, c2, rfl, hb2, _⟩
        go_wp2_with fail
        go_ret2
        exact aFail hE3.out (by decide) (hB1.trans (hb2.mono hB1.size))
      | true =>
        have hE3 : Hid (er = if fewAll L = false then 5 else 0) := by unfold Hid; rw [hE2.out, if_neg (by decide)]
        rw [if_pos rfl] at WN
        clear hE2
        go_wp2_with fail
        refine WN.out.mono ?_
        rintro e w2 ⟨a2, c2, rfl, hb2, hss⟩
        have hB2 : Below w.heap.size w w2 := hB1.trans (hb2.mono hB1.size)
        have hss := hss.ss
        have HSS := Lib.hid hss
        obtain ⟨hLl, _, _, he, hrows⟩ := hss
        injection he with he1 _ he2
        subst he1 he2
        unfold maxLen at hLl
        have HRW := Lib.hid hrows
        have HF0 : Hid (fewAll L = (L.drop 0).all fun a => decide (a.length ≤ 20)) := rfl
        clear hrows hb2 p0 p1 p2 p3 p4 p5 WN
        go_wp2_with fail
        go_loop [45] (fun i => ∃ k : Nat, k ≤ L.length ∧ i = .int .i64 k ∧ Hid (fewAll L = (L.drop k).all fun a => decide (a.length ≤ 20))) (fun i => L.length - (intOf i).toNat)
        case atStart => exact ⟨0, by omega, rfl, HF0⟩
        case round =>
          obtain ⟨k, hk, rfl, hF⟩ := hrel
          clear HF0
          by_cases hlt : k < L.length
          · obtain ⟨b, off, rfl, hb, hcl⟩ := HRW.out (by omega)
            obtain ⟨p, pc, g1, _⟩ := hcl k hlt
            have hst : Hid (fewAll L = (decide ((L.getD k []).length ≤ 20) && (L.drop (k + 1)).all fun a => decide (a.length ≤ 20))) := by
              unfold Hid; rw [hF.out, drop_getD L [] k hlt]; rfl
            clear hcl hF
            generalize L.getD k [] = x at *
            by_cases h20x : 20 < x.length
            · have hd : decide (20 < ((x.length : Nat) : Int)) = true := by simp; omega
              have hE4 : Hid (er = 5) := by
                unfold Hid; rw [hE3.out, if_pos (by rw [hst.out, decide_eq_false (by omega)]; rfl)]
              clear hst h20x
              go_wp2_with fail
              go_ret2
              exact aFail hE4.out (by decide) hB2
            · have hd : decide (20 < ((x.length : Nat) : Int)) = false := by simp; omega
              have hF2 : Hid (fewAll L = (L.drop (k + 1)).all fun a => decide (a.length ≤ 20)) := by
                unfold Hid; rw [hst.out, decide_eq_true (by omega)]; rfl
              clear hst h20x
              go_wp2_with fail
              go_round
              case rel => exact ⟨k + 1, by omega, by go_num, hF2⟩
              case measure => simp [intOf]; omega
          · have hE4 : Hid (er = 0) := by
              unfold Hid; rw [hE3.out, if_neg (by rw [hF.out, List.drop_eq_nil_of_le (by omega)]; decide)]
            clear hF
            go_wp2_with fail
            go_ret2
            exact ⟨_, by rw [hE4.out]; rfl, hB2, by rw [hE4.out, if_pos rfl]; exact HSS.out⟩
    · have hE2 : Hid (er = ne) := by unfold Hid; rw [hE1.out, if_pos (by simpa using hne)]
      have hd : (ne != 0) = true := by simpa using hne
      have HNZ : Hid (ne ≠ 0) := hne
      clear hne hE1
      go_wp2_with fail
      go_ret2
      exact aFail hE2.out HNZ.out hB1
  · have hin' : inNs (ds.map Prod.fst) name = false := by simpa using hin
    rw [hin'] at hlk
    have hE1 : Hid (er = 9) := by unfold Hid; rw [HER.out, if_pos hin']
    clear hin hin' HER
    go_wp2_with fail
    go_ret2
    exact aFail hE1.out (by decide) hb0

/-- the error of Args -/
def argsErr2 (cs : List (Nm × List Nm)) (abl : List (List Nat)) (ds : List (Nm × Int)) (rs : List Ar) (name : Nm) (ss : List Nm) : Int :=
  if chkErr cs abl ds rs = 0 then argErr cs abl ds rs name ss else chkErr cs abl ds rs

theorem chk_zero {cs : List (Nm × List Nm)} {abl : List (List Nat)} {ds : List (Nm × Int)} {rs : List Ar} (h : chkErr cs abl ds rs = 0) : clsErr cs = 0 ∧ typesErr ds = 0 ∧ arsErr cs abl ds rs = 0 ∧ regAll cs abl rs = true := by
  rw [chk_eq] at h
  by_cases h1 : clsErr cs = 0
  · rw [if_pos h1] at h
    by_cases h2 : typesErr ds = 0
    · rw [if_pos h2] at h
      by_cases h3 : arsErr cs abl ds rs = 0
      · rw [if_pos h3] at h
        by_cases h4 : regAll cs abl rs = true
        · exact ⟨h1, h2, h3, h4⟩
        · rw [if_neg h4] at h; exact absurd h (by decide)
      · rw [if_neg h3] at h; exact absurd h h3
    · rw [if_neg h2] at h; exact absurd h h2
  · rw [if_neg h1] at h; exact absurd h h1

theorem sgF_of {w : World} {m0 m4 m5 : Option Nat} {a1 a2 a3 : Option Addr} {n1 k1 n2 k2 n3 k3 : Nat} {cs : List (Nm × List Nm)} {abl : List (List Nat)} {ds : List (Nm × Int)} {rs : List Ar}
    (h : SgOk w (.agg #[.map m0, .slice a1 n1 k1, .slice a2 n2 k2, .slice a3 n3 k3, .map m4, .map m5]) m4 m5 cs abl ds rs) : SgF w (.agg #[.map m0, .slice a1 n1 k1, .slice a2 n2 k2, .slice a3 n3 k3, .map m4, .map m5]) cs abl ds rs := by
  obtain ⟨hs, ⟨mb, am, vs, rfl, rfl, hv, ha, hx⟩, x0, x1, x2, x3, x4, x5, he, ht⟩ := h
  have hs' := hs
  obtain ⟨_, bm, c1, ga, capa, c3, c4, c5, he2, _, _⟩ := hs'
  injection he2 with he2
  simp at he2
  obtain ⟨rfl, _, ⟨rfl, rfl, rfl⟩, _⟩ := he2
  injection he with he
  simp at he
  obtain ⟨_, _, _, rfl, _⟩ := he
  exact ⟨bm, _, a2, k2, _, mb, am, vs, rfl, hs, hv, ha, hx, ht⟩

set_option maxRecDepth 100000 in
set_option maxHeartbeats 2000000 in
theorem args_any (t v : Value) (cs : List (Nm × List Nm)) (abl : List (List Nat)) (ds : List (Nm × Int)) (rs : List Ar) (name : Nm) (ss : List Nm) (w : World) (n c t2 t3 t4 t5 t6 : Value) (he : t = .agg #[n, c, t2, t3, t4, t5, t6]) (hc : SlC w c cs) (hd : SlT w t2 ds) (ha : SlAr w t3 rs)
    (hab : clsErr cs = 0 → ∃ sp, Built cs sp abl) (hnl : name.length ≤ maxLen) (hs : SlS w v ss) :
    Calls Tryz.prog 8 #[t, .string (bs name), v] w (APost w (argsErr2 cs abl ds rs name ss) (wantC cs abl ds rs name ss)) := by
  subst he
  have HS := Lib.hid hs
  have HAB := Lib.hid hab
  have hb0 := below_alloc w (Obj.cells #[n, c, t2, t3, t4, t5, t6] 29)
  have SG := Lib.hid (sign_of complete_any n c t2 t3 t4 t5 t6 cs abl ds rs (w.alloc (Obj.cells #[n, c, t2, t3, t4, t5, t6] 29)) (hc.below hb0 (Nat.le_refl _)) (hd.below hb0 (Nat.le_refl _)) (ha.below hb0 (Nat.le_refl _)) hab)
  obtain ⟨_, ca, ccap, rfl, _⟩ := hc
  obtain ⟨_, da, dcap, rfl, _⟩ := hd
  obtain ⟨_, aa, acap, rfl, _⟩ := ha
  obtain ⟨_, sa, scap, rfl, _⟩ := hs
  unfold SgPost at SG
  obtain ⟨er, her⟩ : ∃ er, er = argsErr2 cs abl ds rs name ss := ⟨_, rfl⟩
  rw [← her]
  unfold argsErr2 at her
  have HER := Lib.hid her
  generalize hce : chkErr cs abl ds rs = ce at *
  have HCE := Lib.hid hce
  clear her hab hce
  go_enter Tryz.func8, Tryz.ntmps8
  by_cases h0 : ce = 0
  · have hE1 : Hid (er = argErr cs abl ds rs name ss) := by unfold Hid; rw [HER.out, if_pos h0]
    obtain ⟨k1, k2, k3, k4⟩ := chk_zero (HCE.out.trans h0)
    obtain ⟨sp, hbu⟩ := HAB.out k1
    have HBU := Lib.hid hbu
    have HK2 := Lib.hid k2
    have HK3 := Lib.hid k3
    subst h0
    clear k1 k2 k3 k4 hbu HER
    go_wp2_with fail
    refine SG.out.mono ?_
    rintro e w1 ⟨m0, a1, n1, q1, a2, n2, q2, a3, n3, q3, m4, m5, rfl, hb1, hok⟩
    have HG := Lib.hid (sgF_of (hok trivial))
    have hB1 : Below w.heap.size w w1 := hb0.trans (hb1.mono (by simp))
    have hz1 := hB1.size
    have hb2 := below_alloc w1 (Obj.cells #[.map m0, .slice a1 n1 q1, .slice a2 n2 q2, .slice a3 n3 q3, .map m4, .map m5] 63)
    have hB2 := hB1.trans (hb2.mono hz1)
    have SA := Lib.hid (sigArgs_any _ _ cs sp abl ds rs name ss _ (HG.out.below hb2) HBU.out HK3.out HK2.out hnl (HS.out.below hB2 (Nat.le_refl _)))
    rw [← hE1.out] at SA
    unfold APost at SA
    generalize hLL : (if er = 0 then wantC cs abl ds rs name ss else []) = LL at SA
    have HLL := Lib.hid hLL
    clear hok SG hLL
    go_wp2_with fail
    refine SA.out.mono ?_
    rintro e w2 ⟨v2, rfl, hb3, hss⟩
    have HSS := Lib.hid hss
    obtain ⟨_, a, cap, rfl, _⟩ := hss
    clear SA
    go_wp2_with fail
    go_ret2
    exact ⟨_, rfl, hB2.trans (hb3.mono hB2.size), by rw [HLL.out]; exact HSS.out⟩
  · have hE1 : Hid (er = ce) := by unfold Hid; rw [HER.out, if_neg h0]
    have hd : (ce != 0) = true := by simpa using h0
    have HNZ : Hid (ce ≠ 0) := h0
    clear h0 HER
    go_wp2_with fail
    refine SG.out.mono ?_
    rintro e w1 ⟨m0, a1, n1, q1, a2, n2, q2, a3, n3, q3, m4, m5, rfl, hb1, _⟩
    have hB1 : Below w.heap.size w w1 := hb0.trans (hb1.mono (by simp))
    have hz1 := hB1.size
    go_wp2_with fail
    go_ret2
    exact aFail hE1.out HNZ.out (hB1.trans ((below_alloc w1 _).mono hz1))
end Go.Proofs.YtehnikgdjnmfcaaGreat

/- The reference's Needed: pure facts; append of a slice of strings onto a row of one's own. -/
namespace Go.Proofs.YtehnikgdjnmfcaaGreat
open Go.RowKit Go.WideMaps Go.Shelf Go.Sort Go.Lib

theorem least_app {cs : List (Nm × List Nm)} {sp ab : List (List Nat)} (hb : Built cs sp ab) {a b : List Nm} (ha : ∀ x ∈ a, inNs (cs.map Prod.fst) x = true) (hb2 : ∀ x ∈ b, inNs (cs.map Prod.fst) x = true) :
    leastB (cs.map Prod.fst) (fun i => ab.getD i []) (leastB (cs.map Prod.fst) (fun i => ab.getD i []) a ++ b) = leastB (cs.map Prod.fst) (fun i => ab.getD i []) (a ++ b) := by
  have hk1 : ∀ x ∈ leastB (cs.map Prod.fst) (fun i => ab.getD i []) a ++ b, inNs (cs.map Prod.fst) x = true := fun x hx => (List.mem_append.1 hx).elim (fun h => ha x (least_sub hb x h)) (hb2 x)
  have hk2 : ∀ x ∈ a ++ b, inNs (cs.map Prod.fst) x = true := fun x hx => (List.mem_append.1 hx).elim (ha x) (hb2 x)
  have hsub : ∀ x, x ∈ leastB (cs.map Prod.fst) (fun i => ab.getD i []) a ++ b → x ∈ a ++ b := fun x hx => List.mem_append.2 ((List.mem_append.1 hx).imp (least_sub hb x) id)
  refine ascB.uniq (leastB_asc _ _ _) (leastB_asc _ _ _) fun x => ?_
  rw [mem_least hb hk1, mem_least hb hk2]
  constructor
  · rintro ⟨hx, hmin⟩
    refine ⟨hsub x hx, fun d hd hle => ?_⟩
    rcases List.mem_append.1 hd with hd | hd
    · obtain ⟨m, hm, hmd⟩ := below_least hb ha _ d hd (Nat.le_refl _)
      have e := hmin m (List.mem_append.2 (.inl hm)) (Reach.trans hmd hle)
      subst e
      exact leN.anti hb (ha d hd) (hk1 _ hx) hle hmd
    · exact hmin d (List.mem_append.2 (.inr hd)) hle
  · rintro ⟨hx, hmin⟩
    refine ⟨?_, fun d hd hle => hmin d (hsub d hd) hle⟩
    rcases List.mem_append.1 hx with h | h
    · exact List.mem_append.2 (.inl ((mem_least hb ha x).2 ⟨h, fun d hd hle => hmin d (List.mem_append.2 (.inl hd)) hle⟩))
    · exact List.mem_append.2 (.inr h)

theorem least_nil (ns : List Nm) (abv : Nat → List Nat) : leastB ns abv [] = [] := by
  refine List.eq_nil_iff_forall_not_mem.2 fun x hx => ?_
  have := (onceB_mem [] x).1 (List.mem_filter.1 hx).1
  simp at this

theorem hasAll_take2 {rs : List Ar} {name : Nm} {s : List Nm} {k : Nat} (hk : k < s.length) (h : hasAll rs name (s.take k) = true) (h2 : inP (rs.map arKey) (name, s.getD k []) = true) : hasAll rs name (s.take (k + 1)) = true := by
  rw [take_snocD s [] k hk, hasAll_snoc, h, h2]; rfl

/-- what the i-th argument must have, for the first k classes -/
def needF (ns : List Nm) (abv : Nat → List Nat) (rs : List Ar) (name : Nm) (s : List Nm) (k i : Nat) : List Nm := leastB ns abv (wantL rs name (s.take k) i)

theorem need_step {cs : List (Nm × List Nm)} {sp ab : List (List Nat)} {ds : List (Nm × Int)} {rs : List Ar} {name : Nm} {s : List Nm} {k : Nat} (hb : Built cs sp ab) (har : arsErr cs ab ds rs = 0) (hk : k < s.length)
    (h : hasAll rs name (s.take k) = true) (h2 : inP (rs.map arKey) (name, s.getD k []) = true) (i : Nat) :
    leastB (cs.map Prod.fst) (fun i => ab.getD i []) (needF (cs.map Prod.fst) (fun i => ab.getD i []) rs name s k i ++ (arAt rs (name, s.getD k [])).getD i []) = needF (cs.map Prod.fst) (fun i => ab.getD i []) rs name s (k + 1) i := by
  unfold needF
  rw [take_snocD s [] k hk, wantL_snoc]
  exact least_app hb (List.all_eq_true.1 (wantL_facts har i _ h).1) (List.all_eq_true.1 (arAt_get har h2 i).1)

theorem need_known {cs : List (Nm × List Nm)} {sp ab : List (List Nat)} {ds : List (Nm × Int)} {rs : List Ar} {name : Nm} {s : List Nm} {k : Nat} (hb : Built cs sp ab) (har : arsErr cs ab ds rs = 0) (h300 : cs.length ≤ 300)
    (h : hasAll rs name (s.take k) = true) (i : Nat) : (needF (cs.map Prod.fst) (fun i => ab.getD i []) rs name s k i).all (inNs (cs.map Prod.fst)) = true ∧ (needF (cs.map Prod.fst) (fun i => ab.getD i []) rs name s k i).length ≤ 300 := by
  have h1 := List.all_eq_true.1 (wantL_facts (cs := cs) (ds := ds) har i _ h).1
  have h2 := least_known hb h1
  unfold needF
  refine ⟨List.all_eq_true.2 h2, ?_⟩
  have hnd : (leastB (cs.map Prod.fst) (fun i => ab.getD i []) (wantL rs name (s.take k) i)).Nodup := by
    refine List.Pairwise.imp ?_ (leastB_asc (cs.map Prod.fst) (fun i => ab.getD i []) (wantL rs name (s.take k) i))
    intro x y hxy e
    subst e
    exact cb_irr x hxy
  have h3 := nodup_sub_len _ (cs.map Prod.fst) hnd (fun y hy => of_decide_eq_true (h2 y hy))
  rw [List.length_map] at h3
  omega

theorem need_last {cs : List (Nm × List Nm)} {ab : List (List Nat)} {ds : List (Nm × Int)} {rs : List Ar} {name : Nm} {s : List Nm} {n : Nat} (hn : (numOf ds name).toNat = n) (i : Nat) (hi : i < n) :
    (wantC cs ab ds rs name s).getD i [] = needF (cs.map Prod.fst) (fun i => ab.getD i []) rs name s s.length i := by
  unfold wantC wantB needF
  rw [List.take_length, List.getD_eq_getElem?_getD, List.getElem?_map, List.getElem?_range (by rw [hn]; exact hi)]
  rfl

theorem wantC_len1 {cs : List (Nm × List Nm)} {ab : List (List Nat)} {ds : List (Nm × Int)} {rs : List Ar} {name : Nm} {s : List Nm} : (wantC cs ab ds rs name s).length = (numOf ds name).toNat := by
  unfold wantC wantB
  rw [List.length_map, List.length_range]

theorem wpList_append_sl (w : World) {ops : Array Oper} {rest : List Oper} {o : Oper} {a : Act} {Q : Exit → Act → World → Prop} (hgd : o.guard = none) (s x : Operand)
    (ho : o.op = .call { callee := .builtin .append, args := #[s, x], argTypes := #[34, 34] }) (B n : Nat) (v : Value) (xs : List Value) (hs : a.eval s = v) (hown : w.ownsRow B 27 1 v n xs) (hn : n ≤ 1000) (hB : B ≤ w.heap.size)
    (ad : Addr) (c : Nat) (news : List Value) (hx : a.eval x = .slice (some ad) 1 c) (hl : news.length = 1) (hnews : ∀ j u, news[j]? = some u → w.cell? (ad.add j) = some u) (h1 : ∀ u ∈ news, u.oneCell' = true)
    (h : ∀ a' c' w', w'.ownsRow B 27 1 (.slice a' (n + 1) c') (n + 1) (xs ++ news) → w.grownBy w' v.ownBlock → wpList Tryz.prog ops Q rest (a.put o.dst (.slice a' (n + 1) c')) w') : wpList Tryz.prog ops Q (o :: rest) a w := by
  refine wpList_plain hgd fun K' hK' => ?_
  obtain ⟨i0, hi, hq0, hq1, hq2⟩ := info_parts Tryz.info27
  obtain ⟨v', w', hr, h2, h3, _, h5⟩ := run_append_own_at (P := Tryz.prog) w B 34 o.type 27 i0 (.slice none 0 0) 1 24 Tryz.underlying34 hi hq0 hq1 hq2 rfl (by decide) v n xs hown ad 1 c news (by omega) hnews h1 (by unfold maxLen; omega) (by omega) hB
  obtain ⟨a', c', rfl⟩ := ownsRow_form h2
  unfold Oper.wp execOp
  simp only [ho, resolve, invoke, builtin, Sem.run_bind, Sem.run_pure, Result.andThen_ok, List.map_toArray, List.map_cons, List.map_nil, hs, hx, hr]
  exact hK' _ _ (h a' c' w' h2 h3)

/-- rows that are all empty: the beginning of Needed's second loop -/
theorem wLeast_zero {w : World} {B g n cap : Nat} {xs : List Value} {f f' : Nat → List Nm} (h : w.ownsRow B 27 1 (.slice (some ⟨g, 0, none⟩) n cap) n xs) (hx : ∀ x ∈ xs, ∃ a c, x = Value.slice a 0 c) (hf : ∀ i, f i = []) : WLeast w g n f f' 0 := by
  intro i hi
  have hl : xs.length = n := by have := h.1; omega
  obtain ⟨a, c, e⟩ := hx (xs[i]'(by omega)) (List.getElem_mem _)
  have hc := h.cellAt i (by omega)
  rw [List.getElem?_eq_getElem (by omega)] at hc
  refine ⟨_, hc, h.frozenAt i, ?_⟩
  rw [if_neg (by omega), hf i, e]
  exact ⟨by simp, by simp, a, c, rfl, fun h => absurd h (by simp)⟩
end Go.Proofs.YtehnikgdjnmfcaaGreat
