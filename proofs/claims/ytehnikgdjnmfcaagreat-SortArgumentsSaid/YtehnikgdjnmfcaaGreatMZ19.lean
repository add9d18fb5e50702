/- IsNormal and lessAll of a signature. -/
import Derived.Test.YtehnikgdjnmfcaaGreatMZ18
import Derived.Lib.SliceRun
namespace Go.Proofs.YtehnikgdjnmfcaaGreat
open Go.RowKit Go.WideMaps Go.Shelf

set_option maxRecDepth 100000 in
set_option maxHeartbeats 4000000 in
theorem isNormal_p (g v : Value) (ss ns : List Nm) (abv : Nat → List Nat) (w : World) (hg : SigAt w g ns abv) (hs : SlS w v ss) (hbig : ss.length * 16 ≤ 140737488355328) (hks : ss.all (inNs ns) = true) :
    Calls Tryz.prog 73 #[g, v] w fun e w' => e = .returned (.bool (decide (leastB ns abv ss = ss))) ∧ Below w.heap.size w w' := by
  have HG := Lib.hid hg
  have HS := Lib.hid hs
  obtain ⟨_, bm, c1, ga, capa, c3, c4, c5, rfl, _, _⟩ := hg
  have hb0 := below_alloc w (Obj.cells #[.map (some bm), c1, .slice ga ns.length capa, c3, c4, c5] 63)
  have r0 := Lib.hid (heap_alloc_new w (Obj.cells #[.map (some bm), c1, .slice ga ns.length capa, c3, c4, c5] 63))
  obtain ⟨p0, p1, p2, p3, p4, p5⟩ := cells6 r0.out
  have LE := Lib.hid (least_any _ _ ss ns abv _ (HG.out.below hb0 (Nat.le_refl _)) (HS.out.below hb0 (Nat.le_refl _)) hbig hks)
  go_enter Tryz.func73, Tryz.ntmps73
  go_wp2_with fail
  refine LE.out.mono ?_
  rintro e w1 ⟨v1, rfl, ho1, hb1⟩
  have hB1 : Below w.heap.size w w1 := hb0.trans (hb1.mono (by simp))
  have HO1 := Lib.hid ho1.sl
  clear ho1 p0 p1 p2 p3 p4 p5
  go_wp2_with fail
  refine (equal_any _ _ _ _ w1 (HS.out.below hB1 (Nat.le_refl _)) HO1.out).mono ?_
  rintro e w2 ⟨rfl, hb2⟩
  have HR : Hid (decide (ss = leastB ns abv ss) = decide (leastB ns abv ss = ss)) := decide_eq_decide.2 eq_comm
  generalize decide (ss = leastB ns abv ss) = r at *
  go_wp2_with fail
  go_ret
  exact ⟨ret_bool HR.out, hB1.trans (hb2.mono hB1.size)⟩

/-- whether sorts are within others, one by one -/
def lessAllB (ns : List Nm) (abv : Nat → List Nat) (l m : List (List Nm)) : Bool := (List.range l.length).all fun q => lessB ns abv (l.getD q []) (m.getD q [])

theorem cells6and {w : World} {k : Nat} {a0 a1 a2 a3 a4 a5 : Value} {t : TypeId} {fr : Nat × Nat} {p : Prop} (h : w.heap[k]? = some (.cells #[a0, a1, a2, a3, a4, a5] t fr)) (hp : p) :
    w.cell? ⟨k, 0, none⟩ = some a0 ∧ w.cell? ⟨k, 1, none⟩ = some a1 ∧ w.cell? ⟨k, 2, none⟩ = some a2 ∧ w.cell? ⟨k, 3, none⟩ = some a3 ∧ w.cell? ⟨k, 4, none⟩ = some a4 ∧ w.cell? ⟨k, 5, none⟩ = some a5 ∧ p := by
  obtain ⟨h0, h1, h2, h3, h4, h5⟩ := cells6 h
  exact ⟨h0, h1, h2, h3, h4, h5, hp⟩

set_option maxRecDepth 100000 in
set_option maxHeartbeats 8000000 in
theorem lessAll_p (g u v : Value) (l m : List (List Nm)) (ns : List Nm) (abv : Nat → List Nat) (w : World) (hg : SigAt w g ns abv) (hl : SlSs w u l) (hm : SlSs w v m) (hlm : l.length ≤ m.length) :
    Calls Tryz.prog 55 #[g, u, v] w fun e w' => e = .returned (.bool (lessAllB ns abv l m)) ∧ Below w.heap.size w w' := by
  have HG := Lib.hid hg
  have HL := Lib.hid hl
  have HM := Lib.hid hm
  obtain ⟨_, bm, c1, ga, capa, c3, c4, c5, rfl, _, _⟩ := hg
  obtain ⟨hll, la, lcap, rfl, hlx⟩ := hl
  obtain ⟨hml, ma, mcap, rfl, hmx⟩ := hm
  have HLX := Lib.hid hlx
  have HMX := Lib.hid hmx
  unfold maxLen at hll hml
  have hb0 := below_alloc w (Obj.cells #[.map (some bm), c1, .slice ga ns.length capa, c3, c4, c5] 63)
  have r0 := Lib.hid (heap_alloc_new w (Obj.cells #[.map (some bm), c1, .slice ga ns.length capa, c3, c4, c5] 63))
  have hz0 : w.heap.size < (w.alloc (Obj.cells #[.map (some bm), c1, .slice ga ns.length capa, c3, c4, c5] 63)).heap.size := by simp
  obtain ⟨E, hE⟩ : ∃ E, E = lessAllB ns abv l m := ⟨_, rfl⟩
  have HE : Hid (E = ((List.range l.length).drop 0).all fun q => lessB ns abv (l.getD q []) (m.getD q [])) := hE
  rw [← hE]
  clear hlx hmx hE
  go_enter Tryz.func55, Tryz.ntmps55
  go_wp2_with fail
  generalize (w.alloc (Obj.cells #[.map (some bm), c1, .slice ga ns.length capa, c3, c4, c5] 63)) = W0 at *
  go_loopw [10] (fun u wr => ∃ k : Nat, k ≤ l.length ∧ u = .int .i64 k ∧ Hid (E = ((List.range l.length).drop k).all fun q => lessB ns abv (l.getD q []) (m.getD q [])) ∧ Below W0.heap.size W0 wr) (fun u _ => l.length - (intOf u).toNat)
  case atStart => exact ⟨0, by omega, rfl, HE, Below.refl _ _⟩
  case round =>
    obtain ⟨k, hk, rfl, hI, hB⟩ := hrel
    clear HE
    have hz := hB.size
    have hBw : Below w.heap.size w wr := hb0.trans (hB.mono (by omega))
    have r3 := Lib.hid ((hB.block w.heap.size hz0).trans r0.out)
    by_cases hlt : k < l.length
    · obtain ⟨b1, o1, rfl, hb1x, hcl1⟩ := HLX.out (by omega)
      obtain ⟨p1, k1, gs1w, hs1⟩ := hcl1 k hlt
      obtain ⟨b2, o2, rfl, hb2x, hcl2⟩ := HMX.out (by omega)
      obtain ⟨p2, k2, gs2w, hs2⟩ := hcl2 k (by omega)
      have hstep : Hid (E = (lessB ns abv (l.getD k []) (m.getD k []) && ((List.range l.length).drop (k + 1)).all fun q => lessB ns abv (l.getD q []) (m.getD q []))) := by
        unfold Hid; rw [hI.out, range_step _ _ _ hlt]
      have hkm : k < m.length := by omega
      clear hcl1 hcl2 hI
      generalize l.getD k [] = s1 at *
      generalize m.getD k [] = s2 at *
      have gs1 := (hBw.cell (p := ⟨b1, o1 + k, none⟩) hb1x).trans gs1w
      have gs2 := (hBw.cell (p := ⟨b2, o2 + k, none⟩) hb2x).trans gs2w
      have gs1d := Lib.hid gs1
      have gs2d := Lib.hid gs2
      have LS := Lib.hid (less_any (.agg #[.map (some bm), c1, .slice ga ns.length capa, c3, c4, c5]) _ _ s1 s2 ns abv wr.drew (HG.out.below hBw.drew (Nat.le_refl _)) (hs1.below hBw.drew (Nat.le_refl _)) (hs2.below hBw.drew (Nat.le_refl _)))
      clear hs1 hs2 gs1w gs2w
      obtain ⟨p0', p1', p2', p3', p4', p5'⟩ := cells6 r3.out
      by_cases hwi : lessB ns abv s1 s2 = true
      · rw [hwi] at LS
        have hst4 : Hid (E = ((List.range l.length).drop (k + 1)).all fun q => lessB ns abv (l.getD q []) (m.getD q [])) := by
          unfold Hid; rw [hstep.out, hwi, Bool.true_and]
        clear hwi hstep
        go_wp2_with fail
        go_region_held3 (fun w' => w'.cell? ⟨w.heap.size, 0, none⟩ = some (.map (some bm)) ∧ w'.cell? ⟨w.heap.size, 1, none⟩ = some c1 ∧ w'.cell? ⟨w.heap.size, 2, none⟩ = some (.slice ga ns.length capa) ∧ w'.cell? ⟨w.heap.size, 3, none⟩ = some c3 ∧ w'.cell? ⟨w.heap.size, 4, none⟩ = some c4 ∧ w'.cell? ⟨w.heap.size, 5, none⟩ = some c5 ∧ w'.cell? ⟨b1, o1 + k, none⟩ = some (.slice p1 s1.length k1) ∧ w'.cell? ⟨b2, o2 + k, none⟩ = some (.slice p2 s2.length k2))
          (first | exact cells6and r3.out ⟨gs1d.out, gs2d.out⟩ | exact cells6and r8.out ⟨x1.out, x3.out⟩)
          ((go_at_call 76; refine LS.out.mono ?_; rintro e w8 ⟨rfl, hb8⟩; have hb8 : Below wr.heap.size wr w8 := ((Below.refl _ wr).drew).trans hb8; have r8 := Lib.hid ((hb8.block w.heap.size (by omega)).trans r3.out); have x1 := Lib.hid ((hb8.cell (p := ⟨b1, o1 + k, none⟩) (by simp; omega)).trans gs1d.out); have x3 := Lib.hid ((hb8.cell (p := ⟨b2, o2 + k, none⟩) (by simp; omega)).trans gs2d.out)))
        clear p0' p1' p2' p3' p4' p5' gs1 gs2
        go_wp2_with fail
        go_roundw
        case rel => exact ⟨k + 1, by omega, by go_num, hst4, hB.trans (hb8.mono (by omega))⟩
        case measure => simp [intOf]; omega
      · have hwi' : lessB ns abv s1 s2 = false := by simpa using hwi
        rw [hwi'] at LS
        have hEf : Hid (E = false) := by
          unfold Hid; rw [hstep.out, hwi']; rfl
        clear hwi hwi' hstep
        go_wp2_with fail
        go_region_held3 (fun w' => w'.cell? ⟨w.heap.size, 0, none⟩ = some (.map (some bm)) ∧ w'.cell? ⟨w.heap.size, 1, none⟩ = some c1 ∧ w'.cell? ⟨w.heap.size, 2, none⟩ = some (.slice ga ns.length capa) ∧ w'.cell? ⟨w.heap.size, 3, none⟩ = some c3 ∧ w'.cell? ⟨w.heap.size, 4, none⟩ = some c4 ∧ w'.cell? ⟨w.heap.size, 5, none⟩ = some c5 ∧ w'.cell? ⟨b1, o1 + k, none⟩ = some (.slice p1 s1.length k1) ∧ w'.cell? ⟨b2, o2 + k, none⟩ = some (.slice p2 s2.length k2))
          (first | exact cells6and r3.out ⟨gs1d.out, gs2d.out⟩ | exact cells6and r8.out ⟨x1.out, x3.out⟩)
          ((go_at_call 76; refine LS.out.mono ?_; rintro e w8 ⟨rfl, hb8⟩; have hb8 : Below wr.heap.size wr w8 := ((Below.refl _ wr).drew).trans hb8; have r8 := Lib.hid ((hb8.block w.heap.size (by omega)).trans r3.out); have x1 := Lib.hid ((hb8.cell (p := ⟨b1, o1 + k, none⟩) (by simp; omega)).trans gs1d.out); have x3 := Lib.hid ((hb8.cell (p := ⟨b2, o2 + k, none⟩) (by simp; omega)).trans gs2d.out)))
        clear p0' p1' p2' p3' p4' p5' gs1 gs2
        go_wp2_with fail
        go_ret
        exact ⟨ret_bool hEf.out.symm, hBw.trans (hb8.mono (by omega))⟩
    · have hEt : Hid (E = true) := by unfold Hid; rw [hI.out, range_end _ _ _ (by omega)]
      clear hI
      go_wp2_with fail
      go_ret
      exact ⟨ret_bool hEt.out.symm, hBw⟩
end Go.Proofs.YtehnikgdjnmfcaaGreat

/- The map of the constructors' numbers; Clone of constructors. -/
namespace Go.Proofs.YtehnikgdjnmfcaaGreat
open Go.RowKit Go.WideMaps Go.Shelf Go.Lib

/-- how many arguments a constructor takes, 0 for none of the name -/
def numOf (ds : List (Nm × Int)) (s : Nm) : Int := if inNs (ds.map Prod.fst) s = true then (ds.getD (ixOf (ds.map Prod.fst) s) ([], 0)).2 else 0

theorem num_snoc (ds : List (Nm × Int)) (nm : Nm) (n : Int) (s : Nm) (hn : inNs (ds.map Prod.fst) nm = false) : numOf (ds ++ [(nm, n)]) s = if s = nm then n else numOf ds s := by
  have e : (ds ++ [(nm, n)]).map Prod.fst = ds.map Prod.fst ++ [nm] := by simp
  unfold numOf
  rw [e]
  obtain ⟨h1, h2⟩ := idx_snoc (ds.map Prod.fst) nm s hn
  rw [h1, h2]
  by_cases es : s = nm
  · rw [if_pos es, if_pos es, decide_eq_true es, Bool.or_true, if_pos rfl]
    simp
  · rw [if_neg es, if_neg es, decide_eq_false es, Bool.or_false]
    by_cases hi : inNs (ds.map Prod.fst) s = true
    · rw [if_pos hi, if_pos hi]
      have hl := ixOf_lt hi
      rw [List.length_map] at hl
      rw [List.getD_eq_getElem?_getD, List.getElem?_append_left hl, ← List.getD_eq_getElem?_getD]
    · rw [if_neg hi, if_neg hi]

/-- block b is the map of the constructors to their numbers -/
def MapV (w : World) (b : Nat) (ds : List (Nm × Int)) : Prop :=
  ∃ D : DataW Unit, Maps.IsMap D ∧ w.ownsMap Tryz.prog 9 (plainElem Tryz.prog 3) b ds.length D ∧
    ∀ s : Nm, Maps.has D (.string s) = inNs (ds.map Prod.fst) s ∧ D.atKey (.string s) (.lit (.int .i64 0)) = .lit (.int .i64 (numOf ds s))

theorem MapV.lt {w : World} {b : Nat} {ds : List (Nm × Int)} (h : MapV w b ds) : b < w.heap.size := by
  obtain ⟨D, _, h, _⟩ := h; exact h.lt
theorem MapV.below {w w' : World} {B b : Nat} {ds : List (Nm × Int)} (h : MapV w b ds) (hb : Below B w w') (hB : b < B) : MapV w' b ds := by
  obtain ⟨D, h1, ⟨es, cl, e1, e2⟩, h2⟩ := h; exact ⟨D, h1, ⟨es, cl, (hb.block b hB).trans e1, e2⟩, h2⟩
theorem MapV.block {w w' : World} {b : Nat} {ds : List (Nm × Int)} (h : MapV w b ds) (hb : w'.heap[b]? = w.heap[b]?) : MapV w' b ds := by
  obtain ⟨D, h1, ⟨es, cl, e1, e2⟩, h2⟩ := h; exact ⟨D, h1, ⟨es, cl, hb.trans e1, e2⟩, h2⟩
theorem MapV.drewN {w : World} {b : Nat} {ds : List (Nm × Int)} (h : MapV w b ds) (q : Nat) : MapV (w.drewN q) b ds := h
theorem mapV_empty {w : World} {b : Nat} (h : w.heap[b]? = some (.map #[] 0)) : MapV w b [] := by
  refine ⟨.map [], Maps.isMap_empty, ⟨#[], 0, h, ⟨by simp, Go.MapKept.stamped_empty 0, by simp⟩, Nat.le_refl _, rfl⟩, fun s => ⟨by simp [inNs, Maps.has], by simp [numOf, inNs, DataW.atKey]⟩⟩

theorem MapV.look {w : World} {b : Nat} {ds : List (Nm × Int)} (h : MapV w b ds) {s : Nm} (hs : s.length ≤ maxLen) :
    (Instr.lookup 58 (.map (some b)) (.string (bs s)) true).run Tryz.prog w = .ok (.tuple #[.int .i64 (numOf ds s), .bool (inNs (ds.map Prod.fst) s)]) w := by
  obtain ⟨D, _, hown, hD⟩ := h
  have hw0 : (Lit.int .i64 0).wf = true := by decide
  obtain ⟨v, ps, hrun, hv⟩ := hown.look_ok (Maps.string_keyed Tryz.underlying9) Tryz.underlying58 (zeroE w) (plainElem_int Tryz.underlying3 hw0) (key_bs hs)
  obtain ⟨c, rfl, hc, _⟩ := plainElem_int_inv Tryz.underlying3 hv
  obtain ⟨h1, h2⟩ := hD s
  have hc2 : D.atKey (.string s) (.lit (.int .i64 0)) = .lit (.int .i64 c) := congrArg Prod.fst hc
  have hc4 : numOf ds s = c := by simpa using h2.symm.trans hc2
  rw [hrun, h1, ← hc4]

theorem wpList_mapV_put (w : World) {ops : Array Oper} {rest : List Oper} {o : Oper} {a : Act} {Q : Exit → Act → World → Prop}
    (hg : o.guard = none) (m x v : Operand) (hop : o.op = Op.mapUpdate 58 m x v) (b : Nat) (hm : a.eval m = .map (some b)) (ds : List (Nm × Int)) (hown : MapV w b ds)
    (s : Nm) (hx : a.eval x = .string (bs s)) (hs : s.length ≤ maxLen) (n : Int) (hv : a.eval v = .int .i64 n) (hn0 : 0 ≤ n) (hn1 : n ≤ 10) (hn : ds.length < 9223372036854775807) (hnew : inNs (ds.map Prod.fst) s = false)
    (hK : ∀ w', MapV w' b (ds ++ [(s, n)]) → w.grownBy w' (some b) → wpList Tryz.prog ops Q rest (a.put o.dst undef) w') :
    wpList Tryz.prog ops Q (o :: rest) a w := by
  obtain ⟨D, hI, hown, hD⟩ := hown
  refine wpList_mapUpdate_own w hg m x v 58 hop 9 3 (Maps.string_keyed Tryz.underlying9) Tryz.underlying58 (plainElem Tryz.prog 3) b ds.length D hm hown (by unfold maxLen; omega) _ _ _ hx hv (key_bs hs)
    (.lit (.int .i64 n)) [] (plainElem_int Tryz.underlying3 (WalkArith.wf_i64 (by omega))) ?_
  intro w' hown' hg'
  refine hK w' ⟨_, hI.put _ _, by simpa using hown', fun t => ?_⟩ hg'
  obtain ⟨h1, h2⟩ := hD t
  have e1 : inNs ((ds ++ [(s, n)]).map Prod.fst) t = (inNs (ds.map Prod.fst) t || decide (t = s)) := by
    rw [List.map_append]; exact inNs_snoc _ _ _
  rw [e1, num_snoc ds s n t hnew]
  by_cases e : t = s
  · subst e
    rw [Maps.has_put_same hI (by trivial), Maps.atKey_put_same hI (by trivial)]
    simp
  · have hne : (Lit.string t) ≠ Lit.string s := fun h => e (by injection h)
    rw [Maps.has_put_other hne, Maps.atKey_put_other hne, h1, h2]
    simp [e]

theorem Tryz.info54 : (Tryz.prog.info? 54).map (fun i => (i.zero, i.size, i.bytes)) = some (some (.agg #[.string ByteArray.empty, .int .i64 0]), 2, 24) := by kernel_rfl

def encT (ds : List (Nm × Int)) : List Value := ds.flatMap fun d => [.string (bs d.1), .int .i64 d.2]

theorem encT_len (ds : List (Nm × Int)) : (encT ds).length = ds.length * 2 := by
  unfold encT
  induction ds with
  | nil => rfl
  | cons d l ih => rw [List.flatMap_cons, List.length_append, ih, List.length_cons]; simp; omega

theorem encT_get (ds : List (Nm × Int)) : ∀ k, k < ds.length → (encT ds)[k * 2]? = some (.string (bs (ds.getD k ([], 0)).1)) ∧ (encT ds)[k * 2 + 1]? = some (.int .i64 (ds.getD k ([], 0)).2) := by
  induction ds with
  | nil => intro k hk; simp at hk
  | cons d l ih =>
    intro k hk
    have e : encT (d :: l) = .string (bs d.1) :: .int .i64 d.2 :: encT l := rfl
    rw [e]
    cases k with
    | zero => exact ⟨rfl, rfl⟩
    | succ k =>
      obtain ⟨h1, h2⟩ := ih k (by simp at hk; omega)
      rw [show (k + 1) * 2 = k * 2 + 1 + 1 by omega]
      exact ⟨by rw [List.getElem?_cons_succ, List.getElem?_cons_succ, h1]; rfl, by rw [List.getElem?_cons_succ, List.getElem?_cons_succ, h2]; rfl⟩

theorem encT_cases (ds : List (Nm × Int)) (j : Nat) (hj : j < ds.length * 2) : ∃ k, k < ds.length ∧ (j = k * 2 ∨ j = k * 2 + 1) := ⟨j / 2, by omega, by omega⟩

theorem add_none (b off j : Nat) : (Addr.add ⟨b, off, none⟩ j) = ⟨b, off + j, none⟩ := by
  unfold Addr.add
  by_cases h : j = 0
  · subst h; simp
  · simp [h]

theorem Tryz.u23 : Tryz.prog.underlying 23 = some (.slice 54) := by kernel_rfl

theorem encT_one (ds : List (Nm × Int)) : ∀ u ∈ encT ds, u.oneCell' = true := by
  intro u hu
  obtain ⟨d, _, hd⟩ := List.mem_flatMap.1 hu
  simp at hd
  rcases hd with rfl | rfl <;> rfl

set_option maxRecDepth 100000 in
set_option maxHeartbeats 4000000 in
theorem cloneT_raw (i0 : TypeInfo) (z : Value) (hi : Tryz.prog.info? 54 = some i0) (hz0 : i0.zero = some z) (hz1 : i0.size = 2) (hz2 : i0.bytes = 24) (hzs : z.cells.size = 2)
    (ad : Addr) (n c : Nat) (news : List Value) (w : World) (hl : news.length = n * 2) (hn : n ≤ maxLen) (hbig : n * 24 ≤ 140737488355328)
    (hc : ∀ j u, news[j]? = some u → w.cell? (ad.add j) = some u) (h1 : ∀ u ∈ news, u.oneCell' = true) :
    Calls Tryz.prog 52 #[.slice (some ad) n c] w fun e w' => ∃ v', e = .returned v' ∧ w'.ownsRow w.heap.size 54 2 v' n news ∧ v' ≠ .slice none 0 0 ∧ Below w.heap.size w w' := by
  have q23 : ∀ (w : World) (a : Option Addr) (n c n' c' : Nat), (binOp .eql 23 (.slice a n c) (.slice none n' c')).run Tryz.prog w = .ok (.bool a.isNone) w := fun w a n c n' c' => Lib.run_eql_slice_nil w _ _ a n c n' c' Tryz.u23
  have A : Aside (∀ j u, news[j]? = some u → w.cell? (ad.add j) = some u) := hc
  clear hc
  have z91 : ∀ w, (Go.sizeOf 54).run Tryz.prog w = .ok 2 w := fun w => by rw [run_sizeOf _ hi]; simp [Program.cellsOf, hi, hz1]
  have u23 : ∀ w, Sem.run Tryz.prog (underlying 23) w = .ok (TypeDesc.slice 54) w := run_underlying Tryz.u23
  go_enter Tryz.func52, Tryz.ntmps52
  go_wp2_with (at_builtin; refine wpList_append_own _ rfl _ _ 23 rfl w.heap.size 54 i0 z 2 24 Tryz.u23 hi hz0 hz1 hz2 hzs (by decide) _ _ _ rfl (World.ownsRow_made w #[] 0 (Nat.le_refl _) (Nat.zero_le _) (by simp)) ad n c news rfl ?qc1 ?qc2 ?qc3 ?qc4 ?qc5 ?qc6 ?_)
  case qc1 => exact hl
  case qc2 =>
    intro j u hj
    exact Lib.cell?_alloc_some _ (A.out j u hj)
  case qc3 => exact h1
  case qc4 => rw [Nat.zero_add]; exact hn
  case qc5 => rw [Nat.zero_add]; exact hbig
  case qc6 => simp
  intro v' w1 hown hgrow hnil
  go_wp2
  go_ret
  refine ⟨v', rfl, by simpa using hown, ?_, ?_⟩
  · exact hnil
  · exact ((Below.refl _ w).alloc (Nat.le_refl _) _).grown hgrow (by simp) (by intro k hk; simp [Value.ownBlock] at hk; omega)

set_option maxHeartbeats 1000000 in
theorem cloneT_nil (n c : Nat) (w : World) :
    Calls Tryz.prog 52 #[.slice none n c] w fun e w' => e = .returned (.slice none 0 0) ∧ w' = w := by
  have q23 : ∀ (w : World) (a : Option Addr) (n c n' c' : Nat), (binOp .eql 23 (.slice a n c) (.slice none n' c')).run Tryz.prog w = .ok (.bool a.isNone) w := fun w a n c n' c' => Lib.run_eql_slice_nil w _ _ a n c n' c' Tryz.u23
  go_enter Tryz.func52, Tryz.ntmps52
  go_wp2
  go_ret
  exact ⟨rfl, rfl⟩

/-- a slice that begins in a block from B on -/
def OwnAt (B : Nat) (v : Value) : Prop := ∀ ad n c, v = .slice (some ad) n c → B ≤ ad.block

theorem ownAt_of {w : World} {B : Nat} {e : TypeId} {size n : Nat} {v : Value} {xs : List Value} (h : w.ownsRow B e size v n xs) : OwnAt B v := by
  intro ad n' c' hv
  rcases h.2 with ⟨e1, _⟩ | ⟨g, cap, cur, e1, hg, _⟩
  · rw [hv] at e1; cases e1
  · rw [hv] at e1; injection e1 with e1; injection e1 with e1; subst e1; exact hg
theorem ownAt_nil (B : Nat) (n c : Nat) : OwnAt B (.slice none n c) := by intro ad n' c' hv; cases hv

/-- Clone of constructors: the same, in memory of the call's own -/
theorem cloneT_any (v : Value) (ds : List (Nm × Int)) (w : World) (hs : SlT w v ds) (hl3 : ds.length ≤ 300) :
    Calls Tryz.prog 52 #[v] w fun e w' => ∃ v', e = .returned v' ∧ SlT w' v' ds ∧ Below w.heap.size w w' ∧ OwnAt w.heap.size v' := by
  obtain ⟨hlm, a, cap, rfl, hx⟩ := hs
  obtain ⟨i0, hi, hq0, hq1, hq2⟩ := info_parts Tryz.info54
  by_cases hp : 0 < ds.length
  · obtain ⟨b, off, rfl, hb, hc⟩ := hx hp
    refine (cloneT_raw i0 _ hi hq0 hq1 hq2 rfl ⟨b, off, none⟩ ds.length cap (encT ds) w (encT_len ds) hlm (by omega) (fun j u hj => ?_) (encT_one ds)).mono ?_
    · rw [add_none]
      have hjl : j < ds.length * 2 := by
        rw [← encT_len]; exact (List.getElem?_eq_some_iff.1 hj).1
      obtain ⟨k, hk, h | h⟩ := encT_cases ds j hjl
      · subst h; rw [(encT_get ds k hk).1] at hj; rw [(hc k hk).1]; exact hj
      · subst h; rw [(encT_get ds k hk).2] at hj; rw [← Nat.add_assoc, (hc k hk).2.2]; exact hj
    · rintro e w' ⟨v', rfl, hown, _, hB⟩
      refine ⟨v', rfl, ?_, hB, ownAt_of hown⟩
      rcases hown.2 with ⟨_, h0⟩ | ⟨g, c', cur, rfl, hg1, hg2, hg3, hg4, hg5, hg6⟩
      · exact absurd h0 (by omega)
      · refine ⟨hlm, _, _, rfl, fun _ => ⟨g, 0, rfl, ?_, fun k hk => ?_⟩⟩
        · exact (Array.getElem?_eq_some_iff.1 hg2).1
        · refine ⟨?_, (hc k hk).2.1, ?_⟩
          · have := hown.cells (g := g) rfl (k * 2) _ (encT_get ds k hk).1; rw [add_none] at this; simpa using this
          · have := hown.cells (g := g) rfl (k * 2 + 1) _ (encT_get ds k hk).2; rw [add_none] at this; simpa [Nat.add_assoc] using this
  · have h0 : ds = [] := List.eq_nil_of_length_eq_zero (by omega)
    subst h0
    cases a with
    | none =>
      refine (cloneT_nil _ cap w).mono ?_
      rintro e w' ⟨rfl, rfl⟩
      exact ⟨_, rfl, ⟨hlm, none, 0, rfl, fun h => absurd h (by simp)⟩, Below.refl _ _, ownAt_nil _ _ _⟩
    | some ad =>
      refine (cloneT_raw i0 _ hi hq0 hq1 hq2 rfl ad 0 cap [] w rfl (by unfold maxLen; omega) (by omega) (fun j u hj => by simp at hj) (fun u hu => by cases hu)).mono ?_
      rintro e w' ⟨v', rfl, hown, _, hB⟩
      refine ⟨v', rfl, ?_, hB, ownAt_of hown⟩
      rcases hown.2 with ⟨rfl, h0⟩ | ⟨g, c', cur, rfl, _⟩
      · exact ⟨hlm, none, 0, rfl, fun h => absurd h (by simp)⟩
      · exact ⟨hlm, _, _, rfl, fun h => absurd h (by simp)⟩
end Go.Proofs.YtehnikgdjnmfcaaGreat

/- addTypes 52: the constructors and their numbers go into a signature. -/
namespace Go.Proofs.YtehnikgdjnmfcaaGreat
open Go.RowKit Go.WideMaps Go.Shelf Go.Lib
attribute [local go_sem] Oper.semAt_some

/-- all blocks but one are as they were -/
structure ButG (gb : Nat) (w w' : World) : Prop where
  os : w'.os = w.os
  tape : w'.tape = w.tape
  output : w'.output = w.output
  size : w.heap.size ≤ w'.heap.size
  block : ∀ k, k < w.heap.size → k ≠ gb → w'.heap[k]? = w.heap[k]?

theorem ButG.refl (gb : Nat) (w : World) : ButG gb w w := ⟨rfl, rfl, rfl, Nat.le_refl _, fun _ _ _ => rfl⟩
theorem ButG.trans {gb : Nat} {w w' w'' : World} (h : ButG gb w w') (h' : ButG gb w' w'') : ButG gb w w'' :=
  ⟨h'.os.trans h.os, h'.tape.trans h.tape, h'.output.trans h.output, Nat.le_trans h.size h'.size, fun k hk hn => (h'.block k (Nat.lt_of_lt_of_le hk h.size) hn).trans (h.block k hk hn)⟩
theorem ButG.of_below {gb : Nat} {w w' : World} (h : Below w.heap.size w w') : ButG gb w w' := ⟨h.os, h.tape, h.output, h.size, fun k hk _ => h.block k hk⟩
theorem ButG.below {gb B : Nat} {w w' : World} (h : ButG gb w w') (h1 : B ≤ gb) (h2 : B ≤ w.heap.size) : Below B w w' := ⟨h.os, h.tape, h.output, h.size, fun k hk => h.block k (by omega) (by omega)⟩
theorem ButG.set {gb : Nat} {w w' : World} (h : ButG gb w w') (i : Nat) (v : Value) : ButG gb w (w'.setCell ⟨gb, i, none⟩ v) := by
  have hb : Below gb w' (w'.setCell ⟨gb, i, none⟩ v) := (Below.refl gb w').setCell (p := ⟨gb, i, none⟩) (Nat.le_refl _) v
  refine ⟨hb.os.trans h.os, hb.tape.trans h.tape, hb.output.trans h.output, Nat.le_trans h.size hb.size, fun k hk hn => ?_⟩
  refine Eq.trans ?_ (h.block k hk hn)
  exact heap_setCell_other _ _ _ _ hn

theorem SlT.set {w : World} {v : Value} {ds : List (Nm × Int)} {B gb : Nat} (h : SlT w v ds) (ho : OwnAt B v) (hg : gb < B) (i : Nat) (u : Value) : SlT (w.setCell ⟨gb, i, none⟩ u) v ds := by
  obtain ⟨h1, a, cap, h2, h3⟩ := h
  have hb := (ButG.refl gb w).set i u
  refine ⟨h1, a, cap, h2, fun h => ?_⟩
  obtain ⟨b, off, h4, h5, h6⟩ := h3 h
  subst h4
  have hne : b ≠ gb := by have := ho _ _ _ h2; simp at this; omega
  refine ⟨b, off, rfl, Nat.lt_of_lt_of_le h5 hb.size, fun k hk => ?_⟩
  obtain ⟨g1, g2, g3⟩ := h6 k hk
  exact ⟨(World.cell?_of_block (hb.block b h5 hne)).trans g1, g2, (World.cell?_of_block (hb.block b h5 hne)).trans g3⟩

set_option maxRecDepth 100000 in
set_option maxHeartbeats 8000000 in
theorem addTypes_any (gb : Nat) (c0 c1 c2 v : Value) (ds : List (Nm × Int)) (w0 w : World) (hB0 : Below w0.heap.size w0 w) (hgb : w0.heap.size ≤ gb) (hgw : gb < w.heap.size)
    (hrow : w.heap[gb]? = some (.cells #[c0, c1, c2, .slice none 0 0, .map none, .map none] 63 (0, 0))) (hd : SlT w0 v ds) :
    Calls Tryz.prog 35 #[.pointer (some ⟨gb, 0, none⟩), v] w fun e w' => e = .returned (.int .i64 (typesErr ds)) ∧ ButG gb w w' ∧
      (typesErr ds = 0 → ∃ mb tv, w'.heap[gb]? = some (.cells #[c0, c1, c2, tv, .map (some mb), .map none] 63 (0, 0)) ∧ w.heap.size ≤ mb ∧ MapV w' mb ds ∧ SlT w' tv ds) := by
  have HD := Lib.hid hd
  obtain ⟨hl, da, dcap, rfl, _⟩ := hd
  unfold maxLen at hl
  by_cases h300 : 300 < ds.length
  · have hd3 : decide (300 < ((ds.length : Nat) : Int)) = true := by simp; omega
    have HE : Hid (typesErr ds = 5) := by unfold Hid typesErr; rw [if_pos h300]
    go_enter Tryz.func35, Tryz.ntmps35
    go_wp2_with fail
    go_ret
    exact ⟨by rw [HE.out]; rfl, ButG.refl _ _, fun e => absurd (HE.out.symm.trans e) (by decide)⟩
  · have hd3 : decide (300 < ((ds.length : Nat) : Int)) = false := by simp; omega
    have HE : Hid (typesErr ds = declErrFrom ds (ds.length - 0) 0) := by unfold Hid typesErr; rw [if_neg h300]; rfl
    have hmk := run_mk
    have q4 : (w.alloc (.map #[] 0)).cell? ⟨gb, 4, none⟩ = some (.map none) := by rw [cell_of_row _ gb 4 _ _ _ (((below_alloc w _).block gb hgw).trans hrow)]; rfl
    have f4 : (w.alloc (.map #[] 0)).frozen? ⟨gb, 4, none⟩ = false := frozen_of_row _ gb 4 _ _ (((below_alloc w _).block gb hgw).trans hrow)
    go_enter Tryz.func35, Tryz.ntmps35
    go_wp2_with fail
    have hB1 : ButG gb w ((w.setCell ⟨gb, 4, none⟩ (.map (some w.heap.size))).alloc (.map #[] 0)) := by
      have h := (ButG.refl gb w).set 4 (.map (some w.heap.size))
      exact h.trans (ButG.of_below (below_alloc _ _))
    have hs1 : (w.setCell ⟨gb, 4, none⟩ (.map (some w.heap.size))).heap.size = w.heap.size := by simp
    have hr1 : Hid (((w.setCell ⟨gb, 4, none⟩ (.map (some w.heap.size))).alloc (.map #[] 0)).heap[gb]? = some (.cells #[c0, c1, c2, .slice none 0 0, .map (some w.heap.size), .map none] 63 (0, 0))) :=
      ((below_alloc _ _).block gb (by rw [hs1]; exact hgw)).trans (heap_setCell_same _ gb 4 _ 63 _ hrow)
    have hm1 : Hid (MapV ((w.setCell ⟨gb, 4, none⟩ (.map (some w.heap.size))).alloc (.map #[] 0)) w.heap.size []) :=
      mapV_empty (by have := heap_alloc_new (w.setCell ⟨gb, 4, none⟩ (.map (some w.heap.size))) (.map #[] 0); rw [hs1] at this; exact this)
    have hz1 : w.heap.size + 1 ≤ ((w.setCell ⟨gb, 4, none⟩ (.map (some w.heap.size))).alloc (.map #[] 0)).heap.size := by simp
    generalize ((w.setCell ⟨gb, 4, none⟩ (.map (some w.heap.size))).alloc (.map #[] 0)) = W0 at *
    have hbW0 : Below w0.heap.size w0 W0 := hB0.trans (hB1.below hgb (by omega))
    clear q4 f4 hmk
    go_loopw [20] (fun i wr => ∃ k : Nat, k ≤ ds.length ∧ i = .int .i64 k ∧ Hid (MapV wr w.heap.size (ds.take k)) ∧ Below w.heap.size W0 wr ∧ Hid (typesErr ds = declErrFrom ds (ds.length - k) k)) (fun i _ => ds.length - (intOf i).toNat)
    case atStart => exact ⟨0, by omega, rfl, hm1, Below.refl _ _, HE⟩
    case round =>
      obtain ⟨k, hk, rfl, hM, hB, hE⟩ := hrel
      have hz := hB.size
      have hbw : ButG gb w wr := ⟨hB.os.trans hB1.os, hB.tape.trans hB1.tape, hB.output.trans hB1.output, by omega, fun j hj hn => (hB.block j hj).trans (hB1.block j hj hn)⟩
      have hb0 : Below w0.heap.size w0 wr := hB0.trans (hbw.below hgb hB0.size)
      have hrow1 := Lib.hid ((hB.block gb hgw).trans hr1.out)
      by_cases hlt : k < ds.length
      · obtain ⟨_, da', dcap', hee, hsx⟩ := HD.out
        injection hee with hee _ hee2
        subst hee hee2
        obtain ⟨b, off, rfl, hb, hcl⟩ := hsx (by omega)
        obtain ⟨g0w, hnl, g1w⟩ := hcl k hlt
        have g0 := (hb0.cell (p := ⟨b, off + k * 2, none⟩) hb).trans g0w
        have g1 := (hb0.cell (p := ⟨b, off + k * 2 + 1, none⟩) hb).trans g1w
        have htake : Hid (ds.take (k + 1) = ds.take k ++ [ds.getD k ([], 0)]) := take_snocD ds ([], 0) k hlt
        have hstep : Hid (typesErr ds = if declErr ((ds.take k).map Prod.fst) (ds.getD k ([], 0)) = 0 then declErrFrom ds (ds.length - (k + 1)) (k + 1) else declErr ((ds.take k).map Prod.fst) (ds.getD k ([], 0))) := by
          unfold Hid; rw [hE.out]
          have : ds.length - k = (ds.length - (k + 1)) + 1 := by omega
          rw [this, List.map_take]; rfl
        have hlen : Hid ((ds.take k).length = k) := by unfold Hid; rw [List.length_take]; omega
        clear hcl hsx hE HE g0w g1w
        generalize hdd : ds.getD k ([], 0) = d at *
        clear hdd
        obtain ⟨nm, ar⟩ := d
        simp only at g0 g1 hnl
        have HN := Lib.hid (isName_any (bs nm))
        by_cases h1 : isNameB (bs nm) = false
        · have HF : Hid (typesErr ds = 30) := by
            unfold Hid; rw [hstep.out]
            have : declErr ((ds.take k).map Prod.fst) (nm, ar) = 30 := by unfold declErr; rw [if_pos h1]
            rw [this]; rfl
          clear hstep
          go_wp2_with fail
          refine (HN.out _ (by rw [bs_size]; exact hnl)).mono ?_
          rw [h1]
          rintro e w1 ⟨rfl, rfl⟩
          go_wp2_with fail
          go_ret
          exact ⟨by rw [HF.out]; rfl, hbw.trans (ButG.of_below (below_alloc _ _)), fun e => absurd (HF.out.symm.trans e) (by decide)⟩
        · have h1' : isNameB (bs nm) = true := by simpa using h1
          have hm2 := hM.out.below (below_alloc wr (Obj.cells #[.string (bs nm), .int .i64 ar] 54)) hM.out.lt
          have hlk := fun q => (hm2.drewN q).look hnl
          have p4 : (wr.alloc (Obj.cells #[.string (bs nm), .int .i64 ar] 54)).cell? ⟨gb, 4, none⟩ = some (.map (some w.heap.size)) := by
            rw [cell_of_row _ gb 4 _ _ _ (((below_alloc wr _).block gb (by omega)).trans hrow1.out)]; rfl
          by_cases h2 : inNs ((ds.take k).map Prod.fst) nm = true
          · have HF : Hid (typesErr ds = 10) := by
              unfold Hid; rw [hstep.out]
              have : declErr ((ds.take k).map Prod.fst) (nm, ar) = 10 := by unfold declErr; rw [if_neg h1]; simp only; rw [if_pos h2]
              rw [this]; rfl
            rw [h2] at hlk
            have HLK := Lib.hid hlk
            clear hstep h2 hlk h1
            go_wp2_with fail
            refine (HN.out _ (by rw [bs_size]; exact hnl)).mono ?_
            rw [h1']
            rintro e w1 ⟨rfl, rfl⟩
            have hlk := HLK.out
            go_wp2_with fail
            go_quiet (fail)
            go_wp2_with fail
            go_ret
            exact ⟨by rw [HF.out]; rfl, hbw.trans (ButG.of_below (below_drewN (below_alloc _ _) _)), fun e => absurd (HF.out.symm.trans e) (by decide)⟩
          · have h2' : inNs ((ds.take k).map Prod.fst) nm = false := by simpa using h2
            rw [h2'] at hlk
            have HLK := Lib.hid hlk
            clear hlk
            by_cases h3 : ar < 0
            · have hd1 : decide (ar < 0) = true := decide_eq_true h3
              have HF : Hid (typesErr ds = 4) := by
                unfold Hid; rw [hstep.out]
                have : declErr ((ds.take k).map Prod.fst) (nm, ar) = 4 := by unfold declErr; rw [if_neg h1]; simp only; rw [if_neg h2, if_pos (.inl h3)]
                rw [this]; rfl
              clear hstep h1 h2 h2'
              go_wp2_with fail
              refine (HN.out _ (by rw [bs_size]; exact hnl)).mono ?_
              rw [h1']
              rintro e w1 ⟨rfl, rfl⟩
              have hlk := HLK.out
              go_wp2_with fail
              go_quiet (fail)
              clear hlk
              go_wp2_with fail
              go_ret
              exact ⟨by rw [HF.out]; rfl, hbw.trans (ButG.of_below (below_drewN (below_alloc _ _) _)), fun e => absurd (HF.out.symm.trans e) (by decide)⟩
            · have hd1 : decide (ar < 0) = false := decide_eq_false h3
              by_cases h4 : 10 < ar
              · have hd2 : decide (10 < ar) = true := decide_eq_true h4
                have HF : Hid (typesErr ds = 4) := by
                  unfold Hid; rw [hstep.out]
                  have : declErr ((ds.take k).map Prod.fst) (nm, ar) = 4 := by unfold declErr; rw [if_neg h1]; simp only; rw [if_neg h2, if_pos (.inr h4)]
                  rw [this]; rfl
                clear hstep h1 h2 h2'
                go_wp2_with fail
                refine (HN.out _ (by rw [bs_size]; exact hnl)).mono ?_
                rw [h1']
                rintro e w1 ⟨rfl, rfl⟩
                have hlk := HLK.out
                go_wp2_with fail
                go_quiet (fail)
                clear hlk
                go_wp2_with fail
                go_ret
                exact ⟨by rw [HF.out]; rfl, hbw.trans (ButG.of_below (below_drewN (below_alloc _ _) _)), fun e => absurd (HF.out.symm.trans e) (by decide)⟩
              · have hd2 : decide (10 < ar) = false := decide_eq_false h4
                have hst2 : Hid (typesErr ds = declErrFrom ds (ds.length - (k + 1)) (k + 1)) := by
                  unfold Hid; rw [hstep.out]
                  have : declErr ((ds.take k).map Prod.fst) (nm, ar) = 0 := by unfold declErr; rw [if_neg h1]; simp only; rw [if_neg h2, if_neg (by omega)]
                  rw [if_pos this]
                have HNEW := Lib.hid h2'
                clear hstep h1 h2 h2'
                go_wp2_with fail
                refine (HN.out _ (by rw [bs_size]; exact hnl)).mono ?_
                rw [h1']
                rintro e w1 ⟨rfl, rfl⟩
                have hlk := HLK.out
                go_wp2_with fail
                go_quiet (fail)
                clear hlk
                go_wp2_with fail
                clear hd1 hd2 p4 HLK
                refine still_tail 8 (by kernel_rfl) (by kernel_rfl) ?_
                intro w2 hw2
                have hb2 : Below wr.heap.size wr w2 := by rw [hw2]; exact (below_drewN (below_alloc _ _) _).drew
                have hz2 : wr.heap.size + 1 ≤ w2.heap.size := by rw [hw2]; show _ ≤ (wr.alloc _).heap.size; simp
                have hbx2 : w2.heap[wr.heap.size]? = some (.cells #[.string (bs nm), .int .i64 ar] 54 (0, 0)) := by rw [hw2]; exact heap_alloc_new wr _
                have p0 : w2.cell? ⟨wr.heap.size, 0, none⟩ = some (.string (bs nm)) := by rw [cell_of_row _ _ 0 _ _ _ hbx2]; rfl
                have p1 : w2.cell? ⟨wr.heap.size, 1, none⟩ = some (.int .i64 ar) := by rw [cell_of_row _ _ 1 _ _ _ hbx2]; rfl
                have p4 : w2.cell? ⟨gb, 4, none⟩ = some (.map (some w.heap.size)) := by rw [cell_of_row _ gb 4 _ _ _ ((hb2.block gb (by omega)).trans hrow1.out)]; rfl
                have hm2' := hM.out.below hb2 hM.out.lt
                clear hw2 hm2
                simp only [List.take_succ_cons, List.take_zero, List.drop_succ_cons, List.drop_zero]
                repeat still_step
                refine wpStill_nil ?_
                refine wpList_mapV_put _ rfl _ _ _ rfl w.heap.size rfl (ds.take k) hm2' nm rfl hnl ar rfl (by omega) (by omega) (by rw [hlen.out]; omega) HNEW.out ?_
                intro w3 hm3 hg3
                rw [← htake.out] at hm3
                have HM3 := Lib.hid hm3
                have hB3 : Below w.heap.size W0 w3 := (hB.trans (hb2.mono (by omega))).grown hg3 (by omega) (fun r e => by cases e; exact Nat.le_refl _)
                clear hm3 hg3 p0 p1 p4 hbx2 hm2'
                go_wp2_with fail
                go_round
                case rel => exact ⟨k + 1, by omega, by go_num, HM3, hB3, hst2⟩
                case measure => simp [intOf]; omega
      · have hkk : k = ds.length := by omega
        subst hkk
        have hE0 : Hid (typesErr ds = 0) := by unfold Hid; rw [hE.out, Nat.sub_self]; rfl
        rw [List.take_length] at hM
        have HC := Lib.hid (cloneT_any (.slice da ds.length dcap) ds wr (HD.out.below hb0 (Nat.le_refl _)) (by omega))
        clear hE HE
        go_wp2_with fail
        refine HC.out.mono ?_
        rintro e w2 ⟨v', rfl, hs2, hb2, ho2⟩
        have hrow2 := (hb2.block gb (by omega)).trans hrow1.out
        have p3 : w2.cell? ⟨gb, 3, none⟩ = some (.slice none 0 0) := by rw [cell_of_row _ gb 3 _ _ _ hrow2]; rfl
        have f3 : w2.frozen? ⟨gb, 3, none⟩ = false := frozen_of_row _ gb 3 _ _ hrow2
        have hs2f := hs2
        obtain ⟨_, a', cap', rfl, _⟩ := hs2f
        have HS2 := Lib.hid hs2
        have HR2 := Lib.hid hrow2
        clear hs2 hrow2
        have hM2 := Lib.hid (hM.out.below hb2 hM.out.lt)
        have HO2 := Lib.hid ho2
        clear ho2
        go_wp2_with fail
        go_ret
        have hbs := (ButG.refl gb w2).set 3 (.slice a' ds.length cap')
        refine ⟨by rw [hE0.out]; rfl, (hbw.trans (ButG.of_below hb2)).trans hbs, fun _ => ⟨w.heap.size, _, heap_setCell_same _ gb 3 _ 63 _ HR2.out, Nat.le_refl _, hM2.out.block (hbs.block _ hM2.out.lt (by omega)), HS2.out.set HO2.out (by omega) 3 _⟩⟩
end Go.Proofs.YtehnikgdjnmfcaaGreat
