/- slices.Concat of two slices of strings. -/
import Derived.Test.YtehnikgdjnmfcaaGreatMZ13
import Derived.Test.YtehnikgdjnmfcaaGreatMZ14
import Derived.Test.YtehnikgdjnmfcaaGreatMZ15
import Derived.Deep.AppendSrc
import Derived.Deep.Upon
import Derived.Deep.RegionHeld3
namespace Go.Proofs.YtehnikgdjnmfcaaGreat
open Go.RowKit Go.WideMaps Go.Shelf Go.Sort Go.Lib Go.Deep

theorem wpList_append_sls (w : World) {ops : Array Oper} {rest : List Oper} {o : Oper} {a : Act} {Q : Exit → Act → World → Prop} (hgd : o.guard = none) (s x : Operand)
    (ho : o.op = .call { callee := .builtin .append, args := #[s, x], argTypes := #[27, 27] }) (base : Nat) (v vx : Value) (n : Nat) (xs : List Value) (ss : List Nm) (hs : a.eval s = v) (hown : w.ownsRow base 9 1 v n xs) (hx : a.eval x = vx) (hsl : SlS w vx ss)
    (hb : (n + ss.length) * 16 ≤ 140737488355328) (hbase : base ≤ w.heap.size)
    (h : ∀ v' w', w'.ownsRow base 9 1 v' (n + ss.length) (xs ++ ss.map encStr) → w.grownBy w' v.ownBlock → wpList Tryz.prog ops Q rest (a.put o.dst v') w') :
    wpList Tryz.prog ops Q (o :: rest) a w := by
  obtain ⟨i0, hi, hq0, hq1, hq2⟩ := info_parts Tryz.info9
  obtain ⟨hl, sa, cap, rfl, hsx⟩ := hsl
  by_cases hn : 0 < ss.length
  · obtain ⟨b, off, rfl, hlt, hc, hw⟩ := hsx hn
    refine wpList_append_own w hgd s x 27 ho base 9 i0 (.string ByteArray.empty) 1 16 Tryz.underlying27 hi hq0 hq1 hq2 rfl (by decide) v n xs hs hown ⟨b, off, none⟩ ss.length cap (ss.map encStr) hx (by simp) (fun j u hj => ?_) (fun u hu => ?_) (by unfold maxLen; omega) hb hbase (fun v' w' h1 h2 _ => h v' w' h1 h2)
    · rw [List.getElem?_map] at hj
      obtain ⟨y, hy, rfl⟩ := Option.map_eq_some_iff.1 hj
      have hjl := (List.getElem?_eq_some_iff.1 hy).1
      have e : (Addr.add ⟨b, off, none⟩ j) = ⟨b, off + j, none⟩ := by
        unfold Addr.add
        by_cases h : j = 0
        · subst h; simp
        · simp [h]
      rw [e, hc j hjl, List.getD_eq_getElem?_getD, hy]; rfl
    · obtain ⟨y, _, rfl⟩ := List.mem_map.1 hu
      rfl
  · have h0 : ss = [] := List.eq_nil_of_length_eq_zero (by omega)
    subst h0
    have hform : ∃ p l c, v = .slice p l c ∧ l ≤ c ∧ l = n := by
      rcases hown.2 with ⟨e1, e2⟩ | ⟨g, cap', cur, e1, _, _, hle, _⟩
      · exact ⟨none, 0, 0, e1, Nat.le_refl _, e2.symm⟩
      · exact ⟨_, n, cap', e1, hle, rfl⟩
    obtain ⟨p, l, c, rfl, hle, rfl⟩ := hform
    have hsrc : Src Tryz.prog i0.size 27 (.slice sa 0 cap) 0 [] w := by
      cases sa with
      | none => exact Src.ofNil _ Tryz.underlying27 cap
      | some ad => exact Src.ofSlice _ Tryz.underlying27 ad 0 cap [] (by simp) (fun j u hj => by simp at hj) (fun u hu => by simp at hu)
    have hr := run_append_nothing w 27 27 o.type 9 i0 Tryz.underlying27 hi p l c hle (.slice sa 0 cap) hsrc
    refine wpList_plain hgd fun K hK => ?_
    unfold Oper.wp execOp
    have hx' : a.eval x = .slice sa 0 cap := hx
    simp only [ho, resolve, invoke, builtin, Sem.run_bind, Sem.run_pure, Result.andThen_ok, List.map_toArray, List.map_cons, List.map_nil, hs, hx', hr]
    exact hK _ _ (h _ _ (by simpa using hown) (World.grownBy.refl _ _))

def rowA (ss ts : List Nm) (k : Nat) : List Nm := if k = 0 then [] else if k = 1 then ss else ss ++ ts

def szA (ss ts : List Nm) (k : Nat) : Nat := if k = 0 then 0 else if k = 1 then ss.length else ss.length + ts.length

end Go.Proofs.YtehnikgdjnmfcaaGreat

/- Meet. -/
namespace Go.Proofs.YtehnikgdjnmfcaaGreat
open Go.RowKit Go.WideMaps Go.Shelf

def meetErr (ns : List Nm) (abv : Nat → List Nat) (ss ts : List Nm) : Int :=
  if normErr ns ss ≠ 0 then normErr ns ss else if normErr ns ts ≠ 0 then normErr ns ts else if 20 < (leastB ns abv (ss ++ ts)).length then 5 else 0

theorem meetErr_zero {ns : List Nm} {abv : Nat → List Nat} {ss ts : List Nm} (h : meetErr ns abv ss ts = 0) : normErr ns ss = 0 ∧ normErr ns ts = 0 ∧ (leastB ns abv (ss ++ ts)).length ≤ 20 := by
  unfold meetErr at h
  by_cases h1 : normErr ns ss = 0
  · rw [if_neg (by simpa using h1)] at h
    by_cases h2 : normErr ns ts = 0
    · rw [if_neg (by simpa using h2)] at h
      by_cases h3 : 20 < (leastB ns abv (ss ++ ts)).length
      · rw [if_pos h3] at h; exact absurd h (by decide)
      · exact ⟨h1, h2, by omega⟩
    · rw [if_pos h2] at h; exact absurd h h2
  · rw [if_pos h1] at h; exact absurd h h1

def MeetPost (w : World) (ns : List Nm) (abv : Nat → List Nat) (ss ts : List Nm) (e : Ending) (w' : World) : Prop :=
  ∃ v', e = .returned (.tuple #[v', .int .i64 (meetErr ns abv ss ts)]) ∧ Below w.heap.size w w' ∧ (meetErr ns abv ss ts = 0 → SlO w' w.heap.size v' (leastB ns abv (ss ++ ts)))

end Go.Proofs.YtehnikgdjnmfcaaGreat

/- The law of the order of sorts. -/
namespace Go.Proofs.YtehnikgdjnmfcaaGreat
open Go.RowKit Go.WideMaps Go.Shelf

/-- what Meet returns -/
def MeetTPost (w : World) (cs : List (Nm × List Nm)) (ss ts : List Nm) (e : Ending) (w' : World) : Prop :=
  ∃ v' er, e = .returned (.tuple #[v', .int .i64 er]) ∧ Below w.heap.size w w' ∧ (clsErr cs ≠ 0 → er = clsErr cs) ∧
    (clsErr cs = 0 → ∃ sp ab, Built cs sp ab ∧ er = meetErr (cs.map Prod.fst) (fun i => ab.getD i []) ss ts ∧ (er = 0 → SlO w' w.heap.size v' (leastB (cs.map Prod.fst) (fun i => ab.getD i []) (ss ++ ts))))

theorem slSS3 {w : World} {k c : Nat} {p1 p2 p3 : Option Addr} {n1 c1 n2 c2 n3 c3 : Nat} {fr : Nat × Nat} (h : w.heap[k]? = some (.cells #[.slice p1 n1 c1, .slice p2 n2 c2, .slice p3 n3 c3] 27 fr)) : SlSS w (.slice (some ⟨k, 0, none⟩) 3 c) := by
  refine ⟨_, 3, c, rfl, by decide, fun _ => ⟨k, 0, rfl, (Array.getElem?_eq_some_iff.1 h).1, fun j hj => ?_⟩⟩
  rw [cell_of_row w _ _ _ _ _ h]
  have : j = 0 ∨ j = 1 ∨ j = 2 := by omega
  rcases this with rfl | rfl | rfl
  · exact ⟨_, _, _, rfl⟩
  · exact ⟨_, _, _, rfl⟩
  · exact ⟨_, _, _, rfl⟩
end Go.Proofs.YtehnikgdjnmfcaaGreat

/- Normal and Meet, with what they return beside an error. -/
namespace Go.Proofs.YtehnikgdjnmfcaaGreat
open Go.RowKit Go.WideMaps Go.Shelf

def nErr (cs : List (Nm × List Nm)) (ss : List Nm) : Int := if clsErr cs = 0 then normErr (cs.map Prod.fst) ss else clsErr cs
def mErr (cs : List (Nm × List Nm)) (ab : List (List Nat)) (ss ts : List Nm) : Int := if clsErr cs = 0 then meetErr (cs.map Prod.fst) (fun i => ab.getD i []) ss ts else clsErr cs

/-- what Normal and Meet return: an error, and a sort where it is none -/
def NPost (w : World) (er : Int) (L : List Nm) (e : Ending) (w' : World) : Prop :=
  ∃ v', e = .returned (.tuple #[v', .int .i64 er]) ∧ Below w.heap.size w w' ∧ SlS w' v' (if er = 0 then L else [])

theorem meetErr_known {ns : List Nm} {abv : Nat → List Nat} {ss ts : List Nm} (h : meetErr ns abv ss ts = 0) : ∀ x ∈ ss ++ ts, inNs ns x = true := by
  obtain ⟨h1, h2, _⟩ := meetErr_zero h
  intro x hx
  rcases List.mem_append.1 hx with hx | hx
  · exact List.all_eq_true.1 (normErr_zero h1).2 x hx
  · exact List.all_eq_true.1 (normErr_zero h2).2 x hx

theorem meetErr_eq {cs : List (Nm × List Nm)} {sp ab sp' ab' : List (List Nat)} (hb : Built cs sp ab) (hb' : Built cs sp' ab') {ss ts : List Nm} :
    meetErr (cs.map Prod.fst) (fun i => ab.getD i []) ss ts = meetErr (cs.map Prod.fst) (fun i => ab'.getD i []) ss ts := by
  unfold meetErr
  by_cases h1 : normErr (cs.map Prod.fst) ss = 0
  · have n1 : ¬ (normErr (cs.map Prod.fst) ss ≠ 0) := by simpa using h1
    rw [if_neg n1, if_neg n1]
    by_cases h2 : normErr (cs.map Prod.fst) ts = 0
    · have n2 : ¬ (normErr (cs.map Prod.fst) ts ≠ 0) := by simpa using h2
      rw [if_neg n2, if_neg n2]
      rw [least_eq hb hb' (ss := ss ++ ts) (tt := ss ++ ts) (fun x hx => ?_) (fun _ => Iff.rfl)]
      rcases List.mem_append.1 hx with hx | hx
      · exact List.all_eq_true.1 (normErr_zero h1).2 x hx
      · exact List.all_eq_true.1 (normErr_zero h2).2 x hx
    · rw [if_pos h2, if_pos h2]
  · rw [if_pos h1, if_pos h1]

def MeetPost2 (w : World) (ns : List Nm) (abv : Nat → List Nat) (ss ts : List Nm) (e : Ending) (w' : World) : Prop :=
  ∃ v', e = .returned (.tuple #[v', .int .i64 (meetErr ns abv ss ts)]) ∧ Below w.heap.size w w' ∧ (meetErr ns abv ss ts = 0 → SlO w' w.heap.size v' (leastB ns abv (ss ++ ts))) ∧ (meetErr ns abv ss ts ≠ 0 → v' = .slice none 0 0)

set_option maxRecDepth 100000 in
set_option maxHeartbeats 4000000 in
theorem normal_p (t v : Value) (cs : List (Nm × List Nm)) (ab0 : List (List Nat)) (ss : List Nm) (w : World) (ht : ThAt w t cs) (hs : SlS w v ss) (hab : clsErr cs = 0 → ∃ sp, Built cs sp ab0) :
    Calls Tryz.prog 17 #[t, v] w (NPost w (nErr cs ss) (leastB (cs.map Prod.fst) (fun i => ab0.getD i []) ss)) := by
  obtain ⟨n, c, t2, t3, t4, t5, t6, rfl, hc⟩ := ht
  have HC := Lib.hid hc
  have HS := Lib.hid hs
  obtain ⟨_, sa, scap, rfl, _⟩ := hs
  obtain ⟨_, ca, ccap, rfl, _⟩ := hc
  go_enter Tryz.func17, Tryz.ntmps17
  go_wp2_with fail
  have hb0 := below_alloc w (Obj.cells #[n, .slice ca cs.length ccap, t2, t3, t4, t5, t6] 29)
  refine (signClasses_any _ cs _ (HC.out.below hb0 (Nat.le_refl _))).mono ?_
  rintro e w1 ⟨mb, a1, n1, k1, a2, n2, k2, rfl, hb1, hsig⟩
  have hB1 : Below w.heap.size w w1 := hb0.trans (hb1.mono (by simp))
  have hz1 := hB1.size
  by_cases h0 : clsErr cs = 0
  · obtain ⟨sp, ab, hbu, hsg⟩ := hsig h0
    have HSG := Lib.hid hsg
    have H0 := Lib.hid h0
    have HBU := Lib.hid hbu
    rw [h0]
    clear hsig h0 hbu
    go_wp2_with fail
    have hb2 := below_alloc w1 (Obj.cells #[.map mb, .slice a1 n1 k1, .slice a2 n2 k2, .slice none 0 0, .map none, .map none] 63)
    refine (normal_sig _ _ ss (cs.map Prod.fst) (fun i => ab.getD i []) _ (HSG.out.below hb2 (Nat.le_refl _)) ((HS.out.below hB1 (Nat.le_refl _)).below hb2 (Nat.le_refl _))).mono ?_
    rintro e w2 ⟨v', rfl, hb3, h4, h5⟩
    have hz2 := hb2.size
    have HE : Hid (NPost w (nErr cs ss) (leastB (cs.map Prod.fst) (fun i => ab0.getD i []) ss) (.returned (.tuple #[v', .int .i64 (normErr (cs.map Prod.fst) ss)])) w2) := by
      have e1 : nErr cs ss = normErr (cs.map Prod.fst) ss := by unfold nErr; rw [if_pos H0.out]
      refine ⟨v', by rw [e1], hB1.trans ((hb2.mono hz1).trans (hb3.mono (by omega))), ?_⟩
      rw [e1]
      by_cases hn : normErr (cs.map Prod.fst) ss = 0
      · rw [if_pos hn]
        obtain ⟨sp0, hb0'⟩ := hab H0.out
        rw [← least_eq HBU.out hb0' (List.all_eq_true.1 (normErr_zero hn).2) (fun _ => Iff.rfl)]
        exact (h4 hn).sl
      · rw [if_neg hn, h5 hn]; exact slS0
    clear h4 h5
    generalize normErr (cs.map Prod.fst) ss = r at *
    go_wp2_with fail
    go_ret2
    exact HE.out
  · have hd : decide (clsErr cs = 0) = false := by simpa using h0
    have H0 := Lib.hid h0
    have HER : Hid (nErr cs ss = clsErr cs) := by unfold Hid nErr; rw [if_neg h0]
    generalize hce : clsErr cs = ce at *
    clear hsig
    go_wp2_with fail
    go_ret2
    refine ⟨_, by rw [HER.out]; rfl, hB1.trans ((below_alloc w1 _).mono hz1), ?_⟩
    rw [HER.out, if_neg H0.out]
    exact slS0

end Go.Proofs.YtehnikgdjnmfcaaGreat
