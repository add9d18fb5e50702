/- Args of narrower sorts, and of a Meet: pure facts. -/
import Derived.Test.YtehnikgdjnmfcaaMB30
import Derived.Test.YtehnikgdjnmfcaaMB11
import Derived.Test.YtehnikgdjnmfcaaMB15
import Derived.Test.YtehnikgdjnmfcaaMB16
namespace Go.Proofs.Ytehnikgdjnmfcaa
open Go.RowKit Go.WideMaps Go.Shelf Go.Sort Go.Lib

section
variable {cs : List (Nm × List Nm)} {sp abl : List (List Nat)} {ds : List (Nm × Int)} {rs : List Ar} {name : Nm}

theorem getD_ix {ns : List Nm} {c : Nm} (h : inNs ns c = true) : ns.getD (ixOf ns c) [] = c := by
  have hc := of_decide_eq_true h
  unfold ixOf
  rw [if_pos hc, List.getD_eq_getElem?_getD, List.getElem?_eq_getElem (List.idxOf_lt_length_of_mem hc), Option.getD_some]
  exact List.getElem_idxOf _

/-- an arity for a class is narrower than those for the classes above -/
theorem reg_le (hb : Built cs sp abl) (har : arsErr cs abl ds rs = 0) (hreg : regAll cs abl rs = true) {c' c : Nm} (hi : inP (rs.map arKey) (name, c') = true) (hk' : inNs (cs.map Prod.fst) c' = true) (hk : inNs (cs.map Prod.fst) c = true) (hle : leN (cs.map Prod.fst) sp c' c) :
    inP (rs.map arKey) (name, c) = true ∧ ∀ i, ∀ y ∈ (arAt rs (name, c)).getD i [], ∃ z ∈ (arAt rs (name, c')).getD i [], leN (cs.map Prod.fst) sp z y := by
  obtain ⟨hlt, hlen, _⟩ := arAt_facts har hi
  have hat := ixP_at hi ([], [])
  rw [key_at rs _ hlt] at hat
  have h1 : (rs.getD (ixP (rs.map arKey) (name, c')) ar0).1 = name := congrArg Prod.fst hat
  have h2 : (rs.getD (ixP (rs.map arKey) (name, c')) ar0).2.1 = c' := congrArg Prod.snd hat
  have hB := List.all_eq_true.1 hreg _ (List.mem_range.2 hlt)
  have hixc := ixOf_lt hk
  rw [List.length_map] at hixc
  have hixc' := ixOf_lt hk'
  rw [List.length_map] at hixc'
  have hO := List.all_eq_true.1 hB _ (List.mem_range.2 hixc)
  rw [h2] at hO
  have hm : ixOf (cs.map Prod.fst) c ∈ abl.getD (ixOf (cs.map Prod.fst) c') [] := (hb.mem _ hixc' _).2 hle
  rw [decide_eq_true hm, Bool.not_true, Bool.false_or] at hO
  unfold regOne at hO
  rw [h1, cname_at, getD_ix hk, Bool.and_eq_true] at hO
  obtain ⟨hin, hw⟩ := hO
  refine ⟨hin, fun i y hy => ?_⟩
  obtain ⟨_, hlen2, _⟩ := arAt_facts har hin
  have hii : i < (arAt rs (name, c)).length := by
    refine Classical.byContradiction fun hn => ?_
    rw [List.getD_eq_getElem?_getD, List.getElem?_eq_none (by omega)] at hy
    simp at hy
  have hll : (arAt rs (name, c')).length = (arAt rs (name, c)).length := by
    have : (((arAt rs (name, c')).length : Nat) : Int) = (((arAt rs (name, c)).length : Nat) : Int) := hlen.trans hlen2.symm
    omega
  have hW := List.all_eq_true.1 hw i (List.mem_range.2 (show i < (arAt rs (name, c')).length by omega))
  have hy2 := List.all_eq_true.1 hW y hy
  obtain ⟨z, hz, hbz⟩ := List.any_eq_true.1 hy2
  have hzk := List.all_eq_true.1 (arAt_get (cs := cs) (abl := abl) (ds := ds) har hi i).1 z hz
  exact ⟨z, hz, (belowB_iff hb hzk).1 hbz⟩

theorem mem_wantL {s : List Nm} {i : Nat} {y : Nm} : y ∈ wantL rs name s i ↔ ∃ c ∈ s, y ∈ (arAt rs (name, c)).getD i [] := by
  unfold wantL
  exact List.mem_flatMap

theorem want_le (hb : Built cs sp abl) (har : arsErr cs abl ds rs = 0) (hreg : regAll cs abl rs = true) {a b : List Nm} (ha : a.all (inNs (cs.map Prod.fst)) = true) (hbk : b.all (inNs (cs.map Prod.fst)) = true) (hh : hasAll rs name a = true) (hle : ∀ c ∈ b, ∃ d ∈ a, leN (cs.map Prod.fst) sp d c) :
    hasAll rs name b = true ∧ ∀ i, ∀ y ∈ wantL rs name b i, ∃ z ∈ wantL rs name a i, leN (cs.map Prod.fst) sp z y := by
  have key : ∀ c ∈ b, ∃ d ∈ a, inP (rs.map arKey) (name, c) = true ∧ ∀ i, ∀ y ∈ (arAt rs (name, c)).getD i [], ∃ z ∈ (arAt rs (name, d)).getD i [], leN (cs.map Prod.fst) sp z y := by
    intro c hc
    obtain ⟨d, hd, hl⟩ := hle c hc
    exact ⟨d, hd, reg_le hb har hreg (List.all_eq_true.1 hh d hd) (List.all_eq_true.1 ha d hd) (List.all_eq_true.1 hbk c hc) hl⟩
  refine ⟨List.all_eq_true.2 fun c hc => ?_, fun i y hy => ?_⟩
  · obtain ⟨d, _, h, _⟩ := key c hc
    exact h
  · obtain ⟨c, hc, hy2⟩ := mem_wantL.1 hy
    obtain ⟨d, hd, _, h⟩ := key c hc
    obtain ⟨z, hz, hl⟩ := h i y hy2
    exact ⟨z, mem_wantL.2 ⟨d, hd, hz⟩, hl⟩

/-- the least classes are told by what is above them -/
theorem least_unique (hb : Built cs sp abl) {S T : List Nm} (hS : ∀ x ∈ S, inNs (cs.map Prod.fst) x = true) (hT : ∀ x ∈ T, inNs (cs.map Prod.fst) x = true)
    (h1 : ∀ y ∈ T, ∃ z ∈ S, leN (cs.map Prod.fst) sp z y) (h2 : ∀ y ∈ S, ∃ z ∈ T, leN (cs.map Prod.fst) sp z y) :
    leastB (cs.map Prod.fst) (fun i => abl.getD i []) S = leastB (cs.map Prod.fst) (fun i => abl.getD i []) T := by
  have half : ∀ {S T : List Nm}, (∀ x ∈ S, inNs (cs.map Prod.fst) x = true) → (∀ x ∈ T, inNs (cs.map Prod.fst) x = true) → (∀ y ∈ T, ∃ z ∈ S, leN (cs.map Prod.fst) sp z y) → (∀ y ∈ S, ∃ z ∈ T, leN (cs.map Prod.fst) sp z y) →
      ∀ x, x ∈ leastB (cs.map Prod.fst) (fun i => abl.getD i []) S → x ∈ leastB (cs.map Prod.fst) (fun i => abl.getD i []) T := by
    intro S T hS hT h1 h2 x hx
    obtain ⟨hxS, hmin⟩ := (mem_least hb hS x).1 hx
    have hall : ∀ d ∈ T, leN (cs.map Prod.fst) sp d x → d = x := by
      intro d hd hdx
      obtain ⟨u, hu, hud⟩ := h1 d hd
      have hux : u = x := hmin u hu (Reach.trans hud hdx)
      rw [hux] at hud
      exact leN.anti hb (hT d hd) (hS x hxS) hdx hud
    obtain ⟨z, hz, hzx⟩ := h2 x hxS
    have hzx2 := hall z hz hzx
    rw [hzx2] at hz
    exact (mem_least hb hT x).2 ⟨hz, hall⟩
  exact ascB.uniq (leastB_asc _ _ _) (leastB_asc _ _ _) fun x => ⟨half hS hT h1 h2 x, half hT hS h2 h1 x⟩

theorem known_of {s : List Nm} (h : s.all (inNs (cs.map Prod.fst)) = true) : ∀ x ∈ s, inNs (cs.map Prod.fst) x = true := List.all_eq_true.1 h

/-- with a narrower sort the arguments' sorts are narrower -/
theorem want_less (hb : Built cs sp abl) (har : arsErr cs abl ds rs = 0) (hreg : regAll cs abl rs = true) {a b : List Nm} (ha : a.all (inNs (cs.map Prod.fst)) = true) (hbk : b.all (inNs (cs.map Prod.fst)) = true) (hh : hasAll rs name a = true)
    (hle : lessB (cs.map Prod.fst) (fun i => abl.getD i []) a b = true) (i : Nat) :
    lessB (cs.map Prod.fst) (fun i => abl.getD i []) (leastB (cs.map Prod.fst) (fun i => abl.getD i []) (wantL rs name a i)) (leastB (cs.map Prod.fst) (fun i => abl.getD i []) (wantL rs name b i)) = true := by
  rw [lessB_iff hb (known_of ha) (known_of hbk)] at hle
  obtain ⟨hhb, h1⟩ := want_le hb har hreg ha hbk hh hle
  have ka := known_of (wantL_facts (cs := cs) (abl := abl) (ds := ds) har i a hh).1
  have kb := known_of (wantL_facts (cs := cs) (abl := abl) (ds := ds) har i b hhb).1
  rw [lessB_iff hb (least_known hb ka) (least_known hb kb)]
  intro c hc
  obtain ⟨z, hz, hl⟩ := h1 i c (least_sub hb c hc)
  obtain ⟨m, hm, hl2⟩ := below_least hb ka _ z hz (Nat.le_refl _)
  exact ⟨m, hm, Reach.trans hl2 hl⟩

theorem hasAll_app (rs : List Ar) (name : Nm) (a b : List Nm) : hasAll rs name (a ++ b) = (hasAll rs name a && hasAll rs name b) := by
  unfold hasAll; rw [List.all_append]

/-- the arguments' sorts of a Meet are the Meets -/
theorem want_meet (hb : Built cs sp abl) (har : arsErr cs abl ds rs = 0) (hreg : regAll cs abl rs = true) {a b : List Nm} (ha : a.all (inNs (cs.map Prod.fst)) = true) (hbk : b.all (inNs (cs.map Prod.fst)) = true) (hha : hasAll rs name a = true) (hhb : hasAll rs name b = true) :
    hasAll rs name (leastB (cs.map Prod.fst) (fun i => abl.getD i []) (a ++ b)) = true ∧ ∀ i, leastB (cs.map Prod.fst) (fun i => abl.getD i []) (leastB (cs.map Prod.fst) (fun i => abl.getD i []) (wantL rs name a i) ++ leastB (cs.map Prod.fst) (fun i => abl.getD i []) (wantL rs name b i)) =
      leastB (cs.map Prod.fst) (fun i => abl.getD i []) (wantL rs name (leastB (cs.map Prod.fst) (fun i => abl.getD i []) (a ++ b)) i) := by
  have hab : (a ++ b).all (inNs (cs.map Prod.fst)) = true := by rw [List.all_append, ha, hbk]; rfl
  have hhab : hasAll rs name (a ++ b) = true := by rw [hasAll_app, hha, hhb]; rfl
  have hm : hasAll rs name (leastB (cs.map Prod.fst) (fun i => abl.getD i []) (a ++ b)) = true := List.all_eq_true.2 fun c hc => List.all_eq_true.1 hhab c (least_sub hb c hc)
  have hmk : (leastB (cs.map Prod.fst) (fun i => abl.getD i []) (a ++ b)).all (inNs (cs.map Prod.fst)) = true := List.all_eq_true.2 (least_known hb (known_of hab))
  have hdown : ∀ c ∈ a ++ b, ∃ d ∈ leastB (cs.map Prod.fst) (fun i => abl.getD i []) (a ++ b), leN (cs.map Prod.fst) sp d c := fun c hc => below_least hb (known_of hab) _ c hc (Nat.le_refl _)
  refine ⟨hm, fun i => ?_⟩
  have ka := known_of (wantL_facts (cs := cs) (abl := abl) (ds := ds) har i a hha).1
  have kb := known_of (wantL_facts (cs := cs) (abl := abl) (ds := ds) har i b hhb).1
  have km := known_of (wantL_facts (cs := cs) (abl := abl) (ds := ds) har i _ hm).1
  obtain ⟨_, wa⟩ := want_le hb har hreg hmk ha hm (fun c hc => hdown c (List.mem_append_left _ hc))
  obtain ⟨_, wb⟩ := want_le hb har hreg hmk hbk hm (fun c hc => hdown c (List.mem_append_right _ hc))
  refine least_unique hb (fun x hx => (List.mem_append.1 hx).elim (least_known hb ka x) (least_known hb kb x)) km (fun y hy => ?_) (fun y hy => ?_)
  · obtain ⟨c, hc, hy2⟩ := mem_wantL.1 hy
    rcases List.mem_append.1 (least_sub hb c hc) with h | h
    · obtain ⟨z, hz, hl⟩ := below_least hb ka _ y (mem_wantL.2 ⟨c, h, hy2⟩) (Nat.le_refl _)
      exact ⟨z, List.mem_append_left _ hz, hl⟩
    · obtain ⟨z, hz, hl⟩ := below_least hb kb _ y (mem_wantL.2 ⟨c, h, hy2⟩) (Nat.le_refl _)
      exact ⟨z, List.mem_append_right _ hz, hl⟩
  · rcases List.mem_append.1 hy with h | h
    · exact wa i y (least_sub hb y h)
    · exact wb i y (least_sub hb y h)

theorem wantC_get (i : Nat) (s : List Nm) (h : i < (wantC cs abl ds rs name s).length) : (wantC cs abl ds rs name s).getD i [] = leastB (cs.map Prod.fst) (fun i => abl.getD i []) (wantL rs name s i) := by
  unfold wantC wantB at h ⊢
  rw [List.length_map, List.length_range] at h
  rw [List.getD_eq_getElem?_getD, List.getElem?_map, List.getElem?_range h]; rfl

theorem wantC_len (s : List Nm) : (wantC cs abl ds rs name s).length = (numOf ds name).toNat := by
  unfold wantC wantB; rw [List.length_map, List.length_range]
end


theorem argErr_zero {cs : List (Nm × List Nm)} {abl : List (List Nat)} {ds : List (Nm × Int)} {rs : List Ar} {name : Nm} {s : List Nm} (h : argErr cs abl ds rs name s = 0) :
    inNs (ds.map Prod.fst) name = true ∧ normErr (cs.map Prod.fst) s = 0 ∧ hasAll rs name s = true ∧ fewAll (wantC cs abl ds rs name s) = true := by
  unfold argErr at h
  by_cases h1 : inNs (ds.map Prod.fst) name = false
  · rw [if_pos h1] at h; exact absurd h (by decide)
  · rw [if_neg h1] at h
    by_cases h2 : normErr (cs.map Prod.fst) s ≠ 0
    · rw [if_pos h2] at h; exact absurd h h2
    · rw [if_neg h2] at h
      by_cases h3 : hasAll rs name s = false
      · rw [if_pos h3] at h; exact absurd h (by decide)
      · rw [if_neg h3] at h
        by_cases h4 : fewAll (wantC cs abl ds rs name s) = false
        · rw [if_pos h4] at h; exact absurd h (by decide)
        · exact ⟨by simpa using h1, by simpa using h2, by simpa using h3, by simpa using h4⟩

theorem argsErr2_zero {cs : List (Nm × List Nm)} {abl : List (List Nat)} {ds : List (Nm × Int)} {rs : List Ar} {name : Nm} {s : List Nm} (h : argsErr2 cs abl ds rs name s = 0) : chkErr cs abl ds rs = 0 ∧ argErr cs abl ds rs name s = 0 := by
  unfold argsErr2 at h
  by_cases h1 : chkErr cs abl ds rs = 0
  · rw [if_pos h1] at h; exact ⟨h1, h⟩
  · rw [if_neg h1] at h; exact absurd h h1

theorem fewAll_get {l : List (List Nm)} (h : fewAll l = true) (i : Nat) : (l.getD i []).length ≤ 20 := by
  by_cases hi : i < l.length
  · exact of_decide_eq_true (List.all_eq_true.1 h _ (getDmem l [] i hi))
  · rw [List.getD_eq_getElem?_getD, List.getElem?_eq_none (by omega)]; simp

/-- P1.4: what the law holds Args to -/
theorem narrow_facts {cs : List (Nm × List Nm)} {abl : List (List Nat)} {ds : List (Nm × Int)} {rs : List Ar} {name : Nm} {ss ts : List Nm} (hab : clsErr cs = 0 → ∃ sp, Built cs sp abl)
    (hg : mErr cs abl ss ts = 0) (h1 : argsErr2 cs abl ds rs name ss = 0) (h2 : argsErr2 cs abl ds rs name ts = 0) :
    (wantC cs abl ds rs name ss).length = (wantC cs abl ds rs name ts).length ∧
    (wantC cs abl ds rs name (leastB (cs.map Prod.fst) (fun i => abl.getD i []) (ss ++ ts))).length = (wantC cs abl ds rs name ss).length ∧ (wantC cs abl ds rs name ss).length ≤ 10 ∧
    (argsErr2 cs abl ds rs name (leastB (cs.map Prod.fst) (fun i => abl.getD i []) (ss ++ ts)) = 0 ∨ argsErr2 cs abl ds rs name (leastB (cs.map Prod.fst) (fun i => abl.getD i []) (ss ++ ts)) = 5) ∧
    (argsErr2 cs abl ds rs name (leastB (cs.map Prod.fst) (fun i => abl.getD i []) (ss ++ ts)) = 0 → ∀ i, i < (wantC cs abl ds rs name ss).length →
      mErr cs abl ((wantC cs abl ds rs name ss).getD i []) ((wantC cs abl ds rs name ts).getD i []) = 0 ∧
      leastB (cs.map Prod.fst) (fun i => abl.getD i []) ((wantC cs abl ds rs name ss).getD i [] ++ (wantC cs abl ds rs name ts).getD i []) = (wantC cs abl ds rs name (leastB (cs.map Prod.fst) (fun i => abl.getD i []) (ss ++ ts))).getD i []) ∧
    (lB cs abl ss ts = true → ∀ i, i < (wantC cs abl ds rs name ss).length → lB cs abl ((wantC cs abl ds rs name ss).getD i []) ((wantC cs abl ds rs name ts).getD i []) = true) := by
  obtain ⟨hc, e1⟩ := argsErr2_zero h1
  obtain ⟨_, e2⟩ := argsErr2_zero h2
  obtain ⟨k1, k2, k3, k4⟩ := chk_zero hc
  obtain ⟨sp, hb⟩ := hab k1
  obtain ⟨a1, a2, a3, a4⟩ := argErr_zero e1
  obtain ⟨_, b2, b3, b4⟩ := argErr_zero e2
  obtain ⟨_, a5⟩ := normErr_zero a2
  obtain ⟨_, b5⟩ := normErr_zero b2
  unfold mErr at hg
  rw [if_pos k1] at hg
  obtain ⟨_, _, g20⟩ := meetErr_zero hg
  obtain ⟨m3, m4⟩ := want_meet (name := name) hb k3 k4 a5 b5 a3 b3
  have hab' : (ss ++ ts).all (inNs (cs.map Prod.fst)) = true := by rw [List.all_append, a5, b5]; rfl
  have mk := least_known hb (known_of hab')
  have mn : normErr (cs.map Prod.fst) (leastB (cs.map Prod.fst) (fun i => abl.getD i []) (ss ++ ts)) = 0 := by
    unfold normErr
    rw [if_neg (by omega), if_pos (List.all_eq_true.2 mk)]
  refine ⟨by rw [wantC_len, wantC_len], by rw [wantC_len, wantC_len], by rw [wantC_len]; have := (types_num k2 name).2; omega, ?_, fun h3 i hi => ?_, fun hl i hi => ?_⟩
  · unfold argsErr2 argErr
    rw [if_pos hc, if_neg (by rw [a1]; decide), if_neg (by rw [mn]; simp), if_neg (by rw [m3]; decide)]
    by_cases hf : fewAll (wantC cs abl ds rs name (leastB (cs.map Prod.fst) (fun i => abl.getD i []) (ss ++ ts))) = false
    · rw [if_pos hf]; exact .inr rfl
    · rw [if_neg hf]; exact .inl rfl
  · obtain ⟨_, e3⟩ := argsErr2_zero h3
    obtain ⟨_, _, _, z4⟩ := argErr_zero e3
    have hi2 : i < (wantC cs abl ds rs name ts).length := by rw [wantC_len] at hi ⊢; exact hi
    have hi3 : i < (wantC cs abl ds rs name (leastB (cs.map Prod.fst) (fun i => abl.getD i []) (ss ++ ts))).length := by rw [wantC_len] at hi ⊢; exact hi
    have hX := fewAll_get a4 i
    have hY := fewAll_get b4 i
    have hZ := fewAll_get z4 i
    rw [wantC_get i _ hi] at hX ⊢
    rw [wantC_get i _ hi2] at hY ⊢
    rw [wantC_get i _ hi3] at hZ ⊢
    refine ⟨?_, m4 i⟩
    have ka := known_of (wantL_facts (cs := cs) (abl := abl) (ds := ds) k3 i ss a3).1
    have kb := known_of (wantL_facts (cs := cs) (abl := abl) (ds := ds) k3 i ts b3).1
    have nx : normErr (cs.map Prod.fst) (leastB (cs.map Prod.fst) (fun i => abl.getD i []) (wantL rs name ss i)) = 0 := by
      unfold normErr; rw [if_neg (by omega), if_pos (List.all_eq_true.2 (least_known hb ka))]
    have ny : normErr (cs.map Prod.fst) (leastB (cs.map Prod.fst) (fun i => abl.getD i []) (wantL rs name ts i)) = 0 := by
      unfold normErr; rw [if_neg (by omega), if_pos (List.all_eq_true.2 (least_known hb kb))]
    unfold mErr meetErr
    rw [if_pos k1, nx, ny, m4 i, if_neg (by simp), if_neg (by simp), if_neg (by omega)]
  · unfold lB at hl ⊢
    rw [Bool.and_eq_true] at hl
    rw [Bool.and_eq_true]
    have hi2 : i < (wantC cs abl ds rs name ts).length := by rw [wantC_len] at hi ⊢; exact hi
    rw [wantC_get i _ hi, wantC_get i _ hi2]
    exact ⟨hl.1, want_less hb k3 k4 a5 b5 a3 hl.2 i⟩
end Go.Proofs.Ytehnikgdjnmfcaa

