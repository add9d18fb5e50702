/- types.ownFields 54, types.nodeForm 44. -/
import Derived.Test.YtkmoepabnnjoaaaDoorMZ13
import Derived.Test.YtkmoepabnnjoaaaDoorMZ1
import Derived.Deep.CutRange
import Derived.Deep.RegionHeld3
namespace Go.Proofs.YtkmoepabnnjoaaaDoor
open Go.RowKit Go.WideMaps Go.Shelf
attribute [local go_sem] Oper.semAt_some

/-- are the fields that a kind does not name zero -/
def ownF (t : TY) : Bool := if t.o = 1 then decide (t.i = 0) && decide (t.s.length = 0) else if t.o = 2 then decide (t.i = 0) && decide (t.l.length = 0) else if t.o = 3 then decide (t.l.length = 0) else false

set_option maxRecDepth 100000 in
set_option maxHeartbeats 2000000 in
theorem ownF_any (d b o : Nat) (t : TY) (w : World) (h : TyP w d b o t) : Calls Tryd.prog 54 #[.pointer (some ⟨b, o, none⟩)] w fun e w' => e = .returned (.bool (ownF t)) ∧ w' = w := by
  obtain ⟨hl, p3, q3, p4, q4, ⟨x0, x1, x2, x3, x4⟩, _, _, _⟩ := h
  obtain ⟨r, hr⟩ : ∃ r, r = ownF t := ⟨_, rfl⟩
  rw [← hr]
  unfold ownF at hr
  have HR := Lib.hid hr
  clear hr
  go_enter Tryd.func54, Tryd.ntmps54
  by_cases c1 : t.o = 1
  · have d1 : (t.o == 1) = true := by simpa using c1
    have h1 : Hid (r = (decide (t.i = 0) && decide (t.s.length = 0))) := by unfold Hid; rw [HR.out, if_pos c1]
    clear c1
    by_cases c2 : t.i = 0
    · have d2 : (t.i == 0) = true := by simpa using c2
      by_cases c3 : t.s.length = 0
      · have hn : Hid (r = true) := by unfold Hid; rw [h1.out, c2, c3]; rfl
        have d3 : (((t.s.length : Nat) : Int) == 0) = true := by simp [c3]
        clear c2 c3
        go_wp2_with fail
        go_ret
        exact ⟨by rw [hn.out]; rfl, rfl⟩
      · have hn : Hid (r = false) := by unfold Hid; rw [h1.out, decide_eq_false c3]; simp
        have d3 : (((t.s.length : Nat) : Int) == 0) = false := by rw [beq_eq_false_iff_ne]; omega
        clear c2 c3
        go_wp2_with fail
        go_ret
        exact ⟨by rw [hn.out]; rfl, rfl⟩
    · have d2 : (t.i == 0) = false := by simpa using c2
      have hn : Hid (r = false) := by unfold Hid; rw [h1.out, decide_eq_false c2]; rfl
      clear c2
      go_wp2_with fail
      go_ret
      exact ⟨by rw [hn.out]; rfl, rfl⟩
  · have d1 : (t.o == 1) = false := by simpa using c1
    by_cases c5 : t.o = 2
    · have d5 : (t.o == 2) = true := by simpa using c5
      have h1 : Hid (r = (decide (t.i = 0) && decide (t.l.length = 0))) := by unfold Hid; rw [HR.out, if_neg c1, if_pos c5]
      clear c1 c5
      by_cases c2 : t.i = 0
      · have d2 : (t.i == 0) = true := by simpa using c2
        by_cases c3 : t.l.length = 0
        · have hn : Hid (r = true) := by unfold Hid; rw [h1.out, c2, c3]; rfl
          have d3 : (((t.l.length : Nat) : Int) == 0) = true := by simp [c3]
          clear c2 c3
          go_wp2_with fail
          go_ret
          exact ⟨by rw [hn.out]; rfl, rfl⟩
        · have hn : Hid (r = false) := by unfold Hid; rw [h1.out, decide_eq_false c3]; simp
          have d3 : (((t.l.length : Nat) : Int) == 0) = false := by rw [beq_eq_false_iff_ne]; omega
          clear c2 c3
          go_wp2_with fail
          go_ret
          exact ⟨by rw [hn.out]; rfl, rfl⟩
      · have d2 : (t.i == 0) = false := by simpa using c2
        have hn : Hid (r = false) := by unfold Hid; rw [h1.out, decide_eq_false c2]; rfl
        clear c2
        go_wp2_with fail
        go_ret
        exact ⟨by rw [hn.out]; rfl, rfl⟩
    · have d5 : (t.o == 2) = false := by simpa using c5
      by_cases c6 : t.o = 3
      · have d6 : (t.o == 3) = true := by simpa using c6
        have h1 : Hid (r = decide (t.l.length = 0)) := by unfold Hid; rw [HR.out, if_neg c1, if_neg c5, if_pos c6]
        clear c1 c5 c6
        by_cases c3 : t.l.length = 0
        · have hn : Hid (r = true) := by unfold Hid; rw [h1.out, c3]; rfl
          have d3 : (((t.l.length : Nat) : Int) == 0) = true := by simp [c3]
          clear c3
          go_wp2_with fail
          go_ret
          exact ⟨by rw [hn.out]; rfl, rfl⟩
        · have hn : Hid (r = false) := by unfold Hid; rw [h1.out, decide_eq_false c3]
          have d3 : (((t.l.length : Nat) : Int) == 0) = false := by rw [beq_eq_false_iff_ne]; omega
          clear c3
          go_wp2_with fail
          go_ret
          exact ⟨by rw [hn.out]; rfl, rfl⟩
      · have d6 : (t.o == 3) = false := by simpa using c6
        have hn : Hid (r = false) := by unfold Hid; rw [HR.out, if_neg c1, if_neg c5, if_neg c6]
        clear c1 c5 c6
        go_wp2_with fail
        go_ret
        exact ⟨by rw [hn.out]; rfl, rfl⟩
/-- the error of a sort, from its k-th class on: names, ascending -/
def sortF (s : List Nm) : Nat → Nat → Bool
  | 0, _ => false
  | f + 1, k => if isNameB (bs (s.getD k [])) = false then true else if 0 < k ∧ ¬ Lib.compareBytes (s.getD (k - 1) []) (s.getD k []) < 0 then true else sortF s f (k + 1)

def nodeE (t : TY) : Int := if ownF t = false then 2 else if t.o = 3 ∧ (t.i < 0 ∨ 1000000 < t.i) then 4 else if isNameB (bs t.x) = false then 2 else if sortF t.s t.s.length 0 = true then 2 else if 20 < t.s.length then 5 else 0

set_option maxRecDepth 100000 in
set_option maxHeartbeats 4000000 in
theorem nodeE_any (d b o : Nat) (t : TY) (w : World) (h : TyP w d b o t) : Calls Tryd.prog 44 #[.pointer (some ⟨b, o, none⟩)] w fun e w' => e = .returned (.int .i64 (nodeE t)) ∧ w' = w := by
  have OF := Lib.hid (ownF_any d b o t w h)
  obtain ⟨hl, p3, q3, p4, q4, ⟨x0, x1, x2, x3, x4⟩, hxl, hs, _⟩ := h
  have HS := Lib.hid hs
  have hsl := hs.1
  unfold maxLen at hsl
  have NM := Lib.hid (isName_any (bs t.x) w (by rw [bs_size]; exact hxl))
  obtain ⟨r, hr⟩ : ∃ r, r = nodeE t := ⟨_, rfl⟩
  rw [← hr]
  unfold nodeE at hr
  have HR := Lib.hid hr
  clear hr hs
  generalize hof : ownF t = of at *
  generalize hnm : isNameB (bs t.x) = nm at *
  clear hof hnm
  go_enter Tryd.func44, Tryd.ntmps44
  go_wp2_with fail
  refine OF.out.mono ?_
  rintro e w1 ⟨rfl, rfl⟩
  cases of with
  | false =>
    have hn : Hid (r = 2) := by unfold Hid; rw [HR.out, if_pos rfl]
    go_wp2_with fail
    go_ret
    exact ⟨by rw [hn.out]; rfl, rfl⟩
  | true =>
    have hr1 : Hid (r = if t.o = 3 ∧ (t.i < 0 ∨ 1000000 < t.i) then 4 else if nm = false then 2 else if sortF t.s t.s.length 0 = true then 2 else if 20 < t.s.length then 5 else 0) := by unfold Hid; rw [HR.out, if_neg (by decide)]
    clear HR OF
    by_cases hbad : t.o = 3 ∧ (t.i < 0 ∨ 1000000 < t.i)
    · have hn : Hid (r = 4) := by unfold Hid; rw [hr1.out, if_pos hbad]
      have d1 : (t.o == 3) = true := by simpa using hbad.1
      by_cases hneg : t.i < 0
      · have d2 : decide (t.i < 0) = true := decide_eq_true hneg
        clear hbad hneg
        go_wp2_with fail
        go_ret
        exact ⟨by rw [hn.out]; rfl, rfl⟩
      · have d2 : decide (t.i < 0) = false := decide_eq_false hneg
        have d3 : decide (1000000 < t.i) = true := decide_eq_true (hbad.2.resolve_left hneg)
        clear hbad hneg
        go_wp2_with fail
        go_ret
        exact ⟨by rw [hn.out]; rfl, rfl⟩
    · have hr2 : Hid (r = if nm = false then 2 else if sortF t.s t.s.length 0 = true then 2 else if 20 < t.s.length then 5 else 0) := by unfold Hid; rw [hr1.out, if_neg hbad]
      clear hr1
      have hpass : (t.o == 3) = false ∨ ((t.o == 3) = true ∧ decide (t.i < 0) = false ∧ decide (1000000 < t.i) = false) := by
        by_cases c : t.o = 3
        · exact .inr ⟨by simpa using c, decide_eq_false fun h => hbad ⟨c, .inl h⟩, decide_eq_false fun h => hbad ⟨c, .inr h⟩⟩
        · exact .inl (by simpa using c)
      have HP := Lib.hid hpass
      clear hbad hpass
      go_upto_region 3 with (fail)
      go_cut [26] from 8 to 25 (fun u w' => u = .bool false ∧ w' = w1)
      case first =>
        rcases HP.out with d1 | ⟨d1, d2, d3⟩
        · go_wp2_with fail
          go_meet
          case rel => exact ⟨rfl, rfl⟩
        · go_wp2_with fail
          go_meet
          case rel => exact ⟨rfl, rfl⟩
      case rest =>
        obtain ⟨rfl, rfl⟩ := hcut
        go_wp2_with fail
        refine NM.out.mono ?_
        rintro e w2 ⟨rfl, rfl⟩
        cases nm with
        | false =>
          have hn : Hid (r = 2) := by unfold Hid; rw [hr2.out, if_pos rfl]
          go_wp2_with fail
          go_ret
          exact ⟨by rw [hn.out]; rfl, rfl⟩
        | true =>
          have hr3 : Hid (r = if sortF t.s (t.s.length - 0) 0 = true then 2 else if 20 < t.s.length then 5 else 0) := by unfold Hid; rw [hr2.out, if_neg (by decide)]; rfl
          clear hr2 NM
          go_wp2_with fail
          go_loop [38] (fun i => ∃ k : Nat, k ≤ t.s.length ∧ i = .int .i64 k ∧ Hid (r = if sortF t.s (t.s.length - k) k = true then 2 else if 20 < t.s.length then 5 else 0)) (fun i => t.s.length - (intOf i).toNat)
          case atStart => exact ⟨0, by omega, rfl, hr3⟩
          case round =>
            clear hr3
            obtain ⟨k, hk, rfl, hr4⟩ := hrel
            by_cases hlt : k < t.s.length
            · obtain ⟨b1, o1, y, rfl, hb1, g1, hyl, hy⟩ := HS.out.at hlt
              have hf : t.s.length - k = (t.s.length - (k + 1)) + 1 := by omega
              have hst : Hid (sortF t.s (t.s.length - k) k = if isNameB (bs y) = false then true else if 0 < k ∧ ¬ Lib.compareBytes (t.s.getD (k - 1) []) y < 0 then true else sortF t.s (t.s.length - (k + 1)) (k + 1)) := by
                unfold Hid; rw [hf, sortF, ← hy]
              have NY := Lib.hid (fun W => isName_any (bs y) W (by rw [bs_size]; exact hyl))
              generalize isNameB (bs y) = ny at *
              have HY := Lib.hid hy
              clear hf hy
              cases ny with
              | false =>
                have hn : Hid (r = 2) := by
                  have e := hst.out
                  rw [if_pos rfl] at e
                  unfold Hid; rw [hr4.out, e, if_pos rfl]
                clear hr4 hst
                go_wp2_with fail
                refine (NY.out _).mono ?_
                rintro e w3 ⟨rfl, rfl⟩
                go_wp2_with fail
                go_ret
                exact ⟨by rw [hn.out]; rfl, rfl⟩
              | true =>
                by_cases hk0 : k = 0
                · subst hk0
                  rw [Nat.add_zero] at g1
                  have hnx : Hid (r = if sortF t.s (t.s.length - (0 + 1)) (0 + 1) = true then 2 else if 20 < t.s.length then 5 else 0) := by
                    have e := hst.out
                    rw [if_neg (show ¬ (true = false) by decide), if_neg (fun h => absurd h.1 (Nat.lt_irrefl 0))] at e
                    unfold Hid; rw [hr4.out, e]
                  clear hr4 hst
                  go_wp2_with fail
                  refine (NY.out _).mono ?_
                  rintro e w3 ⟨rfl, rfl⟩
                  go_wp2_with fail
                  go_round
                  case rel => exact ⟨0 + 1, by omega, by go_num, hnx⟩
                  case measure => simp [intOf]; omega
                · obtain ⟨m, rfl⟩ : ∃ m, k = m + 1 := ⟨k - 1, by omega⟩
                  obtain ⟨b2, o2, z, he2, _, g2, _, hz⟩ := HS.out.at (show m < t.s.length by omega)
                  have he3 : b2 = b1 ∧ o2 = o1 := by
                    have e1 := congrArg Addr.block (Option.some.inj he2)
                    have e2 := congrArg Addr.off (Option.some.inj he2)
                    exact ⟨e1.symm, e2.symm⟩
                  obtain ⟨rfl, rfl⟩ := he3
                  have hst2 : Hid (sortF t.s (t.s.length - (m + 1)) (m + 1) = if ¬ Lib.compareBytes z y < 0 then true else sortF t.s (t.s.length - (m + 1 + 1)) (m + 1 + 1)) := by
                    unfold Hid; rw [hst.out, if_neg (by decide), show m + 1 - 1 = m from rfl, ← hz]
                    by_cases hc : Lib.compareBytes z y < 0
                    · rw [if_neg (fun h => h.2 hc), if_neg (fun h => h hc)]
                    · rw [if_pos ⟨by omega, hc⟩, if_pos hc]
                  have hd0 : decide ((0 : Int) < ((m + 1 : Nat) : Int)) = true := decide_eq_true (by omega)
                  have hw : IntKind.i64.wrap (((m + 1 : Nat) : Int) - 1) = (m : Int) := by rw [IntWalk.i64_in _ (by omega)]; omega
                  have hw2 : IntKind.i64.wrap ((m : Int)) = (m : Int) := IntWalk.i64_in _ (by omega)
                  have HHZ := Lib.hid hz
                  clear hst hz he2
                  by_cases hc : Lib.compareBytes z y < 0
                  · have dz : Op.bytesLess (bs z).toList (bs y).toList = true := by rw [bs_toList, bs_toList, bytesLess_cb]; exact decide_eq_true hc
                    have hnx : Hid (r = if sortF t.s (t.s.length - (m + 1 + 1)) (m + 1 + 1) = true then 2 else if 20 < t.s.length then 5 else 0) := by
                      have e := hst2.out
                      rw [if_neg (fun h => h hc)] at e
                      unfold Hid; rw [hr4.out, e]
                    clear hr4 hst2 hc
                    go_wp2_with fail
                    refine (NY.out _).mono ?_
                    rintro e w3 ⟨rfl, rfl⟩
                    go_wp2_with fail
                    go_round
                    case rel => exact ⟨m + 1 + 1, by omega, by go_num, hnx⟩
                    case measure => simp [intOf]; omega
                  · have dz : Op.bytesLess (bs z).toList (bs y).toList = false := by rw [bs_toList, bs_toList, bytesLess_cb]; exact decide_eq_false hc
                    have hn : Hid (r = 2) := by
                      have e := hst2.out
                      rw [if_pos hc] at e
                      unfold Hid; rw [hr4.out, e, if_pos rfl]
                    clear hr4 hst2 hc
                    go_wp2_with fail
                    refine (NY.out _).mono ?_
                    rintro e w3 ⟨rfl, rfl⟩
                    go_wp2_with fail
                    go_ret
                    exact ⟨by rw [hn.out]; rfl, rfl⟩
            · have hkk : t.s.length - k = 0 := by omega
              have hr5 : Hid (r = if 20 < t.s.length then 5 else 0) := by unfold Hid; rw [hr4.out, hkk, sortF]; rfl
              clear hr4
              by_cases h20 : 20 < t.s.length
              · have hn : Hid (r = 5) := by unfold Hid; rw [hr5.out, if_pos h20]
                have d20 : decide ((20 : Int) < ((t.s.length : Nat) : Int)) = true := decide_eq_true (by omega)
                clear h20 hr5
                go_wp2_with fail
                go_ret
                exact ⟨by rw [hn.out]; rfl, rfl⟩
              · have hn : Hid (r = 0) := by unfold Hid; rw [hr5.out, if_neg h20]
                have d20 : decide ((20 : Int) < ((t.s.length : Nat) : Int)) = false := decide_eq_false (by omega)
                clear h20 hr5
                go_wp2_with fail
                go_ret
                exact ⟨by rw [hn.out]; rfl, rfl⟩
end Go.Proofs.YtkmoepabnnjoaaaDoor

/- types.formBelow 35. -/
namespace Go.Proofs.YtkmoepabnnjoaaaDoor
open Go.RowKit Go.WideMaps Go.Shelf
attribute [local go_sem] Oper.semAt_some

mutual
/-- the error of the form of a tree's nodes -/
def formE : TY → Int
  | .mk o x i s l => if nodeE (.mk o x i s l) = 0 then formEs l else nodeE (.mk o x i s l)
def formEs : List TY → Int
  | [] => 0
  | t :: l => if formE t = 0 then formEs l else formE t
end

theorem formE_eq (t : TY) : formE t = if nodeE t = 0 then formEs t.l else nodeE t := by
  cases t; rw [formE]; rfl

theorem formEs_drop {l : List TY} {k : Nat} (hk : k < l.length) : formEs (l.drop k) = if formE (l.getD k ty0) = 0 then formEs (l.drop (k + 1)) else formE (l.getD k ty0) := by
  rw [List.drop_eq_getElem_cons hk, formEs]
  simp [List.getD_eq_getElem?_getD, hk]

def FormC (d : Nat) : Prop :=
  ∀ (b o : Nat) (t : TY) (w : World), TyP w d b o t → Calls Tryd.prog 35 #[.pointer (some ⟨b, o, none⟩)] w fun e w' => e = .returned (.int .i64 (formE t)) ∧ w' = w

set_option maxRecDepth 100000 in
set_option maxHeartbeats 4000000 in
theorem formC_body {d : Nat} (b o : Nat) (t : TY) (w : World) (HE : 0 < t.l.length → FormC d) (h : TyP w (d + 1) b o t) :
    Calls Tryd.prog 35 #[.pointer (some ⟨b, o, none⟩)] w fun e w' => e = .returned (.int .i64 (formE t)) ∧ w' = w := by
  have ND := Lib.hid (nodeE_any (d + 1) b o t w h)
  have HEH := Lib.hid HE
  obtain ⟨hl, p3, q3, p4, q4, ⟨x0, x1, x2, x3, x4⟩, _, _, ht⟩ := h
  have HT := Lib.hid ht
  have hm1 := ht.1
  unfold maxLen at hm1
  obtain ⟨r, hr⟩ : ∃ r, r = formE t := ⟨_, rfl⟩
  rw [← hr]
  rw [formE_eq] at hr
  have HR := Lib.hid hr
  clear hr ht HE
  generalize nodeE t = ne at *
  go_enter Tryd.func35, Tryd.ntmps35
  go_wp2_with fail
  refine ND.out.mono ?_
  rintro e w1 ⟨rfl, rfl⟩
  by_cases hne : ne = 0
  · have hr1 : Hid (r = formEs (t.l.drop 0)) := by unfold Hid; rw [HR.out, if_pos hne]; rfl
    subst hne
    clear HR ND
    go_wp2_with fail
    go_loop [16] (fun i => ∃ k : Nat, k ≤ t.l.length ∧ i = .int .i64 k ∧ Hid (r = formEs (t.l.drop k))) (fun i => t.l.length - (intOf i).toNat)
    case atStart => exact ⟨0, by omega, rfl, hr1⟩
    case round =>
      clear hr1
      obtain ⟨k, hk, rfl, hr2⟩ := hrel
      by_cases hlt : k < t.l.length
      · obtain ⟨b1, o1, rfl, hp⟩ := HT.out.place hlt
        have hst : Hid (r = if formE (t.l.getD k ty0) = 0 then formEs (t.l.drop (k + 1)) else formE (t.l.getD k ty0)) := by
          unfold Hid; rw [hr2.out, formEs_drop hlt]
        have CC := Lib.hid (HEH.out (by omega) _ _ _ _ hp)
        clear hp hr2
        generalize formE (t.l.getD k ty0) = fe at *
        go_wp2_with fail
        refine CC.out.mono ?_
        rintro e w3 ⟨rfl, rfl⟩
        by_cases hfe : fe = 0
        · have hnx : Hid (r = formEs (t.l.drop (k + 1))) := by unfold Hid; rw [hst.out, if_pos hfe]
          subst hfe
          clear hst CC
          go_wp2_with fail
          go_round
          case rel => exact ⟨k + 1, by omega, by go_num, hnx⟩
          case measure => simp [intOf]; omega
        · have hn : Hid (r = fe) := by unfold Hid; rw [hst.out, if_neg hfe]
          have d1 : (fe != 0) = true := by simpa using hfe
          clear hst hfe CC
          go_wp2_with fail
          go_ret
          exact ⟨by rw [hn.out]; rfl, rfl⟩
      · have hn : Hid (r = 0) := by
          have e : t.l.drop k = [] := List.drop_eq_nil_of_le (by omega)
          unfold Hid; rw [hr2.out, e, formEs]
        clear hr2
        go_wp2_with fail
        go_ret
        exact ⟨by rw [hn.out]; rfl, rfl⟩
  · have hn : Hid (r = ne) := by unfold Hid; rw [HR.out, if_neg hne]
    have d1 : (ne != 0) = true := by simpa using hne
    clear HR hne ND
    go_wp2_with fail
    go_ret
    exact ⟨by rw [hn.out]; rfl, rfl⟩

theorem formC_any : ∀ d, FormC d
  | 0 => fun b o t w h => by
    have hl : t.l = [] := by obtain ⟨_, _, _, _, _, _, _, _, ⟨_, hl⟩⟩ := h; exact hl
    exact formC_body (d := 0) b o t w (fun hn => absurd hn (by rw [hl]; simp)) h.up
  | d + 1 => fun b o t w h => formC_body b o t w (fun _ => formC_any d) h
end Go.Proofs.YtkmoepabnnjoaaaDoor

/- types.measure 43 of a tree that is not too large. -/
namespace Go.Proofs.YtkmoepabnnjoaaaDoor
open Go.RowKit Go.WideMaps Go.Shelf
attribute [local go_sem] Oper.semAt_some

mutual
def depT : TY → Nat
  | .mk _ _ _ _ l => depTs l + 1
def depTs : List TY → Nat
  | [] => 0
  | t :: l => Nat.max (depT t) (depTs l)
end

theorem depT_eq (t : TY) : depT t = depTs t.l + 1 := by cases t; rw [depT]; rfl
theorem size_eq (t : TY) : t.size = 1 + TY.sizes t.l := by cases t; rw [TY.size]; rfl

theorem depTs_drop {l : List TY} {k : Nat} (hk : k < l.length) : depTs (l.drop k) = Nat.max (depT (l.getD k ty0)) (depTs (l.drop (k + 1))) := by
  rw [List.drop_eq_getElem_cons hk, depTs]
  simp [List.getD_eq_getElem?_getD, hk]

theorem sizes_drop {l : List TY} {k : Nat} (hk : k < l.length) : TY.sizes (l.drop k) = (l.getD k ty0).size + TY.sizes (l.drop (k + 1)) := by
  rw [List.drop_eq_getElem_cons hk, TY.sizes]
  simp [List.getD_eq_getElem?_getD, hk]

theorem nat_max_cast (a b : Nat) : max (a : Int) (b : Int) = ((Nat.max a b : Nat) : Int) := by
  show max (a : Int) (b : Int) = ((max a b : Nat) : Int)
  omega

/-- the depth is at most the number of nodes -/
theorem dep_size : ∀ n : Nat, (∀ t : TY, t.size ≤ n → depT t ≤ t.size) ∧ (∀ l : List TY, TY.sizes l ≤ n → depTs l ≤ TY.sizes l)
  | 0 => by
    refine ⟨fun t h => ?_, fun l h => ?_⟩
    · rw [size_eq] at h; omega
    · cases l with
      | nil => simp [depTs]
      | cons t l => rw [TY.sizes, size_eq] at h; omega
  | n + 1 => by
    have ht : ∀ t : TY, t.size ≤ n + 1 → depT t ≤ t.size := fun t h => by
      rw [size_eq] at h ⊢; rw [depT_eq]
      have := (dep_size n).2 t.l (by omega)
      omega
    refine ⟨ht, fun l => ?_⟩
    induction l with
    | nil => intro _; simp [depTs]
    | cons t l ih =>
      intro h
      rw [TY.sizes] at h ⊢
      rw [depTs]
      have h1 := ht t (by omega)
      have h2 := ih (by omega)
      exact Nat.max_le.2 ⟨by omega, by omega⟩

/-- a number in a cell of one's own -/
def NumAt (w : World) (c n : Nat) : Prop := w.cell? ⟨c, 0, none⟩ = some (.int .i64 (n : Nat)) ∧ w.frozen? ⟨c, 0, none⟩ = false

theorem NumAt.set {w : World} {c n m : Nat} (h : NumAt w c n) : NumAt (w.setCell ⟨c, 0, none⟩ (.int .i64 (m : Nat))) c m :=
  ⟨World.cell?_setCell_same _ _ _ h.1, by rw [World.frozen?_setCell]; exact h.2⟩

def MsP (w0 : World) (t : TY) (c n : Nat) (e : Ending) (w' : World) : Prop := e = .returned (.int .i64 (depT t : Nat)) ∧ Below w0.heap.size w0 w' ∧ NumAt w' c (n + t.size)

def MsC (d : Nat) : Prop :=
  ∀ (b o c n : Nat) (t : TY) (w0 w : World), TyP w0 d b o t → Below w0.heap.size w0 w → w0.heap.size ≤ c → NumAt w c n → n + t.size ≤ 20000 →
    Calls Tryd.prog 43 #[.pointer (some ⟨b, o, none⟩), .pointer (some ⟨c, 0, none⟩)] w (MsP w0 t c n)

set_option maxRecDepth 100000 in
set_option maxHeartbeats 4000000 in
theorem msC_body {d : Nat} (b o c n : Nat) (t : TY) (w0 w : World) (HE : 0 < t.l.length → MsC d) (h : TyP w0 (d + 1) b o t) (hB : Below w0.heap.size w0 w) (hc : w0.heap.size ≤ c) (hn : NumAt w c n) (hs : n + t.size ≤ 20000) :
    Calls Tryd.prog 43 #[.pointer (some ⟨b, o, none⟩), .pointer (some ⟨c, 0, none⟩)] w (MsP w0 t c n) := by
  have HEH := Lib.hid HE
  obtain ⟨hl, p3, q3, p4, q4, hcs, _, _, ht⟩ := h
  have HT := Lib.hid ht
  have HCS := Lib.hid hcs
  have hm1 := ht.1
  unfold maxLen at hm1
  have hN1 : NumAt (w.setCell ⟨c, 0, none⟩ (.int .i64 ((n : Int) + 1))) c (n + 1) := hn.set (m := n + 1)
  have hB1 : Below w0.heap.size w0 (w.setCell ⟨c, 0, none⟩ (.int .i64 ((n : Int) + 1))) := hB.setCell (p := ⟨c, 0, none⟩) hc _
  obtain ⟨x0, x1⟩ := hn
  rw [size_eq] at hs
  have hw : IntKind.i64.wrap ((n : Int) + 1) = (n : Int) + 1 := IntWalk.i64_in _ (by omega)
  obtain ⟨D, hD⟩ : ∃ D, D = depT t := ⟨_, rfl⟩
  obtain ⟨N, hN⟩ : ∃ N, N = n + t.size := ⟨_, rfl⟩
  have HP : Hid (MsP w0 t c n = fun e w' => e = .returned (.int .i64 (D : Nat)) ∧ Below w0.heap.size w0 w' ∧ NumAt w' c N) := by
    unfold Hid; rw [hD, hN]; rfl
  rw [HP.out]
  rw [depT_eq] at hD
  rw [size_eq] at hN
  have hD1 : Hid (D = Nat.max 0 (depTs (t.l.drop 0)) + 1) := by unfold Hid; rw [hD, List.drop_zero]; simp
  have hN2 : Hid (N = n + 1 + TY.sizes (t.l.drop 0)) := by unfold Hid; rw [hN, List.drop_zero]; omega
  have hNb : N ≤ 20000 := by omega
  have hDb : Hid (D ≤ 20000) := by
    unfold Hid
    have := (dep_size 20000).2 t.l (by omega)
    omega
  clear HP hD hN ht HE hcs
  go_enter Tryd.func43, Tryd.ntmps43
  have k0 : ∀ (W : World) (i : Nat) (u : Value), Below w0.heap.size w0 W → w0.cell? ⟨b, i, none⟩ = some u → W.cell? ⟨b, i, none⟩ = some u := fun W i u hh h => (hh.cell (p := ⟨b, _, none⟩) hl).trans h
  have y4 := k0 _ _ _ hB1 HCS.out.2.2.2.2
  have K0 := Lib.hid k0
  clear k0
  go_wp2_with fail
  go_loopw [5, 17] (fun dp i wr => ∃ (k dk nk : Nat), k ≤ t.l.length ∧ dp = .int .i64 (dk : Nat) ∧ i = .int .i64 (k : Nat) ∧ Below w0.heap.size w0 wr ∧ NumAt wr c nk ∧ Hid (D = Nat.max dk (depTs (t.l.drop k)) + 1) ∧ Hid (N = nk + TY.sizes (t.l.drop k))) (fun _ i _ => t.l.length - (intOf i).toNat)
  case atStart => exact ⟨0, 0, n + 1, by omega, rfl, rfl, hB1, hN1, hD1, hN2⟩
  case round =>
    clear hD1 hN2 hB1 hN1 y4 x0 x1
    obtain ⟨k, dk, nk, hk, rfl, rfl, hBr, hNr, hDk, hNk⟩ := hrel
    by_cases hlt : k < t.l.length
    · obtain ⟨b1, o1, rfl, hp⟩ := HT.out.place hlt
      have hst := hDk.out
      rw [depTs_drop hlt] at hst
      have hsn := hNk.out
      rw [sizes_drop hlt] at hsn
      have CC := Lib.hid (HEH.out (by omega) b1 (o1 + k * 5) c nk _ w0 wr hp hBr hc hNr (by omega))
      unfold MsP at CC
      generalize t.l.getD k ty0 = u at *
      have hnb : nk ≤ 20000 := by omega
      obtain ⟨z0, z1⟩ := hNr
      have y4 := K0.out _ _ _ hBr HCS.out.2.2.2.2
      have dm : decide ((20000 : Int) < (nk : Int)) = false := decide_eq_false (by omega)
      have hnx : Hid (D = Nat.max (Nat.max dk (depT u)) (depTs (t.l.drop (k + 1))) + 1) := by
        unfold Hid; rw [hst]; congr 1; exact (Nat.max_assoc _ _ _).symm
      have hnn : Hid (N = nk + u.size + TY.sizes (t.l.drop (k + 1))) := by unfold Hid; omega
      clear hst hsn hDk hNk hp
      go_wp2_with fail
      refine CC.out.mono ?_
      rintro e w3 ⟨rfl, hb3, hn3⟩
      clear CC z0 z1 y4
      go_wp2_with fail
      go_roundw
      case rel => exact ⟨k + 1, Nat.max dk (depT u), nk + u.size, by omega, by rw [nat_max_cast], by go_num, hb3, hn3, hnx, hnn⟩
      case measure => simp [intOf]; omega
    · have hst := hDk.out
      have hsn := hNk.out
      rw [List.drop_eq_nil_of_le (by omega)] at hst hsn
      have e1 : Nat.max dk (depTs []) = dk := by rw [depTs]; exact Nat.max_zero dk
      rw [e1] at hst
      have e2 : N = nk := by rw [hsn, TY.sizes]; rfl
      have hw : IntKind.i64.wrap ((dk : Int) + 1) = (D : Int) := by have := hDb.out; rw [IntWalk.i64_in _ (by omega)]; omega
      have hww : IntKind.i64.wrap (D : Int) = (D : Int) := by have := hDb.out; exact IntWalk.i64_in _ (by omega)
      subst e2
      clear hst hsn hDk hNk
      go_wp2_with fail
      go_ret
      exact ⟨rfl, hBr, hNr⟩

theorem msC_any : ∀ d, MsC d
  | 0 => fun b o c n t w0 w h hB hc hn hs => by
    have hl : t.l = [] := by obtain ⟨_, _, _, _, _, _, _, _, ⟨_, hl⟩⟩ := h; exact hl
    exact msC_body (d := 0) b o c n t w0 w (fun hn => absurd hn (by rw [hl]; simp)) h.up hB hc hn hs
  | d + 1 => fun b o c n t w0 w h hB hc hn hs => msC_body b o c n t w0 w (fun _ => msC_any d) h hB hc hn hs

set_option maxRecDepth 100000 in
set_option maxHeartbeats 4000000 in
theorem sizeError_any (d b o : Nat) (t : TY) (w : World) (h : TyP w d b o t) (hs : t.size ≤ 20000) :
    Calls Tryd.prog 34 #[.pointer (some ⟨b, o, none⟩)] w fun e w' => e = .returned (.int .i64 (if 500 < depT t then 6 else 0)) ∧ Below w.heap.size w w' := by
  have hb := below_alloc w (Obj.cells #[.int .i64 0] 3)
  have s1 := heap_alloc_new w (Obj.cells #[.int .i64 0] 3)
  have hn : NumAt (w.alloc (Obj.cells #[.int .i64 0] 3)) w.heap.size 0 := ⟨by rw [cell_of_row _ _ 0 _ _ _ s1]; rfl, frozen_of_row _ _ 0 _ _ s1⟩
  have MM := Lib.hid (msC_any d b o w.heap.size 0 t w _ h hb (Nat.le_refl _) hn (by omega))
  obtain ⟨x0, x1⟩ := hn
  unfold MsP at MM
  have hd : depT t ≤ 20000 := Nat.le_trans ((dep_size t.size).1 t (Nat.le_refl _)) hs
  generalize hR : (if 500 < depT t then (6 : Int) else 0) = r at *
  have HR := Lib.hid hR
  generalize depT t = D at *
  generalize t.size = N at *
  clear hR hb s1
  go_enter Tryd.func34, Tryd.ntmps34
  go_wp2_with fail
  refine MM.out.mono ?_
  rintro e w2 ⟨rfl, hb3, hn3⟩
  obtain ⟨z0, z1⟩ := hn3
  have d1 : decide ((20000 : Int) < (N : Int)) = false := decide_eq_false (by omega)
  rw [Nat.zero_add] at z0
  clear MM x0 x1
  by_cases c : 500 < D
  · have d2 : decide ((500 : Int) < (D : Int)) = true := decide_eq_true (by omega)
    have hr : Hid (r = 6) := by unfold Hid; rw [← HR.out, if_pos c]
    clear c HR
    go_wp2_with fail
    go_ret
    exact ⟨by rw [hr.out]; rfl, hb3⟩
  · have d2 : decide ((500 : Int) < (D : Int)) = false := decide_eq_false (by omega)
    have hr : Hid (r = 0) := by unfold Hid; rw [← HR.out, if_neg c]
    clear c HR
    go_wp2_with fail
    go_ret
    exact ⟨by rw [hr.out]; rfl, hb3⟩

/-- the error of the form of a tree that is not too large -/
def formX (t : TY) : Int := if 500 < depT t then 6 else formE t

set_option maxRecDepth 100000 in
set_option maxHeartbeats 4000000 in
theorem form_any (d : Nat) (v : Value) (t : TY) (w : World) (h : TyM w d v t) (hs : t.size ≤ 20000) :
    Calls Tryd.prog 25 #[v] w fun e w' => e = .returned (.int .i64 (formX t)) ∧ Below w.heap.size w w' := by
  have hh := h
  obtain ⟨vs, va, rfl, hx, h1, h2⟩ := hh
  obtain ⟨p3, q3, p4, q4, rfl, rfl⟩ := h.forms
  have ha := below_alloc w (Obj.cells #[.int .i64 t.o, .string (bs t.x), .int .i64 t.i, .slice p3 t.s.length q3, .slice p4 t.l.length q4] 25)
  have r1 := heap_alloc_new w (Obj.cells #[.int .i64 t.o, .string (bs t.x), .int .i64 t.i, .slice p3 t.s.length q3, .slice p4 t.l.length q4] 25)
  have hz : (w.alloc (Obj.cells #[.int .i64 t.o, .string (bs t.x), .int .i64 t.i, .slice p3 t.s.length q3, .slice p4 t.l.length q4] 25)).heap.size = w.heap.size + 1 := by simp
  have hp : TyP (w.alloc (Obj.cells #[.int .i64 t.o, .string (bs t.x), .int .i64 t.i, .slice p3 t.s.length q3, .slice p4 t.l.length q4] 25)) d w.heap.size 0 t :=
    ⟨by rw [hz]; omega, p3, q3, p4, q4, fiveT r1, hx, h1.below ha (Nat.le_refl _), h2.below ha⟩
  have SE := Lib.hid (sizeError_any d _ _ t _ hp hs)
  have HPP := Lib.hid hp
  obtain ⟨r, hr⟩ : ∃ r, r = formX t := ⟨_, rfl⟩
  rw [← hr]
  unfold formX at hr
  have HR := Lib.hid hr
  have HA := Lib.hid ha
  have HZ := Lib.hid hz
  clear h h1 h2 hp r1 hz hr ha
  by_cases c : 500 < depT t
  · have hn : Hid (r = 6) := by unfold Hid; rw [HR.out, if_pos c]
    rw [if_pos c] at SE
    clear c HR
    go_enter Tryd.func25, Tryd.ntmps25
    go_wp2_with fail
    refine SE.out.mono ?_
    rintro e w2 ⟨rfl, hb2⟩
    go_wp2_with fail
    go_ret
    exact ⟨by rw [hn.out]; rfl, HA.out.trans (hb2.mono HA.out.size)⟩
  · have hn : Hid (r = formE t) := by unfold Hid; rw [HR.out, if_neg c]
    rw [if_neg c] at SE
    clear c HR
    go_enter Tryd.func25, Tryd.ntmps25
    go_wp2_with fail
    refine SE.out.mono ?_
    rintro e w2 ⟨rfl, hb2⟩
    have FB := Lib.hid (formC_any d _ _ t w2 (HPP.out.below hb2))
    have hB2 := HA.out.trans (hb2.mono HA.out.size)
    go_wp2_with fail
    refine FB.out.mono ?_
    rintro e w3 ⟨rfl, rfl⟩
    go_wp2_with fail
    go_ret
    exact ⟨by rw [hn.out]; rfl, hB2⟩
end Go.Proofs.YtkmoepabnnjoaaaDoor

/- types.Prop 12, types.eachArg 39 and types.Copy 28 of types without arguments. -/
namespace Go.Proofs.YtkmoepabnnjoaaaDoor
open Go.RowKit Go.WideMaps Go.Shelf Go.Lib
attribute [local go_sem] Oper.semAt_some

theorem row5 {w : World} {g : Nat} {a0 a1 a2 a3 a4 v0 v1 v2 v3 v4 : Value} {t : TypeId} (h : w.heap[g]? = some (.cells #[a0, a1, a2, a3, a4] t (0, 0))) :
    (((((w.setCell ⟨g, 0, none⟩ v0).setCell ⟨g, 1, none⟩ v1).setCell ⟨g, 2, none⟩ v2).setCell ⟨g, 3, none⟩ v3).setCell ⟨g, 4, none⟩ v4).heap[g]? = some (.cells #[v0, v1, v2, v3, v4] t (0, 0)) :=
  heap_setCell_same _ g 4 _ t _ (heap_setCell_same _ g 3 _ t _ (heap_setCell_same _ g 2 _ t _ (heap_setCell_same _ g 1 _ t _ (heap_setCell_same _ g 0 _ t _ h))))

theorem below5 {w0 w : World} {g B : Nat} {v0 v1 v2 v3 v4 : Value} (h : Below B w0 w) (hg : B ≤ g) :
    Below B w0 (((((w.setCell ⟨g, 0, none⟩ v0).setCell ⟨g, 1, none⟩ v1).setCell ⟨g, 2, none⟩ v2).setCell ⟨g, 3, none⟩ v3).setCell ⟨g, 4, none⟩ v4) :=
  ((((h.setCell (p := ⟨g, 0, none⟩) hg _).setCell (p := ⟨g, 1, none⟩) hg _).setCell (p := ⟨g, 2, none⟩) hg _).setCell (p := ⟨g, 3, none⟩) hg _).setCell (p := ⟨g, 4, none⟩) hg _

theorem five {w : World} {k : Nat} {a0 a1 a2 a3 a4 : Value} {t : TypeId} (h : w.heap[k]? = some (.cells #[a0, a1, a2, a3, a4] t (0, 0))) :
    (w.cell? ⟨k, 0, none⟩ = some a0 ∧ w.cell? ⟨k, 1, none⟩ = some a1 ∧ w.cell? ⟨k, 2, none⟩ = some a2 ∧ w.cell? ⟨k, 3, none⟩ = some a3 ∧ w.cell? ⟨k, 4, none⟩ = some a4) ∧
    (w.frozen? ⟨k, 0, none⟩ = false ∧ w.frozen? ⟨k, 1, none⟩ = false ∧ w.frozen? ⟨k, 2, none⟩ = false ∧ w.frozen? ⟨k, 3, none⟩ = false ∧ w.frozen? ⟨k, 4, none⟩ = false) :=
  ⟨fiveT h, frozen_of_row _ _ _ _ _ h, frozen_of_row _ _ _ _ _ h, frozen_of_row _ _ _ _ _ h, frozen_of_row _ _ _ _ _ h, frozen_of_row _ _ _ _ _ h⟩

abbrev noT5 : Array Value := #[.int .i64 0, .string ByteArray.empty, .int .i64 0, .slice none 0 0, .slice none 0 0]
theorem Tryd.size25 : (Tryd.prog.info? 25).map (·.size) = some 5 := by kernel_rfl
theorem Tryd.u23 : Tryd.prog.underlying 23 = some (.slice 25) := by kernel_rfl

theorem block5 {w : World} {g k : Nat} {v0 v1 v2 v3 v4 : Value} (h : k ≠ g) : (((((w.setCell ⟨g, 0, none⟩ v0).setCell ⟨g, 1, none⟩ v1).setCell ⟨g, 2, none⟩ v2).setCell ⟨g, 3, none⟩ v3).setCell ⟨g, 4, none⟩ v4).heap[k]? = w.heap[k]? :=
  (heap_setCell_other _ _ _ _ h).trans ((heap_setCell_other _ _ _ _ h).trans ((heap_setCell_other _ _ _ _ h).trans ((heap_setCell_other _ _ _ _ h).trans (heap_setCell_other _ _ _ _ h))))

set_option maxHeartbeats 1000000 in
theorem cloneE_nil (n c : Nat) (w : World) :
    Calls Tryd.prog 49 #[.slice none n c] w fun e w' => e = .returned (.slice none 0 0) ∧ w' = w := by
  have q23 : ∀ (w : World) (a : Option Addr) (n c n' c' : Nat), (binOp .eql 23 (.slice a n c) (.slice none n' c')).run Tryd.prog w = .ok (.bool a.isNone) w := fun w a n c n' c' => Lib.run_eql_slice_nil w _ _ a n c n' c' Tryd.u23
  go_enter Tryd.func49, Tryd.ntmps49
  go_wp2
  go_ret
  exact ⟨rfl, rfl⟩

/-- a leaf's value -/
def LeafV (w : World) (o i : Int) (x : Nm) (ss : List Nm) (v : Value) : Prop := ∃ p q, v = .agg #[.int .i64 o, .string (bs x), .int .i64 i, .slice p ss.length q, .slice none 0 0] ∧ SlS w (.slice p ss.length q) ss

theorem LeafV.below {w w' : World} {o i : Int} {x : Nm} {ss : List Nm} {v : Value} (h : LeafV w o i x ss v) (hb : Below w.heap.size w w') : LeafV w' o i x ss v := by
  obtain ⟨p, q, e, hs⟩ := h
  exact ⟨p, q, e, hs.below hb (Nat.le_refl _)⟩

theorem slO_far {w w' : World} {B C : Nat} {v : Value} {ss : List Nm} (h : SlO w B v ss) (hf : ∀ b, B ≤ b → b < w.heap.size → w'.heap[b]? = w.heap[b]?) (hz : w.heap.size ≤ w'.heap.size) (hC : C ≤ B) : SlO w' C v ss := by
  obtain ⟨h1, h2, a, cap, e, h3⟩ := h
  refine ⟨h1, h2, a, cap, e, fun hn => ?_⟩
  obtain ⟨b, e1, hB, hb, hc, hh⟩ := h3 hn
  refine ⟨b, e1, Nat.le_trans hC hB, Nat.lt_of_lt_of_le hb hz, hc, holds_iff.2 fun j hj => ?_⟩
  obtain ⟨c1, c2⟩ := holds_iff.1 hh j hj
  exact ⟨(World.cell?_of_block (a := ⟨b, j, none⟩) (hf b hB hb)).trans c1, (World.frozen?_of_block (a := ⟨b, j, none⟩) (hf b hB hb)).trans c2⟩

/-- a leaf's value whose sort is one's own -/
def LeafO (w : World) (B : Nat) (o i : Int) (x : Nm) (ss : List Nm) (v : Value) : Prop := ∃ p q, v = .agg #[.int .i64 o, .string (bs x), .int .i64 i, .slice p ss.length q, .slice none 0 0] ∧ SlO w B (.slice p ss.length q) ss

theorem LeafO.leaf {w : World} {B : Nat} {o i : Int} {x : Nm} {ss : List Nm} {v : Value} (h : LeafO w B o i x ss v) : LeafV w o i x ss v := by
  obtain ⟨p, q, e, hs⟩ := h
  exact ⟨p, q, e, hs.sl⟩

theorem slS_nil (w : World) : SlS w (.slice none 0 0) [] := ⟨by unfold maxLen; simp, none, 0, rfl, fun h => absurd h (by simp)⟩

set_option maxRecDepth 100000 in
set_option maxHeartbeats 1000000 in
theorem prop_any (w : World) : Calls Tryd.prog 12 #[] w fun e w' => (∃ v, e = .returned v ∧ LeafV w' 1 0 [112, 114, 111, 112] [] v) ∧ Below w.heap.size w w' := by
  have hb := below_alloc w (Obj.cells noT5 25)
  have r0 := heap_alloc_new w (Obj.cells noT5 25)
  obtain ⟨⟨p0, p1, p2, p3, p4⟩, f0, f1, f2, f3, f4⟩ := five r0
  have R0 := Lib.hid r0
  have HB := Lib.hid hb
  clear r0 hb
  go_enter Tryd.func12, Tryd.ntmps12
  go_wp2_with fail
  refine bodyPost_ret (results_cell_row rfl _ _ w.heap.size 25 _ (0, 0) _ rfl (heap_alloc_new w _) Tryd.underlying25 rfl Tryd.size25) rfl ?_
  exact ⟨⟨_, rfl, none, 0, rfl, slS_nil _⟩, below_alloc w _⟩

set_option maxRecDepth 100000 in
set_option maxHeartbeats 2000000 in
theorem eachLeaf_any (o i : Int) (x : Nm) (ss : List Nm) (v : Value) (w : World) (h : LeafV w o i x ss v) (hbig : ss.length * 16 ≤ 140737488355328) :
    Calls Tryd.prog 39 #[v, .func (.func 28) #[] #[]] w fun e w' => (∃ v', e = .returned v' ∧ LeafO w' w.heap.size o i x ss v') ∧ Below w.heap.size w w' := by
  obtain ⟨p, q, rfl, hs⟩ := h
  have hb1 := below_alloc w (Obj.cells #[.int .i64 o, .string (bs x), .int .i64 i, .slice p ss.length q, .slice none 0 0] 25)
  have r1 := heap_alloc_new w (Obj.cells #[.int .i64 o, .string (bs x), .int .i64 i, .slice p ss.length q, .slice none 0 0] 25)
  have hz1 : (w.alloc (Obj.cells #[.int .i64 o, .string (bs x), .int .i64 i, .slice p ss.length q, .slice none 0 0] 25)).heap.size = w.heap.size + 1 := by simp
  have hb2 := below_alloc (w.alloc (Obj.cells #[.int .i64 o, .string (bs x), .int .i64 i, .slice p ss.length q, .slice none 0 0] 25)) (Obj.cells noT5 25)
  have r2 := heap_alloc_new (w.alloc (Obj.cells #[.int .i64 o, .string (bs x), .int .i64 i, .slice p ss.length q, .slice none 0 0] 25)) (Obj.cells noT5 25)
  have hz2 : ((w.alloc (Obj.cells #[.int .i64 o, .string (bs x), .int .i64 i, .slice p ss.length q, .slice none 0 0] 25)).alloc (Obj.cells noT5 25)).heap.size = w.heap.size + 2 := by simp
  rw [hz1] at r2
  have r1' := (hb2.block w.heap.size (by omega)).trans r1
  have hB2 : Below w.heap.size w ((w.alloc (Obj.cells #[.int .i64 o, .string (bs x), .int .i64 i, .slice p ss.length q, .slice none 0 0] 25)).alloc (Obj.cells noT5 25)) := hb1.trans (hb2.mono (by omega))
  have CL := Lib.hid (clone_any _ ss _ (hs.below hB2 (Nat.le_refl _)) hbig)
  obtain ⟨⟨p0, p1, p2, p3, p4⟩, p5, p6, p7, p8, p9⟩ := five r1'
  have HR1 := Lib.hid r1'
  have HR2 := Lib.hid r2
  have HB2 := Lib.hid hB2
  have HZ2 := Lib.hid hz2
  have hm := hs.1
  unfold maxLen at hm
  clear hb1 hb2 r1 r2 r1' hB2 hz1 hz2 hs
  go_enter Tryd.func39, Tryd.ntmps39
  go_wp2_with fail
  refine CL.out.mono ?_
  rintro e w3 ⟨v3, rfl, ho, hb3⟩
  have HO := Lib.hid ho
  obtain ⟨_, _, a3, c3, rfl, _⟩ := ho
  have hz3 := hb3.size
  rw [HZ2.out] at hz3
  have hr1 := (hb3.block w.heap.size (by rw [HZ2.out]; omega)).trans HR1.out
  have hr2 := (hb3.block (w.heap.size + 1) (by rw [HZ2.out]; omega)).trans HR2.out
  have hB3 := HB2.out.trans (hb3.mono HB2.out.size)
  clear p0 p1 p2 p3 p4 p5 p6 p7 p8 p9 CL HR1 HR2 hb3
  have HR1 := Lib.hid hr1
  have HR2 := Lib.hid hr2
  have HB3 := Lib.hid hB3
  obtain ⟨⟨p0, p1, p2, p3, p4⟩, p5, p6, p7, p8, p9⟩ := five hr1
  obtain ⟨⟨z0, z1, z2, z3, z4⟩, z5, z6, z7, z8, z9⟩ := five hr2
  clear hr1 hr2 hB3
  go_wp2_with fail
  refine (cloneE_nil _ _ _).mono ?_
  rintro e w4 ⟨rfl, rfl⟩
  go_wp2_with fail
  go_loop [16] (fun j => j = .int .i64 0) (fun _ => 0)
  case atStart => exact rfl
  case round =>
    obtain rfl := hrel
    go_wp2_with fail
    have hr2' := (heap_setCell_other (w3.setCell ⟨w.heap.size, 3, none⟩ (.slice a3 ss.length c3)) ⟨w.heap.size, 4, none⟩ (w.heap.size + 1) (.slice none 0 0) (by simp)).trans ((heap_setCell_other w3 ⟨w.heap.size, 3, none⟩ (w.heap.size + 1) (.slice a3 ss.length c3) (by simp)).trans HR2.out)
    refine bodyPost_ret (results_cell_row rfl _ _ (w.heap.size + 1) 25 _ (0, 0) _ rfl (row5 hr2') Tryd.underlying25 rfl Tryd.size25) rfl ?_
    refine ⟨⟨_, rfl, a3, c3, rfl, ?_⟩, below5 ((HB3.out.setCell (p := ⟨w.heap.size, 3, none⟩) (Nat.le_refl _) _).setCell (p := ⟨w.heap.size, 4, none⟩) (Nat.le_refl _) _) (by omega)⟩
    refine slO_far HO.out (fun b hB hb => ?_) (by simp) (by rw [HZ2.out]; omega)
    rw [HZ2.out] at hB
    exact (block5 (show b ≠ w.heap.size + 1 by omega)).trans ((heap_setCell_other _ _ _ _ (show b ≠ w.heap.size by omega)).trans (heap_setCell_other _ _ _ _ (show b ≠ w.heap.size by omega)))

set_option maxRecDepth 100000 in
set_option maxHeartbeats 2000000 in
theorem copyLeaf_any (o i : Int) (x : Nm) (ss : List Nm) (v : Value) (w : World) (h : LeafV w o i x ss v) (hbig : ss.length * 16 ≤ 140737488355328) :
    Calls Tryd.prog 28 #[v] w fun e w' => (∃ v', e = .returned v' ∧ LeafO w' w.heap.size o i x ss v') ∧ Below w.heap.size w w' := by
  have hv := h
  obtain ⟨p, q, rfl, hs⟩ := h
  have hb1 := below_alloc w (Obj.cells #[.int .i64 o, .string (bs x), .int .i64 i, .slice p ss.length q, .slice none 0 0] 25)
  have r1 := heap_alloc_new w (Obj.cells #[.int .i64 o, .string (bs x), .int .i64 i, .slice p ss.length q, .slice none 0 0] 25)
  have hz1 : (w.alloc (Obj.cells #[.int .i64 o, .string (bs x), .int .i64 i, .slice p ss.length q, .slice none 0 0] 25)).heap.size = w.heap.size + 1 := by simp
  have hb2 := below_alloc (w.alloc (Obj.cells #[.int .i64 o, .string (bs x), .int .i64 i, .slice p ss.length q, .slice none 0 0] 25)) (Obj.cells noT5 25)
  have r2 := heap_alloc_new (w.alloc (Obj.cells #[.int .i64 o, .string (bs x), .int .i64 i, .slice p ss.length q, .slice none 0 0] 25)) (Obj.cells noT5 25)
  have hz2 : ((w.alloc (Obj.cells #[.int .i64 o, .string (bs x), .int .i64 i, .slice p ss.length q, .slice none 0 0] 25)).alloc (Obj.cells noT5 25)).heap.size = w.heap.size + 2 := by simp
  rw [hz1] at r2
  have r1' := (hb2.block w.heap.size (by omega)).trans r1
  have hB2 : Below w.heap.size w ((w.alloc (Obj.cells #[.int .i64 o, .string (bs x), .int .i64 i, .slice p ss.length q, .slice none 0 0] 25)).alloc (Obj.cells noT5 25)) := hb1.trans (hb2.mono (by omega))
  have EA := Lib.hid (eachLeaf_any o i x ss _ _ (hv.below hB2) hbig)
  obtain ⟨⟨p0, p1, p2, p3, p4⟩, p5, p6, p7, p8, p9⟩ := five r1'
  have HR2 := Lib.hid r2
  have HB2 := Lib.hid hB2
  have HZ2 := Lib.hid hz2
  have hm := hs.1
  unfold maxLen at hm
  clear hb1 hb2 r1 r2 r1' hB2 hz1 hz2 hs hv
  go_enter Tryd.func28, Tryd.ntmps28
  go_wp2_with fail
  refine EA.out.mono ?_
  rintro e w3 ⟨⟨v3, rfl, p', q', rfl, hs3⟩, hb3⟩
  have hz3 := hb3.size
  rw [HZ2.out] at hz3
  have hr2 := (hb3.block (w.heap.size + 1) (by rw [HZ2.out]; omega)).trans HR2.out
  have hB3 := HB2.out.trans (hb3.mono HB2.out.size)
  have HS3 := Lib.hid hs3
  have HR2 := Lib.hid hr2
  have HB3 := Lib.hid hB3
  clear p0 p1 p2 p3 p4 p5 p6 p7 p8 p9 EA hb3
  obtain ⟨⟨z0, z1, z2, z3, z4⟩, z5, z6, z7, z8, z9⟩ := five hr2
  clear hr2 hB3 hs3
  go_wp2_with fail
  refine bodyPost_ret (results_cell_row rfl _ _ (w.heap.size + 1) 25 _ (0, 0) _ rfl (row5 HR2.out) Tryd.underlying25 rfl Tryd.size25) rfl ?_
  refine ⟨⟨_, rfl, p', q', rfl, ?_⟩, below5 HB3.out (by omega)⟩
  refine slO_far HS3.out (fun b hB hb => ?_) (by simp) (by rw [HZ2.out]; omega)
  rw [HZ2.out] at hB
  exact block5 (show b ≠ w.heap.size + 1 by omega)
end Go.Proofs.YtkmoepabnnjoaaaDoor

/- types.Fun 11 of two leaves. -/
namespace Go.Proofs.YtkmoepabnnjoaaaDoor
open Go.RowKit Go.WideMaps Go.Shelf Go.Lib
attribute [local go_sem] Oper.semAt_some

abbrev noU5 : Array Value := #[.int .i64 0, .string ⟨#[]⟩, .int .i64 0, .slice none 0 0, .slice none 0 0]

def Ten (w : World) (k : Nat) (a0 a1 a2 a3 a4 b0 b1 b2 b3 b4 : Value) : Prop :=
  (w.cell? ⟨k, 0, none⟩ = some a0 ∧ w.cell? ⟨k, 1, none⟩ = some a1 ∧ w.cell? ⟨k, 2, none⟩ = some a2 ∧ w.cell? ⟨k, 3, none⟩ = some a3 ∧ w.cell? ⟨k, 4, none⟩ = some a4) ∧
  (w.cell? ⟨k + 1, 0, none⟩ = some b0 ∧ w.cell? ⟨k + 1, 1, none⟩ = some b1 ∧ w.cell? ⟨k + 1, 2, none⟩ = some b2 ∧ w.cell? ⟨k + 1, 3, none⟩ = some b3 ∧ w.cell? ⟨k + 1, 4, none⟩ = some b4)

theorem cell_lt {w : World} {b j : Nat} {v : Value} (h : w.cell? ⟨b, j, none⟩ = some v) : b < w.heap.size := lt_of_cell h

theorem ten_flat {w : World} {k : Nat} {a0 a1 a2 a3 a4 b0 b1 b2 b3 b4 : Value} (h : Ten w k a0 a1 a2 a3 a4 b0 b1 b2 b3 b4) : w.cell? ⟨k, 0, none⟩ = some a0 ∧ w.cell? ⟨k, 1, none⟩ = some a1 ∧ w.cell? ⟨k, 2, none⟩ = some a2 ∧ w.cell? ⟨k, 3, none⟩ = some a3 ∧ w.cell? ⟨k, 4, none⟩ = some a4 ∧ w.cell? ⟨k + 1, 0, none⟩ = some b0 ∧ w.cell? ⟨k + 1, 1, none⟩ = some b1 ∧ w.cell? ⟨k + 1, 2, none⟩ = some b2 ∧ w.cell? ⟨k + 1, 3, none⟩ = some b3 ∧ w.cell? ⟨k + 1, 4, none⟩ = some b4 := by
  obtain ⟨⟨h0, h1, h2, h3, h4⟩, g0, g1, g2, g3, g4⟩ := h
  exact ⟨h0, h1, h2, h3, h4, g0, g1, g2, g3, g4⟩

theorem five_alloc {w : World} {k : Nat} {a0 a1 a2 a3 a4 : Value} {t : TypeId} (h : w.heap[k]? = some (.cells #[a0, a1, a2, a3, a4] t (0, 0))) :
    (∀ ob, (w.alloc ob).cell? ⟨k, 0, none⟩ = some a0) ∧ (∀ ob, (w.alloc ob).cell? ⟨k, 1, none⟩ = some a1) ∧ (∀ ob, (w.alloc ob).cell? ⟨k, 2, none⟩ = some a2) ∧ (∀ ob, (w.alloc ob).cell? ⟨k, 3, none⟩ = some a3) ∧ (∀ ob, (w.alloc ob).cell? ⟨k, 4, none⟩ = some a4) ∧
    (∀ ob, (w.alloc ob).frozen? ⟨k, 0, none⟩ = false) ∧ (∀ ob, (w.alloc ob).frozen? ⟨k, 1, none⟩ = false) ∧ (∀ ob, (w.alloc ob).frozen? ⟨k, 2, none⟩ = false) ∧ (∀ ob, (w.alloc ob).frozen? ⟨k, 3, none⟩ = false) ∧ (∀ ob, (w.alloc ob).frozen? ⟨k, 4, none⟩ = false) := by
  have hk := (Array.getElem?_eq_some_iff.1 h).1
  have hh : ∀ ob, (w.alloc ob).heap[k]? = some (.cells #[a0, a1, a2, a3, a4] t (0, 0)) := fun ob => ((below_alloc w ob).block k hk).trans h
  exact ⟨fun ob => (five (hh ob)).1.1, fun ob => (five (hh ob)).1.2.1, fun ob => (five (hh ob)).1.2.2.1, fun ob => (five (hh ob)).1.2.2.2.1, fun ob => (five (hh ob)).1.2.2.2.2, fun ob => (five (hh ob)).2.1, fun ob => (five (hh ob)).2.2.1, fun ob => (five (hh ob)).2.2.2.1, fun ob => (five (hh ob)).2.2.2.2.1, fun ob => (five (hh ob)).2.2.2.2.2⟩

theorem ten_far {w w' : World} {k : Nat} {a0 a1 a2 a3 a4 b0 b1 b2 b3 b4 : Value} (h : Ten w k a0 a1 a2 a3 a4 b0 b1 b2 b3 b4) (e1 : w'.heap[k]? = w.heap[k]?) (e2 : w'.heap[k + 1]? = w.heap[k + 1]?) : Ten w' k a0 a1 a2 a3 a4 b0 b1 b2 b3 b4 := by
  obtain ⟨⟨h0, h1, h2, h3, h4⟩, g0, g1, g2, g3, g4⟩ := h
  have c1 : ∀ i u, w.cell? ⟨k, i, none⟩ = some u → w'.cell? ⟨k, i, none⟩ = some u := fun i u hc => (World.cell?_of_block (a := ⟨k, i, none⟩) e1).trans hc
  have c2 : ∀ i u, w.cell? ⟨k + 1, i, none⟩ = some u → w'.cell? ⟨k + 1, i, none⟩ = some u := fun i u hc => (World.cell?_of_block (a := ⟨k + 1, i, none⟩) e2).trans hc
  exact ⟨⟨c1 _ _ h0, c1 _ _ h1, c1 _ _ h2, c1 _ _ h3, c1 _ _ h4⟩, c2 _ _ g0, c2 _ _ g1, c2 _ _ g2, c2 _ _ g3, c2 _ _ g4⟩

theorem ten_below {w w' : World} {k : Nat} {a0 a1 a2 a3 a4 b0 b1 b2 b3 b4 : Value} (h : Ten w k a0 a1 a2 a3 a4 b0 b1 b2 b3 b4) (hb : Below w.heap.size w w') : Ten w' k a0 a1 a2 a3 a4 b0 b1 b2 b3 b4 :=
  ⟨fiveP (o := 0) h.1 hb (lt_of_cell h.1.1), fiveP (o := 0) h.2 hb (lt_of_cell h.2.1)⟩

set_option maxRecDepth 100000 in
set_option maxHeartbeats 4000000 in
theorem funLeaf_any (o i : Int) (x : Nm) (ss : List Nm) (v : Value) (o' i' : Int) (x' : Nm) (ss' : List Nm) (v' : Value) (w : World) (h : LeafV w o i x ss v) (h' : LeafV w o' i' x' ss' v')
    (hbig : ss.length * 16 ≤ 140737488355328) (hbig' : ss'.length * 16 ≤ 140737488355328) (hx : x.length ≤ maxLen) (hx' : x'.length ≤ maxLen) :
    Calls Tryd.prog 11 #[v, v'] w fun e w' => (∃ v, e = .returned v ∧ (∃ g p5 q5 p6 q6, v = .agg #[.int .i64 1, .string ⟨#[102, 117, 110]⟩, .int .i64 0, .slice none 0 0, .slice (some ⟨g, 0, none⟩) 2 2] ∧ w'.heap[g]? = some (Obj.cells #[.int .i64 o, .string (bs x), .int .i64 i, .slice p5 ss.length q5, .slice none 0 0, .int .i64 o', .string (bs x'), .int .i64 i', .slice p6 ss'.length q6, .slice none 0 0] 25)) ∧ TyM w' 1 v (.mk 1 [102, 117, 110] 0 [] [.mk o x i ss [], .mk o' x' i' ss' []])) ∧ Below w.heap.size w w' := by
  obtain ⟨p, q, rfl, hs⟩ := h
  obtain ⟨p', q', rfl, hs'⟩ := h'
  obtain ⟨A, hA⟩ : ∃ A, A = w.alloc (Obj.cells #[.int .i64 o, .string (bs x), .int .i64 i, .slice p ss.length q, .slice none 0 0] 25) := ⟨_, rfl⟩
  obtain ⟨B, hB⟩ : ∃ B, B = A.alloc (Obj.cells #[.int .i64 o', .string (bs x'), .int .i64 i', .slice p' ss'.length q', .slice none 0 0] 25) := ⟨_, rfl⟩
  obtain ⟨C, hC⟩ : ∃ C, C = B.alloc (Obj.cells noU5 25) := ⟨_, rfl⟩
  have a1 := heap_alloc_new w (Obj.cells #[.int .i64 o, .string (bs x), .int .i64 i, .slice p ss.length q, .slice none 0 0] 25)
  have a2 := heap_alloc_new A (Obj.cells #[.int .i64 o', .string (bs x'), .int .i64 i', .slice p' ss'.length q', .slice none 0 0] 25)
  have a3 := heap_alloc_new B (Obj.cells noU5 25)
  have b1 := below_alloc w (Obj.cells #[.int .i64 o, .string (bs x), .int .i64 i, .slice p ss.length q, .slice none 0 0] 25)
  have b2 := below_alloc A (Obj.cells #[.int .i64 o', .string (bs x'), .int .i64 i', .slice p' ss'.length q', .slice none 0 0] 25)
  have b3 := below_alloc B (Obj.cells noU5 25)
  have zA : A.heap.size = w.heap.size + 1 := by rw [hA]; simp
  have zB : B.heap.size = w.heap.size + 2 := by rw [hB]; simp [zA]
  have zC : C.heap.size = w.heap.size + 3 := by rw [hC]; simp [zB]
  rw [← hA] at a1 b1
  rw [← hB] at a2 b2
  rw [← hC] at a3 b3
  rw [zA] at a2
  rw [zB] at a3
  have r1 : C.heap[w.heap.size]? = _ := (b3.block w.heap.size (by omega)).trans ((b2.block w.heap.size (by omega)).trans a1)
  have r2 : C.heap[w.heap.size + 1]? = _ := (b3.block (w.heap.size + 1) (by omega)).trans a2
  have hbC : Below w.heap.size w C := b1.trans ((b2.mono (by omega)).trans (b3.mono (by omega)))
  have hbD : Below w.heap.size w C.drew := hbC.drew
  have TN := Lib.hid (show Ten C.drew w.heap.size _ _ _ _ _ _ _ _ _ _ from ⟨fiveT (w := C.drew) r1, fiveT (w := C.drew) r2⟩)
  have R3 := Lib.hid (show C.drew.heap[w.heap.size + 1 + 1]? = some (Obj.cells noU5 25) from a3)
  have LA := Lib.hid (show LeafV C.drew o i x ss _ from ⟨p, q, rfl, hs.below hbD (Nat.le_refl _)⟩)
  have LB := Lib.hid (show LeafV C.drew o' i' x' ss' _ from ⟨p', q', rfl, hs'.below hbD (Nat.le_refl _)⟩)
  have ZC := Lib.hid (show C.drew.heap.size = w.heap.size + 3 from zC)
  have HBD := Lib.hid hbD
  have HCC := Lib.hid hC
  have HBB := Lib.hid hB
  have HAA := Lib.hid hA
  have hm := hs.1
  have hm' := hs'.1
  unfold maxLen at hm hm'
  clear a1 a2 a3 b1 b2 b3 r1 r2 hbC hbD zA zB zC hs hs' hA hB hC
  go_enter Tryd.func11, Tryd.ntmps11
  go_upto_region 1 with (fail)
  rw [← HAA.out, ← HBB.out, ← HCC.out]
  clear HCC HBB HAA
  refine wp_region_held_drew (S := (fun w' => w'.cell? ⟨w.heap.size, 0, none⟩ = some (.int .i64 o) ∧ w'.cell? ⟨w.heap.size, 1, none⟩ = some (.string (bs x)) ∧ w'.cell? ⟨w.heap.size, 2, none⟩ = some (.int .i64 i) ∧ w'.cell? ⟨w.heap.size, 3, none⟩ = some (.slice p ss.length q) ∧ w'.cell? ⟨w.heap.size, 4, none⟩ = some (.slice none 0 0) ∧ w'.cell? ⟨w.heap.size + 1, 0, none⟩ = some (.int .i64 o') ∧ w'.cell? ⟨w.heap.size + 1, 1, none⟩ = some (.string (bs x')) ∧ w'.cell? ⟨w.heap.size + 1, 2, none⟩ = some (.int .i64 i') ∧ w'.cell? ⟨w.heap.size + 1, 3, none⟩ = some (.slice p' ss'.length q') ∧ w'.cell? ⟨w.heap.size + 1, 4, none⟩ = some (.slice none 0 0))) (by kernel_rfl) ?_ (fun hHeld => ?_)
  · exact ten_flat TN.out
  refine wpAnyH_take (i := 0) (oi := { dst := some 5, op := Op.load 25 (Operand.tmp 2), type := 25, pos := "types.go:19", after := #[], guard := none }) (v := ?v0) rfl (by kernel_rfl) (by kernel_rfl) (by kernel_rfl) (fun _ _ _ h => h) (Or.inl ⟨by rfl, ?hy0⟩) (by assumption) ?rest0
  case hy0 => (intro wq hSq; (try dsimp only at hSq); go_simp; try with_reducible rfl)
  try simp only [Act.put, List.setIfInBounds_toArray, List.set_cons_zero, List.set_cons_succ]
  refine wpAnyH_take (i := 2) (oi := { dst := some 7, op := Op.load 25 (Operand.tmp 3), type := 25, pos := "types.go:19", after := #[], guard := none }) (v := ?v2) rfl (by kernel_rfl) (by kernel_rfl) (by kernel_rfl) (fun _ _ _ h => h) (Or.inl ⟨by rfl, ?hy2⟩) (by assumption) ?rest2
  case hy2 => (intro wq hSq; (try dsimp only at hSq); go_simp; try with_reducible rfl)
  try simp only [Act.put, List.setIfInBounds_toArray, List.set_cons_zero, List.set_cons_succ]
  refine wpAnyH_ready (rs := [1]) (by kernel_rfl) (by simp) ?_
  refine AllReadyH.cons rfl (fun K hK => ?_) AllReadyH.nil
  go_simp
  go_wp2_with (refine (copyLeaf_any o i x ss _ _ LA.out hbig).mono ?_; rintro e w5 ⟨⟨va, rfl, p5, q5, rfl, so5⟩, hb5⟩; have TN5 := Lib.hid (ten_below TN.out hb5))
  refine hK.out _ _ ?_ (fun hHeldN => ?_)
  · (try dsimp only); exact ten_flat TN5.out
  clear hK K hHeld
  have hHeld := hHeldN
  clear hHeldN
  have SO5 := Lib.hid so5
  have R35 := Lib.hid ((hb5.block (w.heap.size + 1 + 1) (Array.getElem?_eq_some_iff.1 R3.out).1).trans R3.out)
  have HBD5 := Lib.hid (HBD.out.trans (hb5.mono HBD.out.size))
  have LB5 := Lib.hid (LB.out.below hb5)
  have hz5 : Hid (w.heap.size + 3 ≤ w5.heap.size) := by unfold Hid; have := hb5.size; rw [ZC.out] at this; exact this
  clear so5 hb5 LA LB TN R3 HBD
  refine wpAnyH_ready (rs := [3]) (by kernel_rfl) (by simp) ?_
  refine AllReadyH.cons rfl (fun K hK => ?_) AllReadyH.nil
  go_simp
  go_wp2_with (refine (copyLeaf_any o' i' x' ss' _ _ LB5.out hbig').mono ?_; rintro e w6 ⟨⟨vb, rfl, p6, q6, rfl, so6⟩, hb6⟩; have TN6 := Lib.hid (ten_below TN5.out hb6))
  refine hK.out _ _ ?_ (fun hHeldN => ?_)
  · (try dsimp only); exact ten_flat TN6.out
  clear hK K hHeld
  have hHeld := hHeldN
  clear hHeldN
  have SA6 := Lib.hid (SO5.out.below hb6 (Nat.le_refl _))
  have SB6 := Lib.hid so6
  have R36 := Lib.hid ((hb6.block (w.heap.size + 1 + 1) (Array.getElem?_eq_some_iff.1 R35.out).1).trans R35.out)
  have HBD6 := Lib.hid (HBD5.out.trans (hb6.mono HBD5.out.size))
  have hz6 : Hid (w.heap.size + 3 ≤ w6.heap.size) := by unfold Hid; exact Nat.le_trans hz5.out hb6.size
  clear so6 hb6 LB5 TN5 R35 HBD5 SO5
  refine wpAnyH_ready (rs := [4]) (by kernel_rfl) (by simp) ?_
  refine AllReadyH.cons rfl (fun K hK => ?_) AllReadyH.nil
  go_simp
  refine hK.out _ _ ?_ (fun hHeldN => ?_)
  · (try dsimp only); exact ten_flat (ten_below TN6.out (below_alloc _ _))
  clear hK K hHeld
  have hHeld := hHeldN
  clear hHeldN
  have rg := heap_alloc_new w6 (Obj.cells #[.int .i64 o, .string (bs x), .int .i64 i, .slice p5 ss.length q5, .slice none 0 0, .int .i64 o', .string (bs x'), .int .i64 i', .slice p6 ss'.length q6, .slice none 0 0] 25)
  have hb7 := below_alloc w6 (Obj.cells #[.int .i64 o, .string (bs x), .int .i64 i, .slice p5 ss.length q5, .slice none 0 0, .int .i64 o', .string (bs x'), .int .i64 i', .slice p6 ss'.length q6, .slice none 0 0] 25)
  generalize w6.alloc (Obj.cells #[.int .i64 o, .string (bs x), .int .i64 i, .slice p5 ss.length q5, .slice none 0 0, .int .i64 o', .string (bs x'), .int .i64 i', .slice p6 ss'.length q6, .slice none 0 0] 25) = w7 at *
  have RG := Lib.hid rg
  have TN7 := Lib.hid (ten_below TN6.out hb7)
  have SA7 := Lib.hid (SA6.out.below hb7 (Nat.le_refl _))
  have SB7 := Lib.hid (SB6.out.below hb7 (Nat.le_refl _))
  have R37 := Lib.hid ((hb7.block (w.heap.size + 1 + 1) (Array.getElem?_eq_some_iff.1 R36.out).1).trans R36.out)
  have HBD7 := Lib.hid (HBD6.out.trans (hb7.mono HBD6.out.size))
  clear rg hb7 TN6 SA6 SB6 R36 HBD6
  generalize w6.heap.size = g at *
  refine wpAnyH_ready (rs := [5]) (by kernel_rfl) (by simp) ?_
  refine AllReadyH.cons rfl (fun K hK => ?_) AllReadyH.nil
  go_simp
  refine hK.out _ _ ?_ (fun hHeldN => ?_)
  · (try dsimp only); exact hHeld
  clear hK K hHeld
  have hHeld := hHeldN
  clear hHeldN
  obtain ⟨⟨z0, z1, z2, z3, z4⟩, z5, z6, z7, z8, z9⟩ := five R37.out
  refine wpAnyH_ready (rs := [6]) (by kernel_rfl) (by simp) ?_
  refine AllReadyH.cons rfl (fun K hK => ?_) AllReadyH.nil
  go_simp
  refine hK.out _ _ ?_ (fun hHeldN => ?_)
  · (try dsimp only); exact ten_flat (ten_far TN7.out (block5 (by omega)) (block5 (by omega)))
  clear hK K hHeld
  have hHeld := hHeldN
  clear hHeldN
  refine wpAnyH_done (by kernel_rfl) ?_ _
  clear hHeld
  go_wp2_with fail
  refine bodyPost_ret (results_cell_row rfl _ _ (w.heap.size + 1 + 1) 25 _ (0, 0) _ rfl (row5 R37.out) Tryd.underlying25 rfl Tryd.size25) rfl ?_
  have hg := hz6.out
  have rgF := (block5 (w := w7) (v0 := .int .i64 1) (v1 := .string ⟨#[102, 117, 110]⟩) (v2 := .int .i64 0) (v3 := .slice none 0 0) (v4 := .slice (some ⟨g, 0, none⟩) 2 2) (show g ≠ w.heap.size + 1 + 1 by omega)).trans RG.out
  refine ⟨⟨_, rfl, ⟨g, _, _, _, _, rfl, rgF⟩, .slice none 0 0, .slice (some ⟨g, 0, none⟩) 2 2, rfl, (show 3 ≤ maxLen by decide), slS_nil _, (show 2 ≤ maxLen by decide), _, 2, rfl, fun _ => ⟨g, 0, rfl, (Array.getElem?_eq_some_iff.1 rgF).1, fun j hj => ?_⟩⟩, below5 HBD7.out (by omega)⟩
  have hsa := (slO_far (C := 0) SA7.out (w' := _) (fun b hB hb => block5 (g := w.heap.size + 1 + 1) (v0 := .int .i64 1) (v1 := .string ⟨#[102, 117, 110]⟩) (v2 := .int .i64 0) (v3 := .slice none 0 0) (v4 := .slice (some ⟨g, 0, none⟩) 2 2) (by rw [ZC.out] at hB; omega)) (by simp) (Nat.zero_le _)).sl
  have hsb := (slO_far (C := 0) SB7.out (w' := _) (fun b hB hb => block5 (g := w.heap.size + 1 + 1) (v0 := .int .i64 1) (v1 := .string ⟨#[102, 117, 110]⟩) (v2 := .int .i64 0) (v3 := .slice none 0 0) (v4 := .slice (some ⟨g, 0, none⟩) 2 2) (by have := hz5.out; omega)) (by simp) (Nat.zero_le _)).sl
  have hj2 : j = 0 ∨ j = 1 := by have : j < 2 := hj; omega
  rcases hj2 with rfl | rfl
  · exact ⟨.slice p5 ss.length q5, .slice none 0 0, by rw [cell_of_row _ _ (0 + 0 * 5) _ _ _ rgF]; rfl, by rw [cell_of_row _ _ (0 + 0 * 5 + 1) _ _ _ rgF]; rfl, by rw [cell_of_row _ _ (0 + 0 * 5 + 2) _ _ _ rgF]; rfl, by rw [cell_of_row _ _ (0 + 0 * 5 + 3) _ _ _ rgF]; rfl, by rw [cell_of_row _ _ (0 + 0 * 5 + 4) _ _ _ rgF]; rfl, hx, hsa, ⟨none, 0, rfl⟩, rfl⟩
  · exact ⟨.slice p6 ss'.length q6, .slice none 0 0, by rw [cell_of_row _ _ (0 + 1 * 5) _ _ _ rgF]; rfl, by rw [cell_of_row _ _ (0 + 1 * 5 + 1) _ _ _ rgF]; rfl, by rw [cell_of_row _ _ (0 + 1 * 5 + 2) _ _ _ rgF]; rfl, by rw [cell_of_row _ _ (0 + 1 * 5 + 3) _ _ _ rgF]; rfl, by rw [cell_of_row _ _ (0 + 1 * 5 + 4) _ _ _ rgF]; rfl, hx', hsb, ⟨none, 0, rfl⟩, rfl⟩
end Go.Proofs.YtkmoepabnnjoaaaDoor
