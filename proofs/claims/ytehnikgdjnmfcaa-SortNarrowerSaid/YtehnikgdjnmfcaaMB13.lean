/- Few, fewSorts. -/
import Derived.Test.YtehnikgdjnmfcaaMB11
namespace Go.Proofs.Ytehnikgdjnmfcaa
open Go.RowKit Go.WideMaps Go.Shelf

/-- a slice of slices, whatever they hold -/
def SlSS (w : World) (v : Value) : Prop :=
  ∃ a n cap, v = .slice a n cap ∧ n ≤ maxLen ∧ (0 < n → ∃ b off, a = some ⟨b, off, none⟩ ∧ b < w.heap.size ∧ ∀ k, k < n → ∃ p m c, w.cell? ⟨b, off + k, none⟩ = some (.slice p m c))

theorem SlSS.below {w w' : World} {B : Nat} {v : Value} (h : SlSS w v) (hb : Below B w w') (hB : w.heap.size ≤ B) : SlSS w' v := by
  obtain ⟨a, n, cap, e, h1, h2⟩ := h
  refine ⟨a, n, cap, e, h1, fun hn => ?_⟩
  obtain ⟨b, off, e1, h3, h4⟩ := h2 hn
  refine ⟨b, off, e1, by have := hb.size; omega, fun k hk => ?_⟩
  obtain ⟨p, m, c, h5⟩ := h4 k hk
  exact ⟨p, m, c, (hb.cell (p := ⟨b, off + k, none⟩) (by simp; omega)).trans h5⟩

def AB (w : World) (e : Ending) (w' : World) : Prop := ∃ r, e = .returned (.bool r) ∧ Below w.heap.size w w'
def AI (w : World) (e : Ending) (w' : World) : Prop := ∃ r : Int, e = .returned (.int .i64 r) ∧ Below w.heap.size w w'

theorem long_any (p : Option Addr) (m c : Nat) (w : World) : Calls Try.prog 29 #[.slice p m c] w fun e w' => e = .returned (.bool (decide (25 < ((m : Nat) : Int)))) ∧ w' = w := by
  go_enter Try.func29, Try.ntmps29
  go_wp2_with fail
  go_ret
  exact ⟨rfl, rfl⟩

set_option maxRecDepth 100000 in
set_option maxHeartbeats 4000000 in
theorem index_any (v : Value) (w : World) (hs : SlSS w v) :
    Calls Try.prog 51 #[v, .func (.func 29) #[] #[]] w (AI w) := by
  obtain ⟨a, n, cap, rfl, hn, hs⟩ := hs
  unfold maxLen at hn
  go_enter Try.func51, Try.ntmps51
  go_wp2_with fail
  go_loop [8] (fun i => ∃ k : Nat, k ≤ n ∧ i = .int .i64 k) (fun i => n - (intOf i).toNat)
  case atStart => exact ⟨0, by omega, rfl⟩
  case round =>
    obtain ⟨k, hk, rfl⟩ := hrel
    by_cases hlt : k < n
    · obtain ⟨b, off, rfl, hb, hc⟩ := hs (by omega)
      obtain ⟨p, m, c, hck⟩ := hc k hlt
      by_cases hd : decide (25 < ((m : Nat) : Int)) = true
      · have C := Lib.hid (fun W => long_any p m c W)
        rw [hd] at C
        clear hd hc
        go_wp2_with (go_at_call 29; refine (C.out _).mono ?_; rintro e w' ⟨rfl, rfl⟩)
        go_ret
        exact ⟨_, rfl, Below.refl _ _⟩
      · have hd' : decide (25 < ((m : Nat) : Int)) = false := by simpa using hd
        have C := Lib.hid (fun W => long_any p m c W)
        rw [hd'] at C
        clear hd hd' hc
        go_wp2_with (go_at_call 29; refine (C.out _).mono ?_; rintro e w' ⟨rfl, rfl⟩)
        go_round
        case rel => exact ⟨k + 1, by omega, by go_num⟩
        case measure => simp [intOf]; omega
    · go_wp2_with fail
      go_ret
      exact ⟨_, rfl, Below.refl _ _⟩

set_option maxRecDepth 100000 in
theorem contains_any (v : Value) (w : World) (hs : SlSS w v) :
    Calls Try.prog 28 #[v, .func (.func 29) #[] #[]] w (AB w) := by
  go_enter Try.func28, Try.ntmps28
  go_wp2_with fail
  refine (index_any v w hs).mono ?_
  rintro e w' ⟨r, rfl, hb⟩
  go_wp2_with fail
  go_ret
  exact ⟨_, rfl, hb⟩

set_option maxRecDepth 100000 in
theorem fewSorts_any (v : Value) (w : World) (hs : SlSS w v) :
    Calls Try.prog 9 #[v] w (AB w) := by
  go_enter Try.func9, Try.ntmps9
  go_wp2_with fail
  refine (contains_any v w hs).mono ?_
  rintro e w' ⟨r, rfl, hb⟩
  go_wp2_with fail
  go_ret
  exact ⟨_, rfl, hb⟩

/-- a slice of arities, whatever they say -/
def SlA (w : World) (v : Value) : Prop :=
  ∃ a n cap, v = .slice a n cap ∧ n ≤ maxLen ∧ (0 < n → ∃ b off, a = some ⟨b, off, none⟩ ∧ b < w.heap.size ∧ ∀ k, k < n → ∃ s1 s2 v3, w.cell? ⟨b, off + k * 3, none⟩ = some (.string s1) ∧ w.cell? ⟨b, off + k * 3 + 1, none⟩ = some (.string s2) ∧ w.cell? ⟨b, off + k * 3 + 2, none⟩ = some v3 ∧ SlSS w v3)

theorem SlA.below {w w' : World} {B : Nat} {v : Value} (h : SlA w v) (hb : Below B w w') (hB : w.heap.size ≤ B) : SlA w' v := by
  obtain ⟨a, n, cap, e, h1, h2⟩ := h
  refine ⟨a, n, cap, e, h1, fun hn => ?_⟩
  obtain ⟨b, off, e1, h3, h4⟩ := h2 hn
  refine ⟨b, off, e1, by have := hb.size; omega, fun k hk => ?_⟩
  obtain ⟨s1, s2, v3, g1, g2, g3, g4⟩ := h4 k hk
  exact ⟨s1, s2, v3, (hb.cell (p := ⟨b, _, none⟩) (by simp; omega)).trans g1, (hb.cell (p := ⟨b, _, none⟩) (by simp; omega)).trans g2, (hb.cell (p := ⟨b, _, none⟩) (by simp; omega)).trans g3, g4.below hb hB⟩

set_option maxRecDepth 100000 in
set_option maxHeartbeats 4000000 in
theorem few_any (n c t2 t3 t4 t5 t6 : Value) (p2 : Option Addr) (n2 c2 : Nat) (cs : List (Nm × List Nm)) (w : World) (hc : SlC w c cs) (h2 : t2 = .slice p2 n2 c2) (h3 : SlA w t3) :
    Calls Try.prog 8 #[.agg #[n, c, t2, t3, t4, t5, t6]] w (AB w) := by
  have HC := Lib.hid hc
  have H3 := Lib.hid h3
  obtain ⟨hcl, ca, ccap, rfl, _⟩ := hc
  obtain ⟨a3, n3, c3, rfl, hn3, _⟩ := h3
  subst h2
  unfold maxLen at hcl hn3
  by_cases hd1 : decide (14 < ((cs.length : Nat) : Int)) = true
  · go_enter Try.func8, Try.ntmps8
    go_wp2_with fail
    go_ret
    exact ⟨_, rfl, below_alloc _ _⟩
  · have hd1 : decide (14 < ((cs.length : Nat) : Int)) = false := by simpa using hd1
    by_cases hd2 : decide (16 < ((n2 : Nat) : Int)) = true
    · go_enter Try.func8, Try.ntmps8
      go_wp2_with fail
      go_ret
      exact ⟨_, rfl, below_alloc _ _⟩
    · have hd2 : decide (16 < ((n2 : Nat) : Int)) = false := by simpa using hd2
      by_cases hd3 : decide (40 < ((n3 : Nat) : Int)) = true
      · go_enter Try.func8, Try.ntmps8
        go_wp2_with fail
        go_ret
        exact ⟨_, rfl, below_alloc _ _⟩
      · have hd3 : decide (40 < ((n3 : Nat) : Int)) = false := by simpa using hd3
        go_enter Try.func8, Try.ntmps8
        go_wp2_with fail
        have hb0 := below_alloc w (Obj.cells #[n, .slice ca cs.length ccap, .slice p2 n2 c2, .slice a3 n3 c3, t4, t5, t6] 29)
        have hr0 := heap_alloc_new w (Obj.cells #[n, .slice ca cs.length ccap, .slice p2 n2 c2, .slice a3 n3 c3, t4, t5, t6] 29)
        have hz0 : w.heap.size + 1 ≤ (w.alloc (Obj.cells #[n, .slice ca cs.length ccap, .slice p2 n2 c2, .slice a3 n3 c3, t4, t5, t6] 29)).heap.size := by simp
        generalize (w.alloc (Obj.cells #[n, .slice ca cs.length ccap, .slice p2 n2 c2, .slice a3 n3 c3, t4, t5, t6] 29)) = W0 at *
        have HR0 := Lib.hid hr0
        clear hr0
        go_loopw [26] (fun i wr => ∃ k : Nat, k ≤ cs.length ∧ i = .int .i64 k ∧ Below W0.heap.size W0 wr) (fun i _ => cs.length - (intOf i).toNat)
        case atStart => exact ⟨0, by omega, rfl, Below.refl _ _⟩
        case round =>
          obtain ⟨k, hk, rfl, hB⟩ := hrel
          have hz := hB.size
          have hBw : Below w.heap.size w wr := hb0.trans (hB.mono (by omega))
          by_cases hlt : k < cs.length
          · obtain ⟨_, ca', cap', hee, hsx⟩ := HC.out.below hBw (Nat.le_refl _)
            injection hee with hee _ hee2
            subst hee
            subst hee2
            obtain ⟨b, off, rfl, hb, hc⟩ := hsx (by omega)
            obtain ⟨g0, hnl, sa', scap', g1, _⟩ := hc k hlt
            clear hc hsx
            generalize cs.getD k ([], []) = x at *
            obtain ⟨nm, sups⟩ := x
            simp only at g0 g1
            by_cases hd : decide (25 < ((sups.length : Nat) : Int)) = true
            · go_wp2_with fail
              go_ret
              exact ⟨_, rfl, hBw.trans ((below_alloc wr _).mono (by omega))⟩
            · have hd : decide (25 < ((sups.length : Nat) : Int)) = false := by simpa using hd
              go_wp2_with fail
              go_roundw
              case rel => exact ⟨k + 1, by omega, by go_num, hB.trans ((below_alloc wr _).mono (by omega))⟩
              case measure => simp [intOf]; omega
          · have p3 : wr.cell? ⟨w.heap.size, 3, none⟩ = some (.slice a3 n3 c3) := by rw [cell_of_row wr _ 3 _ _ _ ((hB.block _ (by omega)).trans HR0.out)]; rfl
            go_wp2_with fail
            generalize wr = w5 at *
            go_loopw [38] (fun i wr => ∃ k : Nat, k ≤ n3 ∧ i = .int .i64 k ∧ Below w5.heap.size w5 wr) (fun i _ => n3 - (intOf i).toNat)
            case atStart => exact ⟨0, by omega, rfl, Below.refl _ _⟩
            case round =>
              obtain ⟨k, hk, rfl, hB2⟩ := hrel
              have hBw2 : Below w.heap.size w wr := hBw.trans (hB2.mono (by omega))
              have hz2 := hB2.size
              by_cases hlt : k < n3
              · obtain ⟨_, n3', c3', hee, _, hsx⟩ := H3.out.below hBw2 (Nat.le_refl _)
                injection hee with hee hee1 hee2
                subst hee
                subst hee1
                subst hee2
                obtain ⟨b, off, rfl, hb, hc⟩ := hsx (by omega)
                obtain ⟨s1, s2, v3, g0, g1, g2, g3⟩ := hc k hlt
                have hb4 := below_alloc wr (Obj.cells #[.string s1, .string s2, v3] 58)
                have C := Lib.hid (fewSorts_any v3 _ (g3.below hb4 (Nat.le_refl _)))
                obtain ⟨a4, n4, c4, rfl, _⟩ := g3
                clear hc hsx
                by_cases hd : decide (12 < ((n4 : Nat) : Int)) = true
                · clear C
                  go_wp2_with fail
                  go_ret
                  exact ⟨_, rfl, hBw2.trans ((below_alloc wr _).mono (by omega))⟩
                · have hd : decide (12 < ((n4 : Nat) : Int)) = false := by simpa using hd
                  go_wp2_with (go_at_call 9; refine C.out.mono ?_; rintro e w6 ⟨r, rfl, hb6⟩; cases r)
                  · go_ret
                    exact ⟨_, rfl, hBw2.trans ((hb4.mono (by omega)).trans (hb6.mono (by simp; omega)))⟩
                  · go_roundw
                    case rel => exact ⟨k + 1, by omega, by go_num, hB2.trans ((hb4.mono (by omega)).trans (hb6.mono (by simp; omega)))⟩
                    case measure => simp [intOf]; omega
              · go_wp2_with fail
                go_ret
                exact ⟨_, rfl, hBw2⟩

end Go.Proofs.Ytehnikgdjnmfcaa

/- awake. -/
namespace Go.Proofs.Ytehnikgdjnmfcaa
open Go.RowKit Go.WideMaps Go.Shelf

def cs0 : List (Nm × List Nm) := [([97], []), ([98], []), ([99], [[97], [98]])]

theorem built0 : Built cs0 [[], [], [0, 1]] [[0], [1], [2, 0, 1]] := by
  have h1 : Built ([] ++ [(([97] : Nm), ([] : List Nm))]) ([] ++ [([] : List Nm).map (ixOf (([] : List (Nm × List Nm)).map Prod.fst))]) ([] ++ [[0]]) := by
    refine .snoc .nil (by kernel_rfl) fun x => ⟨fun h => ?_, fun h => ?_⟩
    · simp at h; subst h; exact .self
    · cases h with
      | self => simp
      | step _ hs => rename_i k _; cases k <;> simp at hs
  have h2 : Built ([([97], [])] ++ [(([98] : Nm), ([] : List Nm))]) ([[]] ++ [([] : List Nm).map (ixOf ([(([97] : Nm), ([] : List Nm))].map Prod.fst))]) ([[0]] ++ [[1]]) := by
    refine .snoc h1 (by kernel_rfl) fun x => ⟨fun h => ?_, fun h => ?_⟩
    · simp at h; subst h; exact .self
    · cases h with
      | self => simp
      | step _ hs => rename_i k _; rcases k with _ | _ | k <;> simp at hs
  have e : ([[97], [98]] : List Nm).map (ixOf ([([97], []), (([98] : Nm), ([] : List Nm))].map Prod.fst)) = [0, 1] := by kernel_rfl
  have h3 := Built.snoc (nm := [99]) (sups := [[97], [98]]) (ys := [2, 0, 1]) h2 (by kernel_rfl) (by
    intro x
    have e' : (([] : List (List Nat)) ++ [([] : List Nm).map (ixOf ([(([97] : Nm), ([] : List Nm))].map Prod.fst))] ++ [([[97], [98]] : List Nm).map (ixOf ([([97], []), (([98] : Nm), ([] : List Nm))].map Prod.fst))]) = [[], [0, 1]] := by kernel_rfl
    show x ∈ [2, 0, 1] ↔ Reach (fun i => [[], [], ([[97], [98]] : List Nm).map (ixOf ([([97], []), (([98] : Nm), ([] : List Nm))].map Prod.fst))].getD i []) 2 x
    rw [e]
    constructor
    · intro h
      have : x = 2 ∨ x = 0 ∨ x = 1 := by simpa using h
      rcases this with rfl | rfl | rfl
      · exact .self
      · exact .step .self (by simp)
      · exact .step .self (by simp)
    · intro h
      induction h with
      | self => simp
      | step _ hs ih =>
        rename_i k s _
        have : k = 2 ∨ k = 0 ∨ k = 1 := by simpa using ih
        rcases this with rfl | rfl | rfl <;> simp at hs
        rcases hs with rfl | rfl <;> simp)
  exact h3

theorem least0 {sp ab : List (List Nat)} (hb : Built cs0 sp ab) : leastB (cs0.map Prod.fst) (fun i => ab.getD i []) [[98], [99], [97]] = [[99]] := by
  have hsp := built0.det hb
  subst hsp
  refine ascB.uniq (leastB_asc _ _ _) (by simp [ascB]) fun x => ?_
  rw [mem_least hb (by intro x hx; simp at hx; rcases hx with rfl | rfl | rfl <;> kernel_rfl)]
  have hlt := hb.lt'
  have i1 : ixOf (cs0.map Prod.fst) [97] = 0 := by kernel_rfl
  have i2 : ixOf (cs0.map Prod.fst) [98] = 1 := by kernel_rfl
  have i3 : ixOf (cs0.map Prod.fst) [99] = 2 := by kernel_rfl
  constructor
  · rintro ⟨hx, hm⟩
    simp at hx
    rcases hx with rfl | rfl | rfl
    · have := hm [99] (by simp) (by unfold leN; rw [i2, i3]; exact .step .self (by simp))
      simp at this
    · simp
    · have := hm [99] (by simp) (by unfold leN; rw [i1, i3]; exact .step .self (by simp))
      simp at this
  · intro hx
    have hx' : x = [99] := by simpa using hx
    subst hx'
    refine ⟨by simp, fun d hd hle => ?_⟩
    simp at hd
    have := Reach.le hlt hle
    rcases hd with rfl | rfl | rfl
    · rw [i2, i3] at this; omega
    · rfl
    · rw [i1, i3] at this; omega

theorem cells2 {w : World} {k : Nat} {a0 a1 : Value} {t : TypeId} {fr : Nat × Nat} (h : w.heap[k]? = some (.cells #[a0, a1] t fr)) : w.cell? ⟨k, 0, none⟩ = some a0 ∧ w.cell? ⟨k, 1, none⟩ = some a1 :=
  ⟨by rw [cell_of_row w _ 0 _ _ _ h]; rfl, by rw [cell_of_row w _ 1 _ _ _ h]; rfl⟩

theorem slS3 {w : World} {k c : Nat} {a0 a1 a2 : Nm} (h : w.heap[k]? = some (.cells #[.string (bs a0), .string (bs a1), .string (bs a2)] 9 (0, 0))) (h0 : a0.length ≤ maxLen) (h1 : a1.length ≤ maxLen) (h2 : a2.length ≤ maxLen) : SlS w (.slice (some ⟨k, 0, none⟩) 3 c) [a0, a1, a2] := by
  refine ⟨by simp [maxLen], _, c, rfl, fun _ => ⟨k, 0, rfl, (Array.getElem?_eq_some_iff.1 h).1, fun j hj => ?_, fun s hs => ?_⟩⟩
  · rw [cell_of_row w _ _ _ _ _ h]
    have : j = 0 ∨ j = 1 ∨ j = 2 := by simp at hj; omega
    rcases this with rfl | rfl | rfl <;> rfl
  · simp at hs
    rcases hs with rfl | rfl | rfl <;> assumption

theorem slS2 {w : World} {k c : Nat} {a0 a1 : Nm} (h : w.heap[k]? = some (.cells #[.string (bs a0), .string (bs a1)] 9 (0, 0))) (h0 : a0.length ≤ maxLen) (h1 : a1.length ≤ maxLen) : SlS w (.slice (some ⟨k, 0, none⟩) 2 c) [a0, a1] := by
  refine ⟨by simp [maxLen], _, c, rfl, fun _ => ⟨k, 0, rfl, (Array.getElem?_eq_some_iff.1 h).1, fun j hj => ?_, fun s hs => ?_⟩⟩
  · rw [cell_of_row w _ _ _ _ _ h]
    have : j = 0 ∨ j = 1 := by simp at hj; omega
    rcases this with rfl | rfl <;> rfl
  · simp at hs
    rcases hs with rfl | rfl <;> assumption

theorem slS1 {w : World} {k c : Nat} {a0 : Nm} (h : w.heap[k]? = some (.cells #[.string (bs a0)] 9 (0, 0))) (h0 : a0.length ≤ maxLen) : SlS w (.slice (some ⟨k, 0, none⟩) 1 c) [a0] := by
  refine ⟨by simp [maxLen], _, c, rfl, fun _ => ⟨k, 0, rfl, (Array.getElem?_eq_some_iff.1 h).1, fun j hj => ?_, fun s hs => ?_⟩⟩
  · rw [cell_of_row w _ _ _ _ _ h]
    have : j = 0 := by simp at hj; omega
    subst this; rfl
  · simp at hs
    subst hs; exact h0

theorem slS0 {w : World} : SlS w (.slice none 0 0) [] := ⟨by decide, none, 0, rfl, fun h => absurd h (by decide)⟩

theorem slC0 {w : World} {k m c : Nat} (h : w.heap[k]? = some (.cells #[.string (bs [97]), .slice none 0 0, .string (bs [98]), .slice none 0 0, .string (bs [99]), .slice (some ⟨m, 0, none⟩) 2 2] 56 (0, 0)))
    (h2 : w.heap[m]? = some (.cells #[.string (bs [97]), .string (bs [98])] 9 (0, 0))) : SlC w (.slice (some ⟨k, 0, none⟩) 3 c) cs0 := by
  refine ⟨by decide, _, c, rfl, fun _ => ⟨k, 0, rfl, (Array.getElem?_eq_some_iff.1 h).1, fun j hj => ?_⟩⟩
  rw [cell_of_row w _ _ _ _ _ h, cell_of_row w _ _ _ _ _ h]
  have : j = 0 ∨ j = 1 ∨ j = 2 := by have : cs0.length = 3 := rfl; omega
  rcases this with rfl | rfl | rfl
  · exact ⟨rfl, by decide, none, 0, rfl, slS0⟩
  · exact ⟨rfl, by decide, none, 0, rfl, slS0⟩
  · exact ⟨rfl, by decide, _, 2, rfl, slS2 h2 (by decide) (by decide)⟩

set_option maxRecDepth 100000 in
set_option maxHeartbeats 4000000 in
theorem awake_any (w : World) : Calls Try.prog 10 #[] w fun e w' => e = .returned (.bool true) ∧ Below w.heap.size w w' := by
  have hN1 : Hid (∀ w, Calls Try.prog 17 #[.string (bs [120, 39, 49, 46, 121])] w fun e w' => e = .returned (.bool true) ∧ w = w') := fun w => by
    have h := isName_any (bs [120, 39, 49, 46, 121]) w (by decide)
    have e : isNameB (bs [120, 39, 49, 46, 121]) = true := by kernel_rfl
    rw [e] at h; exact h
  have hN2 : Hid (∀ w, Calls Try.prog 17 #[.string (bs [49, 120])] w fun e w' => e = .returned (.bool false) ∧ w = w') := fun w => by
    have h := isName_any (bs [49, 120]) w (by decide)
    have e : isNameB (bs [49, 120]) = false := by kernel_rfl
    rw [e] at h; exact h
  go_enter Try.func10, Try.ntmps10
  go_wp2_with fail
  generalize hW : ((((w.alloc (Obj.cells #[Value.string { data := #[97] }, Value.string { data := #[98] }] 9)).alloc
              (Obj.cells #[Value.string { data := #[97] }, Value.slice none 0 0, Value.string { data := #[98] }, Value.slice none 0 0, Value.string { data := #[99] }, Value.slice (some { block := w.heap.size, off := 0 }) 2 2] 56)).alloc
          (Obj.cells #[Value.string { data := #[] }, Value.slice (some { block := w.heap.size + 1, off := 0 }) 3 3, Value.slice none 0 0, Value.slice none 0 0, Value.slice none 0 0, Value.slice none 0 0, Value.slice none 0 0] 29)).alloc
      (Obj.cells #[Value.string { data := #[98] }, Value.string { data := #[99] }, Value.string { data := #[97] }] 9)) = W
  have hB : Below w.heap.size w W := by rw [← hW]; exact ((((Below.refl _ w).alloc (Nat.le_refl _) _).alloc (by simp) _).alloc (by simp; omega) _).alloc (by simp; omega) _
  have hz : w.heap.size + 4 ≤ W.heap.size := by rw [← hW]; simp
  have r0 : W.heap[w.heap.size]? = some (.cells #[.string (bs [97]), .string (bs [98])] 9 (0, 0)) := by
    rw [← hW]; exact ((below_alloc _ _).block _ (by simp; omega)).trans (((below_alloc _ _).block _ (by simp; omega)).trans (heap_alloc2_old _ _ _))
  have r1 : W.heap[w.heap.size + 1]? = some (.cells #[.string (bs [97]), .slice none 0 0, .string (bs [98]), .slice none 0 0, .string (bs [99]), .slice (some ⟨w.heap.size, 0, none⟩) 2 2] 56 (0, 0)) := by
    rw [← hW]; exact ((below_alloc _ _).block _ (by simp)).trans (((below_alloc _ _).block _ (by simp)).trans (heap_alloc2_new _ _ _))
  have r3 : W.heap[w.heap.size + 1 + 1 + 1]? = some (.cells #[.string (bs [98]), .string (bs [99]), .string (bs [97])] 9 (0, 0)) := by
    rw [← hW]
    have e : w.heap.size + 1 + 1 + 1 = (((w.alloc (Obj.cells #[Value.string { data := #[97] }, Value.string { data := #[98] }] 9)).alloc (Obj.cells #[Value.string { data := #[97] }, Value.slice none 0 0, Value.string { data := #[98] }, Value.slice none 0 0, Value.string { data := #[99] }, Value.slice (some { block := w.heap.size, off := 0 }) 2 2] 56)).alloc (Obj.cells #[Value.string { data := #[] }, Value.slice (some { block := w.heap.size + 1, off := 0 }) 3 3, Value.slice none 0 0, Value.slice none 0 0, Value.slice none 0 0, Value.slice none 0 0, Value.slice none 0 0] 29)).heap.size := by simp
    rw [e]; exact heap_alloc_new _ _
  clear hW
  refine (normal_any _ _ cs0 [[98], [99], [97]] W ⟨_, _, _, _, _, _, _, rfl, slC0 r1 r0⟩ (slS3 r3 (by decide) (by decide) (by decide))).mono ?_
  rintro e w1 ⟨v', er, rfl, hb1, _, h0⟩
  obtain ⟨sp, ab, hbu, her, hso⟩ := h0 (by kernel_rfl)
  have hn0 : normErr (cs0.map Prod.fst) [[98], [99], [97]] = 0 := by kernel_rfl
  rw [hn0] at her
  subst her
  have hs1 := (hso rfl)
  rw [least0 hbu] at hs1
  have HS1 := Lib.hid hs1
  obtain ⟨_, _, a1, k1, rfl, _⟩ := hs1
  have hz1 := hb1.size
  have hb2 := below_alloc w1 (Obj.cells #[.string (bs [99])] 9)
  have C := Lib.hid (equal_any _ _ [[99]] [[99]] _ (HS1.out.sl.below hb2 (Nat.le_refl _)) (slS1 (c := 1) (heap_alloc_new w1 _) (by decide)))
  rw [decide_eq_true rfl] at C
  clear hso r0 r1 r3 hbu
  go_wp2_with (first | (go_at_call 23; refine C.out.mono ?_; rintro e w2 ⟨rfl, hb3⟩) | fail)
  refine (hN1.out _).mono ?_
  rintro e w3 ⟨rfl, rfl⟩
  go_wp2_with fail
  refine (hN2.out _).mono ?_
  rintro e w3 ⟨rfl, rfl⟩
  go_wp2_with fail
  go_ret
  exact ⟨rfl, hB.trans ((hb1.mono (by omega)).trans ((hb2.mono (by omega)).trans (hb3.mono (by simp; omega))))⟩
end Go.Proofs.Ytehnikgdjnmfcaa

/- The law of least sorts. -/
namespace Go.Proofs.Ytehnikgdjnmfcaa
open Go.RowKit Go.WideMaps Go.Shelf

/-- a theory in memory, as far as the law looks at it -/
def ThF (w : World) (t : Value) (cs : List (Nm × List Nm)) : Prop :=
  ∃ n c p2 n2 k2 t3 t4 t5 t6, t = .agg #[n, c, .slice p2 n2 k2, t3, t4, t5, t6] ∧ SlC w c cs ∧ SlA w t3

theorem ThF.below {w w' : World} {B : Nat} {t : Value} {cs : List (Nm × List Nm)} (h : ThF w t cs) (hb : Below B w w') (hB : w.heap.size ≤ B) : ThF w' t cs := by
  obtain ⟨n, c, p2, n2, k2, t3, t4, t5, t6, e, h1, h2⟩ := h
  exact ⟨n, c, p2, n2, k2, t3, t4, t5, t6, e, h1.below hb hB, h2.below hb hB⟩

theorem ThF.th {w : World} {t : Value} {cs : List (Nm × List Nm)} (h : ThF w t cs) : ThAt w t cs := by
  obtain ⟨n, c, p2, n2, k2, t3, t4, t5, t6, e, h1, h2⟩ := h
  exact ⟨n, c, _, t3, t4, t5, t6, e, h1⟩

theorem fewT {w : World} {t : Value} {cs : List (Nm × List Nm)} (h : ThF w t cs) : Calls Try.prog 8 #[t] w (AB w) := by
  obtain ⟨n, c, p2, n2, k2, t3, t4, t5, t6, rfl, h1, h2⟩ := h
  exact few_any n c _ t3 t4 t5 t6 p2 n2 k2 cs w h1 rfl h2

theorem normErr_zero {ns ss : List Nm} (h : normErr ns ss = 0) : ss.length ≤ 20 ∧ ss.all (inNs ns) = true := by
  unfold normErr at h
  by_cases h1 : 20 < ss.length
  · rw [if_pos h1] at h; exact absurd h (by decide)
  · rw [if_neg h1] at h
    by_cases h2 : ss.all (inNs ns) = true
    · exact ⟨by omega, h2⟩
    · rw [if_neg h2] at h; exact absurd h (by decide)

theorem cells7 {w : World} {k : Nat} {a0 a1 a2 a3 a4 a5 a6 : Value} {t : TypeId} {fr : Nat × Nat} (h : w.heap[k]? = some (.cells #[a0, a1, a2, a3, a4, a5, a6] t fr)) :
    w.cell? ⟨k, 0, none⟩ = some a0 ∧ w.cell? ⟨k, 1, none⟩ = some a1 ∧ w.cell? ⟨k, 2, none⟩ = some a2 ∧ w.cell? ⟨k, 3, none⟩ = some a3 ∧ w.cell? ⟨k, 4, none⟩ = some a4 ∧ w.cell? ⟨k, 5, none⟩ = some a5 ∧ w.cell? ⟨k, 6, none⟩ = some a6 :=
  ⟨by rw [cell_of_row w _ 0 _ _ _ h]; rfl, by rw [cell_of_row w _ 1 _ _ _ h]; rfl, by rw [cell_of_row w _ 2 _ _ _ h]; rfl, by rw [cell_of_row w _ 3 _ _ _ h]; rfl, by rw [cell_of_row w _ 4 _ _ _ h]; rfl, by rw [cell_of_row w _ 5 _ _ _ h]; rfl, by rw [cell_of_row w _ 6 _ _ _ h]; rfl⟩

theorem slSS2 {w : World} {k c : Nat} {p1 p2 : Option Addr} {n1 c1 n2 c2 : Nat} {fr : Nat × Nat} (h : w.heap[k]? = some (.cells #[.slice p1 n1 c1, .slice p2 n2 c2] 27 fr)) : SlSS w (.slice (some ⟨k, 0, none⟩) 2 c) := by
  refine ⟨_, 2, c, rfl, by decide, fun _ => ⟨k, 0, rfl, (Array.getElem?_eq_some_iff.1 h).1, fun j hj => ?_⟩⟩
  rw [cell_of_row w _ _ _ _ _ h]
  have : j = 0 ∨ j = 1 := by omega
  rcases this with rfl | rfl
  · exact ⟨_, _, _, rfl⟩
  · exact ⟨_, _, _, rfl⟩

set_option maxRecDepth 100000 in
set_option maxHeartbeats 4000000 in
theorem sortLeast_any (t u v : Value) (cs : List (Nm × List Nm)) (ss ts : List Nm) (w : World) (ht : ThF w t cs) (hs : SlS w u ss) (hs2 : SlS w v ts) :
    Calls Try.prog 6 #[t, u, v] w fun e w' => e = .returned (.bool true) ∧ Below w.heap.size w w' := by
  have HT := Lib.hid ht
  have HS := Lib.hid hs
  have HS2 := Lib.hid hs2
  obtain ⟨_, sa, scap, rfl, _⟩ := hs
  obtain ⟨_, ta, tcap, rfl, _⟩ := hs2
  obtain ⟨n, c, p2, n2, k2, t3, t4, t5, t6, rfl, _, _⟩ := ht
  have HA := Lib.hid awake_any
  go_enter Try.func6, Try.ntmps6
  have hb0 := below_alloc w (Obj.cells #[n, c, .slice p2 n2 k2, t3, t4, t5, t6] 29)
  have r0 := Lib.hid (heap_alloc_new w (Obj.cells #[n, c, .slice p2 n2 k2, t3, t4, t5, t6] 29))
  have C0 := Lib.hid (fewT (HT.out.below hb0 (Nat.le_refl _)))
  have hz0 : w.heap.size < (w.alloc (Obj.cells #[n, c, .slice p2 n2 k2, t3, t4, t5, t6] 29)).heap.size := by simp
  go_wp2_with (first | (go_at_call 8; refine C0.out.mono ?_; rintro e w1 ⟨r, rfl, hb1⟩; cases r) | fail)
  · refine (HA.out _).mono ?_
    rintro e w2 ⟨rfl, hb2⟩
    go_wp2_with fail
    go_ret
    exact ⟨rfl, (hb0.trans (hb1.mono (by omega))).trans (hb2.mono (by have := hb1.size; omega))⟩
  · have hB1 : Below w.heap.size w w1 := hb0.trans (hb1.mono (by omega))
    have hz1 : w.heap.size < w1.heap.size := by have := hb1.size; omega
    have r1 := Lib.hid ((hb1.block w.heap.size hz0).trans r0.out)
    clear C0 r0 hb1 hb0 hz0
    have hb2 := below_alloc w1 (Obj.cells #[.slice sa ss.length scap, .slice ta ts.length tcap] 27)
    refine (fewSorts_any _ _ (slSS2 (heap_alloc_new w1 _))).mono ?_
    rintro e w2 ⟨r, rfl, hb3⟩
    have hB2 : Below w.heap.size w w2 := hB1.trans ((hb2.mono (by omega)).trans (hb3.mono (by simp; omega)))
    have hz2 : w.heap.size < w2.heap.size := by have := hb3.size; simp at this; omega
    have r2 := Lib.hid ((hb3.block w.heap.size (by simp; omega)).trans ((hb2.block w.heap.size hz1).trans r1.out))
    clear r1 hb2 hb3 hz1 hB1
    cases r
    · go_wp2_with fail
      refine (HA.out _).mono ?_
      rintro e w3 ⟨rfl, hb4⟩
      go_wp2_with fail
      go_ret
      exact ⟨rfl, hB2.trans (hb4.mono (by omega))⟩
    · obtain ⟨c0, c1, c2, c3, c4, c5, c6⟩ := cells7 r2.out
      go_wp2_with fail
      refine (normal_any _ _ cs ss w2 (HT.out.below hB2 (Nat.le_refl _)).th (HS.out.below hB2 (Nat.le_refl _))).mono ?_
      rintro e w3 ⟨v1, e1, rfl, hb3, hn1, hn2⟩
      have hB3 := hB2.trans (hb3.mono (Nat.le_of_lt hz2))
      have hz3 : w.heap.size < w3.heap.size := by have := hb3.size; omega
      have r3 := Lib.hid ((hb3.block w.heap.size hz2).trans r2.out)
      clear c0 c1 c2 c3 c4 c5 c6 r2
      obtain ⟨c0, c1, c2, c3, c4, c5, c6⟩ := cells7 r3.out
      have HN1 := Lib.hid hn1
      have HN2 := Lib.hid hn2
      clear hn1 hn2 hb3
      go_wp2_with fail
      refine (normal_any _ _ cs ts w3 (HT.out.below hB3 (Nat.le_refl _)).th (HS2.out.below hB3 (Nat.le_refl _))).mono ?_
      rintro e w4 ⟨v2, e2, rfl, hb4, hm1, hm2⟩
      have hB4 := hB3.trans (hb4.mono (Nat.le_of_lt hz3))
      have hz4 : w.heap.size < w4.heap.size := by have := hb4.size; omega
      have r4 := Lib.hid ((hb4.block w.heap.size hz3).trans r3.out)
      clear c0 c1 c2 c3 c4 c5 c6 r3
      by_cases h1 : e1 = 0
      · subst h1
        by_cases h2 : e2 = 0
        · subst h2
          have hcls : clsErr cs = 0 := Classical.byContradiction fun h => h (HN1.out h).symm
          obtain ⟨sp1, ab1, hu1, hq1, ho1⟩ := HN2.out hcls
          obtain ⟨sp2, ab2, hu2, hq2, ho2⟩ := hm2 hcls
          have ho1 := ho1 rfl
          have ho2 := ho2 rfl
          obtain ⟨l1, k1⟩ := normErr_zero hq1.symm
          obtain ⟨l2, k2'⟩ := normErr_zero hq2.symm
          have hk1 := List.all_eq_true.1 k1
          have hk2 := List.all_eq_true.1 k2'
          have E4 : Hid (∀ sp ab, Built cs sp ab → leastB (cs.map Prod.fst) (fun i => ab.getD i []) ss.reverse = leastB (cs.map Prod.fst) (fun i => ab1.getD i []) ss) :=
            fun sp ab hb => least_eq hb hu1 (fun x hx => hk1 x (List.mem_reverse.1 hx)) (fun x => List.mem_reverse)
          have E5 : Hid (∀ sp ab, Built cs sp ab → leastB (cs.map Prod.fst) (fun i => ab.getD i []) (leastB (cs.map Prod.fst) (fun i => ab1.getD i []) ss) = leastB (cs.map Prod.fst) (fun i => ab1.getD i []) ss) :=
            fun sp ab hb => least_least hu1 hb hk1
          have E6 : Hid (∀ sp ab sp' ab', Built cs sp ab → Built cs sp' ab' → (lessB (cs.map Prod.fst) (fun i => ab.getD i []) ss ts && lessB (cs.map Prod.fst) (fun i => ab'.getD i []) ts ss) = decide (leastB (cs.map Prod.fst) (fun i => ab1.getD i []) ss = leastB (cs.map Prod.fst) (fun i => ab2.getD i []) ts)) :=
            fun sp ab sp' ab' hb hb' => less_both hb hb' hu1 hu2 hk1 hk2
          have NR : Hid (normErr (cs.map Prod.fst) ss.reverse = 0) := by
            unfold Hid normErr
            rw [List.length_reverse, if_neg (by omega), if_pos (List.all_eq_true.2 fun x hx => hk1 x (List.mem_reverse.1 hx))]
          have NL : Hid (normErr (cs.map Prod.fst) (leastB (cs.map Prod.fst) (fun i => ab1.getD i []) ss) = 0) := by
            have h := List.length_filter_le (fun c => !(onceB ss).any (dropB (cs.map Prod.fst) (fun i => ab1.getD i []) c)) (onceB ss)
            have h' := onceB_len ss
            have hl : (leastB (cs.map Prod.fst) (fun i => ab1.getD i []) ss).length ≤ 20 := by
              show (List.filter _ (onceB ss)).length ≤ 20
              omega
            unfold Hid normErr
            rw [if_neg (by omega), if_pos (List.all_eq_true.2 fun x hx => hk1 x (least_sub hu1 x hx))]
          have ho1' := (ho1.below hb4 (Nat.le_refl _)).sl
          have ho2' := ho2.sl
          clear hk1 hk2 k1 k2' hu1 hu2 hq1 hq2
          generalize leastB (cs.map Prod.fst) (fun i => ab1.getD i []) ss = L at *
          generalize leastB (cs.map Prod.fst) (fun i => ab2.getD i []) ts = M at *
          have HL := Lib.hid ho1'
          have HMM := Lib.hid ho2'
          obtain ⟨_, _, a1, q1, hv1, _⟩ := ho1
          obtain ⟨_, _, a2, q2, hv2, _⟩ := ho2
          subst hv1
          subst hv2
          have HCLS := Lib.hid hcls
          clear HN1 HN2 hm1 hm2 hb4 hcls ho1' ho2'
          have hs4 := HS.out.below hB4 (Nat.le_refl _)
          go_wp2_with fail
          refine (clone_any _ ss w4 hs4 (by omega)).mono ?_
          rintro e w5 ⟨v3, rfl, ho3, hb5⟩
          have hB5 := hB4.trans (hb5.mono (Nat.le_of_lt hz4))
          have hz5 : w4.heap.size ≤ w5.heap.size := hb5.size
          have HO3 := Lib.hid ho3
          obtain ⟨_, _, a3, q3, rfl, _⟩ := ho3
          go_wp2_with fail
          refine (reverse_any w4.heap.size _ ss w5 HO3.out).mono ?_
          rintro e w6 ⟨rfl, ho4, hb6⟩
          have hB6 := hB5.trans (hb6.mono (Nat.le_of_lt hz4))
          have hz6 : w5.heap.size ≤ w6.heap.size := hb6.size
          have hlt6 : w.heap.size < w6.heap.size := by omega
          have r6 := Lib.hid ((hb6.block w.heap.size hz4).trans ((hb5.block w.heap.size hz4).trans r4.out))
          have HL6 := Lib.hid (HL.out.below (hb5.trans hb6) (Nat.le_refl _))
          have HM6 := Lib.hid (HMM.out.below (hb5.trans hb6) (Nat.le_refl _))
          have HR6 := Lib.hid ho4.sl
          clear HL HMM HO3 ho4 hb5 hb6 r4
          obtain ⟨c0, c1, c2, c3, c4, c5, c6⟩ := cells7 r6.out
          go_wp2_with fail
          refine (normal_any _ _ cs ss.reverse w6 (HT.out.below hB6 (Nat.le_refl _)).th HR6.out).mono ?_
          rintro e w7 ⟨v4, e4, rfl, hb7, hx, h7⟩
          clear hx
          obtain ⟨sp4, ab4, hu4, he4, ho7⟩ := h7 HCLS.out
          rw [NR.out] at he4
          subst he4
          have ho7 := ho7 rfl
          rw [E4.out sp4 ab4 hu4] at ho7
          have HX7 := Lib.hid ho7.sl
          obtain ⟨_, _, a4, q4, rfl, _⟩ := ho7
          have hB7 := hB6.trans (hb7.mono (Nat.le_of_lt hlt6))
          have hlt7 : w.heap.size < w7.heap.size := by have := hb7.size; omega
          have r7 := Lib.hid ((hb7.block w.heap.size hlt6).trans r6.out)
          have HL7 := Lib.hid (HL6.out.below hb7 (Nat.le_refl _))
          have HM7 := Lib.hid (HM6.out.below hb7 (Nat.le_refl _))
          clear h7 hu4 HL6 HM6 HR6 r6 hb7 c0 c1 c2 c3 c4 c5 c6
          obtain ⟨c0, c1, c2, c3, c4, c5, c6⟩ := cells7 r7.out
          go_wp2_with fail
          refine (normal_any _ _ cs L w7 (HT.out.below hB7 (Nat.le_refl _)).th HL7.out).mono ?_
          rintro e w8 ⟨v5, e5, rfl, hb8, hx, h8⟩
          clear hx
          obtain ⟨sp5, ab5, hu5, he5, ho8⟩ := h8 HCLS.out
          rw [NL.out] at he5
          subst he5
          have ho8 := ho8 rfl
          rw [E5.out sp5 ab5 hu5] at ho8
          have HY8 := Lib.hid ho8.sl
          obtain ⟨_, _, a5, q5, rfl, _⟩ := ho8
          have hB8 := hB7.trans (hb8.mono (Nat.le_of_lt hlt7))
          have hlt8 : w.heap.size < w8.heap.size := by have := hb8.size; omega
          have r8 := Lib.hid ((hb8.block w.heap.size hlt7).trans r7.out)
          have HL8 := Lib.hid (HL7.out.below hb8 (Nat.le_refl _))
          have HM8 := Lib.hid (HM7.out.below hb8 (Nat.le_refl _))
          have HX8 := Lib.hid (HX7.out.below hb8 (Nat.le_refl _))
          clear h8 hu5 HL7 HM7 HX7 r7 hb8 c0 c1 c2 c3 c4 c5 c6
          go_wp2_with fail
          refine (equal_any _ _ L L w8 HX8.out HL8.out).mono ?_
          rw [decide_eq_true rfl]
          rintro e w9 ⟨rfl, hb9⟩
          have hB9 := hB8.trans (hb9.mono (Nat.le_of_lt hlt8))
          have hlt9 : w.heap.size < w9.heap.size := by have := hb9.size; omega
          have r9 := Lib.hid ((hb9.block w.heap.size hlt8).trans r8.out)
          have HL9 := Lib.hid (HL8.out.below hb9 (Nat.le_refl _))
          have HM9 := Lib.hid (HM8.out.below hb9 (Nat.le_refl _))
          have HY9 := Lib.hid (HY8.out.below hb9 (Nat.le_refl _))
          clear HL8 HM8 HX8 HY8 r8 hb9
          go_wp2_with fail
          refine (equal_any _ _ L L w9 HY9.out HL9.out).mono ?_
          rw [decide_eq_true rfl]
          rintro e w10 ⟨rfl, hb10⟩
          have hB10 := hB9.trans (hb10.mono (Nat.le_of_lt hlt9))
          have hlt10 : w.heap.size < w10.heap.size := by have := hb10.size; omega
          have r10 := Lib.hid ((hb10.block w.heap.size hlt9).trans r9.out)
          have HL10 := Lib.hid (HL9.out.below hb10 (Nat.le_refl _))
          have HM10 := Lib.hid (HM9.out.below hb10 (Nat.le_refl _))
          clear HL9 HM9 HY9 r9 hb10
          obtain ⟨c0, c1, c2, c3, c4, c5, c6⟩ := cells7 r10.out
          go_wp2_with fail
          refine (lessT_any _ _ _ cs ss ts w10 (HT.out.below hB10 (Nat.le_refl _)).th (HS.out.below hB10 (Nat.le_refl _)) (HS2.out.below hB10 (Nat.le_refl _))).mono ?_
          rintro e w11 ⟨r, rfl, hb11, hx, h11⟩
          clear hx
          obtain ⟨sp6, ab6, hu6, hr⟩ := h11 HCLS.out
          have hB11 := hB10.trans (hb11.mono (Nat.le_of_lt hlt10))
          have hlt11 : w.heap.size < w11.heap.size := by have := hb11.size; omega
          have r11 := Lib.hid ((hb11.block w.heap.size hlt10).trans r10.out)
          have HL11 := Lib.hid (HL10.out.below hb11 (Nat.le_refl _))
          have HM11 := Lib.hid (HM10.out.below hb11 (Nat.le_refl _))
          clear h11 HL10 HM10 r10 hb11 c0 c1 c2 c3 c4 c5 c6
          cases r
          · have hE : Hid (decide (L = M) = false) := by
              unfold Hid
              rw [← E6.out _ _ _ _ hu6 hu6, ← hr]; rfl
            clear hu6 hr
            go_wp2_with fail
            refine (equal_any _ _ L M w11 HL11.out HM11.out).mono ?_
            rw [hE.out]
            rintro e w12 ⟨rfl, hb12⟩
            go_wp2_with fail
            refine (HA.out _).mono ?_
            rintro e w13 ⟨rfl, hb13⟩
            go_wp2_with fail
            go_ret
            exact ⟨rfl, (hB11.trans (hb12.mono (Nat.le_of_lt hlt11))).trans (hb13.mono (by have := hb12.size; omega))⟩
          · obtain ⟨c0, c1, c2, c3, c4, c5, c6⟩ := cells7 r11.out
            have HR := Lib.hid hr
            clear hr
            go_wp2_with fail
            refine (lessT_any _ _ _ cs ts ss w11 (HT.out.below hB11 (Nat.le_refl _)).th (HS2.out.below hB11 (Nat.le_refl _)) (HS.out.below hB11 (Nat.le_refl _))).mono ?_
            rintro e w12 ⟨r2, rfl, hb12, hx, h12⟩
            clear hx
            obtain ⟨sp7, ab7, hu7, hr2⟩ := h12 HCLS.out
            have hE : Hid (decide (L = M) = r2) := by
              unfold Hid
              rw [← E6.out _ _ _ _ hu6 hu7, ← HR.out, ← hr2]; rfl
            have hB12 := hB11.trans (hb12.mono (Nat.le_of_lt hlt11))
            have hlt12 : w.heap.size < w12.heap.size := by have := hb12.size; omega
            have HL12 := Lib.hid (HL11.out.below hb12 (Nat.le_refl _))
            have HM12 := Lib.hid (HM11.out.below hb12 (Nat.le_refl _))
            clear hu6 HR hu7 hr2 h12 HL11 HM11 hb12 c0 c1 c2 c3 c4 c5 c6
            cases r2
            · go_wp2_with fail
              refine (equal_any _ _ L M w12 HL12.out HM12.out).mono ?_
              rw [hE.out]
              rintro e w13 ⟨rfl, hb13⟩
              go_wp2_with fail
              refine (HA.out _).mono ?_
              rintro e w14 ⟨rfl, hb14⟩
              go_wp2_with fail
              go_ret
              exact ⟨rfl, (hB12.trans (hb13.mono (Nat.le_of_lt hlt12))).trans (hb14.mono (by have := hb13.size; omega))⟩
            · go_wp2_with fail
              refine (equal_any _ _ L M w12 HL12.out HM12.out).mono ?_
              rw [hE.out]
              rintro e w13 ⟨rfl, hb13⟩
              go_wp2_with fail
              refine (HA.out _).mono ?_
              rintro e w14 ⟨rfl, hb14⟩
              go_wp2_with fail
              go_ret
              exact ⟨rfl, (hB12.trans (hb13.mono (Nat.le_of_lt hlt12))).trans (hb14.mono (by have := hb13.size; omega))⟩
        · have hd : decide (e2 = 0) = false := by simpa using h2
          go_wp2_with fail
          refine (HA.out _).mono ?_
          rintro e w5 ⟨rfl, hb5⟩
          go_wp2_with fail
          go_ret
          exact ⟨rfl, hB4.trans (hb5.mono (Nat.le_of_lt hz4))⟩
      · have hd : decide (e1 = 0) = false := by simpa using h1
        go_wp2_with fail
        refine (HA.out _).mono ?_
        rintro e w5 ⟨rfl, hb5⟩
        go_wp2_with fail
        go_ret
        exact ⟨rfl, hB4.trans (hb5.mono (Nat.le_of_lt hz4))⟩
end Go.Proofs.Ytehnikgdjnmfcaa
