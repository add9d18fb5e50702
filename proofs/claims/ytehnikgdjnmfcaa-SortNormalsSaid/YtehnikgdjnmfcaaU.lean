/- Few, fewSorts. -/
import Derived.Test.YtehnikgdjnmfcaaT
namespace Go.Proofs.Ytehnikgdjnmfcaa
open Go.RowKit Go.WideMaps Go.Shelf

/-- a slice of slices, whatever they hold -/
def SlSS (w : World) (v : Value) : Prop :=
  ∃ a n cap, v = .slice a n cap ∧ n ≤ maxLen ∧ (0 < n → ∃ b off, a = some ⟨b, off, none⟩ ∧ b < w.heap.size ∧ ∀ k, k < n → ∃ p m c, w.cell? ⟨b, off + k, none⟩ = some (.slice p m c))

theorem SlSS.below {w w' : World} {B : Nat} {v : Value} (h : SlSS w v) (hb : Below B w w') (hB : w.heap.size ≤ B) : SlSS w' v := by
  obtain ⟨a, n, cap, e, h1, h2⟩ := h
  refine ⟨a, n, cap, e, h1, fun hn => ?_⟩
  obtain ⟨b, off, e1, h3, h4⟩ := h2 hn
  refine ⟨b, off, e1, by have := hb.size; omega, fun k hk => ?_⟩
  obtain ⟨p, m, c, h5⟩ := h4 k hk
  exact ⟨p, m, c, (hb.cell (p := ⟨b, off + k, none⟩) (by simp; omega)).trans h5⟩

def AB (w : World) (e : Ending) (w' : World) : Prop := ∃ r, e = .returned (.bool r) ∧ Below w.heap.size w w'
def AI (w : World) (e : Ending) (w' : World) : Prop := ∃ r : Int, e = .returned (.int .i64 r) ∧ Below w.heap.size w w'

theorem long_any (p : Option Addr) (m c : Nat) (w : World) : Calls Try.prog 29 #[.slice p m c] w fun e w' => e = .returned (.bool (decide (25 < ((m : Nat) : Int)))) ∧ w' = w := by
  go_enter Try.func29, Try.ntmps29
  go_wp2_with fail
  go_ret
  exact ⟨rfl, rfl⟩

set_option maxRecDepth 100000 in
set_option maxHeartbeats 4000000 in
theorem index_any (v : Value) (w : World) (hs : SlSS w v) :
    Calls Try.prog 51 #[v, .func (.func 29) #[] #[]] w (AI w) := by
  obtain ⟨a, n, cap, rfl, hn, hs⟩ := hs
  unfold maxLen at hn
  go_enter Try.func51, Try.ntmps51
  go_wp2_with fail
  go_loop [8] (fun i => ∃ k : Nat, k ≤ n ∧ i = .int .i64 k) (fun i => n - (intOf i).toNat)
  case atStart => exact ⟨0, by omega, rfl⟩
  case round =>
    obtain ⟨k, hk, rfl⟩ := hrel
    by_cases hlt : k < n
    · obtain ⟨b, off, rfl, hb, hc⟩ := hs (by omega)
      obtain ⟨p, m, c, hck⟩ := hc k hlt
      by_cases hd : decide (25 < ((m : Nat) : Int)) = true
      · have C := Lib.hid (fun W => long_any p m c W)
        rw [hd] at C
        clear hd hc
        go_wp2_with (go_at_call 29; refine (C.out _).mono ?_; rintro e w' ⟨rfl, rfl⟩)
        go_ret
        exact ⟨_, rfl, Below.refl _ _⟩
      · have hd' : decide (25 < ((m : Nat) : Int)) = false := by simpa using hd
        have C := Lib.hid (fun W => long_any p m c W)
        rw [hd'] at C
        clear hd hd' hc
        go_wp2_with (go_at_call 29; refine (C.out _).mono ?_; rintro e w' ⟨rfl, rfl⟩)
        go_round
        case rel => exact ⟨k + 1, by omega, by go_num⟩
        case measure => simp [intOf]; omega
    · go_wp2_with fail
      go_ret
      exact ⟨_, rfl, Below.refl _ _⟩

set_option maxRecDepth 100000 in
theorem contains_any (v : Value) (w : World) (hs : SlSS w v) :
    Calls Try.prog 28 #[v, .func (.func 29) #[] #[]] w (AB w) := by
  go_enter Try.func28, Try.ntmps28
  go_wp2_with fail
  refine (index_any v w hs).mono ?_
  rintro e w' ⟨r, rfl, hb⟩
  go_wp2_with fail
  go_ret
  exact ⟨_, rfl, hb⟩

set_option maxRecDepth 100000 in
theorem fewSorts_any (v : Value) (w : World) (hs : SlSS w v) :
    Calls Try.prog 9 #[v] w (AB w) := by
  go_enter Try.func9, Try.ntmps9
  go_wp2_with fail
  refine (contains_any v w hs).mono ?_
  rintro e w' ⟨r, rfl, hb⟩
  go_wp2_with fail
  go_ret
  exact ⟨_, rfl, hb⟩

/-- a slice of arities, whatever they say -/
def SlA (w : World) (v : Value) : Prop :=
  ∃ a n cap, v = .slice a n cap ∧ n ≤ maxLen ∧ (0 < n → ∃ b off, a = some ⟨b, off, none⟩ ∧ b < w.heap.size ∧ ∀ k, k < n → ∃ s1 s2 v3, w.cell? ⟨b, off + k * 3, none⟩ = some (.string s1) ∧ w.cell? ⟨b, off + k * 3 + 1, none⟩ = some (.string s2) ∧ w.cell? ⟨b, off + k * 3 + 2, none⟩ = some v3 ∧ SlSS w v3)

theorem SlA.below {w w' : World} {B : Nat} {v : Value} (h : SlA w v) (hb : Below B w w') (hB : w.heap.size ≤ B) : SlA w' v := by
  obtain ⟨a, n, cap, e, h1, h2⟩ := h
  refine ⟨a, n, cap, e, h1, fun hn => ?_⟩
  obtain ⟨b, off, e1, h3, h4⟩ := h2 hn
  refine ⟨b, off, e1, by have := hb.size; omega, fun k hk => ?_⟩
  obtain ⟨s1, s2, v3, g1, g2, g3, g4⟩ := h4 k hk
  exact ⟨s1, s2, v3, (hb.cell (p := ⟨b, _, none⟩) (by simp; omega)).trans g1, (hb.cell (p := ⟨b, _, none⟩) (by simp; omega)).trans g2, (hb.cell (p := ⟨b, _, none⟩) (by simp; omega)).trans g3, g4.below hb hB⟩

set_option maxRecDepth 100000 in
set_option maxHeartbeats 4000000 in
theorem few_any (n c t2 t3 t4 t5 t6 : Value) (p2 : Option Addr) (n2 c2 : Nat) (cs : List (Nm × List Nm)) (w : World) (hc : SlC w c cs) (h2 : t2 = .slice p2 n2 c2) (h3 : SlA w t3) :
    Calls Try.prog 8 #[.agg #[n, c, t2, t3, t4, t5, t6]] w (AB w) := by
  have HC := Lib.hid hc
  have H3 := Lib.hid h3
  obtain ⟨hcl, ca, ccap, rfl, _⟩ := hc
  obtain ⟨a3, n3, c3, rfl, hn3, _⟩ := h3
  subst h2
  unfold maxLen at hcl hn3
  by_cases hd1 : decide (14 < ((cs.length : Nat) : Int)) = true
  · go_enter Try.func8, Try.ntmps8
    go_wp2_with fail
    go_ret
    exact ⟨_, rfl, below_alloc _ _⟩
  · have hd1 : decide (14 < ((cs.length : Nat) : Int)) = false := by simpa using hd1
    by_cases hd2 : decide (16 < ((n2 : Nat) : Int)) = true
    · go_enter Try.func8, Try.ntmps8
      go_wp2_with fail
      go_ret
      exact ⟨_, rfl, below_alloc _ _⟩
    · have hd2 : decide (16 < ((n2 : Nat) : Int)) = false := by simpa using hd2
      by_cases hd3 : decide (40 < ((n3 : Nat) : Int)) = true
      · go_enter Try.func8, Try.ntmps8
        go_wp2_with fail
        go_ret
        exact ⟨_, rfl, below_alloc _ _⟩
      · have hd3 : decide (40 < ((n3 : Nat) : Int)) = false := by simpa using hd3
        go_enter Try.func8, Try.ntmps8
        go_wp2_with fail
        have hb0 := below_alloc w (Obj.cells #[n, .slice ca cs.length ccap, .slice p2 n2 c2, .slice a3 n3 c3, t4, t5, t6] 29)
        have hr0 := heap_alloc_new w (Obj.cells #[n, .slice ca cs.length ccap, .slice p2 n2 c2, .slice a3 n3 c3, t4, t5, t6] 29)
        have hz0 : w.heap.size + 1 ≤ (w.alloc (Obj.cells #[n, .slice ca cs.length ccap, .slice p2 n2 c2, .slice a3 n3 c3, t4, t5, t6] 29)).heap.size := by simp
        generalize (w.alloc (Obj.cells #[n, .slice ca cs.length ccap, .slice p2 n2 c2, .slice a3 n3 c3, t4, t5, t6] 29)) = W0 at *
        have HR0 := Lib.hid hr0
        clear hr0
        go_loopw [26] (fun i wr => ∃ k : Nat, k ≤ cs.length ∧ i = .int .i64 k ∧ Below W0.heap.size W0 wr) (fun i _ => cs.length - (intOf i).toNat)
        case atStart => exact ⟨0, by omega, rfl, Below.refl _ _⟩
        case round =>
          obtain ⟨k, hk, rfl, hB⟩ := hrel
          have hz := hB.size
          have hBw : Below w.heap.size w wr := hb0.trans (hB.mono (by omega))
          by_cases hlt : k < cs.length
          · obtain ⟨_, ca', cap', hee, hsx⟩ := HC.out.below hBw (Nat.le_refl _)
            injection hee with hee _ hee2
            subst hee
            subst hee2
            obtain ⟨b, off, rfl, hb, hc⟩ := hsx (by omega)
            obtain ⟨g0, hnl, sa', scap', g1, _⟩ := hc k hlt
            clear hc hsx
            generalize cs.getD k ([], []) = x at *
            obtain ⟨nm, sups⟩ := x
            simp only at g0 g1
            by_cases hd : decide (25 < ((sups.length : Nat) : Int)) = true
            · go_wp2_with fail
              go_ret
              exact ⟨_, rfl, hBw.trans ((below_alloc wr _).mono (by omega))⟩
            · have hd : decide (25 < ((sups.length : Nat) : Int)) = false := by simpa using hd
              go_wp2_with fail
              go_roundw
              case rel => exact ⟨k + 1, by omega, by go_num, hB.trans ((below_alloc wr _).mono (by omega))⟩
              case measure => simp [intOf]; omega
          · have p3 : wr.cell? ⟨w.heap.size, 3, none⟩ = some (.slice a3 n3 c3) := by rw [cell_of_row wr _ 3 _ _ _ ((hB.block _ (by omega)).trans HR0.out)]; rfl
            go_wp2_with fail
            generalize wr = w5 at *
            go_loopw [38] (fun i wr => ∃ k : Nat, k ≤ n3 ∧ i = .int .i64 k ∧ Below w5.heap.size w5 wr) (fun i _ => n3 - (intOf i).toNat)
            case atStart => exact ⟨0, by omega, rfl, Below.refl _ _⟩
            case round =>
              obtain ⟨k, hk, rfl, hB2⟩ := hrel
              have hBw2 : Below w.heap.size w wr := hBw.trans (hB2.mono (by omega))
              have hz2 := hB2.size
              by_cases hlt : k < n3
              · obtain ⟨_, n3', c3', hee, _, hsx⟩ := H3.out.below hBw2 (Nat.le_refl _)
                injection hee with hee hee1 hee2
                subst hee
                subst hee1
                subst hee2
                obtain ⟨b, off, rfl, hb, hc⟩ := hsx (by omega)
                obtain ⟨s1, s2, v3, g0, g1, g2, g3⟩ := hc k hlt
                have hb4 := below_alloc wr (Obj.cells #[.string s1, .string s2, v3] 58)
                have C := Lib.hid (fewSorts_any v3 _ (g3.below hb4 (Nat.le_refl _)))
                obtain ⟨a4, n4, c4, rfl, _⟩ := g3
                clear hc hsx
                by_cases hd : decide (12 < ((n4 : Nat) : Int)) = true
                · clear C
                  go_wp2_with fail
                  go_ret
                  exact ⟨_, rfl, hBw2.trans ((below_alloc wr _).mono (by omega))⟩
                · have hd : decide (12 < ((n4 : Nat) : Int)) = false := by simpa using hd
                  go_wp2_with (go_at_call 9; refine C.out.mono ?_; rintro e w6 ⟨r, rfl, hb6⟩; cases r)
                  · go_ret
                    exact ⟨_, rfl, hBw2.trans ((hb4.mono (by omega)).trans (hb6.mono (by simp; omega)))⟩
                  · go_roundw
                    case rel => exact ⟨k + 1, by omega, by go_num, hB2.trans ((hb4.mono (by omega)).trans (hb6.mono (by simp; omega)))⟩
                    case measure => simp [intOf]; omega
              · go_wp2_with fail
                go_ret
                exact ⟨_, rfl, hBw2⟩

end Go.Proofs.Ytehnikgdjnmfcaa
