/- awake. -/
import Derived.Test.YtehnikgdjnmfcaaGreatMZ11
namespace Go.Proofs.YtehnikgdjnmfcaaGreat
open Go.RowKit Go.WideMaps Go.Shelf

def cs0 : List (Nm × List Nm) := [([97], []), ([98], []), ([99], [[97], [98]])]

theorem built0 : Built cs0 [[], [], [0, 1]] [[0], [1], [2, 0, 1]] := by
  have h1 : Built ([] ++ [(([97] : Nm), ([] : List Nm))]) ([] ++ [([] : List Nm).map (ixOf (([] : List (Nm × List Nm)).map Prod.fst))]) ([] ++ [[0]]) := by
    refine .snoc .nil (by kernel_rfl) fun x => ⟨fun h => ?_, fun h => ?_⟩
    · simp at h; subst h; exact .self
    · cases h with
      | self => simp
      | step _ hs => rename_i k _; cases k <;> simp at hs
  have h2 : Built ([([97], [])] ++ [(([98] : Nm), ([] : List Nm))]) ([[]] ++ [([] : List Nm).map (ixOf ([(([97] : Nm), ([] : List Nm))].map Prod.fst))]) ([[0]] ++ [[1]]) := by
    refine .snoc h1 (by kernel_rfl) fun x => ⟨fun h => ?_, fun h => ?_⟩
    · simp at h; subst h; exact .self
    · cases h with
      | self => simp
      | step _ hs => rename_i k _; rcases k with _ | _ | k <;> simp at hs
  have e : ([[97], [98]] : List Nm).map (ixOf ([([97], []), (([98] : Nm), ([] : List Nm))].map Prod.fst)) = [0, 1] := by kernel_rfl
  have h3 := Built.snoc (nm := [99]) (sups := [[97], [98]]) (ys := [2, 0, 1]) h2 (by kernel_rfl) (by
    intro x
    have e' : (([] : List (List Nat)) ++ [([] : List Nm).map (ixOf ([(([97] : Nm), ([] : List Nm))].map Prod.fst))] ++ [([[97], [98]] : List Nm).map (ixOf ([([97], []), (([98] : Nm), ([] : List Nm))].map Prod.fst))]) = [[], [0, 1]] := by kernel_rfl
    show x ∈ [2, 0, 1] ↔ Reach (fun i => [[], [], ([[97], [98]] : List Nm).map (ixOf ([([97], []), (([98] : Nm), ([] : List Nm))].map Prod.fst))].getD i []) 2 x
    rw [e]
    constructor
    · intro h
      have : x = 2 ∨ x = 0 ∨ x = 1 := by simpa using h
      rcases this with rfl | rfl | rfl
      · exact .self
      · exact .step .self (by simp)
      · exact .step .self (by simp)
    · intro h
      induction h with
      | self => simp
      | step _ hs ih =>
        rename_i k s _
        have : k = 2 ∨ k = 0 ∨ k = 1 := by simpa using ih
        rcases this with rfl | rfl | rfl <;> simp at hs
        rcases hs with rfl | rfl <;> simp)
  exact h3

theorem least0 {sp ab : List (List Nat)} (hb : Built cs0 sp ab) : leastB (cs0.map Prod.fst) (fun i => ab.getD i []) [[98], [99], [97]] = [[99]] := by
  have hsp := built0.det hb
  subst hsp
  refine ascB.uniq (leastB_asc _ _ _) (by simp [ascB]) fun x => ?_
  rw [mem_least hb (by intro x hx; simp at hx; rcases hx with rfl | rfl | rfl <;> kernel_rfl)]
  have hlt := hb.lt'
  have i1 : ixOf (cs0.map Prod.fst) [97] = 0 := by kernel_rfl
  have i2 : ixOf (cs0.map Prod.fst) [98] = 1 := by kernel_rfl
  have i3 : ixOf (cs0.map Prod.fst) [99] = 2 := by kernel_rfl
  constructor
  · rintro ⟨hx, hm⟩
    simp at hx
    rcases hx with rfl | rfl | rfl
    · have := hm [99] (by simp) (by unfold leN; rw [i2, i3]; exact .step .self (by simp))
      simp at this
    · simp
    · have := hm [99] (by simp) (by unfold leN; rw [i1, i3]; exact .step .self (by simp))
      simp at this
  · intro hx
    have hx' : x = [99] := by simpa using hx
    subst hx'
    refine ⟨by simp, fun d hd hle => ?_⟩
    simp at hd
    have := Reach.le hlt hle
    rcases hd with rfl | rfl | rfl
    · rw [i2, i3] at this; omega
    · rfl
    · rw [i1, i3] at this; omega

theorem cells2 {w : World} {k : Nat} {a0 a1 : Value} {t : TypeId} {fr : Nat × Nat} (h : w.heap[k]? = some (.cells #[a0, a1] t fr)) : w.cell? ⟨k, 0, none⟩ = some a0 ∧ w.cell? ⟨k, 1, none⟩ = some a1 :=
  ⟨by rw [cell_of_row w _ 0 _ _ _ h]; rfl, by rw [cell_of_row w _ 1 _ _ _ h]; rfl⟩

theorem slS3 {w : World} {k c : Nat} {a0 a1 a2 : Nm} (h : w.heap[k]? = some (.cells #[.string (bs a0), .string (bs a1), .string (bs a2)] 9 (0, 0))) (h0 : a0.length ≤ maxLen) (h1 : a1.length ≤ maxLen) (h2 : a2.length ≤ maxLen) : SlS w (.slice (some ⟨k, 0, none⟩) 3 c) [a0, a1, a2] := by
  refine ⟨by simp [maxLen], _, c, rfl, fun _ => ⟨k, 0, rfl, (Array.getElem?_eq_some_iff.1 h).1, fun j hj => ?_, fun s hs => ?_⟩⟩
  · rw [cell_of_row w _ _ _ _ _ h]
    have : j = 0 ∨ j = 1 ∨ j = 2 := by simp at hj; omega
    rcases this with rfl | rfl | rfl <;> rfl
  · simp at hs
    rcases hs with rfl | rfl | rfl <;> assumption

theorem slS2 {w : World} {k c : Nat} {a0 a1 : Nm} (h : w.heap[k]? = some (.cells #[.string (bs a0), .string (bs a1)] 9 (0, 0))) (h0 : a0.length ≤ maxLen) (h1 : a1.length ≤ maxLen) : SlS w (.slice (some ⟨k, 0, none⟩) 2 c) [a0, a1] := by
  refine ⟨by simp [maxLen], _, c, rfl, fun _ => ⟨k, 0, rfl, (Array.getElem?_eq_some_iff.1 h).1, fun j hj => ?_, fun s hs => ?_⟩⟩
  · rw [cell_of_row w _ _ _ _ _ h]
    have : j = 0 ∨ j = 1 := by simp at hj; omega
    rcases this with rfl | rfl <;> rfl
  · simp at hs
    rcases hs with rfl | rfl <;> assumption

theorem slS1 {w : World} {k c : Nat} {a0 : Nm} (h : w.heap[k]? = some (.cells #[.string (bs a0)] 9 (0, 0))) (h0 : a0.length ≤ maxLen) : SlS w (.slice (some ⟨k, 0, none⟩) 1 c) [a0] := by
  refine ⟨by simp [maxLen], _, c, rfl, fun _ => ⟨k, 0, rfl, (Array.getElem?_eq_some_iff.1 h).1, fun j hj => ?_, fun s hs => ?_⟩⟩
  · rw [cell_of_row w _ _ _ _ _ h]
    have : j = 0 := by simp at hj; omega
    subst this; rfl
  · simp at hs
    subst hs; exact h0

theorem slS0 {w : World} : SlS w (.slice none 0 0) [] := ⟨by decide, none, 0, rfl, fun h => absurd h (by decide)⟩

theorem slC0 {w : World} {k m c : Nat} (h : w.heap[k]? = some (.cells #[.string (bs [97]), .slice none 0 0, .string (bs [98]), .slice none 0 0, .string (bs [99]), .slice (some ⟨m, 0, none⟩) 2 2] 48 (0, 0)))
    (h2 : w.heap[m]? = some (.cells #[.string (bs [97]), .string (bs [98])] 9 (0, 0))) : SlC w (.slice (some ⟨k, 0, none⟩) 3 c) cs0 := by
  refine ⟨by decide, _, c, rfl, fun _ => ⟨k, 0, rfl, (Array.getElem?_eq_some_iff.1 h).1, fun j hj => ?_⟩⟩
  rw [cell_of_row w _ _ _ _ _ h, cell_of_row w _ _ _ _ _ h]
  have : j = 0 ∨ j = 1 ∨ j = 2 := by have : cs0.length = 3 := rfl; omega
  rcases this with rfl | rfl | rfl
  · exact ⟨rfl, by decide, none, 0, rfl, slS0⟩
  · exact ⟨rfl, by decide, none, 0, rfl, slS0⟩
  · exact ⟨rfl, by decide, _, 2, rfl, slS2 h2 (by decide) (by decide)⟩

set_option maxRecDepth 100000 in
set_option maxHeartbeats 4000000 in
theorem awake_any (w : World) : Calls Tryz.prog 7 #[] w fun e w' => e = .returned (.bool true) ∧ Below w.heap.size w w' := by
  have hN1 : Hid (∀ w, Calls Tryz.prog 18 #[.string (bs [120, 39, 49, 46, 121])] w fun e w' => e = .returned (.bool true) ∧ w = w') := fun w => by
    have h := isName_any (bs [120, 39, 49, 46, 121]) w (by decide)
    have e : isNameB (bs [120, 39, 49, 46, 121]) = true := by kernel_rfl
    rw [e] at h; exact h
  have hN2 : Hid (∀ w, Calls Tryz.prog 18 #[.string (bs [49, 120])] w fun e w' => e = .returned (.bool false) ∧ w = w') := fun w => by
    have h := isName_any (bs [49, 120]) w (by decide)
    have e : isNameB (bs [49, 120]) = false := by kernel_rfl
    rw [e] at h; exact h
  go_enter Tryz.func7, Tryz.ntmps7
  go_wp2_with fail
  generalize hW : ((((w.alloc (Obj.cells #[Value.string { data := #[97] }, Value.string { data := #[98] }] 9)).alloc
              (Obj.cells #[Value.string { data := #[97] }, Value.slice none 0 0, Value.string { data := #[98] }, Value.slice none 0 0, Value.string { data := #[99] }, Value.slice (some { block := w.heap.size, off := 0 }) 2 2] 48)).alloc
          (Obj.cells #[Value.string { data := #[] }, Value.slice (some { block := w.heap.size + 1, off := 0 }) 3 3, Value.slice none 0 0, Value.slice none 0 0, Value.slice none 0 0, Value.slice none 0 0, Value.slice none 0 0] 29)).alloc
      (Obj.cells #[Value.string { data := #[98] }, Value.string { data := #[99] }, Value.string { data := #[97] }] 9)) = W
  have hB : Below w.heap.size w W := by rw [← hW]; exact ((((Below.refl _ w).alloc (Nat.le_refl _) _).alloc (by simp) _).alloc (by simp; omega) _).alloc (by simp; omega) _
  have hz : w.heap.size + 4 ≤ W.heap.size := by rw [← hW]; simp
  have r0 : W.heap[w.heap.size]? = some (.cells #[.string (bs [97]), .string (bs [98])] 9 (0, 0)) := by
    rw [← hW]; exact ((below_alloc _ _).block _ (by simp; omega)).trans (((below_alloc _ _).block _ (by simp; omega)).trans (heap_alloc2_old _ _ _))
  have r1 : W.heap[w.heap.size + 1]? = some (.cells #[.string (bs [97]), .slice none 0 0, .string (bs [98]), .slice none 0 0, .string (bs [99]), .slice (some ⟨w.heap.size, 0, none⟩) 2 2] 48 (0, 0)) := by
    rw [← hW]; exact ((below_alloc _ _).block _ (by simp)).trans (((below_alloc _ _).block _ (by simp)).trans (heap_alloc2_new _ _ _))
  have r3 : W.heap[w.heap.size + 1 + 1 + 1]? = some (.cells #[.string (bs [98]), .string (bs [99]), .string (bs [97])] 9 (0, 0)) := by
    rw [← hW]
    have e : w.heap.size + 1 + 1 + 1 = (((w.alloc (Obj.cells #[Value.string { data := #[97] }, Value.string { data := #[98] }] 9)).alloc (Obj.cells #[Value.string { data := #[97] }, Value.slice none 0 0, Value.string { data := #[98] }, Value.slice none 0 0, Value.string { data := #[99] }, Value.slice (some { block := w.heap.size, off := 0 }) 2 2] 48)).alloc (Obj.cells #[Value.string { data := #[] }, Value.slice (some { block := w.heap.size + 1, off := 0 }) 3 3, Value.slice none 0 0, Value.slice none 0 0, Value.slice none 0 0, Value.slice none 0 0, Value.slice none 0 0] 29)).heap.size := by simp
    rw [e]; exact heap_alloc_new _ _
  clear hW
  refine (normal_any _ _ cs0 [[98], [99], [97]] W ⟨_, _, _, _, _, _, _, rfl, slC0 r1 r0⟩ (slS3 r3 (by decide) (by decide) (by decide))).mono ?_
  rintro e w1 ⟨v', er, rfl, hb1, _, h0⟩
  obtain ⟨sp, ab, hbu, her, hso⟩ := h0 (by kernel_rfl)
  have hn0 : normErr (cs0.map Prod.fst) [[98], [99], [97]] = 0 := by kernel_rfl
  rw [hn0] at her
  subst her
  have hs1 := (hso rfl)
  rw [least0 hbu] at hs1
  have HS1 := Lib.hid hs1
  obtain ⟨_, _, a1, k1, rfl, _⟩ := hs1
  have hz1 := hb1.size
  have hb2 := below_alloc w1 (Obj.cells #[.string (bs [99])] 9)
  have C := Lib.hid (equal_any _ _ [[99]] [[99]] _ (HS1.out.sl.below hb2 (Nat.le_refl _)) (slS1 (c := 1) (heap_alloc_new w1 _) (by decide)))
  rw [decide_eq_true rfl] at C
  clear hso r0 r1 r3 hbu
  go_wp2_with (first | (go_at_call 11; refine C.out.mono ?_; rintro e w2 ⟨rfl, hb3⟩) | fail)
  refine (hN1.out _).mono ?_
  rintro e w3 ⟨rfl, rfl⟩
  go_wp2_with fail
  refine (hN2.out _).mono ?_
  rintro e w3 ⟨rfl, rfl⟩
  go_wp2_with fail
  go_ret
  exact ⟨rfl, hB.trans ((hb1.mono (by omega)).trans ((hb2.mono (by omega)).trans (hb3.mono (by simp; omega))))⟩
end Go.Proofs.YtehnikgdjnmfcaaGreat

/- The law of least sorts. -/
namespace Go.Proofs.YtehnikgdjnmfcaaGreat
open Go.RowKit Go.WideMaps Go.Shelf

/-- a theory in memory, as far as the law looks at it -/
def ThF (w : World) (t : Value) (cs : List (Nm × List Nm)) : Prop :=
  ∃ n c p2 n2 k2 t3 t4 t5 t6, t = .agg #[n, c, .slice p2 n2 k2, t3, t4, t5, t6] ∧ SlC w c cs ∧ SlA w t3

theorem ThF.below {w w' : World} {B : Nat} {t : Value} {cs : List (Nm × List Nm)} (h : ThF w t cs) (hb : Below B w w') (hB : w.heap.size ≤ B) : ThF w' t cs := by
  obtain ⟨n, c, p2, n2, k2, t3, t4, t5, t6, e, h1, h2⟩ := h
  exact ⟨n, c, p2, n2, k2, t3, t4, t5, t6, e, h1.below hb hB, h2.below hb hB⟩

theorem ThF.th {w : World} {t : Value} {cs : List (Nm × List Nm)} (h : ThF w t cs) : ThAt w t cs := by
  obtain ⟨n, c, p2, n2, k2, t3, t4, t5, t6, e, h1, h2⟩ := h
  exact ⟨n, c, _, t3, t4, t5, t6, e, h1⟩

theorem fewT {w : World} {t : Value} {cs : List (Nm × List Nm)} (h : ThF w t cs) : Calls Tryz.prog 4 #[t] w (AB w) := by
  obtain ⟨n, c, p2, n2, k2, t3, t4, t5, t6, rfl, h1, h2⟩ := h
  exact few_any n c _ t3 t4 t5 t6 p2 n2 k2 cs w h1 rfl h2

theorem normErr_zero {ns ss : List Nm} (h : normErr ns ss = 0) : ss.length ≤ 20 ∧ ss.all (inNs ns) = true := by
  unfold normErr at h
  by_cases h1 : 20 < ss.length
  · rw [if_pos h1] at h; exact absurd h (by decide)
  · rw [if_neg h1] at h
    by_cases h2 : ss.all (inNs ns) = true
    · exact ⟨by omega, h2⟩
    · rw [if_neg h2] at h; exact absurd h (by decide)

theorem cells7 {w : World} {k : Nat} {a0 a1 a2 a3 a4 a5 a6 : Value} {t : TypeId} {fr : Nat × Nat} (h : w.heap[k]? = some (.cells #[a0, a1, a2, a3, a4, a5, a6] t fr)) :
    w.cell? ⟨k, 0, none⟩ = some a0 ∧ w.cell? ⟨k, 1, none⟩ = some a1 ∧ w.cell? ⟨k, 2, none⟩ = some a2 ∧ w.cell? ⟨k, 3, none⟩ = some a3 ∧ w.cell? ⟨k, 4, none⟩ = some a4 ∧ w.cell? ⟨k, 5, none⟩ = some a5 ∧ w.cell? ⟨k, 6, none⟩ = some a6 :=
  ⟨by rw [cell_of_row w _ 0 _ _ _ h]; rfl, by rw [cell_of_row w _ 1 _ _ _ h]; rfl, by rw [cell_of_row w _ 2 _ _ _ h]; rfl, by rw [cell_of_row w _ 3 _ _ _ h]; rfl, by rw [cell_of_row w _ 4 _ _ _ h]; rfl, by rw [cell_of_row w _ 5 _ _ _ h]; rfl, by rw [cell_of_row w _ 6 _ _ _ h]; rfl⟩

theorem slSS2 {w : World} {k c : Nat} {p1 p2 : Option Addr} {n1 c1 n2 c2 : Nat} {fr : Nat × Nat} (h : w.heap[k]? = some (.cells #[.slice p1 n1 c1, .slice p2 n2 c2] 27 fr)) : SlSS w (.slice (some ⟨k, 0, none⟩) 2 c) := by
  refine ⟨_, 2, c, rfl, by decide, fun _ => ⟨k, 0, rfl, (Array.getElem?_eq_some_iff.1 h).1, fun j hj => ?_⟩⟩
  rw [cell_of_row w _ _ _ _ _ h]
  have : j = 0 ∨ j = 1 := by omega
  rcases this with rfl | rfl
  · exact ⟨_, _, _, rfl⟩
  · exact ⟨_, _, _, rfl⟩

end Go.Proofs.YtehnikgdjnmfcaaGreat
