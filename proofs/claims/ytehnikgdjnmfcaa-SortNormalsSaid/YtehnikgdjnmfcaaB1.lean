/- slices.Concat of two slices of strings. -/
import Derived.Test.YtehnikgdjnmfcaaY
import Derived.Test.YtehnikgdjnmfcaaW2
import Derived.Test.YtehnikgdjnmfcaaP2
import Derived.Deep.AppendSrc
import Derived.Deep.Upon
namespace Go.Proofs.Ytehnikgdjnmfcaa
open Go.RowKit Go.WideMaps Go.Shelf Go.Sort Go.Lib Go.Deep

theorem wpList_append_sls (w : World) {ops : Array Oper} {rest : List Oper} {o : Oper} {a : Act} {Q : Exit → Act → World → Prop} (hgd : o.guard = none) (s x : Operand)
    (ho : o.op = .call { callee := .builtin .append, args := #[s, x], argTypes := #[27, 27] }) (base : Nat) (v vx : Value) (n : Nat) (xs : List Value) (ss : List Nm) (hs : a.eval s = v) (hown : w.ownsRow base 9 1 v n xs) (hx : a.eval x = vx) (hsl : SlS w vx ss)
    (hb : (n + ss.length) * 16 ≤ 140737488355328) (hbase : base ≤ w.heap.size)
    (h : ∀ v' w', w'.ownsRow base 9 1 v' (n + ss.length) (xs ++ ss.map encStr) → w.grownBy w' v.ownBlock → wpList Try.prog ops Q rest (a.put o.dst v') w') :
    wpList Try.prog ops Q (o :: rest) a w := by
  obtain ⟨i0, hi, hq0, hq1, hq2⟩ := info_parts Try.info9
  obtain ⟨hl, sa, cap, rfl, hsx⟩ := hsl
  by_cases hn : 0 < ss.length
  · obtain ⟨b, off, rfl, hlt, hc, hw⟩ := hsx hn
    refine wpList_append_own w hgd s x 27 ho base 9 i0 (.string ByteArray.empty) 1 16 Try.underlying27 hi hq0 hq1 hq2 rfl (by decide) v n xs hs hown ⟨b, off, none⟩ ss.length cap (ss.map encStr) hx (by simp) (fun j u hj => ?_) (fun u hu => ?_) (by unfold maxLen; omega) hb hbase (fun v' w' h1 h2 _ => h v' w' h1 h2)
    · rw [List.getElem?_map] at hj
      obtain ⟨y, hy, rfl⟩ := Option.map_eq_some_iff.1 hj
      have hjl := (List.getElem?_eq_some_iff.1 hy).1
      have e : (Addr.add ⟨b, off, none⟩ j) = ⟨b, off + j, none⟩ := by
        unfold Addr.add
        by_cases h : j = 0
        · subst h; simp
        · simp [h]
      rw [e, hc j hjl, List.getD_eq_getElem?_getD, hy]; rfl
    · obtain ⟨y, _, rfl⟩ := List.mem_map.1 hu
      rfl
  · have h0 : ss = [] := List.eq_nil_of_length_eq_zero (by omega)
    subst h0
    have hform : ∃ p l c, v = .slice p l c ∧ l ≤ c ∧ l = n := by
      rcases hown.2 with ⟨e1, e2⟩ | ⟨g, cap', cur, e1, _, _, hle, _⟩
      · exact ⟨none, 0, 0, e1, Nat.le_refl _, e2.symm⟩
      · exact ⟨_, n, cap', e1, hle, rfl⟩
    obtain ⟨p, l, c, rfl, hle, rfl⟩ := hform
    have hsrc : Src Try.prog i0.size 27 (.slice sa 0 cap) 0 [] w := by
      cases sa with
      | none => exact Src.ofNil _ Try.underlying27 cap
      | some ad => exact Src.ofSlice _ Try.underlying27 ad 0 cap [] (by simp) (fun j u hj => by simp at hj) (fun u hu => by simp at hu)
    have hr := run_append_nothing w 27 27 o.type 9 i0 Try.underlying27 hi p l c hle (.slice sa 0 cap) hsrc
    refine wpList_plain hgd fun K hK => ?_
    unfold Oper.wp execOp
    have hx' : a.eval x = .slice sa 0 cap := hx
    simp only [ho, resolve, invoke, builtin, Sem.run_bind, Sem.run_pure, Result.andThen_ok, List.map_toArray, List.map_cons, List.map_nil, hs, hx', hr]
    exact hK _ _ (h _ _ (by simpa using hown) (World.grownBy.refl _ _))

theorem grow_any (n : Nat) (w : World) (hn : n * 16 ≤ 140737488355328) :
    Calls Try.prog 79 #[.slice none 0 0, .int .i64 (n : Int)] w fun e w' => ∃ v', e = .returned v' ∧ w'.ownsRow w.heap.size 9 1 v' 0 [] ∧ Below w.heap.size w w' := by
  by_cases h0 : n = 0
  · subst h0
    refine (show Calls Try.prog 79 #[.slice none 0 0, .int .i64 ((0 : Nat) : Int)] w _ from Any8.slices_Grow_room Try.growL none 0 0 0 w (by omega) (by omega) (by omega) (by omega)).mono ?_
    rintro e w' ⟨rfl, rfl⟩
    exact ⟨_, rfl, World.ownsRow_nil _ _ _ _, RowKit.Below.refl _ _⟩
  · obtain ⟨i0, hi, hq0, hq1, hq2⟩ := info_parts Try.info9
    refine (show Calls Try.prog 79 #[.slice none 0 0, .int .i64 (n : Int)] w _ from Any8.slices_Grow_grow Try.growL i0 (.string ByteArray.empty) hi hq0 (by omega) none 0 0 n [] w (by omega) (by omega) (by rw [hq2]; omega) (by omega) (by simp) (fun _ => rfl) (fun a h => by cases h)).mono ?_
    rintro e w' ⟨rfl, rfl⟩
    have hb : RowKit.Below w.heap.size w (w.drew) := (RowKit.Below.refl _ w).drew
    refine ⟨_, rfl, ⟨by simp, .inr ⟨w.heap.size, _, _, rfl, Nat.le_refl _, heap_alloc_new w.drew _, Nat.zero_le _, ?_, ?_, by simp⟩⟩, hb.alloc (Nat.le_refl _) _⟩
    · exact grownCap_le_maxLen w _ _ _ (by unfold maxLen; omega)
    · have hg := grownCap_ge w (0 + n) 0 (Try.growL_ren.t 25)
      have hv : (Value.string ByteArray.empty).cells.size = 1 := rfl
      rw [Array.size_append, Array.size_append, size_zeroCells, size_zeroCells, hv]
      simp
      simp at hg
      omega

def rowA (ss ts : List Nm) (k : Nat) : List Nm := if k = 0 then [] else if k = 1 then ss else ss ++ ts

def szA (ss ts : List Nm) (k : Nat) : Nat := if k = 0 then 0 else if k = 1 then ss.length else ss.length + ts.length

set_option maxRecDepth 100000 in
set_option maxHeartbeats 4000000 in
theorem concat2 (k c2 : Nat) (va vb : Value) (ss ts : List Nm) (w : World) (hk : w.heap[k]? = some (.cells #[va, vb] 27 (0, 0))) (ha : SlS w va ss) (hb : SlS w vb ts) (h1 : (ss.length + ts.length) * 16 ≤ 140737488355328) :
    Calls Try.prog 65 #[.slice (some ⟨k, 0, none⟩) 2 c2] w fun e w' => ∃ v', e = .returned v' ∧ SlO w' w.heap.size v' (ss ++ ts) ∧ Below w.heap.size w w' := by
  have HA := Lib.hid ha
  have HB := Lib.hid hb
  obtain ⟨_, sa, scap, rfl, _⟩ := ha
  obtain ⟨_, ta, tcap, rfl, _⟩ := hb
  obtain ⟨c0, c1⟩ := cells2 hk
  have HR := Lib.hid hk
  clear hk
  go_enter Try.func65, Try.ntmps65
  go_wp2_with fail
  have hsz : ∀ k : Nat, k < 3 → ((szA ss ts k : Nat) : Int) ≤ 8796093022208 := fun k hk => by unfold szA; split <;> (try split) <;> omega
  go_loop [3, 11] (fun s i => ∃ k : Nat, k ≤ 2 ∧ i = .int .i64 k ∧ s = .int .i64 (szA ss ts k : Nat)) (fun _ i => 2 - (intOf i).toNat)
  case atStart => exact ⟨0, by omega, rfl, rfl⟩
  case round =>
    obtain ⟨k, hk, rfl, rfl⟩ := hrel
    by_cases hlt : k < 2
    · have h01 : k = 0 ∨ k = 1 := by omega
      rcases h01 with rfl | rfl
      · have hd : decide (((ss.length : Nat) : Int) < 0) = false := by simp
        have e0 : szA ss ts 0 = 0 := rfl
        rw [e0]
        go_wp2_with fail
        exact ⟨⟨1, by omega, rfl, rfl⟩, by decide⟩
      · have hd : decide (((ss.length : Nat) : Int) + ((ts.length : Nat) : Int) < 0) = false := by simp; omega
        have e1 : szA ss ts 1 = ss.length := rfl
        rw [e1]
        go_wp2_with fail
        refine ⟨⟨2, by omega, rfl, ?_⟩, by decide⟩
        show _ = Value.int .i64 ((szA ss ts 2 : Nat) : Int)
        have e2 : szA ss ts 2 = ss.length + ts.length := rfl
        rw [e2]; simp
    · have hkk : k = 2 := by omega
      subst hkk
      have e2 : szA ss ts 2 = ss.length + ts.length := rfl
      rw [e2]
      go_wp2_with fail
      have eA : (((ss.length : Nat) : Int) + ((ts.length : Nat) : Int)) = ((ss.length + ts.length : Nat) : Int) := by simp
      rw [eA]
      clear eA
      refine (grow_any _ w (by omega)).mono ?_
      rintro e w1 ⟨v1, rfl, hown1, hb1⟩
      have HO := Lib.hid hown1
      obtain ⟨p1, q1, rfl⟩ := ownsRow_form hown1
      have hz1 := hb1.size
      have r1 := Lib.hid ((hb1.block k (Array.getElem?_eq_some_iff.1 HR.out).1).trans HR.out)
      have hklt : k < w.heap.size := (Array.getElem?_eq_some_iff.1 HR.out).1
      clear hown1 c0 c1
      go_wp2_with fail
      go_loopw [6, 27] (fun v i wr => ∃ j : Nat, j ≤ 2 ∧ i = .int .i64 j ∧ wr.ownsRow w.heap.size 9 1 v (rowA ss ts j).length ((rowA ss ts j).map encStr) ∧ RowKit.Below w.heap.size w wr) (fun _ i _ => 2 - (intOf i).toNat)
      case atStart => exact ⟨0, by omega, rfl, HO.out, hb1⟩
      case round =>
        obtain ⟨j, hj, rfl, hown, hB⟩ := hrel
        have hz := hB.size
        by_cases hlt : j < 2
        · obtain ⟨c0, c1⟩ := cells2 ((hB.block k hklt).trans HR.out)
          have h01 : j = 0 ∨ j = 1 := by omega
          rcases h01 with rfl | rfl
          · go_wp2_with (at_builtin; refine wpList_append_sls _ rfl _ _ rfl w.heap.size _ _ _ _ ss rfl hown rfl (HA.out.below hB (Nat.le_refl _)) (by show (0 + ss.length) * 16 ≤ _; omega) hz ?_; intro v' w5 h5 hg5)
            have hB5 : RowKit.Below w.heap.size w w5 := hB.grown hg5 hz (fun r er => ownBlock_ge hown er)
            have H5 : Hid (w5.ownsRow w.heap.size 9 1 v' (rowA ss ts 1).length ((rowA ss ts 1).map encStr)) := by
              have e : rowA ss ts 0 = [] := rfl
              rw [e] at h5
              simpa [rowA, Hid] using h5
            go_roundw
            case rel => exact ⟨1, by omega, rfl, H5.out, hB5⟩
            case measure => decide
          · go_wp2_with (at_builtin; refine wpList_append_sls _ rfl _ _ rfl w.heap.size _ _ _ _ ts rfl hown rfl (HB.out.below hB (Nat.le_refl _)) (by show (ss.length + ts.length) * 16 ≤ _; omega) hz ?_; intro v' w5 h5 hg5)
            have hB5 : RowKit.Below w.heap.size w w5 := hB.grown hg5 hz (fun r er => ownBlock_ge hown er)
            have H5 : Hid (w5.ownsRow w.heap.size 9 1 v' (rowA ss ts 2).length ((rowA ss ts 2).map encStr)) := by
              have e : rowA ss ts 1 = ss := rfl
              rw [e] at h5
              have e2 : rowA ss ts 2 = ss ++ ts := rfl
              unfold Hid
              rw [e2, List.length_append, List.map_append]; exact h5
            go_roundw
            case rel => exact ⟨2, by omega, rfl, H5.out, hB5⟩
            case measure => decide
        · have hjj : j = 2 := by omega
          subst hjj
          have e2 : rowA ss ts 2 = ss ++ ts := rfl
          rw [e2] at hown
          have hw : ∀ y ∈ ss ++ ts, y.length ≤ maxLen := fun y hy => by
            rcases List.mem_append.1 hy with h | h
            · obtain ⟨_, _, _, _, hx⟩ := HA.out
              obtain ⟨_, _, _, _, _, hw⟩ := hx (List.length_pos_of_mem h)
              exact hw y h
            · obtain ⟨_, _, _, _, hx⟩ := HB.out
              obtain ⟨_, _, _, _, _, hw⟩ := hx (List.length_pos_of_mem h)
              exact hw y h
          have HF : Hid (SlO wr w.heap.size _ (ss ++ ts)) := slO_of_own hown (by rw [List.length_append]; exact h1) hw
          clear hown e2 hw
          go_wp2_with fail
          go_ret
          exact ⟨_, rfl, HF.out, hB⟩
end Go.Proofs.Ytehnikgdjnmfcaa
