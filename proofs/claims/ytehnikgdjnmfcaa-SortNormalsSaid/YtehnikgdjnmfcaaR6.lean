/- The reference: put. -/
import Derived.Test.YtehnikgdjnmfcaaR5
namespace Go.Proofs.Ytehnikgdjnmfcaa
open Go.RowKit Go.WideMaps Go.Shelf Go.Sort Go.Lib

theorem bytesLess_cb : ∀ a b : Nm, Op.bytesLess a b = decide (Lib.compareBytes a b < 0)
  | [], [] => rfl
  | _ :: _, [] => rfl
  | [], _ :: _ => rfl
  | a :: u, b :: v => by
    unfold Op.bytesLess Lib.compareBytes
    have T : ∀ x y : UInt8, (x < y) = (x.toNat < y.toNat) := fun _ _ => rfl
    by_cases h1 : a < b
    · simp [h1]
    · by_cases h2 : b < a
      · have h3 : a ≠ b := fun e => by subst e; exact h1 h2
        simp [h1, h2, h3]
      · have e : a = b := by
          apply UInt8.toNat.inj
          rw [T] at h1 h2; omega
        simp [e, bytesLess_cb u v]

def geB (x s : Nm) : Bool := !Op.bytesLess (bs x).toList (bs s).toList

theorem geB_iff (x s : Nm) : geB x s = true ↔ ¬ Lib.compareBytes x s < 0 := by
  unfold geB
  rw [ByteArray.toList_eq, ByteArray.toList_eq, bs_list, bs_list, bytesLess_cb]
  simp

def putB : Bool → List Nm → Nm → List Nm
  | d, [], s => if d = true then [] else [s]
  | d, x :: l, s => if d = false ∧ geB x s = true then (if x = s then x :: putB true l s else s :: x :: putB true l s) else x :: putB d l s

theorem putB_true (l : List Nm) (s : Nm) : putB true l s = l := by
  induction l with
  | nil => rfl
  | cons x l ih => unfold putB; rw [if_neg (fun h => by cases h.1), ih]

theorem putB_mem (l : List Nm) (s y : Nm) : y ∈ putB false l s ↔ y ∈ l ∨ y = s := by
  induction l with
  | nil => simp [putB]
  | cons x l ih =>
    unfold putB
    by_cases h : geB x s = true
    · rw [if_pos ⟨rfl, h⟩]
      by_cases e : x = s
      · rw [if_pos e, putB_true]
        subst e
        simp only [List.mem_cons]
        exact ⟨.inl, fun h => h.elim id .inl⟩
      · rw [if_neg e, putB_true]
        simp only [List.mem_cons]
        constructor
        · rintro (h | h | h)
          · exact .inr h
          · exact .inl (.inl h)
          · exact .inl (.inr h)
        · rintro ((h | h) | h)
          · exact .inr (.inl h)
          · exact .inr (.inr h)
          · exact .inl h
    · rw [if_neg (fun hh => h hh.2)]
      simp only [List.mem_cons, ih, or_assoc]

theorem putB_asc (l : List Nm) (s : Nm) (hl : ascB l) : ascB (putB false l s) := by
  induction l with
  | nil => simp [putB, ascB]
  | cons x l ih =>
    obtain ⟨h1, h2⟩ := List.pairwise_cons.1 hl
    unfold putB
    by_cases h : geB x s = true
    · rw [if_pos ⟨rfl, h⟩]
      by_cases e : x = s
      · rw [if_pos e, putB_true]; exact hl
      · rw [if_neg e, putB_true]
        have h3 := (geB_iff x s).1 h
        have h4 : Lib.compareBytes s x < 0 := by
          have := cb_swap x s
          have : Lib.compareBytes x s ≠ 0 := fun h => e (cb_eq _ _ h)
          omega
        refine List.pairwise_cons.2 ⟨fun y hy => ?_, hl⟩
        rcases List.mem_cons.1 hy with rfl | hy
        · exact h4
        · exact cb_trans _ _ _ h4 (h1 y hy)
    · rw [if_neg (fun hh => h hh.2)]
      refine List.pairwise_cons.2 ⟨fun y hy => ?_, ih h2⟩
      rcases (putB_mem l s y).1 hy with hy | rfl
      · exact h1 y hy
      · exact Classical.byContradiction fun hh => h ((geB_iff x _).2 hh)

theorem putB_len (d : Bool) (l : List Nm) (s : Nm) : (putB d l s).length ≤ l.length + 1 := by
  induction l generalizing d with
  | nil => unfold putB; split <;> simp
  | cons x l ih =>
    unfold putB
    split
    · rw [putB_true]; split <;> simp
    · have := ih d
      simp; omega

theorem app_cell {w wr w5 : World} {o : Obj} {v x : Value} {n : Nat} {xs : List Value} {e : TypeId} (hB : RowKit.Below w.heap.size w wr) (hg : (wr.alloc o).grownBy w5 v.ownBlock) (ho : wr.ownsRow w.heap.size e 1 v n xs)
    (b k : Nat) (hb : b < w.heap.size) (hc : w.cell? ⟨b, k, none⟩ = some x) : w5.cell? ⟨b, k, none⟩ = some x ∧ w.heap.size ≤ w5.heap.size := by
  have hB5 : RowKit.Below w.heap.size w w5 := (hB.alloc hB.size _).grown hg (by have := hB.size; simp; omega) (fun r er => ownBlock_ge ho er)
  exact ⟨(hB5.cell (p := ⟨b, k, none⟩) hb).trans hc, hB5.size⟩

theorem putB_eq {x s : Nm} {l : List Nm} (h : geB x s = true) (e : x = s) : putB false (x :: l) s = x :: putB true l s := by
  conv => lhs; unfold putB
  rw [if_pos ⟨rfl, h⟩, if_pos e]
theorem putB_ne {x s : Nm} {l : List Nm} (h : geB x s = true) (e : ¬ x = s) : putB false (x :: l) s = s :: x :: putB true l s := by
  conv => lhs; unfold putB
  rw [if_pos ⟨rfl, h⟩, if_neg e]
theorem putB_lt {x s : Nm} {l : List Nm} (h : ¬ geB x s = true) : putB false (x :: l) s = x :: putB false l s := by
  conv => lhs; unfold putB
  rw [if_neg (fun hh => h hh.2)]
theorem putB_tt {x s : Nm} {l : List Nm} : putB true (x :: l) s = x :: putB true l s := by
  conv => lhs; unfold putB
  rw [if_neg (fun hh => by cases hh.1)]

theorem drop_getD {α : Type} (l : List α) (d : α) (k : Nat) (hk : k < l.length) : l.drop k = l.getD k d :: l.drop (k + 1) := by
  rw [List.drop_eq_getElem_cons hk, List.getD_eq_getElem?_getD, List.getElem?_eq_getElem hk]; rfl

set_option maxRecDepth 100000 in
set_option maxHeartbeats 8000000 in
theorem put_any (v : Value) (l : List Nm) (s : Nm) (w : World) (hs : SlS w v l) (hl : l.length ≤ 1000) (hsl : s.length ≤ maxLen) (hls : ∀ x ∈ l, x.length ≤ maxLen) :
    Calls Try.prog 64 #[v, .string (bs s)] w fun e w' => ∃ v', e = .returned v' ∧ SlO w' w.heap.size v' (putB false l s) ∧ Below w.heap.size w w' := by
  have HS := Lib.hid hs
  obtain ⟨_, sa, scap, rfl, _⟩ := hs
  obtain ⟨i0, hi, hq0, hq1, hq2⟩ := info_parts Try.info9
  go_enter Try.func64, Try.ntmps64
  go_wp2_with fail
  have hown0 : (w.alloc (Obj.cells #[] 9)).ownsRow w.heap.size 9 1 (.slice (some ⟨w.heap.size, 0, none⟩) 0 0) 0 [] := World.ownsRow_made w #[] 0 (Nat.le_refl _) (by unfold maxLen; omega) rfl
  have hB0 := below_alloc w (Obj.cells #[] 9)
  have hlm : l.length ≤ 9223372036854775807 := by omega
  have hW0 : w.heap.size ≤ (w.alloc (Obj.cells #[] 9)).heap.size := by simp
  generalize (w.alloc (Obj.cells #[] 9)) = W0 at *
  go_loopw [5, 6, 7] (fun u d i wr => ∃ (k : Nat) (b : Bool) (out : List Nm), k ≤ l.length ∧ i = .int .i64 k ∧ d = .bool b ∧ out.length ≤ 2 * k ∧ wr.ownsRow w.heap.size 9 1 u out.length (out.map encStr) ∧ Hid (putB false l s = out ++ putB b (l.drop k) s) ∧ Below w.heap.size w wr) (fun _ _ i _ => l.length - (intOf i).toNat)
  case atStart => exact ⟨0, false, [], by omega, rfl, rfl, by simp, hown0, rfl, hB0⟩
  case round =>
    obtain ⟨k, d, out, hk, rfl, rfl, hol, hown, hI, hB⟩ := hrel
    have hz := hB.size
    by_cases hlt : k < l.length
    · obtain ⟨b, off, x, rfl, hb, hck, hwk, hx⟩ := HS.out.at hlt
      have hck0 := hck
      have hck := (hB.cell (p := ⟨b, off + k, none⟩) hb).trans hck0
      have hstep : Hid (putB false l s = out ++ putB d (x :: l.drop (k + 1)) s) := by
        unfold Hid; rw [hI.out, drop_getD l [] k hlt, hx]
      clear hI hx
      cases d
      · by_cases hge : geB x s = true
        · by_cases he : x = s
          · have hd2 : ((bs x).toList == (bs s).toList) = true := by rw [bs_eq]; exact decide_eq_true he
            have hd3 : (!Op.bytesLess (bs x).toList (bs s).toList) = true := hge
            have hst : Hid (putB false l s = (out ++ [x]) ++ putB true (l.drop (k + 1)) s) := by
              unfold Hid; rw [hstep.out, List.append_assoc]; rw [putB_eq hge he]; rfl
            clear hstep he hge
            go_wp2_with (at_builtin; refine wpList_append_own _ rfl _ _ 27 rfl w.heap.size 9 i0 (.string ByteArray.empty) 1 16 Try.underlying27 hi hq0 hq1 hq2 rfl (by decide) _ _ _ rfl (hown.alloc _) ⟨wr.heap.size, 0, none⟩ 1 1 [.string (bs x)] rfl rfl (cell_one_new _ _ _) (by simp [Value.oneCell']) (by unfold maxLen; omega) (by omega) (by simp; omega) ?_; intro v5 w5 hown5 hgrow5 _)
            have HOWN : Hid (w5.ownsRow w.heap.size 9 1 v5 (out ++ [x]).length ((out ++ [x]).map encStr)) := by
              unfold Hid; rw [List.length_append, List.map_append]; exact hown5
            have HBEL : RowKit.Below w.heap.size w w5 := (hB.alloc hz _).grown hgrow5 (by simp; omega) (fun r er => ownBlock_ge hown er)
            go_roundw
            case rel => exact ⟨k + 1, true, out ++ [x], by omega, by go_num, rfl, by simp; omega, HOWN.out, hst, HBEL⟩
            case measure => simp [intOf]; omega
          · skip
            have hst : Hid (putB false l s = (out ++ [s] ++ [x]) ++ putB true (l.drop (k + 1)) s) := by
              unfold Hid; rw [hstep.out, List.append_assoc, List.append_assoc]; rw [putB_ne hge he]; rfl
            have hd2 : ((bs x).toList == (bs s).toList) = false := by rw [bs_eq]; exact decide_eq_false he
            have hd3 : (!Op.bytesLess (bs x).toList (bs s).toList) = true := hge
            clear hstep he hge
            go_wp2_with (first | (at_builtin; refine wpList_append_own _ rfl _ _ 27 rfl w.heap.size 9 i0 (.string ByteArray.empty) 1 16 Try.underlying27 hi hq0 hq1 hq2 rfl (by decide) _ _ _ rfl (hown5.alloc _) ⟨w5.heap.size, 0, none⟩ 1 1 [.string (bs x)] rfl rfl (cell_one_new _ _ _) (by simp [Value.oneCell']) (by unfold maxLen; omega) (by omega) (by simp; omega) ?_; intro v6 w6 hown6 hgrow6 _) | ((at_builtin; refine wpList_append_own _ rfl _ _ 27 rfl w.heap.size 9 i0 (.string ByteArray.empty) 1 16 Try.underlying27 hi hq0 hq1 hq2 rfl (by decide) _ _ _ rfl (hown.alloc _) ⟨wr.heap.size, 0, none⟩ 1 1 [.string (bs s)] rfl rfl (cell_one_new _ _ _) (by simp [Value.oneCell']) (by unfold maxLen; omega) (by omega) (by simp; omega) ?_; intro v5 w5 hown5 hgrow5 _); obtain ⟨hck5, hz5⟩ := app_cell hB hgrow5 hown b (off + k) hb hck0))
            have HOWN : Hid (w6.ownsRow w.heap.size 9 1 v6 (out ++ [s] ++ [x]).length ((out ++ [s] ++ [x]).map encStr)) := by
              unfold Hid; rw [List.length_append, List.map_append, List.length_append, List.map_append]; exact hown6
            have HBEL5 : RowKit.Below w.heap.size w w5 := (hB.alloc hz _).grown hgrow5 (by simp; omega) (fun r er => ownBlock_ge hown er)
            have HBEL : RowKit.Below w.heap.size w w6 := (HBEL5.alloc HBEL5.size _).grown hgrow6 (by simp; omega) (fun r er => ownBlock_ge hown5 er)
            go_roundw
            case rel => exact ⟨k + 1, true, out ++ [s] ++ [x], by omega, by go_num, rfl, by simp; omega, HOWN.out, hst, HBEL⟩
            case measure => simp [intOf]; omega
        · have hd3 : (!Op.bytesLess (bs x).toList (bs s).toList) = false := by simpa [geB] using hge
          have hst : Hid (putB false l s = (out ++ [x]) ++ putB false (l.drop (k + 1)) s) := by
            unfold Hid; rw [hstep.out, List.append_assoc]; rw [putB_lt hge]; rfl
          clear hstep hge
          go_wp2_with (at_builtin; refine wpList_append_own _ rfl _ _ 27 rfl w.heap.size 9 i0 (.string ByteArray.empty) 1 16 Try.underlying27 hi hq0 hq1 hq2 rfl (by decide) _ _ _ rfl (hown.alloc _) ⟨wr.heap.size, 0, none⟩ 1 1 [.string (bs x)] rfl rfl (cell_one_new _ _ _) (by simp [Value.oneCell']) (by unfold maxLen; omega) (by omega) (by simp; omega) ?_; intro v5 w5 hown5 hgrow5 _)
          have HOWN : Hid (w5.ownsRow w.heap.size 9 1 v5 (out ++ [x]).length ((out ++ [x]).map encStr)) := by
            unfold Hid; rw [List.length_append, List.map_append]; exact hown5
          have HBEL : RowKit.Below w.heap.size w w5 := (hB.alloc hz _).grown hgrow5 (by simp; omega) (fun r er => ownBlock_ge hown er)
          go_roundw
          case rel => exact ⟨k + 1, false, out ++ [x], by omega, by go_num, rfl, by simp; omega, HOWN.out, hst, HBEL⟩
          case measure => simp [intOf]; omega
      · skip
        have hst : Hid (putB false l s = (out ++ [x]) ++ putB true (l.drop (k + 1)) s) := by
          unfold Hid; rw [hstep.out, List.append_assoc]; rw [putB_tt]; rfl
        clear hstep
        go_wp2_with (at_builtin; refine wpList_append_own _ rfl _ _ 27 rfl w.heap.size 9 i0 (.string ByteArray.empty) 1 16 Try.underlying27 hi hq0 hq1 hq2 rfl (by decide) _ _ _ rfl (hown.alloc _) ⟨wr.heap.size, 0, none⟩ 1 1 [.string (bs x)] rfl rfl (cell_one_new _ _ _) (by simp [Value.oneCell']) (by unfold maxLen; omega) (by omega) (by simp; omega) ?_; intro v5 w5 hown5 hgrow5 _)
        have HOWN : Hid (w5.ownsRow w.heap.size 9 1 v5 (out ++ [x]).length ((out ++ [x]).map encStr)) := by
          unfold Hid; rw [List.length_append, List.map_append]; exact hown5
        have HBEL : RowKit.Below w.heap.size w w5 := (hB.alloc hz _).grown hgrow5 (by simp; omega) (fun r er => ownBlock_ge hown er)
        go_roundw
        case rel => exact ⟨k + 1, true, out ++ [x], by omega, by go_num, rfl, by simp; omega, HOWN.out, hst, HBEL⟩
        case measure => simp [intOf]; omega
    · have hkk : k = l.length := by omega
      have hnil : l.drop k = [] := List.drop_eq_nil_of_le (by omega)
      have hpl := putB_len false l s
      have HW : Hid (∀ y ∈ putB false l s, y.length ≤ maxLen) := fun y hy => ((putB_mem l s y).1 hy).elim (hls y) (fun e => e ▸ hsl)
      cases d
      · have hst : Hid (putB false l s = out ++ [s]) := by unfold Hid; rw [hI.out, hnil]; rfl
        clear hI hnil
        go_wp2_with (at_builtin; refine wpList_append_own _ rfl _ _ 27 rfl w.heap.size 9 i0 (.string ByteArray.empty) 1 16 Try.underlying27 hi hq0 hq1 hq2 rfl (by decide) _ _ _ rfl (hown.alloc _) ⟨wr.heap.size, 0, none⟩ 1 1 [.string (bs s)] rfl rfl (cell_one_new _ _ _) (by simp [Value.oneCell']) (by unfold maxLen; omega) (by omega) (by simp; omega) ?_; intro v5 w5 hown5 hgrow5 _)
        go_ret
        refine ⟨_, rfl, ?_, (hB.alloc hz _).grown hgrow5 (by simp; omega) (fun r er => ownBlock_ge hown er)⟩
        refine slO_of_own ?_ (by omega) HW.out
        rw [hst.out, List.length_append, List.map_append]; exact hown5
      · have hst : Hid (putB false l s = out) := by unfold Hid; rw [hI.out, hnil]; simp [putB]
        clear hI hnil
        go_wp2_with fail
        go_ret
        refine ⟨_, rfl, ?_, hB⟩
        refine slO_of_own ?_ (by omega) HW.out
        rw [hst.out]; exact hown
end Go.Proofs.Ytehnikgdjnmfcaa
