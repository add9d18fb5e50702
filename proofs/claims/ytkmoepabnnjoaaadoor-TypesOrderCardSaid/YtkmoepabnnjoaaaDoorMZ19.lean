/- strings.CutPrefix 61, types.Reader.Take 51. (The body of HasPrefix is walked as the library walks it.) -/
import Derived.Test.YtkmoepabnnjoaaaDoorMZ18
import Derived.Shelf.Strings.Prefix
import Derived.Laws.AppendOwn
namespace Go.Proofs.YtkmoepabnnjoaaaDoor
open Go.RowKit Go.WideMaps Go.Shelf Go.Lib
attribute [local go_sem] Oper.semAt_some

set_option maxHeartbeats 1000000 in
theorem hasPrefix78 (s p : ByteArray) (w : World) : Calls Tryd.prog 78 #[.string s, .string p] w fun e w' => e = .returned (.bool (Lib.hasPrefix s.data.toList p.data.toList)) ∧ w' = w := by
  rw [← Lib.hasPrefix_of_take, ← Lib.size_eq, ← Lib.size_eq]
  go_enter Tryd.func78, Tryd.ntmps78
  go_wp2
  · rename_i h
    go_ret
    refine ⟨?_, rfl⟩
    show Ending.returned (Value.bool ((s.extract 0 p.size).toList == p.toList)) = _
    rw [Lib.extract_toList, Lib.toList_data]
    simp [h]
  · rename_i h
    go_ret
    refine ⟨?_, rfl⟩
    show Ending.returned (Value.bool false) = _
    simp [h]

theorem bs_extract (p r : Nm) : (bs (p ++ r)).extract p.length (p ++ r).length = bs r := by
  apply ByteArray.ext
  simp [bs]

set_option maxHeartbeats 1000000 in
theorem cut71_no (l p : Nm) (w : World) (h : Lib.hasPrefix l p = false) : Calls Tryd.prog 71 #[.string (bs l), .string (bs p)] w fun e w' => e = .returned (.tuple #[.string (bs l), .bool false]) ∧ w' = w := by
  have HP := Lib.hid (hasPrefix78 (bs l) (bs p) w)
  rw [bs_list, bs_list, h] at HP
  go_enter Tryd.func71, Tryd.ntmps71
  go_wp2_with fail
  refine HP.out.mono ?_
  rintro e w2 ⟨rfl, rfl⟩
  go_wp2_with fail
  go_ret2
  exact ⟨rfl, rfl⟩

set_option maxHeartbeats 1000000 in
theorem cut71_yes (p r : Nm) (w : World) (hl : (p ++ r).length ≤ 1000000) (h : Lib.hasPrefix (p ++ r) p = true) : Calls Tryd.prog 71 #[.string (bs (p ++ r)), .string (bs p)] w fun e w' => e = .returned (.tuple #[.string (bs r), .bool true]) ∧ w' = w := by
  have HP := Lib.hid (hasPrefix78 (bs (p ++ r)) (bs p) w)
  rw [bs_list, bs_list, h] at HP
  have e := bs_extract p r
  have z1 := bs_size (p ++ r)
  have z2 := bs_size p
  have hle : p.length ≤ (p ++ r).length := by simp
  generalize hs : bs (p ++ r) = s at *
  generalize hpp : bs p = pp at *
  generalize (p ++ r).length = n at *
  clear hs hpp
  subst z1
  rw [← z2] at e hle
  go_enter Tryd.func71, Tryd.ntmps71
  go_wp2_with fail
  refine HP.out.mono ?_
  rintro e w2 ⟨rfl, rfl⟩
  go_wp2_with fail
  go_ret2
  exact ⟨by rw [← e, z2]; rfl, rfl⟩

theorem cut61_no (l p : Nm) (w : World) (h : Lib.hasPrefix l p = false) : Calls Tryd.prog 61 #[.string (bs l), .string (bs p)] w fun e w' => e = .returned (.tuple #[.string (bs l), .bool false]) ∧ w' = w := by
  have HP := Lib.hid (cut71_no l p w h)
  go_enter Tryd.func61, Tryd.ntmps61
  go_wp2_with fail
  refine HP.out.mono ?_
  rintro e w2 ⟨rfl, rfl⟩
  go_wp2_with fail
  go_ret2
  exact ⟨rfl, rfl⟩

theorem cut61_yes (p r : Nm) (w : World) (hl : (p ++ r).length ≤ 1000000) (h : Lib.hasPrefix (p ++ r) p = true) : Calls Tryd.prog 61 #[.string (bs (p ++ r)), .string (bs p)] w fun e w' => e = .returned (.tuple #[.string (bs r), .bool true]) ∧ w' = w := by
  have HP := Lib.hid (cut71_yes p r w hl h)
  clear hl h
  go_enter Tryd.func61, Tryd.ntmps61
  go_wp2_with fail
  refine HP.out.mono ?_
  rintro e w2 ⟨rfl, rfl⟩
  go_wp2_with fail
  go_ret2
  exact ⟨rfl, rfl⟩

/-- a reader's text in a block of its own -/
def RdAt (w : World) (b : Nat) (l : Nm) : Prop := w.cell? ⟨b, 0, none⟩ = some (.string (bs l)) ∧ w.frozen? ⟨b, 0, none⟩ = false

/-- a reader's text in a world with this block turned -/
def RdTo (w w' : World) (b : Nat) (l : Nm) : Prop := w' = w.setCell ⟨b, 0, none⟩ (.string (bs l))

theorem RdAt.set {w : World} {b : Nat} {l m : Nm} (h : RdAt w b l) : RdAt (w.setCell ⟨b, 0, none⟩ (.string (bs m))) b m :=
  ⟨World.cell?_setCell_same _ _ _ h.1, by rw [World.frozen?_setCell]; exact h.2⟩

set_option maxHeartbeats 1000000 in
theorem take_no (b : Nat) (l p : Nm) (w : World) (hr : RdAt w b l) (h : Lib.hasPrefix l p = false) : Calls Tryd.prog 51 #[.pointer (some ⟨b, 0, none⟩), .string (bs p)] w fun e w' => e = .returned (.bool false) ∧ w' = w.setCell ⟨b, 0, none⟩ (.string (bs l)) := by
  obtain ⟨x0, x1⟩ := hr
  have HP := Lib.hid (cut61_no l p w h)
  clear h
  go_enter Tryd.func51, Tryd.ntmps51
  go_wp2_with fail
  refine HP.out.mono ?_
  rintro e w2 ⟨rfl, rfl⟩
  go_wp2_with fail
  go_ret
  exact ⟨rfl, rfl⟩

set_option maxHeartbeats 1000000 in
theorem take_yes (b : Nat) (p r : Nm) (w : World) (hr : RdAt w b (p ++ r)) (hl : (p ++ r).length ≤ 1000000) (h : Lib.hasPrefix (p ++ r) p = true) : Calls Tryd.prog 51 #[.pointer (some ⟨b, 0, none⟩), .string (bs p)] w fun e w' => e = .returned (.bool true) ∧ w' = w.setCell ⟨b, 0, none⟩ (.string (bs r)) := by
  obtain ⟨x0, x1⟩ := hr
  have HP := Lib.hid (cut61_yes p r w hl h)
  clear h hl
  go_enter Tryd.func51, Tryd.ntmps51
  go_wp2_with fail
  refine HP.out.mono ?_
  rintro e w2 ⟨rfl, rfl⟩
  go_wp2_with fail
  go_ret
  exact ⟨rfl, rfl⟩
end Go.Proofs.YtkmoepabnnjoaaaDoor

/- types.Reader.Word 59. -/
namespace Go.Proofs.YtkmoepabnnjoaaaDoor
open Go.RowKit Go.WideMaps Go.Shelf Go.Lib
attribute [local go_sem] Oper.semAt_some

set_option maxHeartbeats 1000000 in
theorem word_raw (b n : Nat) (s : ByteArray) (w : World) (h0 : w.cell? ⟨b, 0, none⟩ = some (.string s)) (h1 : w.frozen? ⟨b, 0, none⟩ = false) (hl : s.size ≤ 1000000) (hn : n ≤ s.size) (hin : ∀ j (h : j < s.size), j < n → inB (s[j].toNat : Int) = true) (hend : ∀ h : n < s.size, inB (s[n].toNat : Int) = false) :
    Calls Tryd.prog 59 #[.pointer (some ⟨b, 0, none⟩)] w fun e w' => e = .returned (.string (s.extract 0 n)) ∧ w' = w.setCell ⟨b, 0, none⟩ (.string (s.extract n s.size)) := by
  have HI := Lib.hid hin
  have HE := Lib.hid hend
  clear hin hend
  go_enter Tryd.func59, Tryd.ntmps59
  go_wp2_with fail
  go_loop [3] (fun i => ∃ k : Nat, k ≤ n ∧ i = .int .i64 k) (fun i => n - (intOf i).toNat)
  case atStart => exact ⟨0, by omega, rfl⟩
  case round =>
    obtain ⟨k, hk, rfl⟩ := hrel
    by_cases hkn : k < n
    · have hlt : k < s.size := by omega
      have e1 := HI.out k hlt hkn
      have d1 : decide ((k : Int) < (s.size : Int)) = true := decide_eq_true (by omega)
      go_wp2_with (go_at_call 63; refine (in_any _ _).mono ?_; rintro e w' ⟨rfl, rfl⟩)
      go_round
      case rel => exact ⟨k + 1, by omega, by go_num⟩
      case measure => simp [intOf]; omega
    · have hke : k = n := by omega
      subst hke
      by_cases hlt : k < s.size
      · have e1 := HE.out hlt
        have d1 : decide ((k : Int) < (s.size : Int)) = true := decide_eq_true (by omega)
        have a1 : (0 : Int) ≤ (k : Int) := by omega
        have a2 : (k : Int) ≤ (s.size : Int) := by omega
        go_wp2_with (go_at_call 63; refine (in_any _ _).mono ?_; rintro e w' ⟨rfl, rfl⟩)
        go_ret
        exact ⟨rfl, rfl⟩
      · have d1 : decide ((k : Int) < (s.size : Int)) = false := decide_eq_false (by omega)
        have a1 : (0 : Int) ≤ (k : Int) := by omega
        have a2 : (k : Int) ≤ (s.size : Int) := by omega
        go_wp2_with (go_at_call 63; refine (in_any _ _).mono ?_; rintro e w' ⟨rfl, rfl⟩)
        go_ret
        exact ⟨rfl, rfl⟩

def stops (r : Nm) : Bool := match r with | [] => true | c :: _ => !inB (byteI c)

theorem word_any (b : Nat) (x r : Nm) (w : World) (hr : RdAt w b (x ++ r)) (hl : (x ++ r).length ≤ 1000000) (hx : x.all (fun c => inB (byteI c)) = true) (hs : stops r = true) :
    Calls Tryd.prog 59 #[.pointer (some ⟨b, 0, none⟩)] w fun e w' => e = .returned (.string (bs x)) ∧ w' = w.setCell ⟨b, 0, none⟩ (.string (bs r)) := by
  have hz := bs_size (x ++ r)
  refine (word_raw b x.length (bs (x ++ r)) w hr.1 hr.2 (by rw [hz]; exact hl) (by rw [hz]; simp) (fun j h hj => ?_) (fun h => ?_)).mono ?_
  · rw [← byte_getD _ _ h, bs_list, List.getD_eq_getElem?_getD, List.getElem?_append_left hj, ← List.getD_eq_getElem?_getD]
    exact List.all_eq_true.1 hx _ (getD_mem x 0 j hj)
  · rw [← byte_getD _ _ h, bs_list, List.getD_eq_getElem?_getD, List.getElem?_append_right (Nat.le_refl _), Nat.sub_self]
    cases r with
    | nil => rw [hz] at h; simp at h
    | cons c r =>
      have h2 : inB (byteI c) = false := by simpa [stops] using hs
      exact h2
  · rintro e w' ⟨rfl, rfl⟩
    have e1 : (bs (x ++ r)).extract 0 x.length = bs x := by apply ByteArray.ext; simp [bs]
    have e2 : (bs (x ++ r)).extract x.length (bs (x ++ r)).size = bs r := by rw [hz]; exact bs_extract x r
    exact ⟨by rw [e1], by rw [e2]⟩
end Go.Proofs.YtkmoepabnnjoaaaDoor

/- types.number 70 of "0", LastIndexByte 69 of "a.0", Reader.Indexed 60 of it. -/
namespace Go.Proofs.YtkmoepabnnjoaaaDoor
open Go.RowKit Go.WideMaps Go.Shelf Go.Lib
attribute [local go_sem] Oper.semAt_some

set_option maxHeartbeats 1000000 in
theorem number0 (w : World) : Calls Tryd.prog 70 #[.string ⟨#[48]⟩] w fun e w' => e = .returned (.tuple #[.int .i64 0, .bool true]) ∧ w' = w := by
  go_enter Tryd.func70, Tryd.ntmps70
  go_wp2_with fail
  go_loop [4, 26] (fun n i => n = .int .i64 0 ∧ (i = .int .i64 0 ∨ i = .int .i64 1)) (fun _ i => 1 - (intOf i).toNat)
  case atStart => exact ⟨rfl, .inl rfl⟩
  case round =>
    obtain ⟨rfl, rfl | rfl⟩ := hrel
    · go_wp2_with fail
      go_round
      case rel => exact ⟨by first | rfl | (simp; done), .inr (by first | rfl | go_num)⟩
      case measure => simp [intOf]
    · go_wp2_with fail
      go_ret2
      exact ⟨rfl, rfl⟩

set_option maxHeartbeats 1000000 in
theorem last77 (w : World) : Calls Tryd.prog 77 #[.string ⟨#[97, 46, 48]⟩, .int .u8 46] w fun e w' => e = .returned (.int .i64 1) ∧ w' = w := by
  go_enter Tryd.func77, Tryd.ntmps77
  go_wp2_with fail
  go_loop [5] (fun i => i = .int .i64 2 ∨ i = .int .i64 1) (fun i => (intOf i).toNat)
  case atStart => exact .inl rfl
  case round =>
    obtain rfl | rfl := hrel
    · go_wp2_with fail
      go_round
      case rel => exact .inr (by first | rfl | go_num)
      case measure => simp [intOf]
    · go_wp2_with fail
      go_ret
      exact ⟨rfl, rfl⟩

theorem last69 (w : World) : Calls Tryd.prog 69 #[.string ⟨#[97, 46, 48]⟩, .int .u8 46] w fun e w' => e = .returned (.int .i64 1) ∧ w' = w := by
  have HI := Lib.hid (last77 w)
  go_enter Tryd.func69, Tryd.ntmps69
  go_wp2_with fail
  refine HI.out.mono ?_
  rintro e w2 ⟨rfl, rfl⟩
  go_wp2_with fail
  go_ret
  exact ⟨rfl, rfl⟩

set_option maxHeartbeats 1000000 in
theorem indexedA (b : Nat) (r : Nm) (w : World) (hr : RdAt w b ([97, 46, 48] ++ r)) (hl : ([97, 46, 48] ++ r).length ≤ 1000000) (hs : stops r = true) :
    Calls Tryd.prog 60 #[.pointer (some ⟨b, 0, none⟩)] w fun e w' => e = .returned (.tuple #[.string ⟨#[97]⟩, .int .i64 0, .bool true]) ∧ w' = w.setCell ⟨b, 0, none⟩ (.string (bs r)) := by
  have WD := Lib.hid (show Calls Tryd.prog 59 #[.pointer (some ⟨b, 0, none⟩)] w fun e w' => e = .returned (.string ⟨#[97, 46, 48]⟩) ∧ w' = w.setCell ⟨b, 0, none⟩ (.string (bs r)) from word_any b [97, 46, 48] r w hr hl (by decide) hs)
  clear hr hl hs
  go_enter Tryd.func60, Tryd.ntmps60
  go_wp2_with fail
  refine WD.out.mono ?_
  rintro e w2 ⟨rfl, rfl⟩
  go_wp2_with fail
  refine (last69 _).mono ?_
  rintro e w3 ⟨rfl, rfl⟩
  go_wp2_with fail
  refine (number0 _).mono ?_
  rintro e w4 ⟨rfl, rfl⟩
  go_wp2_with fail
  have e1 : (⟨#[97, 46, 48]⟩ : ByteArray).extract 0 1 = ⟨#[97]⟩ := by apply ByteArray.ext; simp
  exact bodyPost_ret (v := .tuple #[.string ⟨#[97]⟩, .int .i64 0, .bool true]) (by simp [results, Tryd.f60, e1]) rfl ⟨rfl, rfl⟩
end Go.Proofs.YtkmoepabnnjoaaaDoor

/- types.Reader.head 50. -/
namespace Go.Proofs.YtkmoepabnnjoaaaDoor
open Go.RowKit Go.WideMaps Go.Shelf Go.Lib
attribute [local go_sem] Oper.semAt_some

/-- all blocks but one are as they were -/
structure ButG (gb : Nat) (w w' : World) : Prop where
  os : w'.os = w.os
  tape : w'.tape = w.tape
  output : w'.output = w.output
  size : w.heap.size ≤ w'.heap.size
  block : ∀ k, k < w.heap.size → k ≠ gb → w'.heap[k]? = w.heap[k]?

theorem ButG.refl (gb : Nat) (w : World) : ButG gb w w := ⟨rfl, rfl, rfl, Nat.le_refl _, fun _ _ _ => rfl⟩
theorem ButG.trans {gb : Nat} {w w' w'' : World} (h : ButG gb w w') (h' : ButG gb w' w'') : ButG gb w w'' :=
  ⟨h'.os.trans h.os, h'.tape.trans h.tape, h'.output.trans h.output, Nat.le_trans h.size h'.size, fun k hk hn => (h'.block k (Nat.lt_of_lt_of_le hk h.size) hn).trans (h.block k hk hn)⟩
theorem ButG.of_below {gb : Nat} {w w' : World} (h : Below w.heap.size w w') : ButG gb w w' := ⟨h.os, h.tape, h.output, h.size, fun k hk _ => h.block k hk⟩
theorem ButG.below {gb B : Nat} {w w' : World} (h : ButG gb w w') (h1 : B ≤ gb) (h2 : B ≤ w.heap.size) : Below B w w' := ⟨h.os, h.tape, h.output, h.size, fun k hk => h.block k (by omega) (by omega)⟩
theorem ButG.set {gb : Nat} {w w' : World} (h : ButG gb w w') (i : Nat) (v : Value) : ButG gb w (w'.setCell ⟨gb, i, none⟩ v) := by
  have hb : Below gb w' (w'.setCell ⟨gb, i, none⟩ v) := (Below.refl gb w').setCell (p := ⟨gb, i, none⟩) (Nat.le_refl _) v
  refine ⟨hb.os.trans h.os, hb.tape.trans h.tape, hb.output.trans h.output, Nat.le_trans h.size hb.size, fun k hk hn => ?_⟩
  exact Eq.trans (heap_setCell_other _ _ _ _ hn) (h.block k hk hn)
/-- stores into a new block -/
theorem ButG.below5 {gb g : Nat} {w w' : World} {v0 v1 v2 v3 v4 : Value} (h : ButG gb w w') (hg : w.heap.size ≤ g) : ButG gb w (((((w'.setCell ⟨g, 0, none⟩ v0).setCell ⟨g, 1, none⟩ v1).setCell ⟨g, 2, none⟩ v2).setCell ⟨g, 3, none⟩ v3).setCell ⟨g, 4, none⟩ v4) := by
  have hb := YtkmoepabnnjoaaaDoor.below5 (v0 := v0) (v1 := v1) (v2 := v2) (v3 := v3) (v4 := v4) (Below.refl g w') (Nat.le_refl g)
  exact ⟨hb.os.trans h.os, hb.tape.trans h.tape, hb.output.trans h.output, Nat.le_trans h.size hb.size, fun k hk hn => (hb.block k (by omega)).trans (h.block k hk hn)⟩

/-- a reader has taken something -/
def RdP (b : Nat) (l : Nm) (w w' : World) : Prop := RdAt w' b l ∧ ButG b w w'

theorem RdP.trans {b : Nat} {l m : Nm} {w w' w'' : World} (h : RdP b l w w') (k : RdP b m w' w'') : RdP b m w w'' := ⟨k.1, h.2.trans k.2⟩

theorem RdP.set {b : Nat} {l m : Nm} {w : World} (h : RdAt w b l) : RdP b m w (w.setCell ⟨b, 0, none⟩ (.string (bs m))) := ⟨h.set, (ButG.refl b w).set 0 _⟩

theorem rdAt_far {b : Nat} {l : Nm} {w w' : World} (h : RdAt w b l) (e : w'.heap[b]? = w.heap[b]?) : RdAt w' b l :=
  ⟨(World.cell?_of_block (a := ⟨b, 0, none⟩) e).trans h.1, (World.frozen?_of_block (a := ⟨b, 0, none⟩) e).trans h.2⟩

theorem RdAt.lt {b : Nat} {l : Nm} {w : World} (h : RdAt w b l) : b < w.heap.size := lt_of_cell h.1

theorem RdAt.alloc {b : Nat} {l : Nm} {w : World} (h : RdAt w b l) (o : Obj) : RdP b l w (w.alloc o) :=
  ⟨⟨((below_alloc w o).cell (p := ⟨b, 0, none⟩) h.lt).trans h.1, ((below_alloc w o).frozen (p := ⟨b, 0, none⟩) h.lt).trans h.2⟩, ButG.of_below (below_alloc w o)⟩

theorem takeNo (b : Nat) (l p : Nm) (w : World) (hr : RdAt w b l) (h : Lib.hasPrefix l p = false) : Calls Tryd.prog 51 #[.pointer (some ⟨b, 0, none⟩), .string (bs p)] w fun e w' => e = .returned (.bool false) ∧ RdP b l w w' := by
  refine (take_no b l p w hr h).mono ?_
  rintro e w' ⟨rfl, rfl⟩
  exact ⟨rfl, RdP.set hr⟩

theorem takeYes (b : Nat) (p r : Nm) (w : World) (hr : RdAt w b (p ++ r)) (hl : (p ++ r).length ≤ 1000000) (h : Lib.hasPrefix (p ++ r) p = true) : Calls Tryd.prog 51 #[.pointer (some ⟨b, 0, none⟩), .string (bs p)] w fun e w' => e = .returned (.bool true) ∧ RdP b r w w' := by
  refine (take_yes b p r w hr hl h).mono ?_
  rintro e w' ⟨rfl, rfl⟩
  exact ⟨rfl, RdP.set hr⟩

theorem wordP (b : Nat) (x r : Nm) (w : World) (hr : RdAt w b (x ++ r)) (hl : (x ++ r).length ≤ 1000000) (hx : x.all (fun c => inB (byteI c)) = true) (hs : stops r = true) :
    Calls Tryd.prog 59 #[.pointer (some ⟨b, 0, none⟩)] w fun e w' => e = .returned (.string (bs x)) ∧ RdP b r w w' := by
  refine (word_any b x r w hr hl hx hs).mono ?_
  rintro e w' ⟨rfl, rfl⟩
  exact ⟨rfl, RdP.set hr⟩

set_option maxRecDepth 100000 in
set_option maxHeartbeats 2000000 in
theorem headCon (b : Nat) (x r : Nm) (w : World) (hr : RdAt w b (x ++ r)) (hl : (x ++ r).length ≤ 1000000) (hx : x.all (fun c => inB (byteI c)) = true) (hs : stops r = true) (h1 : Lib.hasPrefix (x ++ r) [39] = false) (h2 : Lib.hasPrefix (x ++ r) [63] = false) :
    Calls Tryd.prog 50 #[.pointer (some ⟨b, 0, none⟩)] w fun e w' => e = .returned (.tuple #[.agg #[.int .i64 1, .string (bs x), .int .i64 0, .slice none 0 0, .slice none 0 0], .bool true]) ∧ RdP b r w w' := by
  have ha := hr.alloc (Obj.cells noT5 25)
  have r0 := heap_alloc_new w (Obj.cells noT5 25)
  have hz : (w.alloc (Obj.cells noT5 25)).heap.size = w.heap.size + 1 := by simp
  have hne : w.heap.size ≠ b := by have := hr.lt; omega
  have T1 := Lib.hid (takeNo b _ [39] _ ha.1 h1)
  have R0 := Lib.hid r0
  have HA := Lib.hid ha
  have HZ := Lib.hid hz
  have HNE := Lib.hid hne
  have H2 := Lib.hid h2
  have HL := Lib.hid hl
  have HX := Lib.hid hx
  have HS := Lib.hid hs
  clear hr hl hx hs h1 h2 ha r0 hz hne
  go_enter Tryd.func50, Tryd.ntmps50
  go_wp2_with fail
  refine T1.out.mono ?_
  rintro e w2 ⟨rfl, p2⟩
  have P2 := Lib.hid (HA.out.trans p2)
  have R2 := Lib.hid ((p2.2.block w.heap.size (by rw [HZ.out]; omega) HNE.out).trans R0.out)
  have T2 := Lib.hid (takeNo b _ [63] _ p2.1 H2.out)
  clear p2 T1
  go_wp2_with fail
  refine T2.out.mono ?_
  rintro e w3 ⟨rfl, p3⟩
  have P3 := Lib.hid (P2.out.trans p3)
  have R3 := Lib.hid ((p3.2.block w.heap.size (Array.getElem?_eq_some_iff.1 R2.out).1 HNE.out).trans R2.out)
  have T3 := Lib.hid (wordP b x r _ p3.1 HL.out HX.out HS.out)
  clear p3 T2
  go_wp2_with fail
  refine T3.out.mono ?_
  rintro e w4 ⟨rfl, p4⟩
  have P4 := Lib.hid (P3.out.trans p4)
  have r4 := (p4.2.block w.heap.size (Array.getElem?_eq_some_iff.1 R3.out).1 HNE.out).trans R3.out
  have R4 := Lib.hid r4
  obtain ⟨⟨z0, z1, z2, z3, z4⟩, z5, z6, z7, z8, z9⟩ := five r4
  clear p4 T3 r4
  go_wp2_with fail
  refine bodyPost_ret (results_row_tmp rfl _ _ w.heap.size 25 _ (0, 0) _ rfl (row5 R4.out) Tryd.underlying25 rfl Tryd.size25) rfl ⟨rfl, ?_⟩
  exact ⟨rdAt_far P4.out.1 (block5 (Ne.symm HNE.out)), ButG.below5 P4.out.2 (Nat.le_refl _)⟩
theorem indexedP (b : Nat) (r : Nm) (w : World) (hr : RdAt w b ([97, 46, 48] ++ r)) (hl : ([97, 46, 48] ++ r).length ≤ 1000000) (hs : stops r = true) :
    Calls Tryd.prog 60 #[.pointer (some ⟨b, 0, none⟩)] w fun e w' => e = .returned (.tuple #[.string ⟨#[97]⟩, .int .i64 0, .bool true]) ∧ RdP b r w w' := by
  refine (indexedA b r w hr hl hs).mono ?_
  rintro e w' ⟨rfl, rfl⟩
  exact ⟨rfl, RdP.set hr⟩

set_option maxRecDepth 100000 in
set_option maxHeartbeats 2000000 in
theorem headVar (b : Nat) (r : Nm) (w : World) (hr : RdAt w b ([63] ++ ([97, 46, 48] ++ r))) (hl : ([63] ++ ([97, 46, 48] ++ r)).length ≤ 1000000) (hs : stops r = true) :
    Calls Tryd.prog 50 #[.pointer (some ⟨b, 0, none⟩)] w fun e w' => e = .returned (.tuple #[.agg #[.int .i64 3, .string ⟨#[97]⟩, .int .i64 0, .slice none 0 0, .slice none 0 0], .bool true]) ∧ RdP b r w w' := by
  have ha := hr.alloc (Obj.cells noT5 25)
  have r0 := heap_alloc_new w (Obj.cells noT5 25)
  have hz : (w.alloc (Obj.cells noT5 25)).heap.size = w.heap.size + 1 := by simp
  have hne : w.heap.size ≠ b := by have := hr.lt; omega
  have T1 := Lib.hid (takeNo b _ [39] _ ha.1 rfl)
  have R0 := Lib.hid r0
  have HA := Lib.hid ha
  have HZ := Lib.hid hz
  have HNE := Lib.hid hne
  have HL := Lib.hid hl
  have HS := Lib.hid hs
  clear hr hl hs ha r0 hz hne
  go_enter Tryd.func50, Tryd.ntmps50
  go_wp2_with fail
  refine T1.out.mono ?_
  rintro e w2 ⟨rfl, p2⟩
  have P2 := Lib.hid (HA.out.trans p2)
  have R2 := Lib.hid ((p2.2.block w.heap.size (by rw [HZ.out]; omega) HNE.out).trans R0.out)
  have T2 := Lib.hid (takeYes b [63] ([97, 46, 48] ++ r) _ p2.1 HL.out (by simp [Lib.hasPrefix]))
  clear p2 T1
  go_wp2_with fail
  refine T2.out.mono ?_
  rintro e w3 ⟨rfl, p3⟩
  have P3 := Lib.hid (P2.out.trans p3)
  have R3 := Lib.hid ((p3.2.block w.heap.size (Array.getElem?_eq_some_iff.1 R2.out).1 HNE.out).trans R2.out)
  have T3 := Lib.hid (indexedP b r _ p3.1 (by have := HL.out; simp at this ⊢; omega) HS.out)
  clear p3 T2
  go_wp2_with fail
  refine T3.out.mono ?_
  rintro e w4 ⟨rfl, p4⟩
  have P4 := Lib.hid (P3.out.trans p4)
  have r4 := (p4.2.block w.heap.size (Array.getElem?_eq_some_iff.1 R3.out).1 HNE.out).trans R3.out
  have R4 := Lib.hid r4
  obtain ⟨⟨z0, z1, z2, z3, z4⟩, z5, z6, z7, z8, z9⟩ := five r4
  clear p4 T3 r4
  go_wp2_with fail
  refine bodyPost_ret (results_row_tmp rfl _ _ w.heap.size 25 _ (0, 0) _ rfl (row5 R4.out) Tryd.underlying25 rfl Tryd.size25) rfl ⟨rfl, ?_⟩
  exact ⟨rdAt_far P4.out.1 (block5 (Ne.symm HNE.out)), ButG.below5 P4.out.2 (Nat.le_refl _)⟩
end Go.Proofs.YtkmoepabnnjoaaaDoor

/- types.Reader.classes 52 of one class. -/
namespace Go.Proofs.YtkmoepabnnjoaaaDoor
open Go.RowKit Go.WideMaps Go.Shelf Go.Lib
attribute [local go_sem] Oper.semAt_some

theorem rdP_below {b : Nat} {l : Nm} {w w' : World} (h : RdAt w b l) (hb : Below w.heap.size w w') : RdP b l w w' :=
  ⟨⟨(hb.cell (p := ⟨b, 0, none⟩) h.lt).trans h.1, (hb.frozen (p := ⟨b, 0, none⟩) h.lt).trans h.2⟩, ButG.of_below hb⟩

set_option maxRecDepth 100000 in
set_option maxHeartbeats 2000000 in
theorem classesOne (b : Nat) (x r : Nm) (w : World) (hr : RdAt w b (x ++ ([125] ++ r))) (hl : (x ++ ([125] ++ r)).length ≤ 1000000) (hx : x.all (fun c => inB (byteI c)) = true) :
    Calls Tryd.prog 52 #[.pointer (some ⟨b, 0, none⟩)] w fun e w' => (∃ g c, e = .returned (.tuple #[.slice (some ⟨g, 0, none⟩) 1 c, .bool true]) ∧ w.heap.size ≤ g ∧ w'.cell? ⟨g, 0, none⟩ = some (.string (bs x))) ∧ RdP b r w w' := by
  obtain ⟨i0, hi, hq0, hq1, hq2⟩ := info_parts Tryd.info9
  have WD := Lib.hid (wordP b x ([125] ++ r) w hr hl hx rfl)
  have HB := Lib.hid hr.lt
  have HL := Lib.hid hl
  clear hr hl hx
  go_enter Tryd.func52, Tryd.ntmps52
  go_wp2_with fail
  go_loopw [4] (fun v wr => v = .slice none 0 0 ∧ wr = w) (fun _ _ => 0)
  case atStart => exact ⟨rfl, rfl⟩
  case round =>
    obtain ⟨rfl, rfl⟩ := hrel
    go_wp2_with fail
    refine WD.out.mono ?_
    rintro e w2 ⟨rfl, p2⟩
    have P2 := Lib.hid p2
    have pa := p2.1.alloc (Obj.cells #[.string (bs x)] 9)
    have PA := Lib.hid (p2.trans pa)
    have ra := heap_alloc_new w2 (Obj.cells #[.string (bs x)] 9)
    have QA : Hid ((w2.alloc (Obj.cells #[.string (bs x)] 9)).cell? ⟨w2.heap.size, 0, none⟩ = some (.string (bs x))) := by unfold Hid; rw [cell_of_row _ _ 0 _ _ _ ra]; rfl
    have ZA : Hid ((w2.alloc (Obj.cells #[.string (bs x)] 9)).heap.size = w2.heap.size + 1) := by unfold Hid; simp
    have ZW : Hid (wr.heap.size ≤ w2.heap.size) := p2.2.size
    clear p2 pa ra WD
    go_wp2_with (at_builtin; refine wpList_append_own _ rfl _ _ 22 rfl w2.heap.size 9 i0 _ 1 16 Tryd.underlying22 hi hq0 hq1 hq2 rfl (by decide) _ _ _ rfl (World.ownsRow_nil _ _ _ _) ⟨w2.heap.size, 0, none⟩ 1 1 [.string (bs x)] rfl ?qc1 ?qc2 ?qc3 ?qc4 ?qc5 ?qc6 ?_)
    case qc1 => rfl
    case qc2 =>
      intro j u hj
      cases j with
      | zero => simp at hj; subst hj; rw [add_at]; exact QA.out
      | succ j => simp at hj
    case qc3 => intro u hu; simp at hu; subst hu; rfl
    case qc4 => decide
    case qc5 => decide
    case qc6 => rw [ZA.out]; omega
    intro v' w3 hown hgrow hnil
    rcases hown.2 with ⟨e1, _⟩ | ⟨g, cap', cur, e1, hg1, hh, hc1, hc2, hc3⟩
    · exact absurd e1 (by simpa using hnil)
    · subst e1
      have hcell := hown.cellAt 0 (by decide)
      have hbb : Below (w2.alloc (Obj.cells #[.string (bs x)] 9)).heap.size (w2.alloc (Obj.cells #[.string (bs x)] 9)) w3 := (Below.refl _ _).grown hgrow (Nat.le_refl _) (fun r e => by simp [Value.ownBlock] at e)
      have P3 := Lib.hid (PA.out.trans (rdP_below PA.out.1 hbb))
      have CG : Hid (w3.cell? ⟨g, 0, none⟩ = some (.string (bs x))) := hcell
      have HG : Hid (w2.heap.size ≤ g) := hg1
      have GL : Hid (g < w3.heap.size) := (Array.getElem?_eq_some_iff.1 hh).1
      have TK := Lib.hid (takeYes b [125] r w3 P3.out.1 (by have := HL.out; simp at this ⊢; omega) (by simp [Lib.hasPrefix]))
      clear hown hgrow hnil hh hc1 hc2 hc3 hcell hbb
      go_wp2_with fail
      refine TK.out.mono ?_
      rintro e w4 ⟨rfl, p4⟩
      have P4 := Lib.hid (P3.out.trans p4)
      have C4 : Hid (w4.cell? ⟨g, 0, none⟩ = some (.string (bs x))) :=
        (World.cell?_of_block (a := ⟨g, 0, none⟩) (p4.2.block g GL.out (by have := HG.out; have := HB.out; have := ZW.out; omega))).trans CG.out
      clear p4 TK
      go_wp2_with fail
      go_ret2
      exact ⟨⟨g, cap', rfl, Nat.le_trans ZW.out HG.out, C4.out⟩, P4.out⟩
end Go.Proofs.YtkmoepabnnjoaaaDoor

/- types.Reader.within 40 of leaves. -/
namespace Go.Proofs.YtkmoepabnnjoaaaDoor
open Go.RowKit Go.WideMaps Go.Shelf Go.Lib
attribute [local go_sem] Oper.semAt_some

set_option maxRecDepth 100000 in
set_option maxHeartbeats 2000000 in
theorem withinCon (b : Nat) (x r : Nm) (w : World) (hr : RdAt w b (x ++ r)) (hl : (x ++ r).length ≤ 1000000) (hx : x.all (fun c => inB (byteI c)) = true) (hs : stops r = true) (h1 : Lib.hasPrefix (x ++ r) [39] = false) (h2 : Lib.hasPrefix (x ++ r) [63] = false) (h3 : Lib.hasPrefix r [123] = false) (h4 : Lib.hasPrefix r [40] = false) :
    Calls Tryd.prog 40 #[.pointer (some ⟨b, 0, none⟩), .int .i64 2] w fun e w' => e = .returned (.tuple #[.agg #[.int .i64 1, .string (bs x), .int .i64 0, .slice none 0 0, .slice none 0 0], .bool true]) ∧ RdP b r w w' := by
  have HD := Lib.hid (fun W (h : RdAt W b (x ++ r)) => headCon b x r W h hl hx hs h1 h2)
  have HB := Lib.hid hr.lt
  have HR := Lib.hid hr
  have H3 := Lib.hid h3
  have H4 := Lib.hid h4
  clear hr hl hx hs h1 h2 h3 h4
  go_enter Tryd.func40, Tryd.ntmps40
  go_wp2_with fail
  have pa := HR.out.alloc (Obj.cells noU5 25)
  have r0 := heap_alloc_new w (Obj.cells noU5 25)
  refine (HD.out _ pa.1).mono ?_
  rintro e w2 ⟨rfl, p2⟩
  have hz : (w.alloc (Obj.cells noU5 25)).heap.size = w.heap.size + 1 := by simp
  have r2 := (p2.2.block w.heap.size (by rw [hz]; omega) (by have := HB.out; omega)).trans r0
  have hz2 := p2.2.size
  rw [hz] at hz2
  have P2 := Lib.hid (pa.trans p2)
  have pb := P2.out.1.alloc (Obj.cells #[.int .i64 1, .string (bs x), .int .i64 0, .slice none 0 0, .slice none 0 0] 25)
  have rb := heap_alloc_new w2 (Obj.cells #[.int .i64 1, .string (bs x), .int .i64 0, .slice none 0 0, .slice none 0 0] 25)
  have r3 := ((below_alloc w2 (Obj.cells #[.int .i64 1, .string (bs x), .int .i64 0, .slice none 0 0, .slice none 0 0] 25)).block w.heap.size (by omega)).trans r2
  have T1 := Lib.hid (takeNo b r [123] _ pb.1 H3.out)
  have PB := Lib.hid (P2.out.trans pb)
  have R3 := Lib.hid r3
  have RB := Lib.hid rb
  have HZ2 := Lib.hid hz2
  clear pa r0 p2 hz r2 pb rb r3 hz2 HD
  go_wp2_with fail
  refine T1.out.mono ?_
  rintro e w3 ⟨rfl, p3⟩
  have n1 : w.heap.size ≠ b := by have := HB.out; omega
  have n2 : w2.heap.size ≠ b := by have := HB.out; have := HZ2.out; omega
  have R4 := Lib.hid ((p3.2.block w.heap.size (Array.getElem?_eq_some_iff.1 R3.out).1 n1).trans R3.out)
  have RB4 := Lib.hid ((p3.2.block w2.heap.size (Array.getElem?_eq_some_iff.1 RB.out).1 n2).trans RB.out)
  have T2 := Lib.hid (takeNo b r [40] _ p3.1 H4.out)
  have P3 := Lib.hid (PB.out.trans p3)
  clear p3 T1 R3 RB PB n1 n2
  go_wp2_with fail
  refine T2.out.mono ?_
  rintro e w4 ⟨rfl, p4⟩
  have n1 : w.heap.size ≠ b := by have := HB.out; omega
  have n2 : w2.heap.size ≠ b := by have := HB.out; have := HZ2.out; omega
  have r5 := (p4.2.block w.heap.size (Array.getElem?_eq_some_iff.1 R4.out).1 n1).trans R4.out
  have rb5 := (p4.2.block w2.heap.size (Array.getElem?_eq_some_iff.1 RB4.out).1 n2).trans RB4.out
  have P4 := Lib.hid (P3.out.trans p4)
  have R5 := Lib.hid r5
  obtain ⟨⟨z0, z1, z2, z3, z4⟩, z5, z6, z7, z8, z9⟩ := five r5
  obtain ⟨y0, y1, y2, y3, y4⟩ := fiveT rb5
  clear p4 T2 R4 RB4 r5 rb5 n1 n2
  go_wp2_with fail
  refine bodyPost_ret (results_row_tmp rfl _ _ w.heap.size 25 _ (0, 0) _ rfl (row5 R5.out) Tryd.underlying25 rfl Tryd.size25) rfl ⟨rfl, ?_⟩
  exact ⟨rdAt_far P4.out.1 (block5 (by have := HB.out; omega)), ButG.below5 P4.out.2 (Nat.le_refl _)⟩
end Go.Proofs.YtkmoepabnnjoaaaDoor

/- types.Reader.within 40 of a variable with a sort. -/
namespace Go.Proofs.YtkmoepabnnjoaaaDoor
open Go.RowKit Go.WideMaps Go.Shelf Go.Lib
attribute [local go_sem] Oper.semAt_some

set_option maxRecDepth 100000 in
set_option maxHeartbeats 2000000 in
theorem withinVar (b : Nat) (r : Nm) (w : World) (hr : RdAt w b ([63] ++ ([97, 46, 48] ++ ([123] ++ ([99] ++ ([125] ++ r)))))) (hl : r.length ≤ 1000) (h4 : Lib.hasPrefix r [40] = false) :
    Calls Tryd.prog 40 #[.pointer (some ⟨b, 0, none⟩), .int .i64 2] w fun e w' => (∃ g c, e = .returned (.tuple #[.agg #[.int .i64 3, .string ⟨#[97]⟩, .int .i64 0, .slice (some ⟨g, 0, none⟩) 1 c, .slice none 0 0], .bool true]) ∧ w.heap.size ≤ g ∧ w'.cell? ⟨g, 0, none⟩ = some (.string (bs [99]))) ∧ RdP b r w w' := by
  have HD := Lib.hid (fun W (h : RdAt W b ([63] ++ ([97, 46, 48] ++ ([123] ++ ([99] ++ ([125] ++ r)))))) => headVar b ([123] ++ ([99] ++ ([125] ++ r))) W h (by simp; omega) rfl)
  have HL := Lib.hid hl
  have HB := Lib.hid hr.lt
  have HR := Lib.hid hr
  have H4 := Lib.hid h4
  clear hr hl h4
  go_enter Tryd.func40, Tryd.ntmps40
  go_wp2_with fail
  have pa := HR.out.alloc (Obj.cells noU5 25)
  have r0 := heap_alloc_new w (Obj.cells noU5 25)
  refine (HD.out _ pa.1).mono ?_
  rintro e w2 ⟨rfl, p2⟩
  have hz : (w.alloc (Obj.cells noU5 25)).heap.size = w.heap.size + 1 := by simp
  have r2 := (p2.2.block w.heap.size (by rw [hz]; omega) (by have := HB.out; omega)).trans r0
  have hz2 := p2.2.size
  rw [hz] at hz2
  have P2 := Lib.hid (pa.trans p2)
  have pb := P2.out.1.alloc (Obj.cells #[.int .i64 3, .string ⟨#[97]⟩, .int .i64 0, .slice none 0 0, .slice none 0 0] 25)
  have rb := heap_alloc_new w2 (Obj.cells #[.int .i64 3, .string ⟨#[97]⟩, .int .i64 0, .slice none 0 0, .slice none 0 0] 25)
  have r3 := ((below_alloc w2 (Obj.cells #[.int .i64 3, .string ⟨#[97]⟩, .int .i64 0, .slice none 0 0, .slice none 0 0] 25)).block w.heap.size (by omega)).trans r2
  have T1 := Lib.hid (takeYes b [123] ([99] ++ ([125] ++ r)) _ pb.1 (by have := HL.out; simp; omega) (by simp [Lib.hasPrefix]))
  have PB := Lib.hid (P2.out.trans pb)
  have R3 := Lib.hid r3
  have RB := Lib.hid rb
  have HZ2 := Lib.hid hz2
  clear pa r0 p2 hz r2 pb rb r3 hz2 HD
  go_wp2_with fail
  refine T1.out.mono ?_
  rintro e w3 ⟨rfl, p3⟩
  have n1 : w.heap.size ≠ b := by have := HB.out; omega
  have n2 : w2.heap.size ≠ b := by have := HB.out; have := HZ2.out; omega
  have R4 := Lib.hid ((p3.2.block w.heap.size (Array.getElem?_eq_some_iff.1 R3.out).1 n1).trans R3.out)
  have RB4 := Lib.hid ((p3.2.block w2.heap.size (Array.getElem?_eq_some_iff.1 RB.out).1 n2).trans RB.out)
  have T2 := Lib.hid (classesOne b [99] r _ p3.1 (by have := HL.out; simp; omega) (by decide))
  have P3 := Lib.hid (PB.out.trans p3)
  clear p3 T1 R3 RB PB n1 n2
  go_wp2_with fail
  refine T2.out.mono ?_
  rintro e w4 ⟨⟨g, c, rfl, hg, hcg⟩, p4⟩
  have n1 : w.heap.size ≠ b := by have := HB.out; omega
  have n2 : w2.heap.size ≠ b := by have := HB.out; have := HZ2.out; omega
  have hz3 := p4.2.size
  have r5 := (p4.2.block w.heap.size (Array.getElem?_eq_some_iff.1 R4.out).1 n1).trans R4.out
  have rb5 := (p4.2.block w2.heap.size (Array.getElem?_eq_some_iff.1 RB4.out).1 n2).trans RB4.out
  have hgw : w2.heap.size < g := Nat.lt_of_lt_of_le (Array.getElem?_eq_some_iff.1 RB4.out).1 hg
  have P4 := Lib.hid (P3.out.trans p4)
  have HG := Lib.hid hgw
  have CG := Lib.hid hcg
  have R5 := Lib.hid r5
  have RB5 := Lib.hid rb5
  obtain ⟨⟨y0, y1, y2, y3, y4⟩, y5, y6, y7, y8, y9⟩ := five rb5
  clear p4 T2 R4 RB4 r5 rb5 n1 n2 hg hcg hgw hz3
  go_wp2_with fail
  have n3 : b ≠ w2.heap.size := by have := HB.out; have := HZ2.out; omega
  have n4 : w.heap.size ≠ w2.heap.size := by have := HZ2.out; omega
  have hbs : Below w2.heap.size w4 (w4.setCell ⟨w2.heap.size, 3, none⟩ (.slice (some ⟨g, 0, none⟩) 1 c)) := (Below.refl _ _).setCell (p := ⟨w2.heap.size, 3, none⟩) (Nat.le_refl _) _
  have P5 : Hid (RdP b r w (w4.setCell ⟨w2.heap.size, 3, none⟩ (.slice (some ⟨g, 0, none⟩) 1 c))) :=
    ⟨rdAt_far P4.out.1 (heap_setCell_other _ _ _ _ n3), hbs.os.trans P4.out.2.os, hbs.tape.trans P4.out.2.tape, hbs.output.trans P4.out.2.output, Nat.le_trans P4.out.2.size hbs.size, fun k hk hn => (heap_setCell_other _ _ _ _ (by have := HZ2.out; show k ≠ w2.heap.size; omega)).trans (P4.out.2.block k hk hn)⟩
  have R6 := Lib.hid ((heap_setCell_other w4 ⟨w2.heap.size, 3, none⟩ w.heap.size (.slice (some ⟨g, 0, none⟩) 1 c) n4).trans R5.out)
  have RB6 : Hid ((w4.setCell ⟨w2.heap.size, 3, none⟩ (.slice (some ⟨g, 0, none⟩) 1 c)).heap[w2.heap.size]? = some (.cells #[.int .i64 3, .string ⟨#[97]⟩, .int .i64 0, .slice (some ⟨g, 0, none⟩) 1 c, .slice none 0 0] 25 (0, 0))) := heap_setCell_same w4 w2.heap.size 3 _ 25 _ RB5.out
  have C6 : Hid ((w4.setCell ⟨w2.heap.size, 3, none⟩ (.slice (some ⟨g, 0, none⟩) 1 c)).cell? ⟨g, 0, none⟩ = some (.string (bs [99]))) :=
    (World.cell?_of_block (a := ⟨g, 0, none⟩) (heap_setCell_other _ _ _ _ (by have := HG.out; show g ≠ w2.heap.size; omega))).trans CG.out
  have T3 := Lib.hid (takeNo b r [40] _ P5.out.1 H4.out)
  clear n3 n4 hbs R5 RB5 CG P4 y0 y1 y2 y3 y4 y5 y6 y7 y8 y9
  refine T3.out.mono ?_
  rintro e w6 ⟨rfl, p6⟩
  have n1 : w.heap.size ≠ b := by have := HB.out; omega
  have n2 : w2.heap.size ≠ b := by have := HB.out; have := HZ2.out; omega
  have n3 : g ≠ b := by have := HB.out; have := HZ2.out; have := HG.out; omega
  have r7 := (p6.2.block w.heap.size (Array.getElem?_eq_some_iff.1 R6.out).1 n1).trans R6.out
  have rb7 := (p6.2.block w2.heap.size (Array.getElem?_eq_some_iff.1 RB6.out).1 n2).trans RB6.out
  have C7 : Hid (w6.cell? ⟨g, 0, none⟩ = some (.string (bs [99]))) := (World.cell?_of_block (a := ⟨g, 0, none⟩) (p6.2.block g (lt_of_cell C6.out) n3)).trans C6.out
  have P7 := Lib.hid (P5.out.trans p6)
  have R7 := Lib.hid r7
  obtain ⟨⟨z0, z1, z2, z3, z4⟩, z5, z6, z7, z8, z9⟩ := five r7
  obtain ⟨y0, y1, y2, y3, y4⟩ := fiveT rb7
  clear p6 T3 R6 RB6 C6 P5 r7 rb7 n1 n2 n3
  go_wp2_with fail
  refine bodyPost_ret (results_row_tmp rfl _ _ w.heap.size 25 _ (0, 0) _ rfl (row5 R7.out) Tryd.underlying25 rfl Tryd.size25) rfl ⟨⟨g, c, rfl, ?_, ?_⟩, ?_⟩
  · have := HZ2.out; have := HG.out; omega
  · have n6 : g ≠ w.heap.size := by have := HZ2.out; have := HG.out; omega
    exact (World.cell?_of_block (a := ⟨g, 0, none⟩) (block5 n6)).trans C7.out
  · exact ⟨rdAt_far P7.out.1 (block5 (by have := HB.out; omega)), ButG.below5 P7.out.2 (Nat.le_refl _)⟩
end Go.Proofs.YtkmoepabnnjoaaaDoor

/- types.Reader.args 53 of the two leaves. -/
namespace Go.Proofs.YtkmoepabnnjoaaaDoor
open Go.RowKit Go.WideMaps Go.Shelf Go.Lib
attribute [local go_sem] Oper.semAt_some

theorem Tryd.info25 : (Tryd.prog.info? 25).map (fun i => (i.zero, i.size, i.bytes)) = some (some (.agg #[.int .i64 0, .string ⟨#[]⟩, .int .i64 0, .slice none 0 0, .slice none 0 0]), 5, 80) := by kernel_rfl

def celA (g c : Nat) : List Value := [.int .i64 3, .string ⟨#[97]⟩, .int .i64 0, .slice (some ⟨g, 0, none⟩) 1 c, .slice none 0 0]
def celB : List Value := [.int .i64 1, .string (bs [112, 114, 111, 112]), .int .i64 0, .slice none 0 0, .slice none 0 0]

theorem list5_at {w : World} {k : Nat} {v0 v1 v2 v3 v4 : Value} {t : TypeId} {fr : Nat × Nat} (h : w.heap[k]? = some (.cells #[v0, v1, v2, v3, v4] t fr)) (j : Nat) (u : Value) (hj : [v0, v1, v2, v3, v4][j]? = some u) : w.cell? ((⟨k, 0, none⟩ : Addr).add j) = some u := by
  obtain ⟨a0, a1, a2, a3, a4⟩ := fiveT h
  rw [add_at]
  match j, hj with
  | 0, hj => simp at hj; subst hj; exact a0
  | 1, hj => simp at hj; subst hj; exact a1
  | 2, hj => simp at hj; subst hj; exact a2
  | 3, hj => simp at hj; subst hj; exact a3
  | 4, hj => simp at hj; subst hj; exact a4
  | n + 5, hj => simp at hj

theorem RdP.belowB {b B : Nat} {l : Nm} {w w' w'' : World} (h : RdP b l w w') (hb : Below B w' w'') (h1 : b < B) (h2 : w.heap.size ≤ B) : RdP b l w w'' :=
  ⟨⟨(hb.cell (p := ⟨b, 0, none⟩) h1).trans h.1.1, (hb.frozen (p := ⟨b, 0, none⟩) h1).trans h.1.2⟩, hb.os.trans h.2.os, hb.tape.trans h.2.tape, hb.output.trans h.2.output, Nat.le_trans h.2.size hb.size, fun k hk hn => (hb.block k (by omega)).trans (h.2.block k hk hn)⟩

set_option maxRecDepth 100000 in
set_option maxHeartbeats 2000000 in
theorem argsTwo (b : Nat) (w : World) (hr : RdAt w b ([63] ++ ([97, 46, 48] ++ ([123] ++ ([99] ++ ([125] ++ ([44, 32] ++ ([112, 114, 111, 112] ++ [41])))))))) :
    Calls Tryd.prog 53 #[.pointer (some ⟨b, 0, none⟩), .int .i64 2] w fun e w' => (∃ g c G C, e = .returned (.tuple #[.slice (some ⟨G, 0, none⟩) 2 C, .bool true]) ∧ w.heap.size ≤ g ∧ g < G ∧ w'.cell? ⟨g, 0, none⟩ = some (.string (bs [99])) ∧ w'.ownsRow (g + 1) 25 5 (.slice (some ⟨G, 0, none⟩) 2 C) 2 (celA g c ++ celB)) ∧ RdP b [] w w' := by
  obtain ⟨i0, hi, hq0, hq1, hq2⟩ := info_parts Tryd.info25
  have HV := Lib.hid (withinVar b ([44, 32] ++ ([112, 114, 111, 112] ++ [41])) w hr (by decide) rfl)
  have HB := Lib.hid hr.lt
  clear hr
  go_enter Tryd.func53, Tryd.ntmps53
  go_wp2_with fail
  go_loopw [6] (fun v wr => (v = .slice none 0 0 ∧ wr = w) ∨ (∃ g c G C, v = .slice (some ⟨G, 0, none⟩) 1 C ∧ w.heap.size ≤ g ∧ g < G ∧ wr.cell? ⟨g, 0, none⟩ = some (.string (bs [99])) ∧ wr.ownsRow (g + 1) 25 5 (.slice (some ⟨G, 0, none⟩) 1 C) 1 (celA g c) ∧ RdP b ([112, 114, 111, 112] ++ [41]) w wr)) (fun v _ => match v with | .slice none _ _ => 1 | _ => 0)
  case atStart => exact .inl ⟨rfl, rfl⟩
  case round =>
    rcases hrel with ⟨rfl, rfl⟩ | ⟨g, c, G, C, rfl, hg, hgG, hcg, hown, hrd⟩
    · go_wp2_with fail
      refine HV.out.mono ?_
      rintro e w2 ⟨⟨g, c, rfl, hg, hcg⟩, p2⟩
      have ra := heap_alloc_new w2 (Obj.cells #[.int .i64 3, .string ⟨#[97]⟩, .int .i64 0, .slice (some ⟨g, 0, none⟩) 1 c, .slice none 0 0] 25)
      have pa := p2.1.alloc (Obj.cells #[.int .i64 3, .string ⟨#[97]⟩, .int .i64 0, .slice (some ⟨g, 0, none⟩) 1 c, .slice none 0 0] 25)
      have PA := Lib.hid (p2.trans pa)
      obtain ⟨y0, y1, y2, y3, y4⟩ := fiveT ra
      have HG : Hid (wr.heap.size ≤ g) := hg
      have CA : Hid ((w2.alloc (Obj.cells #[.int .i64 3, .string ⟨#[97]⟩, .int .i64 0, .slice (some ⟨g, 0, none⟩) 1 c, .slice none 0 0] 25)).cell? ⟨g, 0, none⟩ = some (.string (bs [99]))) := ((below_alloc w2 _).cell (p := ⟨g, 0, none⟩) (lt_of_cell hcg)).trans hcg
      have HGL : Hid (g < w2.heap.size) := lt_of_cell hcg
      have HZ : Hid (wr.heap.size ≤ w2.heap.size) := p2.2.size
      clear p2 pa ra hg hcg
      go_wp2_with (at_builtin; refine wpList_append_own _ rfl _ _ 23 rfl w2.heap.size 25 i0 _ 5 80 Tryd.underlying23 hi hq0 hq1 hq2 rfl (by decide) _ _ _ rfl (World.ownsRow_nil _ _ _ _) ⟨w2.heap.size + 1, 0, none⟩ 1 1 (celA g c) rfl ?qc1 ?qc2 ?qc3 ?qc4 ?qc5 ?qc6 ?_)
      case qc1 => rfl
      case qc2 =>
        have rb := heap_alloc_new (w2.alloc (Obj.cells #[.int .i64 3, .string ⟨#[97]⟩, .int .i64 0, .slice (some ⟨g, 0, none⟩) 1 c, .slice none 0 0] 25)) (Obj.cells #[.int .i64 3, .string ⟨#[97]⟩, .int .i64 0, .slice (some ⟨g, 0, none⟩) 1 c, .slice none 0 0] 25)
        rw [World.size_alloc] at rb
        exact list5_at rb
      case qc3 => intro u hu; simp [celA] at hu; rcases hu with rfl | rfl | rfl | rfl | rfl <;> rfl
      case qc4 => decide
      case qc5 => decide
      case qc6 => simp; omega
      intro v' w3 hown hgrow hnil
      rcases hown.2 with ⟨e1, _⟩ | ⟨G, cap', cur, e1, hg1, hh, hc1, hc2, hc3⟩
      · exact absurd e1 (by simpa using hnil)
      · subst e1
        have hb3 : Below (w2.heap.size + 1) (w2.alloc (Obj.cells #[.int .i64 3, .string ⟨#[97]⟩, .int .i64 0, .slice (some ⟨g, 0, none⟩) 1 c, .slice none 0 0] 25)) w3 := ((below_alloc (w2.alloc (Obj.cells #[.int .i64 3, .string ⟨#[97]⟩, .int .i64 0, .slice (some ⟨g, 0, none⟩) 1 c, .slice none 0 0] 25)) (Obj.cells #[.int .i64 3, .string ⟨#[97]⟩, .int .i64 0, .slice (some ⟨g, 0, none⟩) 1 c, .slice none 0 0] 25)).mono (by simp)).grown hgrow (by simp) (fun r e => by simp [Value.ownBlock] at e)
        have hb3' : Below (w2.alloc (Obj.cells #[.int .i64 3, .string ⟨#[97]⟩, .int .i64 0, .slice (some ⟨g, 0, none⟩) 1 c, .slice none 0 0] 25)).heap.size (w2.alloc (Obj.cells #[.int .i64 3, .string ⟨#[97]⟩, .int .i64 0, .slice (some ⟨g, 0, none⟩) 1 c, .slice none 0 0] 25)) w3 := by rw [World.size_alloc]; exact hb3
        have P3 := Lib.hid (PA.out.trans (rdP_below PA.out.1 hb3'))
        have CG : Hid (w3.cell? ⟨g, 0, none⟩ = some (.string (bs [99]))) := (hb3.cell (p := ⟨g, 0, none⟩) (by have := HGL.out; show g < _; omega)).trans CA.out
        have HGG : Hid (g < G) := by have := HGL.out; unfold Hid; omega
        have GL : Hid (G < w3.heap.size) := (Array.getElem?_eq_some_iff.1 hh).1
        have OW := Lib.hid (ownsRow_base hown HGL.out)
        have TN := Lib.hid (takeNo b ([44, 32] ++ ([112, 114, 111, 112] ++ [41])) [41] w3 P3.out.1 rfl)
        clear hown hgrow hnil hh hc1 hc2 hc3 hb3 hb3' y0 y1 y2 y3 y4
        go_wp2_with fail
        refine TN.out.mono ?_
        rintro e w4 ⟨rfl, p4⟩
        have n1 : G ≠ b := by have := HB.out; have := HZ.out; have := HGG.out; have := HG.out; omega
        have n2 : g ≠ b := by have := HB.out; have := HZ.out; have := HG.out; omega
        have O4 := Lib.hid (ownsRow_block OW.out (p4.2.block G GL.out n1))
        have C4 : Hid (w4.cell? ⟨g, 0, none⟩ = some (.string (bs [99]))) := (World.cell?_of_block (a := ⟨g, 0, none⟩) (p4.2.block g (lt_of_cell CG.out) n2)).trans CG.out
        have P4 := Lib.hid (P3.out.trans p4)
        have TY := Lib.hid (takeYes b [44, 32] ([112, 114, 111, 112] ++ [41]) w4 p4.1 (by decide) (by simp [Lib.hasPrefix]))
        have GL4 : Hid (G < w4.heap.size) := Nat.lt_of_lt_of_le GL.out p4.2.size
        clear p4 TN
        go_wp2_with fail
        refine TY.out.mono ?_
        rintro e w5 ⟨rfl, p5⟩
        have O5 := Lib.hid (ownsRow_block O4.out (p5.2.block G GL4.out n1))
        have C5 : Hid (w5.cell? ⟨g, 0, none⟩ = some (.string (bs [99]))) := (World.cell?_of_block (a := ⟨g, 0, none⟩) (p5.2.block g (lt_of_cell C4.out) n2)).trans C4.out
        have P5 := Lib.hid (P4.out.trans p5)
        clear p5 TY
        go_wp2_with fail
        go_roundw
        case rel => exact .inr ⟨g, c, G, cap', rfl, HG.out, HGG.out, C5.out, O5.out, P5.out⟩
        case measure => exact Nat.zero_lt_one
    · have HW := Lib.hid (fun W (h : RdAt W b ([112, 114, 111, 112] ++ [41])) => withinCon b [112, 114, 111, 112] [41] W h (by decide) (by decide) rfl rfl rfl rfl rfl)
      have HG := Lib.hid hg
      have HGG := Lib.hid hgG
      have GL : Hid (G < wr.heap.size) := by
        rcases hown.2 with ⟨e1, _⟩ | ⟨G', cap', cur, e1, hg1, hh, _⟩
        · cases e1
        · cases e1; exact (Array.getElem?_eq_some_iff.1 hh).1
      have OW := Lib.hid hown
      have CG := Lib.hid hcg
      have RD := Lib.hid hrd
      clear hg hgG hcg hown hrd HV
      go_wp2_with fail
      refine (HW.out _ RD.out.1).mono ?_
      rintro e w2 ⟨rfl, p2⟩
      have n1 : G ≠ b := by have := HB.out; have := HGG.out; have := HG.out; omega
      have n2 : g ≠ b := by have := HB.out; have := HG.out; omega
      have O2 := Lib.hid (ownsRow_block OW.out (p2.2.block G GL.out n1))
      have C2 : Hid (w2.cell? ⟨g, 0, none⟩ = some (.string (bs [99]))) := (World.cell?_of_block (a := ⟨g, 0, none⟩) (p2.2.block g (lt_of_cell CG.out) n2)).trans CG.out
      have P2 := Lib.hid (RD.out.trans p2)
      have ra := heap_alloc_new w2 (Obj.cells #[.int .i64 1, .string (bs [112, 114, 111, 112]), .int .i64 0, .slice none 0 0, .slice none 0 0] 25)
      obtain ⟨y0, y1, y2, y3, y4⟩ := fiveT ra
      have ZW : Hid (g + 1 ≤ w2.heap.size) := lt_of_cell C2.out
      clear p2 ra HW
      go_wp2_with (at_builtin; refine wpList_append_own _ rfl _ _ 23 rfl (g + 1) 25 i0 _ 5 80 Tryd.underlying23 hi hq0 hq1 hq2 rfl (by decide) _ _ _ rfl ((O2.out.alloc _).alloc _) ⟨w2.heap.size + 1, 0, none⟩ 1 1 celB rfl ?qc1 ?qc2 ?qc3 ?qc4 ?qc5 ?qc6 ?_)
      case qc1 => rfl
      case qc2 =>
        have rb := heap_alloc_new (w2.alloc (Obj.cells #[.int .i64 1, .string (bs [112, 114, 111, 112]), .int .i64 0, .slice none 0 0, .slice none 0 0] 25)) (Obj.cells #[.int .i64 1, .string (bs [112, 114, 111, 112]), .int .i64 0, .slice none 0 0, .slice none 0 0] 25)
        rw [World.size_alloc] at rb
        exact list5_at rb
      case qc3 => intro u hu; simp [celB] at hu; rcases hu with rfl | rfl | rfl | rfl | rfl <;> rfl
      case qc4 => decide
      case qc5 => decide
      case qc6 => have := ZW.out; simp; omega
      intro v' w3 hown hgrow hnil
      rcases hown.2 with ⟨e1, _⟩ | ⟨G', cap', cur, e1, hg1, hh, hc1, hc2, hc3⟩
      · exact absurd e1 (by simpa using hnil)
      · subst e1
        have hal : Below w2.heap.size w2 ((w2.alloc (Obj.cells #[.int .i64 1, .string (bs [112, 114, 111, 112]), .int .i64 0, .slice none 0 0, .slice none 0 0] 25)).alloc (Obj.cells #[.int .i64 1, .string (bs [112, 114, 111, 112]), .int .i64 0, .slice none 0 0, .slice none 0 0] 25)) := (below_alloc w2 _).trans ((below_alloc _ _).mono (by simp))
        have hgr : Below (g + 1) w2 w3 := (hal.mono ZW.out).grown hgrow (by have := ZW.out; simp; omega) (fun r e => by simp [Value.ownBlock] at e; have := HGG.out; omega)
        have P3 := Lib.hid (P2.out.belowB hgr (by have := HB.out; have := HG.out; omega) (by have := HG.out; omega))
        have CG3 : Hid (w3.cell? ⟨g, 0, none⟩ = some (.string (bs [99]))) := (hgr.cell (p := ⟨g, 0, none⟩) (by show g < g + 1; omega)).trans C2.out
        have GL3 : Hid (G' < w3.heap.size) := (Array.getElem?_eq_some_iff.1 hh).1
        have OW3 := Lib.hid hown
        have HG3 := Lib.hid hg1
        have TY := Lib.hid (takeYes b [41] [] w3 P3.out.1 (by decide) (by simp [Lib.hasPrefix]))
        clear hown hgrow hnil hh hc1 hc2 hc3 hal hgr y0 y1 y2 y3 y4 hg1
        go_wp2_with fail
        refine TY.out.mono ?_
        rintro e w4 ⟨rfl, p4⟩
        have n3 : G' ≠ b := by have := HB.out; have := HG3.out; have := HG.out; omega
        have O4 := Lib.hid (ownsRow_block OW3.out (p4.2.block G' GL3.out n3))
        have C4 : Hid (w4.cell? ⟨g, 0, none⟩ = some (.string (bs [99]))) := (World.cell?_of_block (a := ⟨g, 0, none⟩) (p4.2.block g (lt_of_cell CG3.out) n2)).trans CG3.out
        have P4 := Lib.hid (P3.out.trans p4)
        clear p4 TY
        go_wp2_with fail
        go_ret2
        exact ⟨⟨g, c, G', cap', rfl, HG.out, HG3.out, C4.out, O4.out⟩, P4.out⟩
end Go.Proofs.YtkmoepabnnjoaaaDoor

/- types.Reader.within 40 of a function type of the two leaves. -/
namespace Go.Proofs.YtkmoepabnnjoaaaDoor
open Go.RowKit Go.WideMaps Go.Shelf Go.Lib
attribute [local go_sem] Oper.semAt_some

/-- the text of the arguments, behind the bracket -/
abbrev txA : Nm := [63] ++ ([97, 46, 48] ++ ([123] ++ ([99] ++ ([125] ++ ([44, 32] ++ ([112, 114, 111, 112] ++ [41]))))))

set_option maxRecDepth 100000 in
set_option maxHeartbeats 2000000 in
theorem withinFun (b : Nat) (w : World) (hr : RdAt w b ([102, 117, 110] ++ ([40] ++ txA))) :
    Calls Tryd.prog 40 #[.pointer (some ⟨b, 0, none⟩), .int .i64 1] w fun e w' => (∃ g c G C, e = .returned (.tuple #[.agg #[.int .i64 1, .string (bs [102, 117, 110]), .int .i64 0, .slice none 0 0, .slice (some ⟨G, 0, none⟩) 2 C], .bool true]) ∧ w.heap.size ≤ g ∧ g < G ∧ w'.cell? ⟨g, 0, none⟩ = some (.string (bs [99])) ∧ w'.ownsRow (g + 1) 25 5 (.slice (some ⟨G, 0, none⟩) 2 C) 2 (celA g c ++ celB)) ∧ RdP b [] w w' := by
  have HD := Lib.hid (fun W (h : RdAt W b ([102, 117, 110] ++ ([40] ++ txA))) => headCon b [102, 117, 110] ([40] ++ txA) W h (by decide) (by decide) rfl rfl rfl)
  have HB := Lib.hid hr.lt
  have HR := Lib.hid hr
  clear hr
  go_enter Tryd.func40, Tryd.ntmps40
  go_wp2_with fail
  have pa := HR.out.alloc (Obj.cells noU5 25)
  have r0 := heap_alloc_new w (Obj.cells noU5 25)
  refine (HD.out _ pa.1).mono ?_
  rintro e w2 ⟨rfl, p2⟩
  have hz : (w.alloc (Obj.cells noU5 25)).heap.size = w.heap.size + 1 := by simp
  have r2 := (p2.2.block w.heap.size (by rw [hz]; omega) (by have := HB.out; omega)).trans r0
  have hz2 := p2.2.size
  rw [hz] at hz2
  have P2 := Lib.hid (pa.trans p2)
  have pb := P2.out.1.alloc (Obj.cells #[.int .i64 1, .string (bs [102, 117, 110]), .int .i64 0, .slice none 0 0, .slice none 0 0] 25)
  have rb := heap_alloc_new w2 (Obj.cells #[.int .i64 1, .string (bs [102, 117, 110]), .int .i64 0, .slice none 0 0, .slice none 0 0] 25)
  have r3 := ((below_alloc w2 (Obj.cells #[.int .i64 1, .string (bs [102, 117, 110]), .int .i64 0, .slice none 0 0, .slice none 0 0] 25)).block w.heap.size (by omega)).trans r2
  have T1 := Lib.hid (takeNo b ([40] ++ txA) [123] _ pb.1 rfl)
  have PB := Lib.hid (P2.out.trans pb)
  have R3 := Lib.hid r3
  have RB := Lib.hid rb
  have HZ2 := Lib.hid hz2
  clear pa r0 p2 hz r2 pb rb r3 hz2 HD
  go_wp2_with fail
  refine T1.out.mono ?_
  rintro e w3 ⟨rfl, p3⟩
  have n1 : w.heap.size ≠ b := by have := HB.out; omega
  have n2 : w2.heap.size ≠ b := by have := HB.out; have := HZ2.out; omega
  have R4 := Lib.hid ((p3.2.block w.heap.size (Array.getElem?_eq_some_iff.1 R3.out).1 n1).trans R3.out)
  have RB4 := Lib.hid ((p3.2.block w2.heap.size (Array.getElem?_eq_some_iff.1 RB.out).1 n2).trans RB.out)
  have T2 := Lib.hid (takeYes b [40] txA _ p3.1 (by decide) (by simp [Lib.hasPrefix]))
  have P3 := Lib.hid (PB.out.trans p3)
  clear p3 T1 R3 RB PB
  go_wp2_with fail
  refine T2.out.mono ?_
  rintro e w4 ⟨rfl, p4⟩
  have R5 := Lib.hid ((p4.2.block w.heap.size (Array.getElem?_eq_some_iff.1 R4.out).1 n1).trans R4.out)
  have RB5 := Lib.hid ((p4.2.block w2.heap.size (Array.getElem?_eq_some_iff.1 RB4.out).1 n2).trans RB4.out)
  have AR := Lib.hid (argsTwo b w4 p4.1)
  have P4 := Lib.hid (P3.out.trans p4)
  clear p4 T2 R4 RB4
  go_wp2_with fail
  refine AR.out.mono ?_
  rintro e w5 ⟨⟨g, c, G, C, rfl, hg, hgG, hcg, hown⟩, p5⟩
  have z4 : w2.heap.size < w4.heap.size := (Array.getElem?_eq_some_iff.1 RB5.out).1
  have r6 := (p5.2.block w.heap.size (Array.getElem?_eq_some_iff.1 R5.out).1 n1).trans R5.out
  have rb6 := (p5.2.block w2.heap.size (Array.getElem?_eq_some_iff.1 RB5.out).1 n2).trans RB5.out
  have HG : Hid (w2.heap.size < g) := Nat.lt_of_lt_of_le z4 hg
  have HGG := Lib.hid hgG
  have CG := Lib.hid hcg
  have OW := Lib.hid hown
  have P5 := Lib.hid (P4.out.trans p5)
  have R6 := Lib.hid r6
  have RB6 := Lib.hid rb6
  obtain ⟨⟨y0, y1, y2, y3, y4⟩, y5, y6, y7, y8, y9⟩ := five rb6
  have n3 : b ≠ w2.heap.size := n2.symm
  have n4 : w.heap.size ≠ w2.heap.size := by have := HZ2.out; omega
  have r7 := (heap_setCell_other w5 ⟨w2.heap.size, 4, none⟩ w.heap.size (.slice (some ⟨G, 0, none⟩) 2 C) n4).trans r6
  have R7 := Lib.hid r7
  obtain ⟨⟨z0, z1, z2, z3, z4'⟩, z5, z6, z7, z8, z9⟩ := five r7
  clear p5 AR R5 RB5 hg hgG hcg hown r6 rb6 z4 r7
  go_wp2_with fail
  have hbs : Below w2.heap.size w5 (w5.setCell ⟨w2.heap.size, 4, none⟩ (.slice (some ⟨G, 0, none⟩) 2 C)) := (Below.refl _ _).setCell (p := ⟨w2.heap.size, 4, none⟩) (Nat.le_refl _) _
  have P6 : Hid (RdP b [] w (w5.setCell ⟨w2.heap.size, 4, none⟩ (.slice (some ⟨G, 0, none⟩) 2 C))) :=
    ⟨rdAt_far P5.out.1 (heap_setCell_other _ _ _ _ n3), hbs.os.trans P5.out.2.os, hbs.tape.trans P5.out.2.tape, hbs.output.trans P5.out.2.output, Nat.le_trans P5.out.2.size hbs.size, fun k hk hn => (heap_setCell_other _ _ _ _ (by have := HZ2.out; show k ≠ w2.heap.size; omega)).trans (P5.out.2.block k hk hn)⟩
  refine bodyPost_ret (results_row_tmp rfl _ _ w.heap.size 25 _ (0, 0) _ rfl (row5 R7.out) Tryd.underlying25 rfl Tryd.size25) rfl ⟨⟨g, c, G, C, rfl, ?_, HGG.out, ?_, ?_⟩, ?_⟩
  · have := HZ2.out; have := HG.out; omega
  · have n6 : g ≠ w.heap.size := by have := HZ2.out; have := HG.out; omega
    have n7 : g ≠ w2.heap.size := by have := HG.out; omega
    exact (World.cell?_of_block (a := ⟨g, 0, none⟩) ((block5 n6).trans (heap_setCell_other _ _ _ _ n7))).trans CG.out
  · have n6 : G ≠ w.heap.size := by have := HZ2.out; have := HG.out; have := HGG.out; omega
    have n7 : G ≠ w2.heap.size := by have := HG.out; have := HGG.out; omega
    exact ownsRow_block OW.out ((block5 n6).trans (heap_setCell_other _ _ _ _ n7))
  · exact ⟨rdAt_far P6.out.1 (block5 (by have := HB.out; omega)), ButG.below5 P6.out.2 (Nat.le_refl _)⟩
end Go.Proofs.YtkmoepabnnjoaaaDoor

/- types.Reader.Type 29 of the function type. -/
namespace Go.Proofs.YtkmoepabnnjoaaaDoor
open Go.RowKit Go.WideMaps Go.Shelf Go.Lib
attribute [local go_sem] Oper.semAt_some

abbrev txF : Nm := [102, 117, 110] ++ ([40] ++ txA)

/-- what Read's parts return: the function type of the two leaves, the sort's cell, the leaves' block -/
def FunV (w w' : World) (v : Value) : Prop :=
  ∃ g c G C, v = .agg #[.int .i64 1, .string (bs [102, 117, 110]), .int .i64 0, .slice none 0 0, .slice (some ⟨G, 0, none⟩) 2 C] ∧ w.heap.size ≤ g ∧ g < G ∧ w'.cell? ⟨g, 0, none⟩ = some (.string (bs [99])) ∧ w'.ownsRow (g + 1) 25 5 (.slice (some ⟨G, 0, none⟩) 2 C) 2 (celA g c ++ celB)

set_option maxRecDepth 100000 in
set_option maxHeartbeats 2000000 in
theorem typeFun (b : Nat) (w : World) (hr : RdAt w b txF) :
    Calls Tryd.prog 29 #[.pointer (some ⟨b, 0, none⟩)] w fun e w' => (∃ v, e = .returned (.tuple #[v, .bool true]) ∧ FunV w w' v) ∧ RdP b [] w w' := by
  have HB := Lib.hid hr.lt
  have pa := hr.alloc (Obj.cells noU5 25)
  have r0 := heap_alloc_new w (Obj.cells noU5 25)
  have R0 := Lib.hid r0
  have PA := Lib.hid pa
  have c0 := pa.1.1
  have WF := Lib.hid (withinFun b _ pa.1)
  clear hr pa r0
  go_enter Tryd.func29, Tryd.ntmps29
  go_wp2_with fail
  refine WF.out.mono ?_
  rintro e w2 ⟨⟨g, c, G, C, rfl, hg, hgG, hcg, hown⟩, p2⟩
  have n1 : w.heap.size ≠ b := by have := HB.out; omega
  have P2 := Lib.hid (PA.out.trans p2)
  have r2 := (p2.2.block w.heap.size (by simp) n1).trans R0.out
  have ra := heap_alloc_new w2 (Obj.cells #[.int .i64 1, .string (bs [102, 117, 110]), .int .i64 0, .slice none 0 0, .slice (some ⟨G, 0, none⟩) 2 C] 25)
  have hba := below_alloc w2 (Obj.cells #[.int .i64 1, .string (bs [102, 117, 110]), .int .i64 0, .slice none 0 0, .slice (some ⟨G, 0, none⟩) 2 C] 25)
  have r3 := (hba.block w.heap.size (Array.getElem?_eq_some_iff.1 r2).1).trans r2
  have cb := (P2.out.1.alloc (Obj.cells #[.int .i64 1, .string (bs [102, 117, 110]), .int .i64 0, .slice none 0 0, .slice (some ⟨G, 0, none⟩) 2 C] 25)).1.1
  have P3 := Lib.hid (P2.out.trans (P2.out.1.alloc (Obj.cells #[.int .i64 1, .string (bs [102, 117, 110]), .int .i64 0, .slice none 0 0, .slice (some ⟨G, 0, none⟩) 2 C] 25)))
  have C3 : Hid ((w2.alloc (Obj.cells #[.int .i64 1, .string (bs [102, 117, 110]), .int .i64 0, .slice none 0 0, .slice (some ⟨G, 0, none⟩) 2 C] 25)).cell? ⟨g, 0, none⟩ = some (.string (bs [99]))) := (hba.cell (p := ⟨g, 0, none⟩) (lt_of_cell hcg)).trans hcg
  have O3 := Lib.hid (hown.alloc (Obj.cells #[.int .i64 1, .string (bs [102, 117, 110]), .int .i64 0, .slice none 0 0, .slice (some ⟨G, 0, none⟩) 2 C] 25))
  have HG : Hid (w.heap.size < g) := by unfold Hid; have : (w.alloc (Obj.cells noU5 25)).heap.size = w.heap.size + 1 := by simp
                                        omega
  have HGG := Lib.hid hgG
  have R3 := Lib.hid r3
  obtain ⟨y0, y1, y2, y3, y4⟩ := fiveT ra
  obtain ⟨⟨z0, z1, z2, z3, z4⟩, z5, z6, z7, z8, z9⟩ := five r3
  clear WF c0 PA R0 hg hgG hcg hown p2 r2 ra hba r3 P2
  have hq : (((bs []).size : Int) == ((bs [102, 117, 110, 40, 63, 97, 46, 48, 123, 99, 125, 44, 32, 112, 114, 111, 112, 41]).size : Int)) = false := by simp [bs_size]
  go_wp2_with fail
  refine bodyPost_ret (results_row_tmp rfl _ _ w.heap.size 25 _ (0, 0) _ rfl (row5 R3.out) Tryd.underlying25 rfl Tryd.size25) rfl ⟨⟨_, rfl, g, c, G, C, rfl, ?_, HGG.out, ?_, ?_⟩, ?_⟩
  · have := HG.out; omega
  · have n6 : g ≠ w.heap.size := by have := HG.out; omega
    exact (World.cell?_of_block (a := ⟨g, 0, none⟩) (block5 n6)).trans C3.out
  · have n6 : G ≠ w.heap.size := by have := HG.out; have := HGG.out; omega
    exact ownsRow_block O3.out (block5 n6)
  · exact ⟨rdAt_far P3.out.1 (block5 (by have := HB.out; omega)), ButG.below5 P3.out.2 (Nat.le_refl _)⟩
end Go.Proofs.YtkmoepabnnjoaaaDoor
