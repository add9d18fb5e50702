/- strconv.Itoa 37 of 0. -/
import Derived.Test.YtkmoepabnnjoaaaDoorMZ16
import Derived.Test.YtkmoepabnnjoaaaDoorMZ17
import Derived.Deep.RegionHeld3
namespace Go.Proofs.YtkmoepabnnjoaaaDoor
open Go.RowKit Go.WideMaps Go.Shelf Go.Lib
attribute [local go_sem] Oper.semAt_some

set_option maxRecDepth 100000 in
set_option maxHeartbeats 1000000 in
theorem small0 (w : World) : Calls Tryd.prog 64 #[.int .i64 0] w fun e w' => e = .returned (.string ⟨#[48]⟩) ∧ w' = w := by
  go_enter Tryd.func64, Tryd.ntmps64
  go_wp2_with fail
  go_ret
  exact ⟨rfl, rfl⟩

set_option maxRecDepth 100000 in
set_option maxHeartbeats 1000000 in
theorem formatInt0 (w : World) : Calls Tryd.prog 57 #[.int .i64 0, .int .i64 10] w fun e w' => e = .returned (.string ⟨#[48]⟩) ∧ w' = w := by
  have HI := Lib.hid (small0 w)
  go_enter Tryd.func57, Tryd.ntmps57
  go_wp2_with fail
  refine HI.out.mono ?_
  rintro e w2 ⟨rfl, rfl⟩
  go_wp2_with fail
  go_ret
  exact ⟨rfl, rfl⟩

set_option maxRecDepth 100000 in
set_option maxHeartbeats 1000000 in
theorem itoa0i (w : World) : Calls Tryd.prog 46 #[.int .i64 0] w fun e w' => e = .returned (.string ⟨#[48]⟩) ∧ w' = w := by
  have HI := Lib.hid (formatInt0 w)
  go_enter Tryd.func46, Tryd.ntmps46
  go_wp2_with fail
  refine HI.out.mono ?_
  rintro e w2 ⟨rfl, rfl⟩
  go_wp2_with fail
  go_ret
  exact ⟨rfl, rfl⟩

set_option maxRecDepth 100000 in
set_option maxHeartbeats 1000000 in
theorem itoa0 (w : World) : Calls Tryd.prog 37 #[.int .i64 0] w fun e w' => e = .returned (.string ⟨#[48]⟩) ∧ w' = w := by
  have HI := Lib.hid (itoa0i w)
  go_enter Tryd.func37, Tryd.ntmps37
  go_wp2_with fail
  refine HI.out.mono ?_
  rintro e w2 ⟨rfl, rfl⟩
  go_wp2_with fail
  go_ret
  exact ⟨rfl, rfl⟩

/-- WriteString into a builder that the call has made, with what else it keeps -/
def WrP (B b : Nat) (l : List UInt8) (w w' : World) : Prop := Lib.IsBuilderF 56 5 B b (Lib.byteCells l) w' ∧ Below B w w' ∧ Lib.OthersKept 5 (some b) w w'

theorem writeS (B b : Nat) (l : List UInt8) (s : ByteArray) (w : World) (h : Lib.IsBuilderF 56 5 B b (Lib.byteCells l) w) (hlen : l.length + s.size ≤ 140737488355328) (hBw : B ≤ w.heap.size) :
    Calls Tryd.prog 36 #[.pointer (some ⟨b, 0, none⟩), .string s] w fun e w' => (∃ v, e = .returned v) ∧ WrP B b (l ++ s.data.toList) w w' := by
  refine (Tryd.Builder_WriteString B b (Lib.byteCells l) s w h (by unfold Lib.byteCells; rw [List.length_map]; exact hlen) hBw).mono ?_
  rintro e w' ⟨rfl, h1, h2, h3⟩
  refine ⟨⟨_, rfl⟩, .inr ?_, h2, h3⟩
  rw [Lib.strCells_eq] at h1
  unfold Lib.byteCells at h1 ⊢
  rw [List.map_append]
  exact h1

/-- a block of a type's cells is kept by what is written -/
theorem WrP.row {B b k : Nat} {l : List UInt8} {w w' : World} (h : WrP B b l w w') {cs : Array Value} (hr : w.heap[k]? = some (.cells cs 25 (0, 0))) (hk : k ≠ b) : w'.heap[k]? = some (.cells cs 25 (0, 0)) :=
  h.2.2 k _ hr (fun e => hk (Option.some.inj e)) (fun c fz e => by injection e with _ e2 _; exact absurd e2 (by decide))

theorem WrP.trans {B b : Nat} {l l' : List UInt8} {w w' w'' : World} (h : WrP B b l w w') (k : WrP B b l' w' w'') : WrP B b l' w w'' :=
  ⟨k.1, h.2.1.trans k.2.1, h.2.2.trans k.2.2⟩

theorem WrP.alloc {B b : Nat} {l : List UInt8} {w : World} (h : Lib.IsBuilderF 56 5 B b (Lib.byteCells l) w) (hBw : B ≤ w.heap.size) (o : Obj) : WrP B b l w (w.alloc o) :=
  ⟨h.alloc o, (below_alloc w o).mono hBw, (Lib.OthersKept.refl _ _ _).alloc o⟩
end Go.Proofs.YtkmoepabnnjoaaaDoor

/- types.write 26 of leaves and of a function type of two leaves. -/
namespace Go.Proofs.YtkmoepabnnjoaaaDoor
open Go.RowKit Go.WideMaps Go.Shelf Go.Lib
attribute [local go_sem] Oper.semAt_some

theorem sz1 (x : Nm) : (⟨#[63]⟩ ++ bs x ++ ⟨#[46]⟩ ++ ⟨#[48]⟩ : ByteArray).size = x.length + 3 := by
  rw [ByteArray.size_append, ByteArray.size_append, ByteArray.size_append, bs_size]
  show 1 + x.length + 1 + 1 = _
  omega
theorem sz2 (y : Nm) : (⟨#[123]⟩ ++ bs y ++ ⟨#[125]⟩ : ByteArray).size = y.length + 2 := by
  rw [ByteArray.size_append, ByteArray.size_append, bs_size]
  show 1 + y.length + 1 = _
  omega

theorem isB_lt {B b : Nat} {bs : List Value} {w : World} (h : Lib.IsBuilderF 56 5 B b bs w) : b < w.heap.size := h.elim (fun x => x.lt) (fun x => x.lt)

theorem joinOne (bk o c : Nat) (x sep : ByteArray) (w : World) (hc : w.cell? ⟨bk, o, none⟩ = some (.string x)) :
    Calls Tryd.prog 38 #[.slice (some ⟨bk, o, none⟩) 1 c, .string sep] w fun e w' => e = .returned (.string x) ∧ w' = w :=
  Any.strings_Join_one Tryd.lays156 Tryd.Builder_Extra_156 bk o c x sep w hc

set_option maxRecDepth 100000 in
set_option maxHeartbeats 2000000 in
theorem writeCon (B b : Nat) (l : List UInt8) (x : Nm) (i : Int) (p : Option Addr) (q : Nat) (w : World) (h : Lib.IsBuilderF 56 5 B b (Lib.byteCells l) w) (hlen : l.length + x.length ≤ 1000000) (hBw : B ≤ w.heap.size) :
    Calls Tryd.prog 26 #[.pointer (some ⟨b, 0, none⟩), .agg #[.int .i64 1, .string (bs x), .int .i64 i, .slice p 0 q, .slice none 0 0]] w fun e w' => (∃ v, e = .returned v) ∧ WrP B b (l ++ x) w w' := by
  have hb := isB_lt h
  have wa := WrP.alloc h hBw (Obj.cells #[.int .i64 1, .string (bs x), .int .i64 i, .slice p 0 q, .slice none 0 0] 25)
  have r0 := heap_alloc_new w (Obj.cells #[.int .i64 1, .string (bs x), .int .i64 i, .slice p 0 q, .slice none 0 0] 25)
  have hz : (w.alloc (Obj.cells #[.int .i64 1, .string (bs x), .int .i64 i, .slice p 0 q, .slice none 0 0] 25)).heap.size = w.heap.size + 1 := by simp
  have WS := Lib.hid (writeS B b l (bs x) _ wa.1 (by rw [bs_size]; omega) (by rw [hz]; omega))
  obtain ⟨x0, x1, x2, x3, x4⟩ := fiveT r0
  have R0 := Lib.hid r0
  have WA := Lib.hid wa
  have HN : Hid (w.heap.size ≠ b) := by unfold Hid; omega
  clear h wa r0 hz
  go_enter Tryd.func26, Tryd.ntmps26
  go_wp2_with fail
  refine WS.out.mono ?_
  rintro e w2 ⟨⟨v, rfl⟩, hw2⟩
  have r2 := hw2.row R0.out HN.out
  have W2 : Hid (WrP B b (l ++ x) w w2) := WA.out.trans hw2
  clear x0 x1 x2 x3 x4 hw2
  obtain ⟨x0, x1, x2, x3, x4⟩ := fiveT r2
  clear r2
  go_wp2_with fail
  go_loop [45] (fun j => j = .int .i64 0) (fun _ => 0)
  case atStart => exact rfl
  case round =>
    obtain rfl := hrel
    go_wp2_with fail
    exact bodyPost_end (v := .tuple #[]) (by simp [results, Tryd.f26]) rfl ⟨⟨_, rfl⟩, W2.out⟩

set_option maxRecDepth 100000 in
set_option maxHeartbeats 4000000 in
theorem writeVar (B b : Nat) (l : List UInt8) (x y : Nm) (bk o : Nat) (q : Nat) (w : World) (h : Lib.IsBuilderF 56 5 B b (Lib.byteCells l) w) (hlen : l.length + x.length + y.length ≤ 1000000) (hBw : B ≤ w.heap.size) (hbk : bk < B) (hc : w.cell? ⟨bk, o, none⟩ = some (.string (bs y))) :
    Calls Tryd.prog 26 #[.pointer (some ⟨b, 0, none⟩), .agg #[.int .i64 3, .string (bs x), .int .i64 0, .slice (some ⟨bk, o, none⟩) 1 q, .slice none 0 0]] w fun e w' => (∃ v, e = .returned v) ∧ WrP B b (l ++ (63 :: x ++ [46, 48]) ++ (123 :: y ++ [125])) w w' := by
  obtain ⟨T, hT⟩ : ∃ T, T = l ++ (63 :: x ++ [46, 48]) ++ (123 :: y ++ [125]) := ⟨_, rfl⟩
  rw [← hT]
  have HT := Lib.hid hT
  clear hT
  have hb := isB_lt h
  have wa := WrP.alloc h hBw (Obj.cells #[.int .i64 3, .string (bs x), .int .i64 0, .slice (some ⟨bk, o, none⟩) 1 q, .slice none 0 0] 25)
  have r0 := heap_alloc_new w (Obj.cells #[.int .i64 3, .string (bs x), .int .i64 0, .slice (some ⟨bk, o, none⟩) 1 q, .slice none 0 0] 25)
  have hz : (w.alloc (Obj.cells #[.int .i64 3, .string (bs x), .int .i64 0, .slice (some ⟨bk, o, none⟩) 1 q, .slice none 0 0] 25)).heap.size = w.heap.size + 1 := by simp
  have HN : Hid (w.heap.size ≠ b) := by unfold Hid; omega
  have HC := Lib.hid ((wa.2.1.cell (p := ⟨bk, o, none⟩) hbk).trans hc)
  have xsz := bs_size x
  have ysz := bs_size y
  clear h hc
  go_enter Tryd.func26, Tryd.ntmps26
  go_upto_region 6 with (fail)
  generalize w.alloc (Obj.cells #[.int .i64 3, .string (bs x), .int .i64 0, .slice (some ⟨bk, o, none⟩) 1 q, .slice none 0 0] 25) = A at *
  have wd : WrP B b l w A.drew := ⟨wa.1.elim (fun h => .inl h.drew) (fun h => .inr h.drew), wa.2.1.drew, wa.2.2.drew⟩
  have rd : A.drew.heap[w.heap.size]? = _ := r0
  have zd : A.drew.heap.size = w.heap.size + 1 := hz
  have cd : A.drew.cell? ⟨bk, o, none⟩ = some (.string (bs y)) := HC.out
  have WS := Lib.hid (fun s hs => writeS B b l s A.drew wd.1 hs (by rw [zd]; omega))
  have WD := Lib.hid wd
  have RD := Lib.hid rd
  have CD := Lib.hid cd
  have XS := Lib.hid xsz
  have YS := Lib.hid ysz
  have HLEN := Lib.hid hlen
  have TX : Hid ((⟨#[63]⟩ ++ bs x ++ ⟨#[46]⟩ ++ ⟨#[48]⟩ : ByteArray).data.toList = 63 :: x ++ [46, 48] ∧ (⟨#[63]⟩ ++ bs x ++ ⟨#[46]⟩ ++ ⟨#[48]⟩ : ByteArray).size = x.length + 3) := by
    unfold Hid
    constructor
    · simp [ByteArray.data_append, bs]
    · exact sz1 x
  have s1 : ¬ (9223372036854775807 < 1 + (bs x).size) := by omega
  have s2 : ¬ (9223372036854775806 < 1 + (bs x).size) := by omega
  have s3 : ¬ (9223372036854775805 < 1 + (bs x).size) := by omega
  have t1 : 1 + (bs x).size ≤ 9223372036854775807 := by omega
  have t2 : 1 + (bs x).size ≤ 9223372036854775806 := by omega
  have t3 : 1 + (bs x).size ≤ 9223372036854775805 := by omega
  have u1 : ¬ (9223372036854775807 ≤ 1 + (bs x).size) := by omega
  have u2 : ¬ (9223372036854775806 ≤ 1 + (bs x).size) := by omega
  have u3 : ¬ (9223372036854775807 ≤ 1 + (bs x).size + 1) := by omega
  have u4 : ¬ (9223372036854775807 < 1 + (bs x).size + 1) := by omega
  have u5 : ¬ (9223372036854775807 < 1 + (bs x).size + 1 + 1) := by omega
  clear wd rd zd cd wa r0 hz HC ysz xsz hlen
  go_region_held3 (fun W => W.cell? ⟨w.heap.size, 1, none⟩ = some (.string (bs x)) ∧ W.cell? ⟨w.heap.size, 2, none⟩ = some (.int .i64 0))
    (first | exact ⟨(fiveT RD.out).2.1, (fiveT RD.out).2.2.1⟩ | exact ⟨(fiveT R2.out).2.1, (fiveT R2.out).2.2.1⟩)
    ((first
      | (go_at_call 37; refine (itoa0 _).mono ?_; rintro e w5 ⟨rfl, rfl⟩)
      | (go_at_call 36; refine (WS.out _ (by have := TX.out.2; have := HLEN.out; omega)).mono ?_; rintro e w2 ⟨⟨v, rfl⟩, hw2⟩; have R2 := Lib.hid (hw2.row RD.out HN.out))))
  have W2 : Hid (WrP B b (l ++ (63 :: x ++ [46, 48])) w w2) := by
    unfold Hid
    have h := WD.out.trans hw2
    rw [TX.out.1] at h
    exact h
  have hb2 := isB_lt W2.out.1
  obtain ⟨z0, z1, z2, z3, z4⟩ := fiveT R2.out
  have JO := Lib.hid (joinOne bk o q (bs y) ⟨#[44]⟩ w2 ((hw2.2.1.cell (p := ⟨bk, o, none⟩) hbk).trans CD.out))
  have WS2 := Lib.hid (fun s hs => writeS B b (l ++ (63 :: x ++ [46, 48])) s w2 W2.out.1 hs (Nat.le_trans hBw W2.out.2.1.size))
  clear hw2 WS WD RD CD s1 s2 s3 t1 t2 t3 u1 u2 u3 u4 u5
  have ysz := YS.out
  have hlen := HLEN.out
  have TY2 : Hid ((⟨#[123]⟩ ++ bs y ++ ⟨#[125]⟩ : ByteArray).data.toList = 123 :: y ++ [125] ∧ (⟨#[123]⟩ ++ bs y ++ ⟨#[125]⟩ : ByteArray).size = y.length + 2) := by
    unfold Hid
    constructor
    · simp [ByteArray.data_append, bs]
    · exact sz2 y
  have s1 : ¬ (9223372036854775807 < 1 + (bs y).size) := by omega
  have s2 : ¬ (9223372036854775806 < 1 + (bs y).size) := by omega
  have u1 : ¬ (9223372036854775807 ≤ 1 + (bs y).size) := by omega
  have HS : Hid ((l ++ (63 :: x ++ [46, 48])).length + (y.length + 2) ≤ 140737488355328) := by unfold Hid; simp; omega
  clear ysz hlen
  go_wp2_with fail
  refine JO.out.mono ?_
  rintro e w3 ⟨rfl, rfl⟩
  go_wp2_with fail
  refine (WS2.out _ (by rw [TY2.out.2]; exact HS.out)).mono ?_
  rintro e w4 ⟨⟨v4, rfl⟩, hw4⟩
  rw [TY2.out.1] at hw4
  have r4 := hw4.row R2.out HN.out
  have W4 := Lib.hid (W2.out.trans hw4)
  clear z0 z1 z2 z3 z4 hw4 JO WS2
  obtain ⟨z0, z1, z2, z3, z4⟩ := fiveT r4
  clear r4 s1 s2 u1
  go_wp2_with fail
  go_loop [45] (fun j => j = .int .i64 0) (fun _ => 0)
  case atStart => exact rfl
  case round =>
    obtain rfl := hrel
    go_wp2_with fail
    exact bodyPost_end (v := .tuple #[]) (by simp [results, Tryd.f26]) rfl ⟨⟨_, rfl⟩, by rw [HT.out]; exact W4.out⟩
end Go.Proofs.YtkmoepabnnjoaaaDoor

/- types.write 26 of a function type of two leaves. -/
namespace Go.Proofs.YtkmoepabnnjoaaaDoor
open Go.RowKit Go.WideMaps Go.Shelf Go.Lib
attribute [local go_sem] Oper.semAt_some

/-- the two leaves of a function type, in a block -/
def Two (w : World) (g : Nat) (x y x' : Nm) (bk o q1 : Nat) (i' : Int) (p' : Option Addr) (q' : Nat) : Prop :=
  (w.cell? ⟨g, 0, none⟩ = some (.int .i64 3) ∧ w.cell? ⟨g, 1, none⟩ = some (.string (bs x)) ∧ w.cell? ⟨g, 2, none⟩ = some (.int .i64 0) ∧ w.cell? ⟨g, 3, none⟩ = some (.slice (some ⟨bk, o, none⟩) 1 q1) ∧ w.cell? ⟨g, 4, none⟩ = some (.slice none 0 0)) ∧
  (w.cell? ⟨g, 5, none⟩ = some (.int .i64 1) ∧ w.cell? ⟨g, 6, none⟩ = some (.string (bs x')) ∧ w.cell? ⟨g, 7, none⟩ = some (.int .i64 i') ∧ w.cell? ⟨g, 8, none⟩ = some (.slice p' 0 q') ∧ w.cell? ⟨g, 9, none⟩ = some (.slice none 0 0)) ∧
  w.cell? ⟨bk, o, none⟩ = some (.string (bs y))

theorem Two.below {w w' : World} {B g : Nat} {x y x' : Nm} {bk o q1 : Nat} {i' : Int} {p' : Option Addr} {q' : Nat} (h : Two w g x y x' bk o q1 i' p' q') (hb : Below B w w') (hg : g < B) (hk : bk < B) : Two w' g x y x' bk o q1 i' p' q' := by
  obtain ⟨⟨a0, a1, a2, a3, a4⟩, ⟨b0, b1, b2, b3, b4⟩, c0⟩ := h
  have k : ∀ i u, w.cell? ⟨g, i, none⟩ = some u → w'.cell? ⟨g, i, none⟩ = some u := fun i u hc => (hb.cell (p := ⟨g, i, none⟩) hg).trans hc
  exact ⟨⟨k _ _ a0, k _ _ a1, k _ _ a2, k _ _ a3, k _ _ a4⟩, ⟨k _ _ b0, k _ _ b1, k _ _ b2, k _ _ b3, k _ _ b4⟩, (hb.cell (p := ⟨bk, o, none⟩) hk).trans c0⟩

/-- what is written after k leaves -/
def accF (l : List UInt8) (f x y x' : Nm) : Nat → List UInt8
  | 0 => l ++ f
  | 1 => l ++ f ++ [40] ++ (63 :: x ++ [46, 48]) ++ (123 :: y ++ [125])
  | _ => l ++ f ++ [40] ++ (63 :: x ++ [46, 48]) ++ (123 :: y ++ [125]) ++ [44, 32] ++ x'

set_option maxRecDepth 100000 in
set_option maxHeartbeats 4000000 in
theorem writeFun (B b : Nat) (l : List UInt8) (f x y x' : Nm) (i i' : Int) (p p' : Option Addr) (q q1 q' g c bk o : Nat) (w : World) (h : Lib.IsBuilderF 56 5 B b (Lib.byteCells l) w) (hlen : l.length + f.length + x.length + y.length + x'.length ≤ 100000) (hBw : B ≤ w.heap.size) (hg : g < B) (hbk : bk < B) (ht : Two w g x y x' bk o q1 i' p' q') :
    Calls Tryd.prog 26 #[.pointer (some ⟨b, 0, none⟩), .agg #[.int .i64 1, .string (bs f), .int .i64 i, .slice p 0 q, .slice (some ⟨g, 0, none⟩) 2 c]] w fun e w' => (∃ v, e = .returned v) ∧ WrP B b (accF l f x y x' 2 ++ [41]) w w' := by
  have hb := isB_lt h
  have wa := WrP.alloc h hBw (Obj.cells #[.int .i64 1, .string (bs f), .int .i64 i, .slice p 0 q, .slice (some ⟨g, 0, none⟩) 2 c] 25)
  have r0 := heap_alloc_new w (Obj.cells #[.int .i64 1, .string (bs f), .int .i64 i, .slice p 0 q, .slice (some ⟨g, 0, none⟩) 2 c] 25)
  have hz : (w.alloc (Obj.cells #[.int .i64 1, .string (bs f), .int .i64 i, .slice p 0 q, .slice (some ⟨g, 0, none⟩) 2 c] 25)).heap.size = w.heap.size + 1 := by simp
  have WS := Lib.hid (writeS B b l (bs f) _ wa.1 (by rw [bs_size]; omega) (by rw [hz]; omega))
  obtain ⟨x0, x1, x2, x3, x4⟩ := fiveT r0
  have R0 := Lib.hid r0
  have WA := Lib.hid wa
  have HN : Hid (w.heap.size ≠ b) := by unfold Hid; omega
  have HT := Lib.hid ht
  have HLEN := Lib.hid hlen
  have HBL := Lib.hid hb
  clear h wa r0 hz ht hlen hb
  go_enter Tryd.func26, Tryd.ntmps26
  go_wp2_with fail
  refine WS.out.mono ?_
  rintro e w2 ⟨⟨v, rfl⟩, hw2⟩
  have r2 := hw2.row R0.out HN.out
  have W2 : Hid (WrP B b (accF l f x y x' 0) w w2) := WA.out.trans hw2
  have R2 := Lib.hid r2
  clear x0 x1 x2 x3 x4 hw2 WS WA R0
  obtain ⟨x0, x1, x2, x3, x4⟩ := fiveT r2
  clear r2
  go_wp2_with fail
  clear x0 x1 x2 x3 x4
  go_loopw [45] (fun j wr => ∃ k : Nat, k ≤ 2 ∧ j = .int .i64 (k : Nat) ∧ WrP B b (accF l f x y x' k) w wr ∧ wr.heap[w.heap.size]? = some (.cells #[.int .i64 1, .string (bs f), .int .i64 i, .slice p 0 q, .slice (some ⟨g, 0, none⟩) 2 c] 25 (0, 0))) (fun j _ => 2 - (intOf j).toNat)
  case atStart => exact ⟨0, by omega, rfl, W2.out, R2.out⟩
  case round =>
    obtain ⟨k, hk, rfl, hW, hR⟩ := hrel
    have hTr := HT.out.below hW.2.1 hg hbk
    have hBr := Nat.le_trans hBw hW.2.1.size
    have hbr := isB_lt hW.1
    have HR := Lib.hid hR
    have HW := Lib.hid hW
    have HTR := Lib.hid hTr
    have HNR : Hid (wr.heap.size ≠ b) := by unfold Hid; omega
    have hwr : w.heap.size < wr.heap.size := (Array.getElem?_eq_some_iff.1 hR).1
    by_cases h2 : k = 2
    · subst h2
      have WS := Lib.hid (writeS B b _ ⟨#[41]⟩ wr hW.1 (by have := HLEN.out; show _ + 1 ≤ _; simp [accF]; omega) hBr)
      obtain ⟨x0, x1, x2, x3, x4⟩ := fiveT hR
      clear hR hW hTr hBr hbr
      go_wp2_with fail
      refine WS.out.mono ?_
      rintro e w3 ⟨⟨v3, rfl⟩, hw3⟩
      have W3 := Lib.hid (HW.out.trans hw3)
      clear hw3
      go_wp2_with fail
      exact bodyPost_end (v := .tuple #[]) (by simp [results, Tryd.f26]) rfl ⟨⟨_, rfl⟩, W3.out⟩
    · by_cases h0 : k = 0
      · subst h0
        have wa := WrP.alloc hW.1 hBr (Obj.cells #[.int .i64 3, .string (bs x), .int .i64 0, .slice (some ⟨bk, o, none⟩) 1 q1, .slice none 0 0] 25)
        have ra := heap_alloc_new wr (Obj.cells #[.int .i64 3, .string (bs x), .int .i64 0, .slice (some ⟨bk, o, none⟩) 1 q1, .slice none 0 0] 25)
        have hza : (wr.alloc (Obj.cells #[.int .i64 3, .string (bs x), .int .i64 0, .slice (some ⟨bk, o, none⟩) 1 q1, .slice none 0 0] 25)).heap.size = wr.heap.size + 1 := by simp
        have WS := Lib.hid (writeS B b _ ⟨#[40]⟩ _ wa.1 (by have := HLEN.out; show _ + 1 ≤ _; simp [accF]; omega) (by rw [hza]; omega))
        obtain ⟨⟨x0, x1, x2, x3, x4⟩, ⟨y0, y1, y2, y3, y4⟩, _⟩ := hTr
        have WA := Lib.hid wa
        have RA := Lib.hid ra
        clear hR hW hbr wa hza y0 y1 y2 y3 y4
        obtain ⟨z0, z1, z2, z3, z4⟩ := fiveT ra
        clear ra
        go_wp2_with fail
        refine WS.out.mono ?_
        rintro e w3 ⟨⟨v3, rfl⟩, hw3⟩
        have r3 := hw3.row RA.out HNR.out
        have W3 := Lib.hid (WA.out.trans hw3)
        have T3 := Lib.hid (HTR.out.below W3.out.2.1 hg hbk)
        have WV := Lib.hid (writeVar B b _ x y bk o q1 w3 W3.out.1 (by have := HLEN.out; simp [accF]; omega) (Nat.le_trans hBr W3.out.2.1.size) hbk T3.out.2.2)
        have R3 := Lib.hid (W3.out.row HR.out HN.out)
        clear x0 x1 x2 x3 x4 z0 z1 z2 z3 z4 hw3 WS
        obtain ⟨z0, z1, z2, z3, z4⟩ := fiveT r3
        clear r3
        go_wp2_with fail
        refine WV.out.mono ?_
        rintro e w4 ⟨⟨v4, rfl⟩, hw4⟩
        have W4 := Lib.hid (HW.out.trans (W3.out.trans hw4))
        have R4 := Lib.hid (hw4.row R3.out HN.out)
        clear z0 z1 z2 z3 z4 hw4 WV
        go_wp2_with fail
        go_roundw
        case rel => exact ⟨1, by omega, by go_num, W4.out, R4.out⟩
        case measure => simp [intOf]
      · have h1 : k = 1 := by omega
        subst h1
        have wa := WrP.alloc hW.1 hBr (Obj.cells #[.int .i64 1, .string (bs x'), .int .i64 i', .slice p' 0 q', .slice none 0 0] 25)
        have ra := heap_alloc_new wr (Obj.cells #[.int .i64 1, .string (bs x'), .int .i64 i', .slice p' 0 q', .slice none 0 0] 25)
        have hza : (wr.alloc (Obj.cells #[.int .i64 1, .string (bs x'), .int .i64 i', .slice p' 0 q', .slice none 0 0] 25)).heap.size = wr.heap.size + 1 := by simp
        have WS := Lib.hid (writeS B b _ ⟨#[44, 32]⟩ _ wa.1 (by have := HLEN.out; show _ + 2 ≤ _; simp [accF]; omega) (by rw [hza]; omega))
        obtain ⟨⟨x0, x1, x2, x3, x4⟩, ⟨y0, y1, y2, y3, y4⟩, _⟩ := hTr
        have WA := Lib.hid wa
        have RA := Lib.hid ra
        clear hR hW hbr wa hza x0 x1 x2 x3 x4
        obtain ⟨z0, z1, z2, z3, z4⟩ := fiveT ra
        clear ra
        go_wp2_with fail
        refine WS.out.mono ?_
        rintro e w3 ⟨⟨v3, rfl⟩, hw3⟩
        have r3 := hw3.row RA.out HNR.out
        have W3 := Lib.hid (WA.out.trans hw3)
        have T3 := Lib.hid (HTR.out.below W3.out.2.1 hg hbk)
        have WV := Lib.hid (writeCon B b _ x' i' p' q' w3 W3.out.1 (by have := HLEN.out; simp [accF]; omega) (Nat.le_trans hBr W3.out.2.1.size))
        have R3 := Lib.hid (W3.out.row HR.out HN.out)
        clear y0 y1 y2 y3 y4 z0 z1 z2 z3 z4 hw3 WS
        obtain ⟨z0, z1, z2, z3, z4⟩ := fiveT r3
        clear r3
        go_wp2_with fail
        refine WV.out.mono ?_
        rintro e w4 ⟨⟨v4, rfl⟩, hw4⟩
        have W4 := Lib.hid (HW.out.trans (W3.out.trans hw4))
        have R4 := Lib.hid (hw4.row R3.out HN.out)
        clear z0 z1 z2 z3 z4 hw4 WV
        go_wp2_with fail
        go_roundw
        case rel => exact ⟨2, by omega, by go_num, W4.out, R4.out⟩
        case measure => simp [intOf]
end Go.Proofs.YtkmoepabnnjoaaaDoor

/- types.Text 10 of a function type of two leaves. -/
namespace Go.Proofs.YtkmoepabnnjoaaaDoor
open Go.RowKit Go.WideMaps Go.Shelf Go.Lib
attribute [local go_sem] Oper.semAt_some

set_option maxRecDepth 100000 in
set_option maxHeartbeats 4000000 in
theorem textFun (f x y x' : Nm) (i i' : Int) (p p' : Option Addr) (q q1 q' g c bk o : Nat) (t : TY) (d : Nat) (w : World) (hlen : f.length + x.length + y.length + x'.length ≤ 100000) (ht : Two w g x y x' bk o q1 i' p' q')
    (hm : TyM w d (.agg #[.int .i64 1, .string (bs f), .int .i64 i, .slice p 0 q, .slice (some ⟨g, 0, none⟩) 2 c]) t) (hs : t.size ≤ 20000) (hf : formX t = 0) :
    Calls Tryd.prog 10 #[.agg #[.int .i64 1, .string (bs f), .int .i64 i, .slice p 0 q, .slice (some ⟨g, 0, none⟩) 2 c]] w fun e w' => e = .returned (.tuple #[.string ⟨(accF [] f x y x' 2 ++ [41]).toArray⟩, .int .i64 0]) ∧ Below w.heap.size w w' := by
  have ha := below_alloc w (Obj.cells #[.int .i64 1, .string (bs f), .int .i64 i, .slice p 0 q, .slice (some ⟨g, 0, none⟩) 2 c] 25)
  have r0 := heap_alloc_new w (Obj.cells #[.int .i64 1, .string (bs f), .int .i64 i, .slice p 0 q, .slice (some ⟨g, 0, none⟩) 2 c] 25)
  have hz : (w.alloc (Obj.cells #[.int .i64 1, .string (bs f), .int .i64 i, .slice p 0 q, .slice (some ⟨g, 0, none⟩) 2 c] 25)).heap.size = w.heap.size + 1 := by simp
  have FO := Lib.hid (form_any d _ t _ (hm.below ha) hs)
  rw [hf] at FO
  have hg := lt_of_cell ht.1.1
  have hbk := lt_of_cell ht.2.2
  obtain ⟨T, hT⟩ : ∃ T, T = accF [] f x y x' 2 ++ [41] := ⟨_, rfl⟩
  rw [← hT]
  have HTT := Lib.hid hT
  clear hT
  obtain ⟨x0, x1, x2, x3, x4⟩ := fiveT r0
  have R0 := Lib.hid r0
  have HA := Lib.hid ha
  have HT := Lib.hid ht
  have HLEN := Lib.hid hlen
  have HG : Hid (g < w.heap.size) := hg
  have HK : Hid (bk < w.heap.size) := hbk
  have HZ := Lib.hid hz
  clear ha r0 ht hlen hg hbk hm hs hf hz
  go_enter Tryd.func10, Tryd.ntmps10
  go_wp2_with fail
  refine FO.out.mono ?_
  rintro e w2 ⟨rfl, hb2⟩
  have r2 := (hb2.block w.heap.size (by rw [HZ.out]; omega)).trans R0.out
  have hB2 := HA.out.trans (hb2.mono HA.out.size)
  have hz2 := hb2.size
  rw [HZ.out] at hz2
  have hb3 := below_alloc w2 (Obj.cells #[.pointer none, .slice none 0 0] 56)
  have r3 := (hb3.block w.heap.size (by omega)).trans r2
  have hB3 := hB2.trans (hb3.mono hB2.size)
  have WF := Lib.hid (writeFun w2.heap.size w2.heap.size [] f x y x' i i' p p' q q1 q' g c bk o _ (Lib.IsBuilderF.of (Lib.fresh_isBuilder 56 5 w2)) (by have := HLEN.out; simp; omega) hb3.size (by have := HG.out; omega) (by have := HK.out; omega) (HT.out.below hB3 HG.out HK.out))
  have HB3 := Lib.hid hB3
  have HZ2 := Lib.hid hz2
  have HBB := Lib.hid hB2
  rw [← HTT.out] at WF
  obtain ⟨z0, z1, z2, z3, z4⟩ := fiveT r3
  clear x0 x1 x2 x3 x4 FO r2 hB2 hb2 hb3 r3 hB3 hz2
  go_wp2_with fail
  refine WF.out.mono ?_
  rintro e w4 ⟨⟨v4, rfl⟩, hw4⟩
  have ST := Lib.hid (Tryd.Builder_String w2.heap.size w2.heap.size T w4 hw4.1 (Nat.le_trans (below_alloc w2 _).size hw4.2.1.size))
  have HB4 : Hid (Below w.heap.size w w4) := HB3.out.trans (hw4.2.1.mono (by have := HZ2.out; omega))
  clear z0 z1 z2 z3 z4 WF hw4
  go_wp2_with fail
  refine ST.out.mono ?_
  rintro e w5 ⟨rfl, _, hb5, _⟩
  have HB5 := Lib.hid (HB4.out.trans (hb5.mono (by have := HZ2.out; omega)))
  clear hb5 ST
  go_wp2_with fail
  go_ret2
  exact ⟨rfl, HB5.out⟩
end Go.Proofs.YtkmoepabnnjoaaaDoor
