/- types.visit 42 of a function type of two leaves. -/
import Derived.Test.YtkmoepabnnjoaaaDoorMZ5
import Derived.Test.YtkmoepabnnjoaaaDoorMZ17
namespace Go.Proofs.YtkmoepabnnjoaaaDoor
open Go.RowKit Go.WideMaps Go.Shelf Go.Lib
attribute [local go_sem] Oper.semAt_some

/-- every block of cells but two is as it was -/
structure KeepM (m f : Nat) (w w' : World) : Prop where
  size : w.heap.size ≤ w'.heap.size
  obj : ∀ k o, k ≠ m → k ≠ f → w.heap[k]? = some o → o.isCells = true → w'.heap[k]? = some o
theorem KeepM.refl (m f : Nat) (w : World) : KeepM m f w w := ⟨Nat.le_refl _, fun _ _ _ _ h _ => h⟩
theorem KeepM.trans {m f : Nat} {a b c : World} (h : KeepM m f a b) (k : KeepM m f b c) : KeepM m f a c :=
  ⟨Nat.le_trans h.size k.size, fun x o h1 h2 ho hc => k.obj x o h1 h2 (h.obj x o h1 h2 ho hc) hc⟩
theorem KeepM.cell {m f : Nat} {w w' : World} (k : KeepM m f w w') (a : Addr) (v : Value) (h1 : a.block ≠ m) (h2 : a.block ≠ f) (hv : w.cell? a = some v) : w'.cell? a = some v := by
  obtain ⟨o, e1, e2⟩ := cells_of_cell hv
  exact (World.cell?_of_block ((k.obj _ _ h1 h2 e1 e2).trans e1.symm)).trans hv
theorem KeepM.of_below {m f B : Nat} {w w' : World} (h : Below B w w') (hB : w.heap.size ≤ B) : KeepM m f w w' :=
  ⟨h.size, fun k _ _ _ ho _ => (h.block k (Nat.lt_of_lt_of_le (Array.getElem?_eq_some_iff.1 ho).1 hB)).trans ho⟩
theorem KeepM.put {m f : Nat} (W : World) (l : Nat) (o o' : Obj) (hl : W.heap[l]? = some o) (ho : o.isCells = false) : KeepM m f W (W.putObj l o') := by
  refine ⟨by simp [World.putObj], fun k x _ _ hx hc => ?_⟩
  by_cases e : k = l
  · subst e; rw [hl] at hx; cases hx; rw [ho] at hc; cases hc
  · exact (World.putObj_heap_other e).trans hx

theorem YieldAt.any {m m' : Nat} {P : Program} {l : Nat} {args : Array Value} {W : World} {R : Ending → World → Prop} (h : YieldAt Fence.wide m P l args W R) : YieldAt Fence.wide m' P l args W R := by
  obtain ⟨fn, tmps, assign, body, hy, h1, h2⟩ := h
  exact ⟨fn, tmps, assign, body, hy, h1, fun c cs _ => h2 c cs (room_wide _)⟩

set_option maxRecDepth 100000 in
set_option maxHeartbeats 2000000 in
theorem visitLeaf (m f l : Nat) (o i : Int) (x : ByteArray) (p : Option Addr) (n q : Nat) (W : World) (R : World → Prop) (hm : m < W.heap.size) (hf : f < W.heap.size)
    (hY : ∀ W1, Below W.heap.size W W1 → YieldAt Fence.wide 4 Tryd.prog l #[.agg #[.int .i64 o, .string x, .int .i64 i, .slice p n q, .slice none 0 0]] W1 fun e W' => e = .returned (.bool true) ∧ R W' ∧ KeepM m f W1 W') :
    CallsIn Fence.wide 5 Tryd.prog 42 #[.agg #[.int .i64 o, .string x, .int .i64 i, .slice p n q, .slice none 0 0], .func (.yield l) #[] #[]] W fun e W' => e = .returned (.bool true) ∧ R W' ∧ KeepM m f W W' := by
  have hb := below_alloc W (Obj.cells #[.int .i64 o, .string x, .int .i64 i, .slice p n q, .slice none 0 0] 25)
  have r0 := heap_alloc_new W (Obj.cells #[.int .i64 o, .string x, .int .i64 i, .slice p n q, .slice none 0 0] 25)
  obtain ⟨fn, tmps, assign, body, hy, hR⟩ := hY _ hb
  obtain ⟨x0, x1, x2, x3, x4⟩ := fiveT r0
  have R0 := Lib.hid r0
  have K0 : Hid (KeepM m f W (W.alloc (Obj.cells #[.int .i64 o, .string x, .int .i64 i, .slice p n q, .slice none 0 0] 25))) := KeepM.of_below hb (Nat.le_refl _)
  have HM := Lib.hid hm
  have HF := Lib.hid hf
  clear hY hb r0 hm hf
  refine callsIn_of_wp Tryd.func42 rfl trivial ?_ rfl
  simp only [Tryd.ntmps42, List.size_toArray, List.length_cons, List.length_nil, Nat.reduceAdd, Nat.reduceSub, Array.replicate_succ, Array.replicate_zero, List.push_toArray, List.append_toArray, List.nil_append, List.cons_append]
  gi_wp2_with fail
  refine hR.mono ?_
  rintro e w3 ⟨rfl, hr3, hk3⟩
  have r3 := hk3.obj _ _ (by have := HM.out; omega) (by have := HF.out; omega) R0.out rfl
  clear x0 x1 x2 x3 x4 hR hy
  obtain ⟨x0, x1, x2, x3, x4⟩ := fiveT r3
  have K3 := Lib.hid (K0.out.trans hk3)
  have HR3 := Lib.hid hr3
  clear r3 hk3 hr3
  gi_wp2_with fail
  gi_loopw [14] (fun j wr => j = .int .i64 0 ∧ wr = w3) (fun _ _ => 0)
  case atStart => exact ⟨rfl, rfl⟩
  case round =>
    obtain ⟨rfl, rfl⟩ := hrel
    gi_wp2_with fail
    go_ret
    exact ⟨rfl, HR3.out, K3.out⟩


abbrev lfV (o i : Int) (x : ByteArray) (p : Option Addr) (n q : Nat) : Value := .agg #[.int .i64 o, .string x, .int .i64 i, .slice p n q, .slice none 0 0]
abbrev ndV (F : ByteArray) (g c : Nat) : Value := .agg #[.int .i64 1, .string F, .int .i64 0, .slice none 0 0, .slice (some ⟨g, 0, none⟩) 2 c]

/-- two leaves in a block -/
def LvAt (w : World) (g : Nat) (o1 i1 : Int) (x1 : ByteArray) (p1 : Option Addr) (n1 q1 : Nat) (o2 i2 : Int) (x2 : ByteArray) (p2 : Option Addr) (n2 q2 : Nat) : Prop :=
  (w.cell? ⟨g, 0, none⟩ = some (.int .i64 o1) ∧ w.cell? ⟨g, 1, none⟩ = some (.string x1) ∧ w.cell? ⟨g, 2, none⟩ = some (.int .i64 i1) ∧ w.cell? ⟨g, 3, none⟩ = some (.slice p1 n1 q1) ∧ w.cell? ⟨g, 4, none⟩ = some (.slice none 0 0)) ∧
  (w.cell? ⟨g, 5, none⟩ = some (.int .i64 o2) ∧ w.cell? ⟨g, 6, none⟩ = some (.string x2) ∧ w.cell? ⟨g, 7, none⟩ = some (.int .i64 i2) ∧ w.cell? ⟨g, 8, none⟩ = some (.slice p2 n2 q2) ∧ w.cell? ⟨g, 9, none⟩ = some (.slice none 0 0))

theorem LvAt.keepM {m f : Nat} {w w' : World} {g : Nat} {o1 i1 : Int} {x1 : ByteArray} {p1 : Option Addr} {n1 q1 : Nat} {o2 i2 : Int} {x2 : ByteArray} {p2 : Option Addr} {n2 q2 : Nat} (h : LvAt w g o1 i1 x1 p1 n1 q1 o2 i2 x2 p2 n2 q2) (k : KeepM m f w w') (h1 : g ≠ m) (h2 : g ≠ f) : LvAt w' g o1 i1 x1 p1 n1 q1 o2 i2 x2 p2 n2 q2 := by
  obtain ⟨⟨a0, a1, a2, a3, a4⟩, b0, b1, b2, b3, b4⟩ := h
  have c : ∀ i u, w.cell? ⟨g, i, none⟩ = some u → w'.cell? ⟨g, i, none⟩ = some u := fun i u hc => k.cell ⟨g, i, none⟩ u h1 h2 hc
  exact ⟨⟨c _ _ a0, c _ _ a1, c _ _ a2, c _ _ a3, c _ _ a4⟩, c _ _ b0, c _ _ b1, c _ _ b2, c _ _ b3, c _ _ b4⟩

def preV (nd l1 l2 : Value) : Nat → List Value
  | 0 => [nd]
  | 1 => [nd, l1]
  | _ => [nd, l1, l2]

set_option maxRecDepth 100000 in
set_option maxHeartbeats 2000000 in
theorem visitFun (m f l : Nat) (F : ByteArray) (g c : Nat) (o1 i1 : Int) (x1 : ByteArray) (p1 : Option Addr) (n1 q1 : Nat) (o2 i2 : Int) (x2 : ByteArray) (p2 : Option Addr) (n2 q2 : Nat) (J : List Value → World → Prop) (B : Nat) (W : World)
    (hJ : ∀ s A C, J s A → Below B A C → J s C) (hB : B ≤ W.heap.size) (hm : m < B) (hf : f < B) (hgm : g ≠ m) (hgf : g ≠ f) (hT : LvAt W g o1 i1 x1 p1 n1 q1 o2 i2 x2 p2 n2 q2)
    (hY : ∀ pre x W1, (x = ndV F g c ∨ x = lfV o1 i1 x1 p1 n1 q1 ∨ x = lfV o2 i2 x2 p2 n2 q2) → J pre W1 → YieldAt Fence.wide 4 Tryd.prog l #[x] W1 fun e W' => e = .returned (.bool true) ∧ J (pre ++ [x]) W' ∧ KeepM m f W1 W')
    (h0 : J [] W) :
    CallsIn Fence.wide 5 Tryd.prog 42 #[ndV F g c, .func (.yield l) #[] #[]] W fun e W' => e = .returned (.bool true) ∧ J [ndV F g c, lfV o1 i1 x1 p1 n1 q1, lfV o2 i2 x2 p2 n2 q2] W' := by
  have hb := below_alloc W (Obj.cells #[.int .i64 1, .string F, .int .i64 0, .slice none 0 0, .slice (some ⟨g, 0, none⟩) 2 c] 25)
  have r0 := heap_alloc_new W (Obj.cells #[.int .i64 1, .string F, .int .i64 0, .slice none 0 0, .slice (some ⟨g, 0, none⟩) 2 c] 25)
  obtain ⟨fn, tmps, assign, body, hy, hR⟩ := hY [] (ndV F g c) _ (.inl rfl) (hJ _ _ _ h0 (hb.mono hB))
  obtain ⟨a0, a1, a2, a3, a4⟩ := fiveT r0
  have R0 := Lib.hid r0
  have K0 : Hid (KeepM m f W (W.alloc (Obj.cells #[.int .i64 1, .string F, .int .i64 0, .slice none 0 0, .slice (some ⟨g, 0, none⟩) 2 c] 25))) := KeepM.of_below hb (Nat.le_refl _)
  have HM : Hid (W.heap.size ≠ m ∧ W.heap.size ≠ f) := ⟨by omega, by omega⟩
  have HG : Hid (g ≠ m ∧ g ≠ f) := ⟨hgm, hgf⟩
  have HMF : Hid (m < W.heap.size ∧ f < W.heap.size) := ⟨by omega, by omega⟩
  have HB := Lib.hid hB
  have HT := Lib.hid hT
  have HY := Lib.hid hY
  have HJ := Lib.hid hJ
  clear hb r0 hY hJ h0 hT hm hf hgm hgf hB
  refine callsIn_of_wp Tryd.func42 rfl trivial ?_ rfl
  simp only [Tryd.ntmps42, List.size_toArray, List.length_cons, List.length_nil, Nat.reduceAdd, Nat.reduceSub, Array.replicate_succ, Array.replicate_zero, List.push_toArray, List.append_toArray, List.nil_append, List.cons_append]
  gi_wp2_with fail
  refine hR.mono ?_
  rintro e w3 ⟨rfl, hr3, hk3⟩
  have r3 := hk3.obj _ _ HM.out.1 HM.out.2 R0.out rfl
  clear a0 a1 a2 a3 a4 hR hy
  obtain ⟨a0, a1, a2, a3, a4⟩ := fiveT r3
  have K3 := Lib.hid (K0.out.trans hk3)
  have HR3 : Hid (J (preV (ndV F g c) (lfV o1 i1 x1 p1 n1 q1) (lfV o2 i2 x2 p2 n2 q2) 0) w3) := hr3
  clear r3 hk3 hr3
  gi_wp2_with fail
  clear a0 a1 a2 a3 a4
  gi_loopw [14] (fun j wr => ∃ k : Nat, k ≤ 2 ∧ j = .int .i64 (k : Nat) ∧ J (preV (ndV F g c) (lfV o1 i1 x1 p1 n1 q1) (lfV o2 i2 x2 p2 n2 q2) k) wr ∧ KeepM m f W wr) (fun j _ => 2 - (intOf j).toNat)
  case atStart => exact ⟨0, by omega, rfl, HR3.out, K3.out⟩
  case round =>
    obtain ⟨k, hk, rfl, hj, hK⟩ := hrel
    have HJR := Lib.hid hj
    have HK := Lib.hid hK
    have hT := HT.out.keepM hK HG.out.1 HG.out.2
    have hsz := Lib.hid hK.size
    clear hj hK
    by_cases h2 : k = 2
    · subst h2
      gi_wp2_with fail
      go_ret
      exact ⟨rfl, HJR.out⟩
    · by_cases h1 : k = 1
      · subst h1
        obtain ⟨_, y0, y1, y2, y3, y4⟩ := hT
        have hb := below_alloc wr (Obj.cells #[.int .i64 o2, .string x2, .int .i64 i2, .slice p2 n2 q2, .slice none 0 0] 25)
        have hb' := hb.mono (Nat.le_trans HB.out hsz.out)
        have VL := Lib.hid (visitLeaf m f l o2 i2 x2 p2 n2 q2 (wr.alloc (Obj.cells #[.int .i64 o2, .string x2, .int .i64 i2, .slice p2 n2 q2, .slice none 0 0] 25)) (J (preV (ndV F g c) (lfV o1 i1 x1 p1 n1 q1) (lfV o2 i2 x2 p2 n2 q2) 2)) (by have := HMF.out.1; have := hsz.out; have := hb.size; omega) (by have := HMF.out.2; have := hsz.out; have := hb.size; omega) (fun W1 hW1 => HY.out _ _ W1 (.inr (.inr rfl)) (HJ.out _ _ _ HJR.out (hb'.trans (hW1.mono (Nat.le_trans (Nat.le_trans HB.out hsz.out) hb.size))))))
        have KB : Hid (KeepM m f W (wr.alloc (Obj.cells #[.int .i64 o2, .string x2, .int .i64 i2, .slice p2 n2 q2, .slice none 0 0] 25))) := HK.out.trans (KeepM.of_below hb (Nat.le_refl _))
        obtain ⟨z0, z1, z2, z3, z4⟩ := fiveT (heap_alloc_new wr (Obj.cells #[.int .i64 o2, .string x2, .int .i64 i2, .slice p2 n2 q2, .slice none 0 0] 25))
        clear hb hb'
        gi_wp2_with fail
        refine ⟨trivial, (callsIn_wide.2 (callsIn_wide.1 VL.out)).mono ?_⟩
        rintro e w4 ⟨rfl, hr4, hk4⟩
        have K4 := Lib.hid (KB.out.trans hk4)
        have HR4 := Lib.hid hr4
        clear hk4 hr4 y0 y1 y2 y3 y4 z0 z1 z2 z3 z4
        gi_wp2_with fail
        go_roundw
        case rel => exact ⟨2, by omega, by go_num, HR4.out, K4.out⟩
        case measure => simp [intOf]
      · have h0 : k = 0 := by omega
        subst h0
        obtain ⟨⟨y0, y1, y2, y3, y4⟩, _⟩ := hT
        have hb := below_alloc wr (Obj.cells #[.int .i64 o1, .string x1, .int .i64 i1, .slice p1 n1 q1, .slice none 0 0] 25)
        have hb' := hb.mono (Nat.le_trans HB.out hsz.out)
        have VL := Lib.hid (visitLeaf m f l o1 i1 x1 p1 n1 q1 (wr.alloc (Obj.cells #[.int .i64 o1, .string x1, .int .i64 i1, .slice p1 n1 q1, .slice none 0 0] 25)) (J (preV (ndV F g c) (lfV o1 i1 x1 p1 n1 q1) (lfV o2 i2 x2 p2 n2 q2) 1)) (by have := HMF.out.1; have := hsz.out; have := hb.size; omega) (by have := HMF.out.2; have := hsz.out; have := hb.size; omega) (fun W1 hW1 => HY.out _ _ W1 (.inr (.inl rfl)) (HJ.out _ _ _ HJR.out (hb'.trans (hW1.mono (Nat.le_trans (Nat.le_trans HB.out hsz.out) hb.size))))))
        have KB : Hid (KeepM m f W (wr.alloc (Obj.cells #[.int .i64 o1, .string x1, .int .i64 i1, .slice p1 n1 q1, .slice none 0 0] 25))) := HK.out.trans (KeepM.of_below hb (Nat.le_refl _))
        obtain ⟨z0, z1, z2, z3, z4⟩ := fiveT (heap_alloc_new wr (Obj.cells #[.int .i64 o1, .string x1, .int .i64 i1, .slice p1 n1 q1, .slice none 0 0] 25))
        clear hb hb'
        gi_wp2_with fail
        refine ⟨trivial, (callsIn_wide.2 (callsIn_wide.1 VL.out)).mono ?_⟩
        rintro e w4 ⟨rfl, hr4, hk4⟩
        have K4 := Lib.hid (KB.out.trans hk4)
        have HR4 := Lib.hid hr4
        clear hk4 hr4 y0 y1 y2 y3 y4 z0 z1 z2 z3 z4
        gi_wp2_with fail
        go_roundw
        case rel => exact ⟨1, by omega, by go_num, HR4.out, K4.out⟩
        case measure => simp [intOf]

theorem nodes_any (o i : Int) (x : ByteArray) (p : Option Addr) (n q : Nat) (p' : Option Addr) (n' q' : Nat) (w : World) :
    Calls Tryd.prog 30 #[.agg #[.int .i64 o, .string x, .int .i64 i, .slice p n q, .slice p' n' q']] w fun e w' => e = .returned (.func (.func 41) #[] #[.pointer (some ⟨w.heap.size, 0, none⟩)]) ∧ w' = w.alloc (Obj.cells #[.int .i64 o, .string x, .int .i64 i, .slice p n q, .slice p' n' q'] 25) := by
  go_enter Tryd.func30, Tryd.ntmps30
  go_wp2
  go_ret
  exact ⟨rfl, rfl⟩

set_option maxRecDepth 100000 in
theorem nodes_seq (m f k : Nat) (F : ByteArray) (g c : Nat) (o1 i1 : Int) (x1 : ByteArray) (p1 : Option Addr) (n1 q1 : Nat) (o2 i2 : Int) (x2 : ByteArray) (p2 : Option Addr) (n2 q2 : Nat) (W : World)
    (hm : m < W.heap.size) (hf : f < W.heap.size) (hgm : g ≠ m) (hgf : g ≠ f) (hT : LvAt W g o1 i1 x1 p1 n1 q1 o2 i2 x2 p2 n2 q2) (hk : W.heap[k]? = some (.cells #[.int .i64 1, .string F, .int .i64 0, .slice none 0 0, .slice (some ⟨g, 0, none⟩) 2 c] 25 (0, 0))) :
    SeqB Fence.wide 5 Tryd.prog 41 #[.pointer (some ⟨k, 0, none⟩)] (fun x : Value => #[x]) (KeepM m f) (fun x => x = ndV F g c ∨ x = lfV o1 i1 x1 p1 n1 q1 ∨ x = lfV o2 i2 x2 p2 n2 q2) (fun xs => xs = [ndV F g c, lfV o1 i1 x1 p1 n1 q1, lfV o2 i2 x2 p2 n2 q2]) W := by
  intro l J hJ hY h0
  have VF := Lib.hid (visitFun m f l F g c o1 i1 x1 p1 n1 q1 o2 i2 x2 p2 n2 q2 J W.heap.size W hJ (Nat.le_refl _) hm hf hgm hgf hT hY h0)
  obtain ⟨y0, y1, y2, y3, y4⟩ := fiveT hk
  clear hJ hY h0 hT hk
  refine callsIn_of_wp Tryd.func41 rfl trivial ?_ rfl
  simp only [Tryd.ntmps41, List.size_toArray, List.length_cons, List.length_nil, Nat.reduceAdd, Nat.reduceSub, Array.replicate_succ, Array.replicate_zero, List.push_toArray, List.append_toArray, List.nil_append, List.cons_append]
  gi_wp2_with fail
  refine ⟨trivial, (callsIn_wide.2 (callsIn_wide.1 VF.out)).mono ?_⟩
  rintro e w4 ⟨rfl, hr4⟩
  have HR4 := Lib.hid hr4
  clear hr4
  gi_wp2_with fail
  go_end0
  exact ⟨⟨_, rfl⟩, _, rfl, HR4.out⟩
end Go.Proofs.YtkmoepabnnjoaaaDoor

/- types.MaxIndex 14 of a function type of two leaves. -/
namespace Go.Proofs.YtkmoepabnnjoaaaDoor
open Go.RowKit Go.WideMaps Go.Shelf Go.Lib
attribute [local go_sem] Oper.semAt_some

/-- what the body of MaxIndex's loop keeps -/
def MxI (w : World) (lf : Value) (pre : List Value) (W : World) : Prop :=
  ∃ b : Bool, W.heap[w.heap.size + 1]? = some (.cells #[.int .i64 (if b then 0 else -1)] 3 (0, 0)) ∧ W.heap[w.heap.size + 1 + 1]? = some (.cells #[.bool b] 4 (0, 0)) ∧ (lf ∈ pre → b = true) ∧ Below w.heap.size w W

theorem MxI.same {w W : World} {lf x : Value} {pre : List Value} (h : MxI w lf pre W) (hx : x ≠ lf) : MxI w lf (pre ++ [x]) W := by
  obtain ⟨b, h1, h2, h3, h4⟩ := h
  refine ⟨b, h1, h2, fun hm => ?_, h4⟩
  rcases List.mem_append.1 hm with h | h
  · exact h3 h
  · simp at h; exact absurd h.symm hx

set_option maxRecDepth 100000 in
set_option maxHeartbeats 2000000 in
theorem maxIndex_fun (F : ByteArray) (g c : Nat) (x1 : ByteArray) (p1 : Option Addr) (n1 q1 : Nat) (x2 : ByteArray) (i2 : Int) (p2 : Option Addr) (n2 q2 : Nat) (w : World) (hg : g < w.heap.size) (hT : LvAt w g 3 0 x1 p1 n1 q1 1 i2 x2 p2 n2 q2) :
    Calls Tryd.prog 14 #[ndV F g c] w fun e w' => e = .returned (.int .i64 0) ∧ Below w.heap.size w w' := by
  obtain ⟨y0, y1, y2, y3, y4⟩ := fiveT (heap_alloc_new w (Obj.cells #[.int .i64 1, .string F, .int .i64 0, .slice none 0 0, .slice (some ⟨g, 0, none⟩) 2 c] 25))
  have HT := Lib.hid hT
  have HG := Lib.hid hg
  clear hT hg
  refine callsIn_wide.1 (callsIn_of_wp_marks (n := 8) Tryd.func14 rfl trivial (wpIn_wide.2 ?_) rfl)
  simp only [Tryd.ntmps14, List.size_toArray, List.length_cons, List.length_nil, Nat.reduceAdd, Nat.reduceSub, Array.replicate_succ, Array.replicate_zero, List.push_toArray, List.append_toArray, List.nil_append, List.cons_append]
  go_wp2_with fail
  refine (nodes_any _ _ _ _ _ _ _ _ _ _).mono ?_
  rintro e w2 ⟨rfl, rfl⟩
  clear y0 y1 y2 y3 y4
  go_wp2_with fail
  have b1 := below_alloc w (Obj.cells #[.int .i64 1, .string F, .int .i64 0, .slice none 0 0, .slice (some ⟨g, 0, none⟩) 2 c] 25)
  generalize hw1 : w.alloc (Obj.cells #[.int .i64 1, .string F, .int .i64 0, .slice none 0 0, .slice (some ⟨g, 0, none⟩) 2 c] 25) = w1 at *
  have z1 : w1.heap.size = w.heap.size + 1 := by rw [← hw1]; simp
  have b2 := below_alloc w1 (Obj.cells #[.int .i64 (-1)] 3)
  have r2 := heap_alloc_new w1 (Obj.cells #[.int .i64 (-1)] 3)
  generalize hw2 : w1.alloc (Obj.cells #[.int .i64 (-1)] 3) = w2 at *
  have z2 : w2.heap.size = w.heap.size + 2 := by rw [← hw2]; simp [z1]
  have b3 := below_alloc w2 (Obj.cells #[.bool false] 4)
  have r3 := heap_alloc_new w2 (Obj.cells #[.bool false] 4)
  generalize hw3 : w2.alloc (Obj.cells #[.bool false] 4) = w3 at *
  have z3 : w3.heap.size = w.heap.size + 3 := by rw [← hw3]; simp [z2]
  have b4 := below_alloc w3 (Obj.cells #[.int .i64 1, .string F, .int .i64 0, .slice none 0 0, .slice (some ⟨g, 0, none⟩) 2 c] 25)
  have r4 := heap_alloc_new w3 (Obj.cells #[.int .i64 1, .string F, .int .i64 0, .slice none 0 0, .slice (some ⟨g, 0, none⟩) 2 c] 25)
  generalize hw4 : w3.alloc (Obj.cells #[.int .i64 1, .string F, .int .i64 0, .slice none 0 0, .slice (some ⟨g, 0, none⟩) 2 c] 25) = w4 at *
  have z4 : w4.heap.size = w.heap.size + 4 := by rw [← hw4]; simp [z3]
  rw [z1] at r2 b2
  rw [z2] at r3 b3
  rw [z3] at r4 b4
  have hM : w4.heap[w.heap.size + 1]? = some (Obj.cells #[.int .i64 (-1)] 3) := (b4.block _ (by omega)).trans ((b3.block _ (by omega)).trans r2)
  have hF : w4.heap[w.heap.size + 1 + 1]? = some (Obj.cells #[.bool false] 4) := (b4.block _ (by omega)).trans r3
  have hB4 : Below w.heap.size w w4 := b1.trans ((b2.mono (by omega)).trans ((b3.mono (by omega)).trans (b4.mono (by omega))))
  have HT4 : Hid (LvAt w4 g 3 0 x1 p1 n1 q1 1 i2 x2 p2 n2 q2) := HT.out.keepM (KeepM.of_below (m := w.heap.size + 1) (f := w.heap.size + 1 + 1) hB4 (Nat.le_refl _)) (by have := HG.out; omega) (by have := HG.out; omega)
  have HK4 := Lib.hid r4
  have HB4 := Lib.hid hB4
  have HM4 := Lib.hid hM
  have HF4 := Lib.hid hF
  have Z3 := Lib.hid z3
  have Z4 := Lib.hid z4
  clear b1 b2 b3 b4 r2 r3 r4 z1 z2 z3 hw1 hw2 hw3 hw4 hM hF hB4 HT
  refine (wpIn_wide (n := 6)).1 (wpIn_rangeFunc_BA (n := 6) (α := Value) (ps := #[8]) rfl (by omega) (gf := 41) (lb := #[.pointer (some ⟨w.heap.size + 3, 0, none⟩)]) rfl trivial (enters_of Tryd.func41 (by kernel_rfl) rfl)
    (encs := fun x : Value => #[x]) (Kp := KeepM (w.heap.size + 1) (w.heap.size + 1 + 1)) (Ok := fun x => x = ndV F g c ∨ x = lfV 3 0 x1 p1 n1 q1 ∨ x = lfV 1 i2 x2 p2 n2 q2) (S := fun xs => xs = [ndV F g c, lfV 3 0 x1 p1 n1 q1, lfV 1 i2 x2 p2 n2 q2]) ?hseq
    (fun h k => h.trans k) (fun W l o o' _ hl ho => KeepM.put W l o o' hl ho) (fun _ => rfl)
    (MxI w (lfV 3 0 x1 p1 n1 q1)) ?hI ?h0 (fun x => Obj.cells x.cells 25) (fun W x _ => KeepM.of_below (below_alloc W _) (Nat.le_refl _))
    (fun x k => { tmps := #[ndV F g c, .pointer (some ⟨w.heap.size, 0, none⟩), .int .i64 0, .pointer (some ⟨w.heap.size + 1, 0, none⟩), .pointer (some ⟨w.heap.size + 1 + 1, 0, none⟩), .pointer (some ⟨k, 0, none⟩), ndV F g c, .func (.func 41) #[] #[.pointer (some ⟨w.heap.size + 3, 0, none⟩)], x, undef, undef, undef, undef, undef, undef, undef, undef, undef, undef, undef, undef, undef, undef, undef, undef], defers := [] })
    ?assign ?body ?done)
  case assign =>
    intro l x W K hx hK
    rcases hx with rfl | rfl | rfl
    · gi_wp2
      exact hK
    · gi_wp2
      exact hK
    · gi_wp2
      exact hK
  case hseq =>
    intro W hbW
    have hz := hbW.size
    have z := Z4.out
    refine nodes_seq (w.heap.size + 1) (w.heap.size + 1 + 1) (w.heap.size + 3) F g c 3 0 x1 p1 n1 q1 1 i2 x2 p2 n2 q2 W (by omega) (by omega) (by have := HG.out; omega) (by have := HG.out; omega) ?_ ((hbW.block _ (by omega)).trans HK4.out)
    exact HT4.out.keepM (KeepM.of_below (m := w.heap.size + 1) (f := w.heap.size + 1 + 1) hbW (Nat.le_refl _)) (by have := HG.out; omega) (by have := HG.out; omega)
  case hI =>
    rintro pre A C ⟨b, h1, h2, h3, h4⟩ hb
    exact ⟨b, (hb.block _ (by have := Z4.out; omega)).trans h1, (hb.block _ (by have := Z4.out; omega)).trans h2, h3, h4.trans (hb.mono (by have := Z4.out; omega))⟩
  case h0 => exact ⟨false, HM4.out, HF4.out, fun h => by simp at h, HB4.out⟩
  case body =>
    rintro l pre x k W hox ⟨b, h1, h2, h3, h4⟩ hk hbk
    have hI := Lib.hid (show MxI w (lfV 3 0 x1 p1 n1 q1) pre W from ⟨b, h1, h2, h3, h4⟩)
    have H4 := Lib.hid h4
    rcases hox with rfl | rfl | rfl
    · obtain ⟨a0, a1, a2, a3, a4⟩ := fiveT (w := W) hbk
      clear h1 h2 h3 h4
      gi_wp2_with fail
      exact ⟨⟨Nat.le_refl _, fun _ _ _ h _ => h⟩, KeepM.refl _ _ _, hI.out.same (by simp)⟩
    · obtain ⟨a0, a1, a2, a3, a4⟩ := fiveT (w := W) hbk
      have e0 : W.cell? ⟨w.heap.size + 1, 0, none⟩ = some (.int .i64 (if b then 0 else -1)) := by rw [cell_of_row _ _ 0 _ _ _ h1]; rfl
      have e1 : W.cell? ⟨w.heap.size + 1 + 1, 0, none⟩ = some (.bool b) := by rw [cell_of_row _ _ 0 _ _ _ h2]; rfl
      cases b with
      | true =>
        have hi : Hid (MxI w (lfV 3 0 x1 p1 n1 q1) (pre ++ [lfV 3 0 x1 p1 n1 q1]) W) := ⟨true, h1, h2, fun _ => rfl, h4⟩
        clear h1 h2 h3 h4
        simp only [if_true] at e0
        gi_wp2_with fail
        exact ⟨⟨Nat.le_refl _, fun _ _ _ h _ => h⟩, KeepM.refl _ _ _, hi.out⟩
      | false =>
        have f0 := frozen_of_row W _ 0 _ _ h1
        have f1 := frozen_of_row W _ 0 _ _ h2
        have H1 := Lib.hid h1
        have H2 := Lib.hid h2
        clear h1 h2 h3 h4
        simp only [Bool.false_eq_true, if_false] at e0
        gi_wp2_with fail
        have n1 : w.heap.size + 1 + 1 ≠ w.heap.size + 1 := by omega
        have q1 : ((W.setCell ⟨w.heap.size + 1, 0, none⟩ (.int .i64 0)).setCell ⟨w.heap.size + 1 + 1, 0, none⟩ (.bool true)).heap[w.heap.size + 1]? = some (.cells #[.int .i64 0] 3 (0, 0)) :=
          (heap_setCell_other _ _ _ _ n1.symm).trans (heap_setCell_same W _ 0 _ 3 _ H1.out)
        have q2 : ((W.setCell ⟨w.heap.size + 1, 0, none⟩ (.int .i64 0)).setCell ⟨w.heap.size + 1 + 1, 0, none⟩ (.bool true)).heap[w.heap.size + 1 + 1]? = some (.cells #[.bool true] 4 (0, 0)) :=
          heap_setCell_same _ _ 0 _ 4 _ ((heap_setCell_other _ _ _ _ n1).trans H2.out)
        have k1 := (KeepsOthers.setCell W ⟨w.heap.size + 1, 0, none⟩ (.int .i64 0)).from w4.heap.size
        have k2 := (KeepsOthers.setCell (W.setCell ⟨w.heap.size + 1, 0, none⟩ (.int .i64 0)) ⟨w.heap.size + 1 + 1, 0, none⟩ (.bool true)).from w4.heap.size
        have hb := (H4.out.setCell (p := ⟨w.heap.size + 1, 0, none⟩) (by show w.heap.size ≤ w.heap.size + 1; omega) (.int .i64 0)).setCell (p := ⟨w.heap.size + 1 + 1, 0, none⟩) (by show w.heap.size ≤ w.heap.size + 1 + 1; omega) (.bool true)
        refine ⟨⟨Nat.le_trans k1.size k2.size, fun a o h1 h2 h3 => k2.same a o h1 (k1.same a o h1 h2 h3) h3⟩, ⟨Nat.le_trans k1.size k2.size, fun a o h1 h2 h3 _ => ?_⟩, ⟨true, q1, q2, fun _ => rfl, hb⟩⟩
        exact (heap_setCell_other _ _ _ _ h2).trans ((heap_setCell_other _ _ _ _ h1).trans h3)
    · obtain ⟨a0, a1, a2, a3, a4⟩ := fiveT (w := W) hbk
      clear h1 h2 h3 h4
      gi_wp2_with fail
      exact ⟨⟨Nat.le_refl _, fun _ _ _ h _ => h⟩, KeepM.refl _ _ _, hI.out.same (by simp)⟩
  case done =>
    rintro D xs W hD rfl ⟨b, h1, h2, h3, h4⟩ hK
    have hb := h3 (by simp)
    subst hb
    have e0 : W.cell? ⟨w.heap.size + 1, 0, none⟩ = some (.int .i64 0) := by rw [cell_of_row _ _ 0 _ _ _ h1]; rfl
    have HH4 := Lib.hid h4
    clear h1 h2 h3 h4
    have hWK : Below w4.heap.size W (W.putObj D (.deferred none)) := below_put W D _ hK hD
    go_wp2_with fail
    refine ⟨by simp, .inl ⟨_, _, rfl, run_takeDeferred hK, ?_⟩⟩
    refine ⟨_, results_tmp rfl _ _ _, ?_⟩
    exact ⟨rfl, HH4.out.trans (hWK.mono (by have := Z4.out; omega))⟩
end Go.Proofs.YtkmoepabnnjoaaaDoor
