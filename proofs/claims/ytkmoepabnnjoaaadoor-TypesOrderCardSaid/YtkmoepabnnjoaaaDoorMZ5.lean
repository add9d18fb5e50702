/- upward: the classes above a class. -/
import Derived.Test.YtkmoepabnnjoaaaDoorMZ3
import Derived.Test.YtkmoepabnnjoaaaDoorMZ4
import Derived.Shelf.Abstract
import Derived.Shelf.RegionOpen
import Derived.OwnWalkIn
import Derived.TacticsInMore
import Derived.LoopNIn
import Derived.LoopIn
import Derived.Sort.LoopGhostIn
import Derived.Maps.AppendAt
import Derived.WalkSmall
namespace Go.Proofs.YtkmoepabnnjoaaaDoor
open Go.RowKit Go.WideMaps Go.Shelf
attribute [local go_sem] Oper.semAt_some

theorem wordsOf_snoc (ys : List Nat) (k j : Nat) : wordsOf (ys ++ [k]) j = if k / 64 = j then wordsOf ys j ||| 2 ^ (k % 64) else wordsOf ys j := by
  simp [wordsOf]

theorem wordsOf_mem (i : Nat) (ys : List Nat) : (wordsOf ys (i / 64)).testBit (i % 64) = decide (i ∈ ys) := by
  suffices h : ∀ n, ∀ ys : List Nat, ys.length = n → (wordsOf ys (i / 64)).testBit (i % 64) = decide (i ∈ ys) from h _ ys rfl
  intro n
  induction n with
  | zero => intro ys h; rw [List.length_eq_zero_iff.1 h]; simp [wordsOf]
  | succ n ih =>
    intro ys h
    rcases List.eq_nil_or_concat ys with rfl | ⟨zs, k, rfl⟩
    · simp at h
    · have hz : zs.length = n := by simp at h; omega
      rw [List.concat_eq_append, wordsOf_snoc]
      have e : (i ∈ zs ++ [k]) ↔ (i ∈ zs ∨ i = k) := by simp
      by_cases hk : k / 64 = i / 64
      · rw [if_pos hk, Nat.testBit_or, ih zs hz, Nat.testBit_two_pow, Bool.eq_iff_iff]
        have e2 : (k % 64 = i % 64) ↔ (i = k) := by omega
        simp only [Bool.or_eq_true, decide_eq_true_eq, e, e2]
      · rw [if_neg hk, ih zs hz, Bool.eq_iff_iff]
        have e2 : ¬ (i = k) := fun e' => hk (by rw [e'])
        simp only [decide_eq_true_eq, e, e2, or_false]

/-- the rows of supers, in blocks other than No -/
def SupAt (w : World) (No gb : Nat) (sup : Nat → List Nat) (m : Nat) : Prop :=
  gb ≠ No ∧ gb < w.heap.size ∧ ∃ sb so cap, w.cell? ⟨gb, 1, none⟩ = some (.slice (some ⟨sb, so, none⟩) m cap) ∧ sb ≠ No ∧ sb < w.heap.size ∧
    ∀ i, i < m → (sup i).length ≤ 20 ∧ ∃ a cap', w.cell? ⟨sb, so + i, none⟩ = some (.slice a (sup i).length cap') ∧
      (0 < (sup i).length → ∃ rb ro, a = some ⟨rb, ro, none⟩ ∧ rb ≠ No ∧ rb < w.heap.size ∧ ∀ j, j < (sup i).length → w.cell? ⟨rb, ro + j, none⟩ = some (.int .i64 (((sup i).getD j 0 : Nat) : Int)))

/-- every block of cells but one is as it was -/
structure KeepC (No : Nat) (w w' : World) : Prop where
  size : w.heap.size ≤ w'.heap.size
  obj : ∀ k o, k ≠ No → w.heap[k]? = some o → o.isCells = true → w'.heap[k]? = some o

theorem lt_of_cell {w : World} {a : Addr} {v : Value} (h : w.cell? a = some v) : a.block < w.heap.size := by
  unfold World.cell? at h
  cases hb : w.heap[a.block]? with
  | none => rw [hb] at h; simp at h
  | some o => exact (Array.getElem?_eq_some_iff.1 hb).1

theorem cells_of_cell {w : World} {a : Addr} {v : Value} (h : w.cell? a = some v) : ∃ o, w.heap[a.block]? = some o ∧ o.isCells = true := by
  unfold World.cell? at h
  cases hb : w.heap[a.block]? with
  | none => rw [hb] at h; simp at h
  | some o =>
    rw [hb] at h
    cases o <;> simp_all [Obj.isCells]

theorem KeepC.block {No : Nat} {w w' : World} (k : KeepC No w w') {a : Addr} {v : Value} (ha : a.block ≠ No) (hv : w.cell? a = some v) : w'.heap[a.block]? = w.heap[a.block]? := by
  obtain ⟨o, h1, h2⟩ := cells_of_cell hv
  rw [h1]; exact k.obj _ _ ha h1 h2
theorem KeepC.cell {No : Nat} {w w' : World} (k : KeepC No w w') (a : Addr) (v : Value) (ha : a.block ≠ No) (hv : w.cell? a = some v) : w'.cell? a = some v :=
  (World.cell?_of_block (k.block ha hv)).trans hv
theorem KeepC.frozen {No : Nat} {w w' : World} (k : KeepC No w w') (a : Addr) (v : Value) (ha : a.block ≠ No) (hv : w.cell? a = some v) : w'.frozen? a = w.frozen? a :=
  World.frozen?_of_block (k.block ha hv)

theorem SupAt.kept {w w' : World} {No gb : Nat} {sup : Nat → List Nat} {m : Nat} (h : SupAt w No gb sup m) (k : KeepC No w w') : SupAt w' No gb sup m := by
  obtain ⟨h1, h2, sb, so, cap, h3, h4, h5, h6⟩ := h
  refine ⟨h1, by have := k.size; omega, sb, so, cap, k.cell _ _ h1 h3, h4, by have := k.size; omega, fun i hi => ?_⟩
  obtain ⟨h7, a, cap', h8, h9⟩ := h6 i hi
  refine ⟨h7, a, cap', k.cell _ _ h4 h8, fun hl => ?_⟩
  obtain ⟨rb, ro, e, g1, g2, g3⟩ := h9 hl
  exact ⟨rb, ro, e, g1, by have := k.size; omega, fun j hj => k.cell _ _ g1 (g3 j hj)⟩

theorem KeepC.refl (No : Nat) (w : World) : KeepC No w w := ⟨Nat.le_refl _, fun _ _ _ h _ => h⟩
theorem KeepC.trans {No : Nat} {a b c : World} (h : KeepC No a b) (k : KeepC No b c) : KeepC No a c :=
  ⟨Nat.le_trans h.size k.size, fun x o hx ho hc => k.obj x o hx (h.obj x o hx ho hc) hc⟩
theorem KeepC.of_grown {No : Nat} {w w' : World} {row : Option Nat} (hg : w.grownBy w' row) (hr : ∀ r, row = some r → r = No ∨ w.heap.size ≤ r) : KeepC No w w' :=
  ⟨hg.size, fun k o hk ho _ => (hg.block k (Array.getElem?_eq_some_iff.1 ho).1 (fun e => by rcases hr _ e.symm with h | h; exact hk h; have := (Array.getElem?_eq_some_iff.1 ho).1; omega)).trans ho⟩
theorem KeepC.of_below {No : Nat} {w w' : World} (h : Below w.heap.size w w') : KeepC No w w' :=
  ⟨h.size, fun k _ _ ho _ => (h.block k (Array.getElem?_eq_some_iff.1 ho).1).trans ho⟩
theorem KeepC.put {No : Nat} (W : World) (l : Nat) (o o' : Obj) (hl : W.heap[l]? = some o) (ho : o.isCells = false) : KeepC No W (W.putObj l o') := by
  have hlt := (Array.getElem?_eq_some_iff.1 hl).1
  refine ⟨by simp [World.putObj], fun k x _ hx hc => ?_⟩
  by_cases e : k = l
  · subst e; rw [hl] at hx; cases hx; rw [ho] at hc; cases hc
  · exact (World.putObj_heap_other e).trans hx
theorem WordsAt.keepC {w w' : World} {b off No : Nat} {U : Nat → Nat} (h : WordsAt w b off U) (k : KeepC No w w') (hb : b ≠ No) : WordsAt w' b off U := by
  intro j hj
  obtain ⟨h1, h2, h3⟩ := h j hj
  exact ⟨k.cell _ _ hb h1, (k.frozen _ _ hb h1).trans h2, h3⟩
theorem ownsRow_keepC {w w' : World} {No base : Nat} {e : TypeId} {size n : Nat} {v : Value} {xs : List Value} (h : w.ownsRow base e size v n xs) (k : KeepC No w w') (hb : No < base) : w'.ownsRow base e size v n xs := by
  obtain ⟨h1, h2⟩ := h
  refine ⟨h1, ?_⟩
  rcases h2 with h2 | ⟨g, cap, cur, hv, hg, hh, r⟩
  · exact Or.inl h2
  · exact Or.inr ⟨g, cap, cur, hv, hg, k.obj _ _ (by omega) hh rfl, r⟩

end Go.Proofs.YtkmoepabnnjoaaaDoor

/- upward: the closure hands out what is above a class. -/
namespace Go.Proofs.YtkmoepabnnjoaaaDoor
open Go.RowKit Go.WideMaps Go.Shelf
attribute [local go_sem] Oper.semAt_some

/-- a class is above another one -/
inductive Reach (sup : Nat → List Nat) (c : Nat) : Nat → Prop
  | self : Reach sup c c
  | step {k s : Nat} : Reach sup c k → s ∈ sup k → Reach sup c s

/-- what holds between two rounds: handed out, waiting, seen -/
structure UpInv (sup : Nat → List Nat) (c : Nat) (pre wk seen : List Nat) : Prop where
  nodup : seen.Nodup
  le : ∀ x ∈ seen, x ≤ c
  perm : (wk ++ pre).Perm seen
  mem : c ∈ seen
  closed : ∀ x ∈ pre, ∀ s ∈ sup x, s ∈ seen
  reach : ∀ x ∈ seen, Reach sup c x

theorem nodup_le (c : Nat) : ∀ l : List Nat, l.Nodup → (∀ x ∈ l, x ≤ c) → l.length ≤ c + 1 := by
  induction c with
  | zero =>
    intro l hn hl
    match l with
    | [] => simp
    | [x] => simp
    | x :: y :: r =>
      have h1 := hl x (by simp); have h2 := hl y (by simp)
      have : x = y := by omega
      simp [this] at hn
  | succ c ih =>
    intro l hn hl
    have h1 := ih (l.erase (c + 1)) (hn.erase _) (fun x hx => by
      have h2 := hl x (List.mem_of_mem_erase hx)
      have h3 : x ≠ c + 1 := fun e => by subst e; exact (List.Nodup.not_mem_erase hn) hx
      omega)
    have := List.length_erase_le (a := c + 1) (l := l)
    have h4 : l.length ≤ (l.erase (c + 1)).length + 1 := by
      by_cases hm : c + 1 ∈ l
      · rw [List.length_erase_of_mem hm]; omega
      · rw [List.erase_of_not_mem hm]; omega
    omega

theorem UpInv.len {sup : Nat → List Nat} {c : Nat} {pre wk seen : List Nat} (h : UpInv sup c pre wk seen) : seen.length ≤ c + 1 ∧ wk.length + pre.length = seen.length := by
  refine ⟨nodup_le c seen h.nodup h.le, ?_⟩
  have := h.perm.length_eq
  simpa using this

theorem UpInv.start (sup : Nat → List Nat) (c : Nat) : UpInv sup c [] [c] [c] :=
  ⟨by simp, by simp, by simp, by simp, by simp, by intro x hx; simp at hx; subst hx; exact .self⟩

/-- what holds within a round: the class that was handed out last has given its first j supers -/
structure RowInv (sup : Nat → List Nat) (c : Nat) (pre : List Nat) (k j : Nat) (wk seen : List Nat) : Prop where
  nodup : seen.Nodup
  le : ∀ x ∈ seen, x ≤ c
  perm : (wk ++ (pre ++ [k])).Perm seen
  mem : c ∈ seen
  closed : ∀ x ∈ pre, ∀ s ∈ sup x, s ∈ seen
  row : ∀ s ∈ (sup k).take j, s ∈ seen
  reach : ∀ x ∈ seen, Reach sup c x

theorem UpInv.pop {sup : Nat → List Nat} {c : Nat} {pre wk seen : List Nat} {k : Nat} (h : UpInv sup c pre (wk ++ [k]) seen) : RowInv sup c pre k 0 wk seen :=
  ⟨h.nodup, h.le, by
    refine List.Perm.trans ?_ h.perm
    rw [List.append_assoc]
    exact List.Perm.append_left _ (List.perm_append_comm), h.mem, h.closed, by simp, h.reach⟩

theorem RowInv.len {sup : Nat → List Nat} {c k j : Nat} {pre wk seen : List Nat} (h : RowInv sup c pre k j wk seen) : seen.length ≤ c + 1 ∧ wk.length + pre.length + 1 = seen.length := by
  refine ⟨nodup_le c seen h.nodup h.le, ?_⟩
  have := h.perm.length_eq
  simp at this; omega

theorem RowInv.kmem {sup : Nat → List Nat} {c k j : Nat} {pre wk seen : List Nat} (h : RowInv sup c pre k j wk seen) : k ∈ seen := h.perm.subset (by simp)

theorem RowInv.skip {sup : Nat → List Nat} {c k j : Nat} {pre wk seen : List Nat} (h : RowInv sup c pre k j wk seen) (hj : j < (sup k).length) (hs : (sup k).getD j 0 ∈ seen) : RowInv sup c pre k (j + 1) wk seen :=
  ⟨h.nodup, h.le, h.perm, h.mem, h.closed, fun s hs' => by
    rw [take_snocD _ 0 _ hj] at hs'
    rcases List.mem_append.1 hs' with h1 | h1
    · exact h.row s h1
    · simp at h1; rw [h1]; simpa using hs, h.reach⟩

theorem RowInv.add {sup : Nat → List Nat} {c k j : Nat} {pre wk seen : List Nat} (h : RowInv sup c pre k j wk seen) (hj : j < (sup k).length) (hs : (sup k).getD j 0 ∉ seen) (hle : (sup k).getD j 0 ≤ c) :
    RowInv sup c pre k (j + 1) (wk ++ [(sup k).getD j 0]) (seen ++ [(sup k).getD j 0]) :=
  ⟨by rw [List.nodup_append]; exact ⟨h.nodup, by simp, fun a ha b hb => by simp at hb; subst hb; intro e; subst e; exact hs ha⟩,
   fun x hx => (List.mem_append.1 hx).elim (h.le x) (fun e => by simp at e; rw [e]; exact hle),
   by
    have h1 : ((wk ++ [(sup k).getD j 0]) ++ (pre ++ [k])).Perm ((wk ++ (pre ++ [k])) ++ [(sup k).getD j 0]) := by
      rw [List.append_assoc, List.append_assoc wk]
      exact List.Perm.append_left _ List.perm_append_comm
    exact h1.trans (h.perm.append_right _),
   List.mem_append_left _ h.mem, fun x hx s hs' => List.mem_append_left _ (h.closed x hx s hs'),
   fun s hs' => by
    rw [take_snocD _ 0 _ hj] at hs'
    rcases List.mem_append.1 hs' with h1 | h1
    · exact List.mem_append_left _ (h.row s h1)
    · exact List.mem_append_right _ h1,
   fun x hx => (List.mem_append.1 hx).elim (h.reach x) (fun e => by
    simp at e; rw [e]; exact .step (h.reach k h.kmem) (by simpa using getD_mem (sup k) 0 j hj))⟩

theorem RowInv.close {sup : Nat → List Nat} {c k : Nat} {pre wk seen : List Nat} (h : RowInv sup c pre k (sup k).length wk seen) : UpInv sup c (pre ++ [k]) wk seen :=
  ⟨h.nodup, h.le, h.perm, h.mem, fun x hx s hs => by
    rcases List.mem_append.1 hx with h1 | h1
    · exact h.closed x h1 s hs
    · simp at h1; subst h1; exact h.row s (by simpa using hs), h.reach⟩

theorem UpInv.done {sup : Nat → List Nat} {c : Nat} {pre seen : List Nat} (h : UpInv sup c pre [] seen) : ∀ x, x ∈ pre ↔ Reach sup c x := by
  have hp : pre.Perm seen := by simpa using h.perm
  intro x
  refine ⟨fun hx => h.reach x (hp.subset hx), fun hr => ?_⟩
  induction hr with
  | self => exact hp.symm.subset h.mem
  | step _ hs ih => exact hp.symm.subset (h.closed _ ih _ hs)

end Go.Proofs.YtkmoepabnnjoaaaDoor

/- upward: the walk of its closure. -/
namespace Go.Proofs.YtkmoepabnnjoaaaDoor
open Go.RowKit Go.WideMaps Go.Shelf
attribute [local go_sem] Oper.semAt_some

def ints (l : List Nat) : List Value := l.map fun n => Value.int .i64 ((n : Nat) : Int)

/-- every block of cells below a bound, but one, is as it was -/
structure KeepO (B No : Nat) (w w' : World) : Prop where
  size : w.heap.size ≤ w'.heap.size
  obj : ∀ k o, k < B → k ≠ No → w.heap[k]? = some o → o.isCells = true → w'.heap[k]? = some o
theorem KeepC.old {No : Nat} {w w' : World} (h : KeepC No w w') (B : Nat) : KeepO B No w w' := ⟨h.size, fun k o _ hk ho hc => h.obj k o hk ho hc⟩
theorem KeepO.refl (B No : Nat) (w : World) : KeepO B No w w := ⟨Nat.le_refl _, fun _ _ _ _ h _ => h⟩
theorem KeepO.trans {B No : Nat} {a b c : World} (h : KeepO B No a b) (k : KeepO B No b c) : KeepO B No a c :=
  ⟨Nat.le_trans h.size k.size, fun x o hb hx ho hc => k.obj x o hb hx (h.obj x o hb hx ho hc) hc⟩
theorem KeepO.of_grown {B No : Nat} {w w' : World} {row : Option Nat} (hg : w.grownBy w' row) (hr : ∀ r, row = some r → r = No ∨ B ≤ r) : KeepO B No w w' :=
  ⟨hg.size, fun k _ hb hk ho _ => (hg.block k (Array.getElem?_eq_some_iff.1 ho).1 (fun e => by rcases hr _ e.symm with h | h; exact hk h; omega)).trans ho⟩
theorem KeepO.of_below {B No : Nat} {w w' : World} (h : Below B w w') : KeepO B No w w' := ⟨h.size, fun k _ hb _ ho _ => (h.block k hb).trans ho⟩
theorem KeepO.cell {B No : Nat} {w w' : World} (k : KeepO B No w w') (a : Addr) (v : Value) (hb : a.block < B) (ha : a.block ≠ No) (hv : w.cell? a = some v) : w'.cell? a = some v := by
  obtain ⟨o, h1, h2⟩ := cells_of_cell hv
  exact (World.cell?_of_block ((k.obj _ _ hb ha h1 h2).trans h1.symm)).trans hv

theorem Tryd.info3 : (Tryd.prog.info? 3).map (fun i => (i.zero, i.size, i.bytes)) = some (some (.int .i64 0), 1, 8) := by kernel_rfl

end Go.Proofs.YtkmoepabnnjoaaaDoor
