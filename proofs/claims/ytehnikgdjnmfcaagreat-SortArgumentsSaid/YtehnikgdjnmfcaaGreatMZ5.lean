/- upward: the classes above a class. -/
import Derived.Test.YtehnikgdjnmfcaaGreatMZ3
import Derived.Test.YtehnikgdjnmfcaaGreatMZ4
import Derived.Shelf.Abstract
import Derived.Shelf.RegionOpen
import Derived.OwnWalkIn
import Derived.TacticsInMore
import Derived.LoopNIn
import Derived.LoopIn
import Derived.Sort.LoopGhostIn
import Derived.Maps.AppendAt
import Derived.WalkSmall
namespace Go.Proofs.YtehnikgdjnmfcaaGreat
open Go.RowKit Go.WideMaps Go.Shelf
attribute [local go_sem] Oper.semAt_some

theorem wordsOf_snoc (ys : List Nat) (k j : Nat) : wordsOf (ys ++ [k]) j = if k / 64 = j then wordsOf ys j ||| 2 ^ (k % 64) else wordsOf ys j := by
  simp [wordsOf]

theorem wordsOf_mem (i : Nat) (ys : List Nat) : (wordsOf ys (i / 64)).testBit (i % 64) = decide (i ∈ ys) := by
  suffices h : ∀ n, ∀ ys : List Nat, ys.length = n → (wordsOf ys (i / 64)).testBit (i % 64) = decide (i ∈ ys) from h _ ys rfl
  intro n
  induction n with
  | zero => intro ys h; rw [List.length_eq_zero_iff.1 h]; simp [wordsOf]
  | succ n ih =>
    intro ys h
    rcases List.eq_nil_or_concat ys with rfl | ⟨zs, k, rfl⟩
    · simp at h
    · have hz : zs.length = n := by simp at h; omega
      rw [List.concat_eq_append, wordsOf_snoc]
      have e : (i ∈ zs ++ [k]) ↔ (i ∈ zs ∨ i = k) := by simp
      by_cases hk : k / 64 = i / 64
      · rw [if_pos hk, Nat.testBit_or, ih zs hz, Nat.testBit_two_pow, Bool.eq_iff_iff]
        have e2 : (k % 64 = i % 64) ↔ (i = k) := by omega
        simp only [Bool.or_eq_true, decide_eq_true_eq, e, e2]
      · rw [if_neg hk, ih zs hz, Bool.eq_iff_iff]
        have e2 : ¬ (i = k) := fun e' => hk (by rw [e'])
        simp only [decide_eq_true_eq, e, e2, or_false]

theorem add_words (b off i : Nat) (ys : List Nat) (w : World) (hi : i < 320) (h : WordsAt w b off (wordsOf ys)) :
    Calls Tryz.prog 72 #[.pointer (some ⟨b, off, none⟩), .int .i64 i] w fun e w' => e = .returned (.tuple #[]) ∧ w.grownBy w' (some b) ∧ WordsAt w' b off (wordsOf (ys ++ [i])) := by
  obtain ⟨h1, h2, h3⟩ := h (i / 64) (by omega)
  refine (add_any b off i _ w hi h3 h1 h2).mono ?_
  rintro e w' ⟨rfl, rfl⟩
  refine ⟨rfl, grownBy_drew (grownBy_setCell _ _ _), ?_⟩
  refine ((h.set (i / 64) _ (by omega) (or_lt64 _ i h3)).drew).congr (fun j _ => ?_)
  rw [wordsOf_snoc]
  by_cases e : j = i / 64
  · subst e; simp
  · have : ¬ i / 64 = j := fun e' => e e'.symm
    simp [e, this]

theorem has_words (b off i : Nat) (ys : List Nat) (w : World) (hi : i < 320) (h : WordsAt w b off (wordsOf ys)) :
    Calls Tryz.prog 75 #[.pointer (some ⟨b, off, none⟩), .int .i64 i] w fun e w' => e = .returned (.bool (decide (i ∈ ys))) ∧ w = w' := by
  obtain ⟨h1, h2, h3⟩ := h (i / 64) (by omega)
  refine (has_any b off i _ w hi h3 h1).mono ?_
  rintro e w' ⟨rfl, rfl⟩
  exact ⟨ret_bool (wordsOf_mem i ys), rfl⟩

theorem words_zero (w : World) : WordsAt (w.alloc (.cells #[.int .u64 0, .int .u64 0, .int .u64 0, .int .u64 0, .int .u64 0] 136)) w.heap.size 0 (wordsOf []) := by
  intro j hj
  have : j = 0 ∨ j = 1 ∨ j = 2 ∨ j = 3 ∨ j = 4 := by omega
  refine ⟨?_, ?_, by simp [wordsOf]⟩
  · rcases this with rfl | rfl | rfl | rfl | rfl <;> (simp only [wordsOf, List.foldl_nil]; go_simp)
  · rcases this with rfl | rfl | rfl | rfl | rfl <;> go_simp

/-- the rows of supers, in blocks other than No -/
def SupAt (w : World) (No gb : Nat) (sup : Nat → List Nat) (m : Nat) : Prop :=
  gb ≠ No ∧ gb < w.heap.size ∧ ∃ sb so cap, w.cell? ⟨gb, 1, none⟩ = some (.slice (some ⟨sb, so, none⟩) m cap) ∧ sb ≠ No ∧ sb < w.heap.size ∧
    ∀ i, i < m → (sup i).length ≤ 20 ∧ ∃ a cap', w.cell? ⟨sb, so + i, none⟩ = some (.slice a (sup i).length cap') ∧
      (0 < (sup i).length → ∃ rb ro, a = some ⟨rb, ro, none⟩ ∧ rb ≠ No ∧ rb < w.heap.size ∧ ∀ j, j < (sup i).length → w.cell? ⟨rb, ro + j, none⟩ = some (.int .i64 (((sup i).getD j 0 : Nat) : Int)))

/-- every block of cells but one is as it was -/
structure KeepC (No : Nat) (w w' : World) : Prop where
  size : w.heap.size ≤ w'.heap.size
  obj : ∀ k o, k ≠ No → w.heap[k]? = some o → o.isCells = true → w'.heap[k]? = some o

theorem lt_of_cell {w : World} {a : Addr} {v : Value} (h : w.cell? a = some v) : a.block < w.heap.size := by
  unfold World.cell? at h
  cases hb : w.heap[a.block]? with
  | none => rw [hb] at h; simp at h
  | some o => exact (Array.getElem?_eq_some_iff.1 hb).1

theorem cells_of_cell {w : World} {a : Addr} {v : Value} (h : w.cell? a = some v) : ∃ o, w.heap[a.block]? = some o ∧ o.isCells = true := by
  unfold World.cell? at h
  cases hb : w.heap[a.block]? with
  | none => rw [hb] at h; simp at h
  | some o =>
    rw [hb] at h
    cases o <;> simp_all [Obj.isCells]

theorem KeepC.block {No : Nat} {w w' : World} (k : KeepC No w w') {a : Addr} {v : Value} (ha : a.block ≠ No) (hv : w.cell? a = some v) : w'.heap[a.block]? = w.heap[a.block]? := by
  obtain ⟨o, h1, h2⟩ := cells_of_cell hv
  rw [h1]; exact k.obj _ _ ha h1 h2
theorem KeepC.cell {No : Nat} {w w' : World} (k : KeepC No w w') (a : Addr) (v : Value) (ha : a.block ≠ No) (hv : w.cell? a = some v) : w'.cell? a = some v :=
  (World.cell?_of_block (k.block ha hv)).trans hv
theorem KeepC.frozen {No : Nat} {w w' : World} (k : KeepC No w w') (a : Addr) (v : Value) (ha : a.block ≠ No) (hv : w.cell? a = some v) : w'.frozen? a = w.frozen? a :=
  World.frozen?_of_block (k.block ha hv)

theorem SupAt.kept {w w' : World} {No gb : Nat} {sup : Nat → List Nat} {m : Nat} (h : SupAt w No gb sup m) (k : KeepC No w w') : SupAt w' No gb sup m := by
  obtain ⟨h1, h2, sb, so, cap, h3, h4, h5, h6⟩ := h
  refine ⟨h1, by have := k.size; omega, sb, so, cap, k.cell _ _ h1 h3, h4, by have := k.size; omega, fun i hi => ?_⟩
  obtain ⟨h7, a, cap', h8, h9⟩ := h6 i hi
  refine ⟨h7, a, cap', k.cell _ _ h4 h8, fun hl => ?_⟩
  obtain ⟨rb, ro, e, g1, g2, g3⟩ := h9 hl
  exact ⟨rb, ro, e, g1, by have := k.size; omega, fun j hj => k.cell _ _ g1 (g3 j hj)⟩

theorem KeepC.refl (No : Nat) (w : World) : KeepC No w w := ⟨Nat.le_refl _, fun _ _ _ h _ => h⟩
theorem KeepC.trans {No : Nat} {a b c : World} (h : KeepC No a b) (k : KeepC No b c) : KeepC No a c :=
  ⟨Nat.le_trans h.size k.size, fun x o hx ho hc => k.obj x o hx (h.obj x o hx ho hc) hc⟩
theorem KeepC.of_grown {No : Nat} {w w' : World} {row : Option Nat} (hg : w.grownBy w' row) (hr : ∀ r, row = some r → r = No ∨ w.heap.size ≤ r) : KeepC No w w' :=
  ⟨hg.size, fun k o hk ho _ => (hg.block k (Array.getElem?_eq_some_iff.1 ho).1 (fun e => by rcases hr _ e.symm with h | h; exact hk h; have := (Array.getElem?_eq_some_iff.1 ho).1; omega)).trans ho⟩
theorem KeepC.of_below {No : Nat} {w w' : World} (h : Below w.heap.size w w') : KeepC No w w' :=
  ⟨h.size, fun k _ _ ho _ => (h.block k (Array.getElem?_eq_some_iff.1 ho).1).trans ho⟩
theorem KeepC.put {No : Nat} (W : World) (l : Nat) (o o' : Obj) (hl : W.heap[l]? = some o) (ho : o.isCells = false) : KeepC No W (W.putObj l o') := by
  have hlt := (Array.getElem?_eq_some_iff.1 hl).1
  refine ⟨by simp [World.putObj], fun k x _ hx hc => ?_⟩
  by_cases e : k = l
  · subst e; rw [hl] at hx; cases hx; rw [ho] at hc; cases hc
  · exact (World.putObj_heap_other e).trans hx
theorem WordsAt.keepC {w w' : World} {b off No : Nat} {U : Nat → Nat} (h : WordsAt w b off U) (k : KeepC No w w') (hb : b ≠ No) : WordsAt w' b off U := by
  intro j hj
  obtain ⟨h1, h2, h3⟩ := h j hj
  exact ⟨k.cell _ _ hb h1, (k.frozen _ _ hb h1).trans h2, h3⟩
theorem ownsRow_keepC {w w' : World} {No base : Nat} {e : TypeId} {size n : Nat} {v : Value} {xs : List Value} (h : w.ownsRow base e size v n xs) (k : KeepC No w w') (hb : No < base) : w'.ownsRow base e size v n xs := by
  obtain ⟨h1, h2⟩ := h
  refine ⟨h1, ?_⟩
  rcases h2 with h2 | ⟨g, cap, cur, hv, hg, hh, r⟩
  · exact Or.inl h2
  · exact Or.inr ⟨g, cap, cur, hv, hg, k.obj _ _ (by omega) hh rfl, r⟩

end Go.Proofs.YtehnikgdjnmfcaaGreat

/- upward: the closure hands out what is above a class. -/
namespace Go.Proofs.YtehnikgdjnmfcaaGreat
open Go.RowKit Go.WideMaps Go.Shelf
attribute [local go_sem] Oper.semAt_some

/-- a class is above another one -/
inductive Reach (sup : Nat → List Nat) (c : Nat) : Nat → Prop
  | self : Reach sup c c
  | step {k s : Nat} : Reach sup c k → s ∈ sup k → Reach sup c s

/-- what holds between two rounds: handed out, waiting, seen -/
structure UpInv (sup : Nat → List Nat) (c : Nat) (pre wk seen : List Nat) : Prop where
  nodup : seen.Nodup
  le : ∀ x ∈ seen, x ≤ c
  perm : (wk ++ pre).Perm seen
  mem : c ∈ seen
  closed : ∀ x ∈ pre, ∀ s ∈ sup x, s ∈ seen
  reach : ∀ x ∈ seen, Reach sup c x

theorem nodup_le (c : Nat) : ∀ l : List Nat, l.Nodup → (∀ x ∈ l, x ≤ c) → l.length ≤ c + 1 := by
  induction c with
  | zero =>
    intro l hn hl
    match l with
    | [] => simp
    | [x] => simp
    | x :: y :: r =>
      have h1 := hl x (by simp); have h2 := hl y (by simp)
      have : x = y := by omega
      simp [this] at hn
  | succ c ih =>
    intro l hn hl
    have h1 := ih (l.erase (c + 1)) (hn.erase _) (fun x hx => by
      have h2 := hl x (List.mem_of_mem_erase hx)
      have h3 : x ≠ c + 1 := fun e => by subst e; exact (List.Nodup.not_mem_erase hn) hx
      omega)
    have := List.length_erase_le (a := c + 1) (l := l)
    have h4 : l.length ≤ (l.erase (c + 1)).length + 1 := by
      by_cases hm : c + 1 ∈ l
      · rw [List.length_erase_of_mem hm]; omega
      · rw [List.erase_of_not_mem hm]; omega
    omega

theorem UpInv.len {sup : Nat → List Nat} {c : Nat} {pre wk seen : List Nat} (h : UpInv sup c pre wk seen) : seen.length ≤ c + 1 ∧ wk.length + pre.length = seen.length := by
  refine ⟨nodup_le c seen h.nodup h.le, ?_⟩
  have := h.perm.length_eq
  simpa using this

theorem UpInv.start (sup : Nat → List Nat) (c : Nat) : UpInv sup c [] [c] [c] :=
  ⟨by simp, by simp, by simp, by simp, by simp, by intro x hx; simp at hx; subst hx; exact .self⟩

/-- what holds within a round: the class that was handed out last has given its first j supers -/
structure RowInv (sup : Nat → List Nat) (c : Nat) (pre : List Nat) (k j : Nat) (wk seen : List Nat) : Prop where
  nodup : seen.Nodup
  le : ∀ x ∈ seen, x ≤ c
  perm : (wk ++ (pre ++ [k])).Perm seen
  mem : c ∈ seen
  closed : ∀ x ∈ pre, ∀ s ∈ sup x, s ∈ seen
  row : ∀ s ∈ (sup k).take j, s ∈ seen
  reach : ∀ x ∈ seen, Reach sup c x

theorem UpInv.pop {sup : Nat → List Nat} {c : Nat} {pre wk seen : List Nat} {k : Nat} (h : UpInv sup c pre (wk ++ [k]) seen) : RowInv sup c pre k 0 wk seen :=
  ⟨h.nodup, h.le, by
    refine List.Perm.trans ?_ h.perm
    rw [List.append_assoc]
    exact List.Perm.append_left _ (List.perm_append_comm), h.mem, h.closed, by simp, h.reach⟩

theorem RowInv.len {sup : Nat → List Nat} {c k j : Nat} {pre wk seen : List Nat} (h : RowInv sup c pre k j wk seen) : seen.length ≤ c + 1 ∧ wk.length + pre.length + 1 = seen.length := by
  refine ⟨nodup_le c seen h.nodup h.le, ?_⟩
  have := h.perm.length_eq
  simp at this; omega

theorem RowInv.kmem {sup : Nat → List Nat} {c k j : Nat} {pre wk seen : List Nat} (h : RowInv sup c pre k j wk seen) : k ∈ seen := h.perm.subset (by simp)

theorem RowInv.skip {sup : Nat → List Nat} {c k j : Nat} {pre wk seen : List Nat} (h : RowInv sup c pre k j wk seen) (hj : j < (sup k).length) (hs : (sup k).getD j 0 ∈ seen) : RowInv sup c pre k (j + 1) wk seen :=
  ⟨h.nodup, h.le, h.perm, h.mem, h.closed, fun s hs' => by
    rw [take_snocD _ 0 _ hj] at hs'
    rcases List.mem_append.1 hs' with h1 | h1
    · exact h.row s h1
    · simp at h1; rw [h1]; simpa using hs, h.reach⟩

theorem RowInv.add {sup : Nat → List Nat} {c k j : Nat} {pre wk seen : List Nat} (h : RowInv sup c pre k j wk seen) (hj : j < (sup k).length) (hs : (sup k).getD j 0 ∉ seen) (hle : (sup k).getD j 0 ≤ c) :
    RowInv sup c pre k (j + 1) (wk ++ [(sup k).getD j 0]) (seen ++ [(sup k).getD j 0]) :=
  ⟨by rw [List.nodup_append]; exact ⟨h.nodup, by simp, fun a ha b hb => by simp at hb; subst hb; intro e; subst e; exact hs ha⟩,
   fun x hx => (List.mem_append.1 hx).elim (h.le x) (fun e => by simp at e; rw [e]; exact hle),
   by
    have h1 : ((wk ++ [(sup k).getD j 0]) ++ (pre ++ [k])).Perm ((wk ++ (pre ++ [k])) ++ [(sup k).getD j 0]) := by
      rw [List.append_assoc, List.append_assoc wk]
      exact List.Perm.append_left _ List.perm_append_comm
    exact h1.trans (h.perm.append_right _),
   List.mem_append_left _ h.mem, fun x hx s hs' => List.mem_append_left _ (h.closed x hx s hs'),
   fun s hs' => by
    rw [take_snocD _ 0 _ hj] at hs'
    rcases List.mem_append.1 hs' with h1 | h1
    · exact List.mem_append_left _ (h.row s h1)
    · exact List.mem_append_right _ h1,
   fun x hx => (List.mem_append.1 hx).elim (h.reach x) (fun e => by
    simp at e; rw [e]; exact .step (h.reach k h.kmem) (by simpa using getD_mem (sup k) 0 j hj))⟩

theorem RowInv.close {sup : Nat → List Nat} {c k : Nat} {pre wk seen : List Nat} (h : RowInv sup c pre k (sup k).length wk seen) : UpInv sup c (pre ++ [k]) wk seen :=
  ⟨h.nodup, h.le, h.perm, h.mem, fun x hx s hs => by
    rcases List.mem_append.1 hx with h1 | h1
    · exact h.closed x h1 s hs
    · simp at h1; subst h1; exact h.row s (by simpa using hs), h.reach⟩

theorem UpInv.done {sup : Nat → List Nat} {c : Nat} {pre seen : List Nat} (h : UpInv sup c pre [] seen) : ∀ x, x ∈ pre ↔ Reach sup c x := by
  have hp : pre.Perm seen := by simpa using h.perm
  intro x
  refine ⟨fun hx => h.reach x (hp.subset hx), fun hr => ?_⟩
  induction hr with
  | self => exact hp.symm.subset h.mem
  | step _ hs ih => exact hp.symm.subset (h.closed _ ih _ hs)

end Go.Proofs.YtehnikgdjnmfcaaGreat

/- upward: the walk of its closure. -/
namespace Go.Proofs.YtehnikgdjnmfcaaGreat
open Go.RowKit Go.WideMaps Go.Shelf
attribute [local go_sem] Oper.semAt_some

def ints (l : List Nat) : List Value := l.map fun n => Value.int .i64 ((n : Nat) : Int)

/-- every block of cells below a bound, but one, is as it was -/
structure KeepO (B No : Nat) (w w' : World) : Prop where
  size : w.heap.size ≤ w'.heap.size
  obj : ∀ k o, k < B → k ≠ No → w.heap[k]? = some o → o.isCells = true → w'.heap[k]? = some o
theorem KeepC.old {No : Nat} {w w' : World} (h : KeepC No w w') (B : Nat) : KeepO B No w w' := ⟨h.size, fun k o _ hk ho hc => h.obj k o hk ho hc⟩
theorem KeepO.refl (B No : Nat) (w : World) : KeepO B No w w := ⟨Nat.le_refl _, fun _ _ _ _ h _ => h⟩
theorem KeepO.trans {B No : Nat} {a b c : World} (h : KeepO B No a b) (k : KeepO B No b c) : KeepO B No a c :=
  ⟨Nat.le_trans h.size k.size, fun x o hb hx ho hc => k.obj x o hb hx (h.obj x o hb hx ho hc) hc⟩
theorem KeepO.of_grown {B No : Nat} {w w' : World} {row : Option Nat} (hg : w.grownBy w' row) (hr : ∀ r, row = some r → r = No ∨ B ≤ r) : KeepO B No w w' :=
  ⟨hg.size, fun k _ hb hk ho _ => (hg.block k (Array.getElem?_eq_some_iff.1 ho).1 (fun e => by rcases hr _ e.symm with h | h; exact hk h; omega)).trans ho⟩
theorem KeepO.of_below {B No : Nat} {w w' : World} (h : Below B w w') : KeepO B No w w' := ⟨h.size, fun k _ hb _ ho _ => (h.block k hb).trans ho⟩
theorem KeepO.cell {B No : Nat} {w w' : World} (k : KeepO B No w w') (a : Addr) (v : Value) (hb : a.block < B) (ha : a.block ≠ No) (hv : w.cell? a = some v) : w'.cell? a = some v := by
  obtain ⟨o, h1, h2⟩ := cells_of_cell hv
  exact (World.cell?_of_block ((k.obj _ _ hb ha h1 h2).trans h1.symm)).trans hv

theorem Tryz.info3 : (Tryz.prog.info? 3).map (fun i => (i.zero, i.size, i.bytes)) = some (some (.int .i64 0), 1, 8) := by kernel_rfl

set_option maxRecDepth 100000 in
theorem up_body (No l c cb gbx gb : Nat) (sup : Nat → List Nat) (J : List Nat → World → Prop) (W : World) (hcb : cb < W.heap.size) (hgx : gbx < W.heap.size) (hc300 : c < 300) (hNo : No < W.heap.size)
    (hc : W.cell? ⟨cb, 0, none⟩ = some (.int .i64 (c : Int))) (hgb : W.cell? ⟨gbx, 0, none⟩ = some (.pointer (some ⟨gb, 0, none⟩))) (hgxn : gbx ≠ No)
    (hsup : SupAt W No gb sup (c + 1)) (hlt : ∀ i, i ≤ c → ∀ s ∈ sup i, s < i)
    (hJ : ∀ s A B, J s A → Below W.heap.size A B → J s B)
    (hY : ∀ pre x W1, x ≤ c → J pre W1 → YieldAt Fence.wide 4 Tryz.prog l #[.int .i64 ((x : Nat) : Int)] W1 fun e W' => e = .returned (.bool true) ∧ J (pre ++ [x]) W' ∧ KeepC No W1 W')
    (h0 : J [] W) :
    CallsIn Fence.wide 5 Tryz.prog 74 #[.func (.yield l) #[] #[], .pointer (some ⟨cb, 0, none⟩), .pointer (some ⟨gbx, 0, none⟩)] W fun e W' => (∃ v, e = .returned v) ∧ ∃ xs : List Nat, (∀ x, x ∈ xs ↔ Reach sup c x) ∧ J xs W' := by
  have HJ := Lib.hid hJ
  have HY := Lib.hid hY
  have HS := Lib.hid hsup
  have HL := Lib.hid hlt
  have H0 := Lib.hid h0
  have HG := Lib.hid hgb
  clear hJ hY hsup hlt h0 hgb
  refine callsIn_of_wp Tryz.func74 rfl trivial ?_ rfl
  simp only [Tryz.ntmps74, List.size_toArray, List.length_cons, List.length_nil, Nat.reduceAdd, Nat.reduceSub, Array.replicate_succ, Array.replicate_zero, List.push_toArray, List.append_toArray, List.nil_append, List.cons_append]
  gi_wp2_with fail
  refine ⟨trivial, (callsIn_wide.2 (add_words W.heap.size 0 c [] _ (by omega) (words_zero W))).mono ?_⟩
  rintro e w1 ⟨rfl, hg1, hw1⟩
  have hz1 : W.heap.size + 1 ≤ w1.heap.size := by have := hg1.size; simpa using this
  have hb1 : Below W.heap.size W w1 := (below_alloc W _).grown hg1 (by simp) (fun k e => by cases e; exact Nat.le_refl _)
  have hc1 : w1.cell? ⟨cb, 0, none⟩ = some (.int .i64 (c : Int)) := (hb1.cell (p := ⟨cb, 0, none⟩) hcb).trans hc
  have HW1 := Lib.hid hw1
  clear hw1 hg1 hc
  gi_wp2_with fail
  gi_loopg [5] (c + 2) (fun n v wr => ∃ pre wk seen : List Nat, wr.ownsRow (W.heap.size + 1) 3 1 v wk.length (ints wk) ∧ Hid (WordsAt wr W.heap.size 0 (wordsOf seen)) ∧ Hid (J pre wr) ∧ KeepO W.heap.size No W wr ∧ W.heap.size + 1 ≤ wr.heap.size ∧ UpInv sup c pre wk seen ∧ n = (c + 1 - seen.length) + wk.length + 1)
  case atStart =>
    refine ⟨[], [c], [c], ?_, ?_, ?_, ?_, by simp; omega, UpInv.start sup c, by simp⟩
    · refine ⟨rfl, .inr ⟨w1.heap.size, 1, #[.int .i64 (c : Int)], rfl, hz1, ?_, by simp, by unfold maxLen; omega, by simp, by simp [ints]⟩⟩
      exact World.alloc_heap_new _ _
    · exact HW1.out.grown (World.grownBy_alloc _ _ none) (by omega) (by simp)
    · exact HJ.out _ _ _ H0.out (hb1.trans ((below_alloc w1 _).mono (by omega)))
    · exact KeepO.of_below (hb1.trans ((below_alloc w1 _).mono (by omega)))
  case round =>
    obtain ⟨pre, wk, seen, hown, hW, hJs, hK, hz, hU, rfl⟩ := hrel
    rcases List.eq_nil_or_concat wk with rfl | ⟨wk', k, rfl⟩
    · have hfin : ∃ xs : List Nat, (∀ x, x ∈ xs ↔ Reach sup c x) ∧ J xs wr := ⟨pre, hU.done, hJs.out⟩
      have HF := Lib.hid hfin
      obtain ⟨_, (⟨rfl, _⟩ | ⟨g, cap, cur, rfl, _⟩)⟩ := hown
      · clear hfin hU hJs hW hK
        gi_wp2_with fail
        go_end0
        exact ⟨⟨_, rfl⟩, HF.out⟩
      · clear hfin hU hJs hW hK
        gi_wp2_with fail
        go_end0
        exact ⟨⟨_, rfl⟩, HF.out⟩
    · rw [List.concat_eq_append] at hown hU
      have hlen := hU.len
      have hkle : k ≤ c := hU.le k (hU.perm.subset (by simp))
      have hR0 := hU.pop
      have hown0 := hown
      obtain ⟨hxl, (⟨_, h0⟩ | ⟨g, cap, cur, rfl, hg, hh, hn, hcap, hsz, htake⟩)⟩ := hown
      · simp at h0
      · have hck : wr.cell? ⟨g, wk'.length, none⟩ = some (.int .i64 (k : Int)) := by
          have := cell_of_row wr g wk'.length cur 3 (0, 0) hh
          rw [this]
          have h1 : (cur.toList.take ((wk' ++ [k]).length * 1))[wk'.length]? = some (.int .i64 (k : Int)) := by
            rw [htake]; simp [ints]
          rw [List.getElem?_take] at h1
          simpa using h1
        have hpop : wr.ownsRow (W.heap.size + 1) 3 1 (.slice (some ⟨g, 0, none⟩) wk'.length cap) wk'.length (ints wk') := by
          have e : ints (wk' ++ [k]) = ints wk' ++ [.int .i64 (k : Int)] := by simp [ints]
          rw [e] at hown0
          exact ownsRow_pop (by simp [ints]) (by simpa using hown0)
        obtain ⟨fn, tmps, assign, body, hy, hR⟩ := HY.out pre k wr hkle hJs.out
        have hlw : wk'.length + 1 ≤ cap := by simpa using hn
        have HPOP := Lib.hid hpop
        have HLEN := Lib.hid hlen
        have HRI := Lib.hid hR0
        have hmax : cap ≤ 9223372036854775807 := by unfold maxLen at hcap; exact hcap
        simp only [List.length_append, List.length_singleton]
        clear hown0 hpop htake hh hsz hxl hn hcap hlen hU hR0
        gi_wp2_with fail
        refine hR.mono ?_
        clear hR hy HY
        rintro e w3 ⟨rfl, hj3, hk3⟩
        have hK3 : KeepO W.heap.size No W w3 := hK.trans (hk3.old _)
        have hgb3 := hK3.cell _ _ hgx hgxn HG.out
        obtain ⟨hgn, hgl, sb, so, capS, hcS0, hsn, hsl, hrows⟩ := HS.out
        obtain ⟨hl20, ra, rcap, hcr0, hrr⟩ := hrows k (by omega)
        have hcS := hK3.cell _ _ hgl hgn hcS0
        have hcr := hK3.cell _ _ hsl hsn hcr0
        have HRR := Lib.hid hrr
        have HJ3 := Lib.hid hj3
        have HW3 : Hid (WordsAt w3 W.heap.size 0 (wordsOf seen)) := hW.out.keepC hk3 (by omega)
        have HO3 : Hid (w3.ownsRow (W.heap.size + 1) 3 1 (.slice (some ⟨g, 0, none⟩) wk'.length cap) wk'.length (ints wk')) := ownsRow_keepC HPOP.out hk3 (by omega)
        have hz3 : W.heap.size + 1 ≤ w3.heap.size := by have := hk3.size; omega
        clear hrows hrr hj3 hk3 hW hJs hK hck HPOP hcS0 hcr0
        gi_wp2_with fail
        gi_loopw [5, 39] (fun v i wr2 => ∃ (j : Nat) (wk2 seen2 : List Nat), i = .int .i64 j ∧ j ≤ (sup k).length ∧ wr2.ownsRow (W.heap.size + 1) 3 1 v wk2.length (ints wk2) ∧ Hid (WordsAt wr2 W.heap.size 0 (wordsOf seen2)) ∧ Hid (J (pre ++ [k]) wr2) ∧ W.heap.size + 1 ≤ wr2.heap.size ∧ KeepO W.heap.size No W wr2 ∧ Hid (RowInv sup c pre k j wk2 seen2)) (fun _ i _ => (sup k).length - (intOf i).toNat)
        case atStart => exact ⟨0, wk', seen, rfl, by omega, HO3.out, HW3, HJ3, hz3, hK3, HRI⟩
        case round =>
          obtain ⟨j, wk2, seen2, rfl, hj, hown2, hW2, hJ2, hz2, hKK, hRI⟩ := hrel
          have hlen2 := hRI.out.len
          
          by_cases hlt : j < (sup k).length
          · obtain ⟨rb, ro, rfl, hrn, hrl, hrc⟩ := HRR.out (by omega)
            have hcj := hKK.cell _ _ hrl hrn (hrc j hlt)
            have hsle : (sup k).getD j 0 < k := HL.out k hkle _ (getD_mem (sup k) 0 j hlt)
            by_cases hin : (sup k).getD j 0 ∈ seen2
            · have hRI2 := Lib.hid (hRI.out.skip hlt hin)
              have hC := Lib.hid (has_words W.heap.size 0 ((sup k).getD j 0) seen2 wr (by omega) hW2.out)
              have hd : decide ((sup k).getD j 0 ∈ seen2) = true := by simpa using hin
              rw [hd] at hC
              clear hRI hin hd hrc HRR
              generalize (sup k).getD j 0 = x at *
              gi_wp2_with (refine ⟨trivial, ?_⟩; gi_at_call 75; refine (callsIn_wide.2 hC.out).mono ?_; rintro e w' ⟨rfl, rfl⟩)
              go_roundw
              case rel => exact ⟨j + 1, wk2, seen2, by go_num, by omega, hown2, hW2, hJ2, hz2, hKK, hRI2⟩
              case measure => simp [intOf]; omega
            · have hRI2 := Lib.hid (hRI.out.add hlt hin (by omega))
              have hlen3 := hRI2.out.len
              have hC := Lib.hid (has_words W.heap.size 0 ((sup k).getD j 0) seen2 wr (by omega) hW2.out)
              have hA := Lib.hid (add_words W.heap.size 0 ((sup k).getD j 0) seen2 wr (by omega) hW2.out)
              have hd : decide ((sup k).getD j 0 ∈ seen2) = false := by simpa using hin
              rw [hd] at hC
              clear hRI hin hd hrc HRR
              generalize (sup k).getD j 0 = x at *
              simp only [List.length_append, List.length_singleton] at hlen3
              gi_wp2_with (refine ⟨trivial, ?_⟩; gi_at_call 75; refine (callsIn_wide.2 hC.out).mono ?_; rintro e w' ⟨rfl, rfl⟩)
              refine ⟨trivial, (callsIn_wide.2 hA.out).mono ?_⟩
              rintro e w4 ⟨rfl, hg4, hw4⟩
              have hown4 := hown2.kept hg4 (by
                rcases hown2.2 with ⟨e, _⟩ | ⟨g', cap', cur', e, hg', _⟩
                · left; rw [e]; rfl
                · right; rw [e]; simp [Value.ownBlock]; omega)
              have hz4 : W.heap.size + 1 ≤ w4.heap.size := by have := hg4.size; omega
              have HW4 := Lib.hid hw4
              have HJ4 : Hid (J (pre ++ [k]) w4) := HJ.out _ _ _ hJ2.out ((Below.refl _ wr).grown hg4 (by omega) (fun k e => by cases e; exact Nat.le_refl _))
              have HK4 : KeepO W.heap.size No W w4 := hKK.trans (KeepO.of_grown hg4 (fun r e => by cases e; right; exact Nat.le_refl _))
              clear hC hA hW2 hJ2 hg4 hw4 hKK
              obtain ⟨i0, hi, hq0, hq1, hq2⟩ := info_parts Tryz.info3
              gi_wp2_with (gi_at_builtin; refine wpListIn_append_own _ rfl _ _ 133 rfl (W.heap.size + 1) 3 i0 (.int .i64 0) 1 8 Tryz.underlying133 hi hq0 hq1 hq2 rfl (by decide) _ _ _ rfl (hown4.alloc _) ⟨w4.heap.size, 0, none⟩ 1 1 [.int .i64 (x : Int)] rfl rfl (cell_one_new _ _ _) (by simp [Value.oneCell']) (by unfold maxLen; omega) (by omega) (by simp; omega) ?_; intro v' w5 hown5 hgrow5 _)
              have hob : ∀ r, u5.ownBlock = some r → W.heap.size + 1 ≤ r := by
                intro r e
                rcases hown2.2 with ⟨e', _⟩ | ⟨g', cap', cur', e', hg', _⟩
                · rw [e'] at e; cases e
                · rw [e'] at e; simp [Value.ownBlock] at e; omega
              have hg45 : w4.grownBy w5 u5.ownBlock := (World.grownBy_alloc w4 _ _).trans hgrow5
              have HW5 : Hid (WordsAt w5 W.heap.size 0 (wordsOf (seen2 ++ [x]))) := HW4.out.grown hg45 (by omega) (fun e => by have := hob _ e.symm; omega)
              have HJ5 : Hid (J (pre ++ [k]) w5) := HJ.out _ _ _ HJ4.out ((Below.refl _ w4).grown hg45 (by omega) (fun r e => by have := hob _ e; omega))
              have HK5 : KeepO W.heap.size No W w5 := HK4.trans (KeepO.of_grown hg45 (fun r e => by right; have := hob _ e; omega))
              have hz5 : W.heap.size + 1 ≤ w5.heap.size := by have := hg45.size; omega
              have e : ints (wk2 ++ [x]) = ints wk2 ++ [.int .i64 (x : Int)] := by simp [ints]
              refine ⟨⟨j + 1, wk2 ++ [x], seen2 ++ [x], by go_num, by omega, ?_, HW5, HJ5, hz5, HK5, hRI2⟩, by simp [intOf]; omega⟩
              rw [e]; simpa using hown5
          · have hjk : j = (sup k).length := by omega
            subst hjk
            have hU := hRI.out.close
            have HU := Lib.hid hU
            clear hRI HRR hU
            gi_wp2_with fail
            go_roundg ((c + 1 - seen2.length) + wk2.length + 1)
            case rel => exact ⟨pre ++ [k], wk2, seen2, hown2, hW2, hJ2, hKK, hz2, HU.out, rfl⟩
            case measure =>
              have h1 := HLEN.out
              simp at h1 ⊢
              omega
end Go.Proofs.YtehnikgdjnmfcaaGreat
