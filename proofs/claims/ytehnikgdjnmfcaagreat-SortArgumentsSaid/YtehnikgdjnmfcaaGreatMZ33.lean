/- copyType 50, with Clone of types 69. -/
import Derived.Test.YtehnikgdjnmfcaaGreatMZ31
namespace Go.Proofs.YtehnikgdjnmfcaaGreat
open Go.RowKit Go.WideMaps Go.Shelf Go.Lib
attribute [local go_sem] Oper.semAt_some

theorem Tryz.u40 : Tryz.prog.underlying 40 = some (.slice 42) := by kernel_rfl

theorem encE_len (es : List Tp) : (encE es).length = es.length * 5 := by
  unfold encE
  induction es with
  | nil => rfl
  | cons d l ih => rw [List.flatMap_cons, List.length_append, ih, List.length_cons]; simp; omega

theorem encE_one (es : List Tp) : ∀ u ∈ encE es, u.oneCell' = true := by
  intro u hu
  obtain ⟨d, _, hd⟩ := List.mem_flatMap.1 hu
  exact one5 _ _ _ _ _ u hd

/-- types in a row -/
def FiveE (w : World) (b i : Nat) (e : Tp) : Prop := Five w b i e.1 e.2.1 e.2.2.1 e.2.2.2.1 e.2.2.2.2

theorem encE_cells {w : World} {b off : Nat} {es : List Tp} (h : ∀ k, k < es.length → FiveE w b (off + k * 5) (es.getD k tp0)) : ∀ j u, (encE es)[j]? = some u → w.cell? (Addr.add ⟨b, off, none⟩ j) = some u := by
  intro j u hj
  rw [add_none]
  have hl := (List.getElem?_eq_some_iff.1 hj).1
  rw [encE_len] at hl
  obtain ⟨g0, g1, g2, g3, g4⟩ := h (j / 5) (by omega)
  obtain ⟨e0, e1, e2, e3, e4⟩ := encE_get es (j / 5) (by omega) _ rfl
  have hd : j % 5 = 0 ∨ j % 5 = 1 ∨ j % 5 = 2 ∨ j % 5 = 3 ∨ j % 5 = 4 := by omega
  have hjj : j = j / 5 * 5 + j % 5 := by omega
  rcases hd with hd | hd | hd | hd | hd
  · rw [show j = j / 5 * 5 by omega] at hj ⊢
    rw [e0] at hj; rw [← hj]; exact g0
  · rw [show j = j / 5 * 5 + 1 by omega] at hj ⊢
    rw [e1] at hj; rw [← hj, ← Nat.add_assoc]; exact g1
  · rw [show j = j / 5 * 5 + 2 by omega] at hj ⊢
    rw [e2] at hj; rw [← hj, ← Nat.add_assoc]; exact g2
  · rw [show j = j / 5 * 5 + 3 by omega] at hj ⊢
    rw [e3] at hj; rw [← hj, ← Nat.add_assoc]; exact g3
  · rw [show j = j / 5 * 5 + 4 by omega] at hj ⊢
    rw [e4] at hj; rw [← hj, ← Nat.add_assoc]; exact g4

set_option maxRecDepth 100000 in
set_option maxHeartbeats 4000000 in
theorem cloneE_raw (i0 : TypeInfo) (z : Value) (hi : Tryz.prog.info? 42 = some i0) (hz0 : i0.zero = some z) (hz1 : i0.size = 5) (hz2 : i0.bytes = 80) (hzs : z.cells.size = 5)
    (ad : Addr) (n c : Nat) (news : List Value) (w : World) (hl : news.length = n * 5) (hn : n ≤ maxLen) (hbig : n * 80 ≤ 140737488355328)
    (hc : ∀ j u, news[j]? = some u → w.cell? (ad.add j) = some u) (h1 : ∀ u ∈ news, u.oneCell' = true) :
    Calls Tryz.prog 50 #[.slice (some ad) n c] w fun e w' => ∃ v', e = .returned v' ∧ w'.ownsRow w.heap.size 42 5 v' n news ∧ Below w.heap.size w w' := by
  have q23 : ∀ (w : World) (a : Option Addr) (n c n' c' : Nat), (binOp .eql 40 (.slice a n c) (.slice none n' c')).run Tryz.prog w = .ok (.bool a.isNone) w := fun w a n c n' c' => Lib.run_eql_slice_nil w _ _ a n c n' c' Tryz.u40
  have A : Aside (∀ j u, news[j]? = some u → w.cell? (ad.add j) = some u) := hc
  clear hc
  have z91 : ∀ w, (Go.sizeOf 42).run Tryz.prog w = .ok 5 w := fun w => by rw [run_sizeOf _ hi]; simp [Program.cellsOf, hi, hz1]
  have u23 : ∀ w, Sem.run Tryz.prog (underlying 40) w = .ok (TypeDesc.slice 42) w := run_underlying Tryz.u40
  go_enter Tryz.func50, Tryz.ntmps50
  go_wp2_with (at_builtin; refine wpList_append_own _ rfl _ _ 40 rfl w.heap.size 42 i0 z 5 80 Tryz.u40 hi hz0 hz1 hz2 hzs (by decide) _ _ _ rfl (World.ownsRow_made w #[] 0 (Nat.le_refl _) (Nat.zero_le _) (by simp)) ad n c news rfl ?qc1 ?qc2 ?qc3 ?qc4 ?qc5 ?qc6 ?_)
  case qc1 => exact hl
  case qc2 =>
    intro j u hj
    exact Lib.cell?_alloc_some _ (A.out j u hj)
  case qc3 => exact h1
  case qc4 => rw [Nat.zero_add]; exact hn
  case qc5 => rw [Nat.zero_add]; exact hbig
  case qc6 => simp
  intro v' w1 hown hgrow hnil
  go_wp2
  go_ret
  refine ⟨v', rfl, by simpa using hown, ?_⟩
  exact (below_alloc w _).grown hgrow (by simp) (fun r e => by simp [Value.ownBlock] at e; omega)

set_option maxHeartbeats 1000000 in
theorem cloneE_nil (n c : Nat) (w : World) :
    Calls Tryz.prog 50 #[.slice none n c] w fun e w' => e = .returned (.slice none 0 0) ∧ w' = w := by
  have q23 : ∀ (w : World) (a : Option Addr) (n c n' c' : Nat), (binOp .eql 40 (.slice a n c) (.slice none n' c')).run Tryz.prog w = .ok (.bool a.isNone) w := fun w a n c n' c' => Lib.run_eql_slice_nil w _ _ a n c n' c' Tryz.u40
  go_enter Tryz.func50, Tryz.ntmps50
  go_wp2
  go_ret
  exact ⟨rfl, rfl⟩

/-- the arguments of a type, told -/
theorem TyAt.es {w : World} {H : Nat → Prop} {d n : Nat} {b off : Nat} {l : List GT} (hc : ∀ j, j < n → ∃ o x a' n' c', Five w b (off + j * 5) o x a' n' c' ∧ TyIs w H d (l.getD j .zero) o x a' n') :
    ∃ es : List Tp, es.length = n ∧ (∀ k, k < n → FiveE w b (off + k * 5) (es.getD k tp0)) ∧ (∀ k, k < n → TyIs w H d (l.getD k .zero) (es.getD k tp0).1 (es.getD k tp0).2.1 (es.getD k tp0).2.2.1 (es.getD k tp0).2.2.2.1) := by
  induction n with
  | zero => exact ⟨[], rfl, fun k hk => absurd hk (by omega), fun k hk => absurd hk (by omega)⟩
  | succ n ih =>
    obtain ⟨es, h1, h2, h3⟩ := ih (fun j hj => hc j (by omega))
    obtain ⟨o, x, a', n', c', g1, g2⟩ := hc n (by omega)
    have hg : ∀ k, k < n → (es ++ [(o, x, a', n', c')]).getD k tp0 = es.getD k tp0 := fun k hk => by
      rw [List.getD_eq_getElem?_getD, List.getElem?_append_left (by omega), ← List.getD_eq_getElem?_getD]
    have hg2 : (es ++ [(o, x, a', n', c')]).getD n tp0 = (o, x, a', n', c') := by
      rw [List.getD_eq_getElem?_getD, List.getElem?_append_right (by omega), h1]; simp
    refine ⟨es ++ [(o, x, a', n', c')], by rw [List.length_append, h1]; rfl, fun k hk => ?_, fun k hk => ?_⟩
    · by_cases e : k = n
      · subst e; rw [hg2]; exact g1
      · rw [hg k (by omega)]; exact h2 k (by omega)
    · by_cases e : k = n
      · subst e; rw [hg2]; exact g2
      · rw [hg k (by omega)]; exact h3 k (by omega)

theorem cloneE_any (l : List GT) (a : Option Addr) (n c d : Nat) (H : Nat → Prop) (w : World) (h : TyAt w H (d + 1) l a n) :
    Calls Tryz.prog 50 #[.slice a n c] w fun e w' => ∃ v' es, e = .returned v' ∧ es.length = n ∧ w'.ownsRow w.heap.size 42 5 v' n (encE es) ∧ Below w.heap.size w w' ∧ ∀ k, k < n → TyIs w H d (l.getD k .zero) (es.getD k tp0).1 (es.getD k tp0).2.1 (es.getD k tp0).2.2.1 (es.getD k tp0).2.2.2.1 := by
  obtain ⟨_, h10, h2⟩ := h
  obtain ⟨i0, hi, hq0, hq1, hq2⟩ := info_parts Tryz.info42
  by_cases hn : 0 < n
  · obtain ⟨b, off, rfl, hb, _, hc⟩ := h2 hn
    obtain ⟨es, e1, e2, e3⟩ := TyAt.es hc
    refine (cloneE_raw i0 _ hi hq0 hq1 hq2 rfl ⟨b, off, none⟩ n c (encE es) w (by rw [encE_len, e1]) (by unfold maxLen; omega) (by omega) (encE_cells (by rw [e1]; exact e2)) (encE_one es)).mono ?_
    rintro e w' ⟨v', rfl, ho, hb⟩
    exact ⟨v', es, rfl, e1, ho, hb, e3⟩
  · have h0 : n = 0 := by omega
    subst h0
    cases a with
    | none =>
      refine (cloneE_nil 0 c w).mono ?_
      rintro e w' ⟨rfl, rfl⟩
      exact ⟨_, [], rfl, rfl, World.ownsRow_nil _ _ _ _, Below.refl _ _, fun k hk => absurd hk (by omega)⟩
    | some ad =>
      refine (cloneE_raw i0 _ hi hq0 hq1 hq2 rfl ad 0 c [] w rfl (by unfold maxLen; omega) (by omega) (fun j u hj => by simp at hj) (fun u hu => absurd hu (by simp))).mono ?_
      rintro e w' ⟨v', rfl, ho, hb⟩
      exact ⟨v', [], rfl, rfl, ho, hb, fun k hk => absurd hk (by omega)⟩

/-- a row of types: the first k are what they are to be, in blocks of their own; from the k-th on they are as they were -/
def CpRow (w : World) (g n d : Nat) (l : List GT) (es : List Tp) (k : Nat) : Prop :=
  ∀ j, j < n → ∃ e : Tp, FiveE w g (j * 5) e ∧ (w.frozen? ⟨g, j * 5, none⟩ = false ∧ w.frozen? ⟨g, j * 5 + 1, none⟩ = false ∧ w.frozen? ⟨g, j * 5 + 2, none⟩ = false ∧ w.frozen? ⟨g, j * 5 + 3, none⟩ = false ∧ w.frozen? ⟨g, j * 5 + 4, none⟩ = false) ∧ (k ≤ j → e = es.getD j tp0) ∧ (j < k → TyIs w (fun b => b ≤ g) d (l.getD j .zero) e.1 e.2.1 e.2.2.1 e.2.2.2.1)

theorem CpRow.below {w w' : World} {g n k d : Nat} {l : List GT} {es : List Tp} (h : CpRow w g n d l es k) (hb : Below w.heap.size w w') (hg : g < w.heap.size) : CpRow w' g n d l es k := by
  intro j hj
  obtain ⟨e, ⟨h0, h1, h2, h3, h4⟩, ⟨f0, f1, f2, f3, f4⟩, h5, h6⟩ := h j hj
  have hc : ∀ i u, w.cell? ⟨g, i, none⟩ = some u → w'.cell? ⟨g, i, none⟩ = some u := fun i u h => (hb.cell (p := ⟨g, i, none⟩) hg).trans h
  have hf : ∀ i, w.frozen? ⟨g, i, none⟩ = false → w'.frozen? ⟨g, i, none⟩ = false := fun i h => (hb.frozen (p := ⟨g, i, none⟩) hg).trans h
  exact ⟨e, ⟨hc _ _ h0, hc _ _ h1, hc _ _ h2, hc _ _ h3, hc _ _ h4⟩, ⟨hf _ f0, hf _ f1, hf _ f2, hf _ f3, hf _ f4⟩, h5, fun hk => (h6 hk).below hb⟩

theorem cpRow_own {w : World} {B n cap d : Nat} {g : Nat} {l : List GT} {es : List Tp} (h : w.ownsRow B 42 5 (.slice (some ⟨g, 0, none⟩) n cap) n (encE es)) (hl : es.length = n) : CpRow w g n d l es 0 := by
  intro j hj
  obtain ⟨e0, e1, e2, e3, e4⟩ := encE_get es j (by omega) _ rfl
  have hlen : (encE es).length = n * 5 := h.1
  have hc : ∀ i, i < 5 → w.cell? ⟨g, j * 5 + i, none⟩ = (encE es)[j * 5 + i]? := fun i hi => h.cellAt (j * 5 + i) (by omega)
  exact ⟨es.getD j tp0, ⟨(hc 0 (by omega)).trans e0, (hc 1 (by omega)).trans e1, (hc 2 (by omega)).trans e2, (hc 3 (by omega)).trans e3, (hc 4 (by omega)).trans e4⟩, ⟨h.frozenAt _, h.frozenAt _, h.frozenAt _, h.frozenAt _, h.frozenAt _⟩, fun _ => rfl, fun hk => absurd hk (by omega)⟩

theorem CpRow.step {w : World} {g n k d : Nat} {l : List GT} {es : List Tp} {o : Int} {x : ByteArray} {a : Option Addr} {n' c' : Nat} (h : CpRow w g n d l es k) (hk : k < n) (ht : TyIs w (fun b => b ≤ g) d (l.getD k .zero) o x a n') :
    CpRow (((((w.setCell ⟨g, k * 5, none⟩ (.int .i64 o)).setCell ⟨g, k * 5 + 1, none⟩ (.string x)).setCell ⟨g, k * 5 + 2, none⟩ (.int .i64 0)).setCell ⟨g, k * 5 + 3, none⟩ (.slice none 0 0)).setCell ⟨g, k * 5 + 4, none⟩ (.slice a n' c')) g n d l es (k + 1) := by
  intro j hj
  obtain ⟨e, ⟨h0, h1, h2, h3, h4⟩, ⟨f0, f1, f2, f3, f4⟩, h5, h6⟩ := h j hj
  have hT : ∀ {t : GT} {o' : Int} {x' : ByteArray} {a' : Option Addr} {m : Nat}, TyIs w (fun b => b ≤ g) d t o' x' a' m → TyIs (((((w.setCell ⟨g, k * 5, none⟩ (.int .i64 o)).setCell ⟨g, k * 5 + 1, none⟩ (.string x)).setCell ⟨g, k * 5 + 2, none⟩ (.int .i64 0)).setCell ⟨g, k * 5 + 3, none⟩ (.slice none 0 0)).setCell ⟨g, k * 5 + 4, none⟩ (.slice a n' c')) (fun b => b ≤ g) d t o' x' a' m := fun h => by
    refine h.turn (by simp) (fun b i u hh hc => ?_) (fun _ _ h => h)
    have hne : b ≠ g := fun e => hh (by rw [e]; exact Nat.le_refl _)
    exact (World.cell?_of_block (a := ⟨b, i, none⟩) ((heap_setCell_other _ _ _ _ hne).trans ((heap_setCell_other _ _ _ _ hne).trans ((heap_setCell_other _ _ _ _ hne).trans ((heap_setCell_other _ _ _ _ hne).trans (heap_setCell_other _ _ _ _ hne)))))).trans hc
  have hf : ∀ i, w.frozen? ⟨g, i, none⟩ = false → (((((w.setCell ⟨g, k * 5, none⟩ (.int .i64 o)).setCell ⟨g, k * 5 + 1, none⟩ (.string x)).setCell ⟨g, k * 5 + 2, none⟩ (.int .i64 0)).setCell ⟨g, k * 5 + 3, none⟩ (.slice none 0 0)).setCell ⟨g, k * 5 + 4, none⟩ (.slice a n' c')).frozen? ⟨g, i, none⟩ = false := fun i h => by
    rw [World.frozen?_setCell, World.frozen?_setCell, World.frozen?_setCell, World.frozen?_setCell, World.frozen?_setCell]; exact h
  have off : ∀ (w : World) (i i' : Nat) (u v : Value), i ≠ i' → w.cell? ⟨g, i, none⟩ = some u → (w.setCell ⟨g, i', none⟩ v).cell? ⟨g, i, none⟩ = some u := fun w i i' u v hne hc => by
    rw [World.cell?_setCell_other _ _ _ _ (by intro hh; injection hh with _ hh; omega)]; exact hc
  have on : ∀ (w : World) (i : Nat) (u v : Value), w.cell? ⟨g, i, none⟩ = some u → (w.setCell ⟨g, i, none⟩ v).cell? ⟨g, i, none⟩ = some v := fun w i u v hc => World.cell?_setCell_same _ _ _ hc
  by_cases ej : j = k
  · subst ej
    refine ⟨(o, x, a, n', c'), ⟨?_, ?_, ?_, ?_, ?_⟩, ⟨hf _ f0, hf _ f1, hf _ f2, hf _ f3, hf _ f4⟩, fun hk => absurd hk (by omega), fun _ => hT ht⟩
    · exact off _ _ _ _ _ (by omega) (off _ _ _ _ _ (by omega) (off _ _ _ _ _ (by omega) (off _ _ _ _ _ (by omega) (on _ _ _ _ h0))))
    · exact off _ _ _ _ _ (by omega) (off _ _ _ _ _ (by omega) (off _ _ _ _ _ (by omega) (on _ _ _ _ (off _ _ _ _ _ (by omega) h1))))
    · exact off _ _ _ _ _ (by omega) (off _ _ _ _ _ (by omega) (on _ _ _ _ (off _ _ _ _ _ (by omega) (off _ _ _ _ _ (by omega) h2))))
    · exact off _ _ _ _ _ (by omega) (on _ _ _ _ (off _ _ _ _ _ (by omega) (off _ _ _ _ _ (by omega) (off _ _ _ _ _ (by omega) h3))))
    · exact on _ _ _ _ (off _ _ _ _ _ (by omega) (off _ _ _ _ _ (by omega) (off _ _ _ _ _ (by omega) (off _ _ _ _ _ (by omega) h4))))
  · have hh : ∀ i u, i < 5 → w.cell? ⟨g, j * 5 + i, none⟩ = some u → (((((w.setCell ⟨g, k * 5, none⟩ (.int .i64 o)).setCell ⟨g, k * 5 + 1, none⟩ (.string x)).setCell ⟨g, k * 5 + 2, none⟩ (.int .i64 0)).setCell ⟨g, k * 5 + 3, none⟩ (.slice none 0 0)).setCell ⟨g, k * 5 + 4, none⟩ (.slice a n' c')).cell? ⟨g, j * 5 + i, none⟩ = some u := fun i u hi hc =>
      off _ _ _ _ _ (by omega) (off _ _ _ _ _ (by omega) (off _ _ _ _ _ (by omega) (off _ _ _ _ _ (by omega) (off _ _ _ _ _ (by omega) hc))))
    exact ⟨e, ⟨hh 0 _ (by omega) h0, hh 1 _ (by omega) h1, hh 2 _ (by omega) h2, hh 3 _ (by omega) h3, hh 4 _ (by omega) h4⟩, ⟨hf _ f0, hf _ f1, hf _ f2, hf _ f3, hf _ f4⟩, fun hk => h5 (by omega), fun hk => hT (h6 (by omega))⟩

def CopyC (d : Nat) : Prop :=
  ∀ (H : Nat → Prop) (t : GT) (o : Int) (x : ByteArray) (a : Option Addr) (n c : Nat) (w : World), TyIs w H d t o x a n →
    Calls Tryz.prog 28 #[.agg #[.int .i64 o, .string x, .int .i64 0, .slice none 0 0, .slice a n c]] w fun e w' => (∃ o' x' a' n' c', e = .returned (.agg #[.int .i64 o', .string x', .int .i64 0, .slice none 0 0, .slice a' n' c']) ∧ TyIs w' (fun b => b < w.heap.size) d t o' x' a' n') ∧ Below w.heap.size w w'

set_option maxRecDepth 100000 in
set_option maxHeartbeats 2000000 in
theorem copy_step {d : Nat} (H : Nat → Prop) (t : GT) (o : Int) (x : ByteArray) (a : Option Addr) (n c : Nat) (w : World) (HC : 0 < n → CopyC d) (h : TyIs w H (d + 1) t o x a n) :
    Calls Tryz.prog 28 #[.agg #[.int .i64 o, .string x, .int .i64 0, .slice none 0 0, .slice a n c]] w fun e w' => (∃ o' x' a' n' c', e = .returned (.agg #[.int .i64 o', .string x', .int .i64 0, .slice none 0 0, .slice a' n' c']) ∧ TyIs w' (fun b => b < w.heap.size) (d + 1) t o' x' a' n') ∧ Below w.heap.size w w' := by
  have HCC := Lib.hid HC
  have h10 : n ≤ 10 := h.1.2.1
  have HNL : Hid (n = t.l.length ∧ o = t.o ∧ x = bs t.x) := ⟨h.1.1, h.2⟩
  have hb1 := below_alloc w (Obj.cells #[.int .i64 o, .string x, .int .i64 0, .slice none 0 0, .slice a n c] 42)
  have r1 := heap_alloc_new w (Obj.cells #[.int .i64 o, .string x, .int .i64 0, .slice none 0 0, .slice a n c] 42)
  have hz1 : (w.alloc (Obj.cells #[.int .i64 o, .string x, .int .i64 0, .slice none 0 0, .slice a n c] 42)).heap.size = w.heap.size + 1 := by simp
  have hb2 := below_alloc (w.alloc (Obj.cells #[.int .i64 o, .string x, .int .i64 0, .slice none 0 0, .slice a n c] 42)) (Obj.cells noT5 42)
  have r2 := heap_alloc_new (w.alloc (Obj.cells #[.int .i64 o, .string x, .int .i64 0, .slice none 0 0, .slice a n c] 42)) (Obj.cells noT5 42)
  have hz2 : ((w.alloc (Obj.cells #[.int .i64 o, .string x, .int .i64 0, .slice none 0 0, .slice a n c] 42)).alloc (Obj.cells noT5 42)).heap.size = w.heap.size + 2 := by simp
  rw [hz1] at r2
  have r1' := (hb2.block w.heap.size (by omega)).trans r1
  have hB2 : Below w.heap.size w ((w.alloc (Obj.cells #[.int .i64 o, .string x, .int .i64 0, .slice none 0 0, .slice a n c] 42)).alloc (Obj.cells noT5 42)) := hb1.trans (hb2.mono (by omega))
  have CL := Lib.hid (cloneE_any t.l a n c d H _ (h.1.below hB2))
  have HR1 := Lib.hid r1'
  have HR2 := Lib.hid r2
  have HB2 := Lib.hid hB2
  have HZ2 := Lib.hid hz2
  clear HC h hb1 hb2 r1 r2 r1' hB2 hz1 hz2
  go_enter Tryz.func28, Tryz.ntmps28
  go_wp2_with fail
  refine CL.out.mono ?_
  rintro e w3 ⟨v3, es, rfl, hel, hown, hb3, hty⟩
  have hz3 := hb3.size
  rw [HZ2.out] at hz3
  have HTY := Lib.hid hty
  have HOWN := Lib.hid hown
  have HB3 := Lib.hid hb3
  obtain ⟨a3, c3, rfl⟩ := ownsRow_form hown
  have HCP : Hid (∀ g, a3 = some ⟨g, 0, none⟩ → w.heap.size + 2 ≤ g ∧ g < w3.heap.size ∧ CpRow w3 g n d t.l es 0) := by
    rintro g rfl
    obtain ⟨h1, cur, h2, _⟩ := own_obj HOWN.out
    rw [HZ2.out] at h1
    exact ⟨h1, (Array.getElem?_eq_some_iff.1 h2).1, cpRow_own HOWN.out hel⟩
  have HFM : Hid (0 < n → ∃ g, a3 = some ⟨g, 0, none⟩) := by
    intro hn
    rcases HOWN.out.2 with ⟨e, e2⟩ | ⟨g, cap', cur, e, _⟩
    · omega
    · injection e with e; exact ⟨g, e⟩
  clear hty hown hb3 CL
  go_wp2_with fail
  go_loopw [10] (fun i wr => ∃ k : Nat, k ≤ n ∧ i = .int .i64 k ∧ Below (w.heap.size + 2) w3 wr ∧ Hid (∀ g, a3 = some ⟨g, 0, none⟩ → CpRow wr g n d t.l es k)) (fun i _ => n - (intOf i).toNat)
  case atStart => exact ⟨0, by omega, rfl, Below.refl _ _, fun g e => (HCP.out g e).2.2⟩
  case round =>
    obtain ⟨k, hk, rfl, hB, hcp⟩ := hrel
    by_cases hlt : k < n
    · obtain ⟨g, rfl⟩ := HFM.out (by omega)
      obtain ⟨hg1, hg2, _⟩ := HCP.out g rfl
      have hcpk := hcp.out g rfl
      obtain ⟨e, ⟨g0, g1, g2, g3, g4⟩, ⟨f0, f1, f2, f3, f4⟩, hee, _⟩ := hcpk k hlt
      have hee := hee (Nat.le_refl k)
      have hzr := hB.size
      have hbW : Below ((w.alloc (Obj.cells #[.int .i64 o, .string x, .int .i64 0, .slice none 0 0, .slice a n c] 42)).alloc (Obj.cells noT5 42)).heap.size ((w.alloc (Obj.cells #[.int .i64 o, .string x, .int .i64 0, .slice none 0 0, .slice a n c] 42)).alloc (Obj.cells noT5 42)) wr := by
        rw [HZ2.out]
        have h3 := HB3.out
        rw [HZ2.out] at h3
        exact h3.trans hB
      have hte := (HTY.out k hlt).below hbW
      rw [← hee] at hte
      obtain ⟨o1, x1, a1, n1, q1⟩ := e
      simp only [] at g0 g1 g2 g3 g4 hte
      have CP := Lib.hid (HCC.out (by omega) H _ o1 x1 a1 n1 q1 wr hte)
      have HCK := Lib.hid hcpk
      clear hee hbW hte hcpk f0 f1 f2 f3 f4
      go_wp2_with fail
      refine CP.out.mono ?_
      rintro e w5 ⟨⟨o2, x2, a2, n2, q2, rfl, ht2⟩, hb5⟩
      have hck5 := HCK.out.below hb5 (by omega)
      obtain ⟨e', ⟨y0, y1, y2, y3, y4⟩, ⟨f0, f1, f2, f3, f4⟩, _, _⟩ := hck5 k hlt
      have hz5 := hb5.size
      have hst := hck5.step (o := o2) (x := x2) (a := a2) (n' := n2) (c' := q2) hlt (ht2.turn (Nat.le_refl _) (fun _ _ _ _ h => h) (fun b _ hx => by omega))
      have HST : Hid (∀ g', (some ⟨g, 0, none⟩ : Option Addr) = some ⟨g', 0, none⟩ → CpRow (((((w5.setCell ⟨g, k * 5, none⟩ (.int .i64 o2)).setCell ⟨g, k * 5 + 1, none⟩ (.string x2)).setCell ⟨g, k * 5 + 2, none⟩ (.int .i64 0)).setCell ⟨g, k * 5 + 3, none⟩ (.slice none 0 0)).setCell ⟨g, k * 5 + 4, none⟩ (.slice a2 n2 q2)) g' n d t.l es (k + 1)) := by
        intro g' e
        have e2 : g' = g := (congrArg Addr.block (Option.some.inj e)).symm
        rw [e2]
        exact hst
      have hB6 : Below (w.heap.size + 2) w3 (((((w5.setCell ⟨g, k * 5, none⟩ (.int .i64 o2)).setCell ⟨g, k * 5 + 1, none⟩ (.string x2)).setCell ⟨g, k * 5 + 2, none⟩ (.int .i64 0)).setCell ⟨g, k * 5 + 3, none⟩ (.slice none 0 0)).setCell ⟨g, k * 5 + 4, none⟩ (.slice a2 n2 q2)) :=
        (((((hB.trans (hb5.mono (by omega))).setCell (p := ⟨g, k * 5, none⟩) hg1 _).setCell (p := ⟨g, k * 5 + 1, none⟩) hg1 _).setCell (p := ⟨g, k * 5 + 2, none⟩) hg1 _).setCell (p := ⟨g, k * 5 + 3, none⟩) hg1 _).setCell (p := ⟨g, k * 5 + 4, none⟩) hg1 _
      clear hst hck5 CP ht2
      go_wp2_with fail
      go_roundw
      case rel => exact ⟨k + 1, by omega, by go_num, hB6, HST⟩
      case measure => simp [intOf]; omega
    · have hbW : Below (w.heap.size + 2) ((w.alloc (Obj.cells #[.int .i64 o, .string x, .int .i64 0, .slice none 0 0, .slice a n c] 42)).alloc (Obj.cells noT5 42)) wr := by
        have h3 := HB3.out
        rw [HZ2.out] at h3
        exact h3.trans hB
      have hr1 := (hbW.block w.heap.size (by omega)).trans HR1.out
      have hr2 := (hbW.block (w.heap.size + 1) (by omega)).trans HR2.out
      have HR1' := Lib.hid hr1
      have HR2' := Lib.hid hr2
      obtain ⟨⟨y0, y1, y2, y3, y4⟩, y5, y6, y7, y8, y9⟩ := five hr1
      obtain ⟨⟨z0, z1, z2, z3, z4⟩, z5, z6, z7, z8, z9⟩ := five hr2
      have HBR : Hid (Below w.heap.size w wr) := HB2.out.trans (hbW.mono (by omega))
      clear hr1 hr2 hbW
      go_wp2_with fail
      have hr2' := (heap_setCell_other wr ⟨w.heap.size, 4, none⟩ (w.heap.size + 1) (.slice a3 n c3) (by simp)).trans HR2'.out
      refine bodyPost_ret (results_cell_row rfl _ _ (w.heap.size + 1) 42 #[.int .i64 o, .string x, .int .i64 0, .slice none 0 0, .slice a3 n c3] (0, 0) _ rfl (row5 hr2') Tryz.underlying42 rfl Tryz.size42) rfl ?_
      refine ⟨⟨o, x, a3, n, c3, rfl, ⟨HNL.out.1, h10, fun hn => ?_⟩, HNL.out.2⟩, below5 (HBR.out.setCell (p := ⟨w.heap.size, 4, none⟩) (Nat.le_refl _) _) (by omega)⟩
      obtain ⟨g, rfl⟩ := HFM.out hn
      obtain ⟨hg1, hg2, _⟩ := HCP.out g rfl
      have hkk : k = n := by omega
      subst hkk
      have hzr := hB.size
      have hck := hcp.out g rfl
      have hcl : ∀ b i u, ¬ b ≤ w.heap.size + 1 → wr.cell? ⟨b, i, none⟩ = some u → ((((((wr.setCell ⟨w.heap.size, 4, none⟩ (.slice (some ⟨g, 0, none⟩) k c3)).setCell ⟨w.heap.size + 1, 0, none⟩ (.int .i64 o)).setCell ⟨w.heap.size + 1, 1, none⟩ (.string x)).setCell ⟨w.heap.size + 1, 2, none⟩ (.int .i64 0)).setCell ⟨w.heap.size + 1, 3, none⟩ (.slice none 0 0)).setCell ⟨w.heap.size + 1, 4, none⟩ (.slice (some ⟨g, 0, none⟩) k c3)).cell? ⟨b, i, none⟩ = some u := fun b i u hh hc =>
        (World.cell?_of_block (a := ⟨b, i, none⟩) ((block5 (show b ≠ w.heap.size + 1 by omega)).trans (heap_setCell_other _ _ _ _ (show b ≠ w.heap.size by omega)))).trans hc
      refine ⟨g, 0, rfl, ?_, by omega, fun j hj => ?_⟩
      · simp; omega
      · obtain ⟨e, ⟨g0, g1, g2, g3, g4⟩, _, _, ht⟩ := hck j hj
        rw [Nat.zero_add]
        exact ⟨_, _, _, _, _, ⟨hcl _ _ _ (by omega) g0, hcl _ _ _ (by omega) g1, hcl _ _ _ (by omega) g2, hcl _ _ _ (by omega) g3, hcl _ _ _ (by omega) g4⟩, (ht hj).turn (by simp) (fun b i u hh hc => hcl b i u (by omega) hc) (fun b _ hx => by omega)⟩

theorem copy_any : ∀ d, CopyC d
  | 0 => fun H t o x a n c w h => by
    obtain ⟨⟨rfl, hl⟩, h2⟩ := h
    refine (copy_step (d := 0) H t o x a 0 c w (fun h => absurd h (by omega)) ⟨by rw [hl]; exact tyAt_none _ _ _ _, h2⟩).mono ?_
    rintro e w' ⟨⟨o', x', a', n', c', he, ⟨h3, _⟩, h4⟩, hb⟩
    exact ⟨⟨o', x', a', n', c', he, ⟨by rw [h3, hl]; rfl, hl⟩, h4⟩, hb⟩
  | d + 1 => fun H t o x a n c w h => copy_step H t o x a n c w (fun _ => copy_any d) h
end Go.Proofs.YtehnikgdjnmfcaaGreat

/- Ground 27. -/
namespace Go.Proofs.YtehnikgdjnmfcaaGreat
open Go.RowKit Go.WideMaps Go.Shelf Go.Lib
attribute [local go_sem] Oper.semAt_some

set_option maxRecDepth 100000 in
set_option maxHeartbeats 2000000 in
theorem newGrounder_any (bm : Nat) (c1 : Value) (ga : Option Addr) (capa : Nat) (c3 : Value) (mb am : Nat) (cs : List (Nm × List Nm)) (abl : List (List Nat)) (ds : List (Nm × Int)) (rs : List Ar) (w : World)
    (hg : SgF w (.agg #[.map (some bm), c1, .slice ga cs.length capa, c3, .map (some mb), .map (some am)]) cs abl ds rs) :
    Calls Tryz.prog 26 #[.agg #[.map (some bm), c1, .slice ga cs.length capa, c3, .map (some mb), .map (some am)]] w fun e w' => ∃ rb kb, e = .returned (.pointer (some ⟨rb, 0, none⟩)) ∧ Below w.heap.size w w' ∧ w.heap.size ≤ kb ∧ GrAt w' (fun _ => False) rb kb bm c1 ga capa c3 mb am cs abl ds rs 0 (fun _ => none) := by
  have HG := Lib.hid hg
  have hmk : ∀ W : World, (Instr.makeMap 93 none).run Tryz.prog W = .ok (.map (some W.heap.size)) (W.alloc (.map #[] 0)) := fun W => by kernel_rfl
  clear hg
  go_enter Tryz.func26, Tryz.ntmps26
  go_wp2_with fail
  go_ret
  have hb1 := below_alloc w (Obj.cells #[.map (some bm), c1, .slice ga cs.length capa, c3, .map (some mb), .map (some am)] 63)
  have hb2 := below_alloc (w.alloc (Obj.cells #[.map (some bm), c1, .slice ga cs.length capa, c3, .map (some mb), .map (some am)] 63)) (Obj.map #[] 0)
  have hb3 := below_alloc ((w.alloc (Obj.cells #[.map (some bm), c1, .slice ga cs.length capa, c3, .map (some mb), .map (some am)] 63)).alloc (Obj.map #[] 0)) (Obj.cells #[.map (some bm), c1, .slice ga cs.length capa, c3, .map (some mb), .map (some am), .map (some (w.heap.size + 1))] 95)
  have r2 := heap_alloc_new (w.alloc (Obj.cells #[.map (some bm), c1, .slice ga cs.length capa, c3, .map (some mb), .map (some am)] 63)) (Obj.map #[] 0)
  have r3 := heap_alloc_new ((w.alloc (Obj.cells #[.map (some bm), c1, .slice ga cs.length capa, c3, .map (some mb), .map (some am)] 63)).alloc (Obj.map #[] 0)) (Obj.cells #[.map (some bm), c1, .slice ga cs.length capa, c3, .map (some mb), .map (some am), .map (some (w.heap.size + 1))] 95)
  have hz1 : (w.alloc (Obj.cells #[.map (some bm), c1, .slice ga cs.length capa, c3, .map (some mb), .map (some am)] 63)).heap.size = w.heap.size + 1 := by simp
  have hz2 : ((w.alloc (Obj.cells #[.map (some bm), c1, .slice ga cs.length capa, c3, .map (some mb), .map (some am)] 63)).alloc (Obj.map #[] 0)).heap.size = w.heap.size + 2 := by simp
  have hB := hb1.trans ((hb2.trans (hb3.mono (by omega))).mono (show w.heap.size ≤ _ by omega))
  rw [hz1] at r2
  rw [hz2] at r3
  refine ⟨w.heap.size + 2, w.heap.size + 1, rfl, hB, by omega, ⟨r3, ⟨w, HG.out, hB, by omega⟩, ?_, fun s d v _ hv => by cases hv⟩⟩
  exact mapK_empty ((hb3.block (w.heap.size + 1) (by omega)).trans r2)

theorem results_row_tmp2 {P : Program} {fn : Func} {p u v : Tmp} {ty : TypeId} (h : fn.results = #[.cell p ty, .tmp u, .tmp v]) (tmps : Array Value) (w : World) (g : Nat) (t : TypeId) (cs : Array Value) (fr : Nat × Nat) (d : TypeDesc)
    (hp : tmps.getD p undef = .pointer (some ⟨g, 0, none⟩)) (hg : w.heap[g]? = some (.cells cs t fr))
    (hu : P.underlying ty = some d) (hd : (match d with | .struct _ | .array _ _ => true | _ => false) = true) (hi : (P.info? ty).map (·.size) = some cs.size) :
    (results fn tmps).run P w = .ok (.tuple #[.agg cs, tmps.getD u undef, tmps.getD v undef]) w := by
  have hp' : tmps[p]?.getD undef = .pointer (some ⟨g, 0, none⟩) := by simpa using hp
  simp only [results, h]
  simp [Result.andThen, hp', asAddr, run_loadVar_row w g t ty cs fr d hg hu hd hi]

/-- the error of Ground -/
def groundErr (cs : List (Nm × List Nm)) (abl : List (List Nat)) (ds : List (Nm × Int)) (rs : List Ar) (ss : List Nm) : Int := if chkErr cs abl ds rs = 0 then normErr (cs.map Prod.fst) ss else chkErr cs abl ds rs
/-- whether Ground finds a type -/
def groundB (cs : List (Nm × List Nm)) (abl : List (List Nat)) (ds : List (Nm × Int)) (rs : List Ar) (d : Nat) (ss : List Nm) : Bool :=
  decide (groundErr cs abl ds rs ss = 0) && gB cs abl ds rs d (leastB (cs.map Prod.fst) (fun i => abl.getD i []) ss)

/-- the type that Ground finds, the zero Type beside an error -/
def groundT (cs : List (Nm × List Nm)) (abl : List (List Nat)) (ds : List (Nm × Int)) (rs : List Ar) (d : Nat) (ss : List Nm) : GT :=
  if groundErr cs abl ds rs ss = 0 then gT cs abl ds rs d (leastB (cs.map Prod.fst) (fun i => abl.getD i []) ss) else .zero

def GdPost (w : World) (er : Int) (d : Nat) (t : GT) (ok : Bool) (e : Ending) (w' : World) : Prop :=
  ∃ o x a n c, e = .returned (.tuple #[.agg #[.int .i64 o, .string x, .int .i64 0, .slice none 0 0, .slice a n c], .bool ok, .int .i64 er]) ∧ Below w.heap.size w w' ∧ TyIs w' (fun b => b < w.heap.size) d t o x a n

set_option maxRecDepth 100000 in
set_option maxHeartbeats 2000000 in
theorem ground_any (t v : Value) (cs : List (Nm × List Nm)) (abl : List (List Nat)) (ds : List (Nm × Int)) (rs : List Ar) (ss : List Nm) (dn : Nat) (w : World) (n c t2 t3 t4 t5 t6 : Value) (he : t = .agg #[n, c, t2, t3, t4, t5, t6]) (hc : SlC w c cs) (hd : SlT w t2 ds) (ha : SlAr w t3 rs)
    (hab : clsErr cs = 0 → ∃ sp, Built cs sp abl) (hs : SlS w v ss) (h5 : dn ≤ 5) :
    Calls Tryz.prog 12 #[t, v, .int .i64 dn] w (GdPost w (groundErr cs abl ds rs ss) dn (groundT cs abl ds rs dn ss) (groundB cs abl ds rs dn ss)) := by
  subst he
  have HS := Lib.hid hs
  have HAB := Lib.hid hab
  have hb0 := below_alloc w (Obj.cells #[n, c, t2, t3, t4, t5, t6] 29)
  have hz0 : (w.alloc (Obj.cells #[n, c, t2, t3, t4, t5, t6] 29)).heap.size = w.heap.size + 1 := by simp
  have hb1 := below_alloc (w.alloc (Obj.cells #[n, c, t2, t3, t4, t5, t6] 29)) (Obj.cells noT5 42)
  have r1 := heap_alloc_new (w.alloc (Obj.cells #[n, c, t2, t3, t4, t5, t6] 29)) (Obj.cells noT5 42)
  rw [hz0] at r1
  have hz1 : ((w.alloc (Obj.cells #[n, c, t2, t3, t4, t5, t6] 29)).alloc (Obj.cells noT5 42)).heap.size = w.heap.size + 2 := by simp
  have hB1 : Below w.heap.size w ((w.alloc (Obj.cells #[n, c, t2, t3, t4, t5, t6] 29)).alloc (Obj.cells noT5 42)) := hb0.trans (hb1.mono (by omega))
  have SG := Lib.hid (sign_of complete_any n c t2 t3 t4 t5 t6 cs abl ds rs ((w.alloc (Obj.cells #[n, c, t2, t3, t4, t5, t6] 29)).alloc (Obj.cells noT5 42)) (hc.below hB1 (Nat.le_refl _)) (hd.below hB1 (Nat.le_refl _)) (ha.below hB1 (Nat.le_refl _)) hab)
  have HR1 := Lib.hid r1
  have HB1 := Lib.hid hB1
  have HZ1 := Lib.hid hz1
  obtain ⟨_, ca, ccap, rfl, _⟩ := hc
  obtain ⟨_, da, dcap, rfl, _⟩ := hd
  obtain ⟨_, aa, acap, rfl, _⟩ := ha
  obtain ⟨_, sa, scap, rfl, _⟩ := hs
  unfold SgPost at SG
  obtain ⟨er, her⟩ : ∃ er, er = groundErr cs abl ds rs ss := ⟨_, rfl⟩
  obtain ⟨ok, hok⟩ : ∃ ok, ok = groundB cs abl ds rs dn ss := ⟨_, rfl⟩
  obtain ⟨gt, hgt⟩ : ∃ gt, gt = groundT cs abl ds rs dn ss := ⟨_, rfl⟩
  rw [← her, ← hok, ← hgt]
  unfold groundT at hgt
  rw [← her] at hgt
  have HGT := Lib.hid hgt
  unfold groundB at hok
  rw [← her] at hok
  unfold groundErr at her
  have HER := Lib.hid her
  have HOK := Lib.hid hok
  generalize hce : chkErr cs abl ds rs = ce at *
  have HCE := Lib.hid hce
  have hd1 : decide (((dn : Nat) : Int) < 0) = false := by simp
  have hd2 : decide (5 < ((dn : Nat) : Int)) = false := by simp; omega
  clear her hok hgt hab hce hb0 hb1 r1 hB1 hz0 hz1
  go_enter Tryz.func12, Tryz.ntmps12
  by_cases h0 : ce = 0
  · have hE1 : Hid (er = normErr (cs.map Prod.fst) ss) := by unfold Hid; rw [HER.out, if_pos h0]
    obtain ⟨k1, k2, k3, _⟩ := chk_zero (HCE.out.trans h0)
    obtain ⟨sp, hbu⟩ := HAB.out k1
    have HBU := Lib.hid hbu
    have HK2 := Lib.hid k2
    have HK3 := Lib.hid k3
    have HK1 := Lib.hid k1
    subst h0
    clear k1 k2 k3 hbu HER
    go_wp2_with fail
    refine SG.out.mono ?_
    rintro e w2 ⟨m0, a1, n1, q1, a2, n2, q2, a3, n3, q3, m4, m5, rfl, hb2, hok2⟩
    have hsg := sgF_of (hok2 trivial)
    have hsg' := hsg
    obtain ⟨bm, c1, ga, capa, c3, mb, am, vs, hge, hsig, _⟩ := hsg'
    injection hge with hge
    simp at hge
    obtain ⟨rfl, rfl, ⟨rfl, rfl, rfl⟩, rfl, rfl, rfl⟩ := hge
    have HSG := Lib.hid hsg
    have HSIG := Lib.hid hsig
    clear hok2 hsg hsig SG
    have hz2 := hb2.size
    rw [HZ1.out] at hz2
    have hb3 := below_alloc w2 (Obj.cells #[.map (some bm), .slice a1 n1 q1, .slice a2 cs.length q2, .slice a3 n3 q3, .map (some mb), .map (some am)] 63)
    have r3 := heap_alloc_new w2 (Obj.cells #[.map (some bm), .slice a1 n1 q1, .slice a2 cs.length q2, .slice a3 n3 q3, .map (some mb), .map (some am)] 63)
    have hz3 : (w2.alloc (Obj.cells #[.map (some bm), .slice a1 n1 q1, .slice a2 cs.length q2, .slice a3 n3 q3, .map (some mb), .map (some am)] 63)).heap.size = w2.heap.size + 1 := by simp
    have hB2 : Below w.heap.size w w2 := HB1.out.trans (hb2.mono (by rw [HZ1.out]; omega))
    have hB3 : Below w.heap.size w (w2.alloc (Obj.cells #[.map (some bm), .slice a1 n1 q1, .slice a2 cs.length q2, .slice a3 n3 q3, .map (some mb), .map (some am)] 63)) := hB2.trans (hb3.mono (by omega))
    have hrr3 := (hb3.block (w.heap.size + 1) (by omega)).trans ((hb2.block (w.heap.size + 1) (by rw [HZ1.out]; omega)).trans HR1.out)
    have NS := Lib.hid (normal_sig _ _ ss _ _ _ (HSIG.out.below hb3 (Nat.le_refl _)) (HS.out.below hB3 (Nat.le_refl _)))
    unfold NormPost at NS
    have HR3 := Lib.hid r3
    have HRR3 := Lib.hid hrr3
    have HB3 := Lib.hid hB3
    have HBB3 := Lib.hid hb3
    have HZ3 := Lib.hid hz3
    have HNE := Lib.hid (fun h => normErr_zero (ns := cs.map Prod.fst) (ss := ss) h)
    generalize hne : normErr (cs.map Prod.fst) ss = ne at *
    clear hne r3 hrr3 hB2 hB3 hb3 hz3 hb2
    generalize hLL : leastB (cs.map Prod.fst) (fun i => abl.getD i []) ss = L at *
    have HLL := Lib.hid hLL
    clear hLL
    go_wp2_with fail
    refine NS.out.mono ?_
    rintro e w4 ⟨v4, rfl, hb4, hok4, _⟩
    have hz4 := hb4.size
    rw [HZ3.out] at hz4
    have hr4 := (hb4.block w2.heap.size (by rw [HZ3.out]; omega)).trans HR3.out
    have hrr4 := (hb4.block (w.heap.size + 1) (by rw [HZ3.out]; omega)).trans HRR3.out
    have HR4 := Lib.hid hr4
    have HRR4 := Lib.hid hrr4
    have hB4 : Below w.heap.size w w4 := HB3.out.trans (hb4.mono (by rw [HZ3.out]; omega))
    have HB4 := Lib.hid hB4
    by_cases hne0 : ne = 0
    · have hso := hok4 hne0
      obtain ⟨_, hkn⟩ := HNE.out hne0
      have HSO := Lib.hid hso
      have hok' : Hid (ok = gB cs abl ds rs dn L) := by unfold Hid; rw [HOK.out, hE1.out, hne0]; rfl
      have hgt' : Hid (gt = gT cs abl ds rs dn L) := by unfold Hid; rw [HGT.out, hE1.out, hne0]; rfl
      have hL300 : L.length ≤ 300 := by
        have h1 := List.all_eq_true.1 hkn
        have h2 := least_known HBU.out h1
        have h3 := nodup_sub_len _ (cs.map Prod.fst) (asc_nodup (leastB_asc (cs.map Prod.fst) (fun i => abl.getD i []) ss)) (fun y hy => of_decide_eq_true (h2 y hy))
        rw [HLL.out, List.length_map] at h3
        have := clsErr_len HK1.out
        omega
      have hLk : L.all (inNs (cs.map Prod.fst)) = true := by
        have h2 := least_known HBU.out (List.all_eq_true.1 hkn)
        rw [HLL.out] at h2
        exact List.all_eq_true.2 h2
      have HLK := Lib.hid hLk
      subst hne0
      obtain ⟨⟨x0, x1, x2, x3, x4, x5⟩, _⟩ := six hr4
      have hg4 := (HSG.out.below HBB3.out).below hb4
      have NG := Lib.hid (newGrounder_any bm (.slice a1 n1 q1) a2 q2 (.slice a3 n3 q3) mb am cs abl ds rs w4 hg4)
      clear hok4 hso hkn hLk hg4 NS hr4 hrr4 hb4 hB4
      obtain ⟨_, _, a4, k4, rfl, _⟩ := HSO.out
      go_wp2_with fail
      refine NG.out.mono ?_
      rintro e w5 ⟨rb, kb, rfl, hb5, HKB, hg5⟩
      have FA := Lib.hid (first_any dn (fun _ => False) rb kb bm (.slice a1 n1 q1) a2 q2 (.slice a3 n3 q3) mb am cs sp abl ds rs 0 (fun _ => none) _ L w5 (fun b hb => hb.elim) hg5 HBU.out (clsErr_len HK1.out) HK3.out HK2.out ((HSO.out.below hb5 (Nat.le_refl _)).base (Nat.zero_le _)) HLK.out hL300 h5 (by have := NB_five h5; omega))
      rw [← hok'.out, ← hgt'.out] at FA
      unfold GPost at FA
      have HB5 := Lib.hid hb5
      have HG5 := Lib.hid hg5
      have hz5 := hb5.size
      clear hb5 hg5 NG
      go_wp2_with fail
      refine FA.out.mono ?_
      rintro e w6 ⟨o, x, a, k, cc, n', f', rfl, hb6, hg6, _, ht6⟩
      have hr5 := (HB5.out.block (w.heap.size + 1) (by omega)).trans HRR4.out
      obtain ⟨⟨y0, _⟩, _⟩ := five hr5
      have hr6 := (HG5.out.cell hb6 y0).trans hr5
      have hz6 := hb6.size
      have hkb := HG5.out.map.lt
      have hb7 := below_alloc w6 (Obj.cells #[.int .i64 o, .string x, .int .i64 0, .slice none 0 0, .slice a k cc] 42)
      have hr7 := (hb7.block (w.heap.size + 1) (by omega)).trans hr6
      have CP := Lib.hid (copy_any dn (fun _ => False) gt o x a k cc _ (ht6.below hb7))
      have HR7 := Lib.hid hr7
      have HB7 : Hid (Below w.heap.size w (w6.alloc (Obj.cells #[.int .i64 o, .string x, .int .i64 0, .slice none 0 0, .slice a k cc] 42))) :=
        (HB4.out.trans (HB5.out.mono (by omega))).trans ((hb6.below (B := w.heap.size) (by omega) (by omega)).trans (hb7.mono (by omega)))
      have hz7 : (w6.alloc (Obj.cells #[.int .i64 o, .string x, .int .i64 0, .slice none 0 0, .slice a k cc] 42)).heap.size = w6.heap.size + 1 := by simp
      have HZ7 := Lib.hid hz7
      clear hr5 y0 hr6 hb6 hg6 ht6 hb7 hr7 FA hz7
      go_wp2_with fail
      refine CP.out.mono ?_
      rintro e w8 ⟨⟨o2, x2, a2', n2', c2, rfl, ht8⟩, hb8⟩
      have HT8 := Lib.hid ht8
      have hr8 := (hb8.block (w.heap.size + 1) (by rw [HZ7.out]; omega)).trans HR7.out
      have HR8 := Lib.hid hr8
      have hBF : Below w.heap.size w w8 := HB7.out.trans (hb8.mono (by rw [HZ7.out]; omega))
      obtain ⟨⟨z0, z1, z2, z3, z4⟩, z5, z6, z7, z8, z9⟩ := five hr8
      clear hr8 hb8 CP ht8
      go_wp2_with fail
      refine bodyPost_ret (results_row_tmp2 rfl _ _ (w.heap.size + 1) 42 #[.int .i64 o2, .string x2, .int .i64 0, .slice none 0 0, .slice a2' n2' c2] (0, 0) _ rfl (row5 HR8.out) Tryz.underlying42 rfl Tryz.size42) rfl ?_
      exact ⟨o2, x2, a2', n2', c2, by rw [hE1.out]; rfl, below5 hBF (by omega), HT8.out.turn (by simp) (fun b i u hh hc => (World.cell?_of_block (a := ⟨b, i, none⟩) (block5 fun e => hh (by have e' : b = w.heap.size + 1 := e; rw [HZ7.out]; omega))).trans hc) (fun b _ hx => by rw [HZ7.out]; omega)⟩
    · have hd : (ne != 0) = true := by simpa using hne0
      have hof : Hid (ok = false) := by unfold Hid; rw [HOK.out, hE1.out, decide_eq_false hne0]; rfl
      have hgz : Hid (gt = .zero) := by unfold Hid; rw [HGT.out, if_neg (by rw [hE1.out]; exact hne0)]
      obtain ⟨⟨z0, z1, z2, z3, z4⟩, z5, z6, z7, z8, z9⟩ := five hrr4
      clear hne0 hok4 hr4 hrr4 hb4 hB4
      go_wp2_with fail
      refine bodyPost_ret (results_row_tmp2 rfl _ _ (w.heap.size + 1) 42 noT5 (0, 0) _ rfl (row5 HRR4.out) Tryz.underlying42 rfl Tryz.size42) rfl ?_
      exact ⟨0, ByteArray.empty, none, 0, 0, by rw [hof.out, hE1.out]; rfl, below5 HB4.out (by omega), by rw [hgz.out]; exact tyIs_zero _ _ _ _⟩
  · have hE1 : Hid (er = ce) := by unfold Hid; rw [HER.out, if_neg h0]
    have hd : (ce != 0) = true := by simpa using h0
    have HNZ : Hid (ce ≠ 0) := h0
    have hOF : Hid (ok = false) := by unfold Hid; rw [HOK.out, hE1.out, decide_eq_false h0]; rfl
    have hgz : Hid (gt = .zero) := by unfold Hid; rw [HGT.out, if_neg (by rw [hE1.out]; exact h0)]
    clear h0 HER
    go_wp2_with fail
    refine SG.out.mono ?_
    rintro e w1 ⟨m0, a1, n1, q1, a2, n2, q2, a3, n3, q3, m4, m5, rfl, hb1, _⟩
    have hz1 := hb1.size
    rw [HZ1.out] at hz1
    have hr := ((below_alloc w1 (Obj.cells #[.map m0, .slice a1 n1 q1, .slice a2 n2 q2, .slice a3 n3 q3, .map m4, .map m5] 63)).block (w.heap.size + 1) (by omega)).trans ((hb1.block (w.heap.size + 1) (by rw [HZ1.out]; omega)).trans HR1.out)
    have HRF := Lib.hid hr
    have HBF : Hid (Below w.heap.size w (w1.alloc (Obj.cells #[.map m0, .slice a1 n1 q1, .slice a2 n2 q2, .slice a3 n3 q3, .map m4, .map m5] 63))) := HB1.out.trans ((hb1.trans ((below_alloc w1 _).mono hb1.size)).mono (by rw [HZ1.out]; omega))
    obtain ⟨⟨z0, z1, z2, z3, z4⟩, z5, z6, z7, z8, z9⟩ := five hr
    clear hr
    go_wp2_with fail
    refine bodyPost_ret (results_row_tmp2 rfl _ _ (w.heap.size + 1) 42 noT5 (0, 0) _ rfl (row5 HRF.out) Tryz.underlying42 rfl Tryz.size42) rfl ?_
    exact ⟨0, ByteArray.empty, none, 0, 0, by rw [hOF.out, hE1.out]; rfl, below5 HBF.out (by omega), by rw [hgz.out]; exact tyIs_zero _ _ _ _⟩
end Go.Proofs.YtehnikgdjnmfcaaGreat

/- Ground 27 at a depth out of its range. -/
namespace Go.Proofs.YtehnikgdjnmfcaaGreat
open Go.RowKit Go.WideMaps Go.Shelf Go.Lib
attribute [local go_sem] Oper.semAt_some

set_option maxRecDepth 100000 in
set_option maxHeartbeats 2000000 in
theorem ground_out (t v : Value) (cs : List (Nm × List Nm)) (abl : List (List Nat)) (ds : List (Nm × Int)) (rs : List Ar) (ss : List Nm) (dp : Int) (w : World) (n c t2 t3 t4 t5 t6 : Value) (he : t = .agg #[n, c, t2, t3, t4, t5, t6]) (hc : SlC w c cs) (hd : SlT w t2 ds) (ha : SlAr w t3 rs)
    (hab : clsErr cs = 0 → ∃ sp, Built cs sp abl) (hs : SlS w v ss) (hr : dp < 0 ∨ 5 < dp) :
    Calls Tryz.prog 12 #[t, v, .int .i64 dp] w (GdPost w (if groundErr cs abl ds rs ss = 0 then 4 else groundErr cs abl ds rs ss) 0 .zero false) := by
  subst he
  have HS := Lib.hid hs
  have HAB := Lib.hid hab
  have hb0 := below_alloc w (Obj.cells #[n, c, t2, t3, t4, t5, t6] 29)
  have hz0 : (w.alloc (Obj.cells #[n, c, t2, t3, t4, t5, t6] 29)).heap.size = w.heap.size + 1 := by simp
  have hb1 := below_alloc (w.alloc (Obj.cells #[n, c, t2, t3, t4, t5, t6] 29)) (Obj.cells noT5 42)
  have r1 := heap_alloc_new (w.alloc (Obj.cells #[n, c, t2, t3, t4, t5, t6] 29)) (Obj.cells noT5 42)
  rw [hz0] at r1
  have hz1 : ((w.alloc (Obj.cells #[n, c, t2, t3, t4, t5, t6] 29)).alloc (Obj.cells noT5 42)).heap.size = w.heap.size + 2 := by simp
  have hB1 : Below w.heap.size w ((w.alloc (Obj.cells #[n, c, t2, t3, t4, t5, t6] 29)).alloc (Obj.cells noT5 42)) := hb0.trans (hb1.mono (by omega))
  have SG := Lib.hid (sign_of complete_any n c t2 t3 t4 t5 t6 cs abl ds rs ((w.alloc (Obj.cells #[n, c, t2, t3, t4, t5, t6] 29)).alloc (Obj.cells noT5 42)) (hc.below hB1 (Nat.le_refl _)) (hd.below hB1 (Nat.le_refl _)) (ha.below hB1 (Nat.le_refl _)) hab)
  have HR1 := Lib.hid r1
  have HB1 := Lib.hid hB1
  have HZ1 := Lib.hid hz1
  obtain ⟨_, ca, ccap, rfl, _⟩ := hc
  obtain ⟨_, da, dcap, rfl, _⟩ := hd
  obtain ⟨_, aa, acap, rfl, _⟩ := ha
  obtain ⟨_, sa, scap, rfl, _⟩ := hs
  unfold SgPost at SG
  obtain ⟨er, her⟩ : ∃ er, er = (if groundErr cs abl ds rs ss = 0 then 4 else groundErr cs abl ds rs ss) := ⟨_, rfl⟩
  rw [← her]
  unfold groundErr at her
  have HER := Lib.hid her
  generalize hce : chkErr cs abl ds rs = ce at *
  have HCE := Lib.hid hce
  clear her hab hce hb0 hb1 r1 hB1 hz0 hz1
  go_enter Tryz.func12, Tryz.ntmps12
  by_cases h0 : ce = 0
  · have hE1 : Hid (er = if normErr (cs.map Prod.fst) ss = 0 then 4 else normErr (cs.map Prod.fst) ss) := by unfold Hid; rw [HER.out, if_pos h0]
    obtain ⟨k1, k2, k3, _⟩ := chk_zero (HCE.out.trans h0)
    obtain ⟨sp, hbu⟩ := HAB.out k1
    have HBU := Lib.hid hbu
    have HK2 := Lib.hid k2
    have HK3 := Lib.hid k3
    have HK1 := Lib.hid k1
    subst h0
    clear k1 k2 k3 hbu HER
    go_wp2_with fail
    refine SG.out.mono ?_
    rintro e w2 ⟨m0, a1, n1, q1, a2, n2, q2, a3, n3, q3, m4, m5, rfl, hb2, hok2⟩
    have hsg := sgF_of (hok2 trivial)
    have hsg' := hsg
    obtain ⟨bm, c1, ga, capa, c3, mb, am, vs, hge, hsig, _⟩ := hsg'
    injection hge with hge
    simp at hge
    obtain ⟨rfl, rfl, ⟨rfl, rfl, rfl⟩, rfl, rfl, rfl⟩ := hge
    have HSG := Lib.hid hsg
    have HSIG := Lib.hid hsig
    clear hok2 hsg hsig SG
    have hz2 := hb2.size
    rw [HZ1.out] at hz2
    have hb3 := below_alloc w2 (Obj.cells #[.map (some bm), .slice a1 n1 q1, .slice a2 cs.length q2, .slice a3 n3 q3, .map (some mb), .map (some am)] 63)
    have r3 := heap_alloc_new w2 (Obj.cells #[.map (some bm), .slice a1 n1 q1, .slice a2 cs.length q2, .slice a3 n3 q3, .map (some mb), .map (some am)] 63)
    have hz3 : (w2.alloc (Obj.cells #[.map (some bm), .slice a1 n1 q1, .slice a2 cs.length q2, .slice a3 n3 q3, .map (some mb), .map (some am)] 63)).heap.size = w2.heap.size + 1 := by simp
    have hB2 : Below w.heap.size w w2 := HB1.out.trans (hb2.mono (by rw [HZ1.out]; omega))
    have hB3 : Below w.heap.size w (w2.alloc (Obj.cells #[.map (some bm), .slice a1 n1 q1, .slice a2 cs.length q2, .slice a3 n3 q3, .map (some mb), .map (some am)] 63)) := hB2.trans (hb3.mono (by omega))
    have hrr3 := (hb3.block (w.heap.size + 1) (by omega)).trans ((hb2.block (w.heap.size + 1) (by rw [HZ1.out]; omega)).trans HR1.out)
    have NS := Lib.hid (normal_sig _ _ ss _ _ _ (HSIG.out.below hb3 (Nat.le_refl _)) (HS.out.below hB3 (Nat.le_refl _)))
    unfold NormPost at NS
    have HR3 := Lib.hid r3
    have HRR3 := Lib.hid hrr3
    have HB3 := Lib.hid hB3
    have HBB3 := Lib.hid hb3
    have HZ3 := Lib.hid hz3
    have HNE := Lib.hid (fun h => normErr_zero (ns := cs.map Prod.fst) (ss := ss) h)
    generalize hne : normErr (cs.map Prod.fst) ss = ne at *
    clear hne r3 hrr3 hB2 hB3 hb3 hz3 hb2
    generalize leastB (cs.map Prod.fst) (fun i => abl.getD i []) ss = L at *
    go_wp2_with fail
    refine NS.out.mono ?_
    rintro e w4 ⟨v4, rfl, hb4, hok4, _⟩
    have hz4 := hb4.size
    rw [HZ3.out] at hz4
    have hr4 := (hb4.block w2.heap.size (by rw [HZ3.out]; omega)).trans HR3.out
    have hrr4 := (hb4.block (w.heap.size + 1) (by rw [HZ3.out]; omega)).trans HRR3.out
    have HR4 := Lib.hid hr4
    have HRR4 := Lib.hid hrr4
    have hB4 : Below w.heap.size w w4 := HB3.out.trans (hb4.mono (by rw [HZ3.out]; omega))
    have HB4 := Lib.hid hB4
    by_cases hne0 : ne = 0
    · have hE4 : Hid (er = 4) := by unfold Hid; rw [hE1.out, if_pos hne0]
      obtain ⟨⟨z0, z1, z2, z3, z4⟩, z5, z6, z7, z8, z9⟩ := five hrr4
      subst hne0
      clear hok4 hr4 hrr4 hb4 hB4
      by_cases hneg : dp < 0
      · have hd1 : decide (dp < 0) = true := decide_eq_true hneg
        clear hneg hr
        go_wp2_with fail
        refine bodyPost_ret (results_row_tmp2 rfl _ _ (w.heap.size + 1) 42 noT5 (0, 0) _ rfl (row5 HRR4.out) Tryz.underlying42 rfl Tryz.size42) rfl ?_
        exact ⟨0, ByteArray.empty, none, 0, 0, by rw [hE4.out]; rfl, below5 HB4.out (by omega), tyIs_zero _ _ _ _⟩
      · have hd1 : decide (dp < 0) = false := decide_eq_false hneg
        have hd2 : decide (5 < dp) = true := decide_eq_true (hr.resolve_left hneg)
        clear hneg hr
        go_wp2_with fail
        refine bodyPost_ret (results_row_tmp2 rfl _ _ (w.heap.size + 1) 42 noT5 (0, 0) _ rfl (row5 HRR4.out) Tryz.underlying42 rfl Tryz.size42) rfl ?_
        exact ⟨0, ByteArray.empty, none, 0, 0, by rw [hE4.out]; rfl, below5 HB4.out (by omega), tyIs_zero _ _ _ _⟩
    · have hd : (ne != 0) = true := by simpa using hne0
      have hE5 : Hid (er = ne) := by unfold Hid; rw [hE1.out, if_neg hne0]
      obtain ⟨⟨z0, z1, z2, z3, z4⟩, z5, z6, z7, z8, z9⟩ := five hrr4
      clear hne0 hok4 hr4 hrr4 hb4 hB4
      go_wp2_with fail
      refine bodyPost_ret (results_row_tmp2 rfl _ _ (w.heap.size + 1) 42 noT5 (0, 0) _ rfl (row5 HRR4.out) Tryz.underlying42 rfl Tryz.size42) rfl ?_
      exact ⟨0, ByteArray.empty, none, 0, 0, by rw [hE5.out]; rfl, below5 HB4.out (by omega), tyIs_zero _ _ _ _⟩
  · have hE1 : Hid (er = ce) := by unfold Hid; rw [HER.out, if_neg h0, if_neg h0]
    have hd : (ce != 0) = true := by simpa using h0
    have HNZ : Hid (ce ≠ 0) := h0
    clear h0 HER
    go_wp2_with fail
    refine SG.out.mono ?_
    rintro e w1 ⟨m0, a1, n1, q1, a2, n2, q2, a3, n3, q3, m4, m5, rfl, hb1, _⟩
    have hz1 := hb1.size
    rw [HZ1.out] at hz1
    have hr := ((below_alloc w1 (Obj.cells #[.map m0, .slice a1 n1 q1, .slice a2 n2 q2, .slice a3 n3 q3, .map m4, .map m5] 63)).block (w.heap.size + 1) (by omega)).trans ((hb1.block (w.heap.size + 1) (by rw [HZ1.out]; omega)).trans HR1.out)
    have HRF := Lib.hid hr
    have HBF : Hid (Below w.heap.size w (w1.alloc (Obj.cells #[.map m0, .slice a1 n1 q1, .slice a2 n2 q2, .slice a3 n3 q3, .map m4, .map m5] 63))) := HB1.out.trans ((hb1.trans ((below_alloc w1 _).mono hb1.size)).mono (by rw [HZ1.out]; omega))
    obtain ⟨⟨z0, z1, z2, z3, z4⟩, z5, z6, z7, z8, z9⟩ := five hr
    clear hr
    go_wp2_with fail
    refine bodyPost_ret (results_row_tmp2 rfl _ _ (w.heap.size + 1) 42 noT5 (0, 0) _ rfl (row5 HRF.out) Tryz.underlying42 rfl Tryz.size42) rfl ?_
    exact ⟨0, ByteArray.empty, none, 0, 0, by rw [hE1.out]; rfl, below5 HBF.out (by omega), tyIs_zero _ _ _ _⟩
end Go.Proofs.YtehnikgdjnmfcaaGreat
