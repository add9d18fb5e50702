/- firsts 83. -/
import Derived.Test.YtehnikgdjnmfcaaGreatMZ30
import Derived.Deep.RegionHeld3
namespace Go.Proofs.YtehnikgdjnmfcaaGreat
open Go.RowKit Go.WideMaps Go.Shelf Go.Lib
attribute [local go_sem] Oper.semAt_some

abbrev Tp := Int × ByteArray × Option Addr × Nat × Nat
def encE (es : List Tp) : List Value := es.flatMap fun e => [.int .i64 e.1, .string e.2.1, .int .i64 0, .slice none 0 0, .slice e.2.2.1 e.2.2.2.1 e.2.2.2.2]
def tp0 : Tp := (0, ByteArray.empty, none, 0, 0)

theorem encE_snoc (es : List Tp) (e : Tp) : encE (es ++ [e]) = encE es ++ [.int .i64 e.1, .string e.2.1, .int .i64 0, .slice none 0 0, .slice e.2.2.1 e.2.2.2.1 e.2.2.2.2] := by simp [encE]

theorem encE_get (es : List Tp) : ∀ k, k < es.length → ∀ e, e = es.getD k tp0 → (encE es)[k * 5]? = some (.int .i64 e.1) ∧ (encE es)[k * 5 + 1]? = some (.string e.2.1) ∧ (encE es)[k * 5 + 2]? = some (.int .i64 0) ∧ (encE es)[k * 5 + 3]? = some (.slice none 0 0) ∧ (encE es)[k * 5 + 4]? = some (.slice e.2.2.1 e.2.2.2.1 e.2.2.2.2) := by
  induction es with
  | nil => intro k hk; simp at hk
  | cons d l ih =>
    intro k hk e he
    have eq : encE (d :: l) = .int .i64 d.1 :: .string d.2.1 :: .int .i64 0 :: .slice none 0 0 :: .slice d.2.2.1 d.2.2.2.1 d.2.2.2.2 :: encE l := rfl
    rw [eq]
    cases k with
    | zero => subst he; exact ⟨rfl, rfl, rfl, rfl, rfl⟩
    | succ k =>
      obtain ⟨h1, h2, h3, h4, h5⟩ := ih k (by simp at hk; omega) e (by rw [he]; rfl)
      rw [show (k + 1) * 5 = k * 5 + 1 + 1 + 1 + 1 + 1 by omega]
      refine ⟨?_, ?_, ?_, ?_, ?_⟩
      · simpa using h1
      · rw [show k * 5 + 1 + 1 + 1 + 1 + 1 + 1 = k * 5 + 1 + 1 + 1 + 1 + 1 + 1 from rfl]; simpa using h2
      · simpa using h3
      · simpa using h4
      · simpa using h5

theorem Tryz.info42 : (Tryz.prog.info? 42).map (fun i => (i.zero, i.size, i.bytes)) = some (some (.agg #[.int .i64 0, .string ByteArray.empty, .int .i64 0, .slice none 0 0, .slice none 0 0]), 5, 80) := by kernel_rfl

theorem wpList_append_ty (w : World) {ops : Array Oper} {rest : List Oper} {o : Oper} {a : Act} {Q : Exit → Act → World → Prop} (hgd : o.guard = none) (s x : Operand)
    (ho : o.op = .call { callee := .builtin .append, args := #[s, x], argTypes := #[40, 40] }) (B n : Nat) (v : Value) (xs : List Value) (hs : a.eval s = v) (hown : w.ownsRow B 42 5 v n xs) (hn : n ≤ 10) (hB : B ≤ w.heap.size)
    (ad : Addr) (c : Nat) (news : List Value) (hx : a.eval x = .slice (some ad) 1 c) (hl : news.length = 5) (hnews : ∀ j u, news[j]? = some u → w.cell? (ad.add j) = some u) (h1 : ∀ u ∈ news, u.oneCell' = true)
    (h : ∀ a' c' w', w'.ownsRow B 42 5 (.slice a' (n + 1) c') (n + 1) (xs ++ news) → w.grownBy w' v.ownBlock → ((Value.slice a' (n + 1) c').ownBlock = v.ownBlock ∨ (Value.slice a' (n + 1) c').ownBlock = some w.heap.size) → wpList Tryz.prog ops Q rest (a.put o.dst (.slice a' (n + 1) c')) w') : wpList Tryz.prog ops Q (o :: rest) a w := by
  refine wpList_plain hgd fun K' hK' => ?_
  obtain ⟨i0, hi, hq0, hq1, hq2⟩ := info_parts Tryz.info42
  obtain ⟨v', w', hr, h2, h3, _, h5⟩ := run_append_own_at (P := Tryz.prog) w B 40 o.type 42 i0 (.agg #[.int .i64 0, .string ByteArray.empty, .int .i64 0, .slice none 0 0, .slice none 0 0]) 5 80 Tryz.underlying40 hi hq0 hq1 hq2 rfl (by decide) v n xs hown ad 1 c news (by omega) hnews h1 (by unfold maxLen; omega) (by omega) hB
  obtain ⟨a', c', rfl⟩ := ownsRow_form h2
  unfold Oper.wp execOp
  simp only [ho, resolve, invoke, builtin, Sem.run_bind, Sem.run_pure, Result.andThen_ok, List.map_toArray, List.map_cons, List.map_nil, hs, hx, hr]
  exact hK' _ _ (h a' c' w' h2 h3 h5)

section
variable {w w' : World} {H H' : Nat → Prop} {rb kb bm capa mb am n n' : Nat} {c1 c3 : Value} {ga : Option Addr} {cs : List (Nm × List Nm)} {abl : List (List Nat)} {ds : List (Nm × Int)} {rs : List Ar} {f f' : Nm × Int → Option Value}

theorem GrAt.grown2 {r : Option Nat} (h : GrAt w H rb kb bm c1 ga capa c3 mb am cs abl ds rs n f) (hg : w.grownBy w' r) (hr : ∀ b, r = some b → H b) (hr1 : r ≠ some rb) (hr2 : r ≠ some kb) (hr3 : ∀ b, r = some b → kb ≤ b) (hH : ∀ b, b < w.heap.size → H' b → H b) :
    GrAt w' H' rb kb bm c1 ga capa c3 mb am cs abl ds rs n f := by
  obtain ⟨w0, h1, h2, h3⟩ := h.sig
  refine ⟨(hg.block rb (Array.getElem?_eq_some_iff.1 h.row).1 (fun e => hr1 e.symm)).trans h.row, ⟨w0, h1, h2.grown hg h2.size (fun b e => by have := hr3 b e; omega), h3⟩, h.map.block (hg.block kb h.map.lt fun e => hr2 e.symm), h.ent.turn hg.size (fun b i u hh hc => ?_) hH⟩
  exact (World.cell?_of_block (a := ⟨b, i, none⟩) (hg.block b (lt_of_cell (a := ⟨b, i, none⟩) hc) (fun e => hh (hr b e.symm)))).trans hc
end

/-- the types that have been found so far -/
def EsAt (w : World) (H : Nat → Prop) (d : Nat) (es : List Tp) (ts : List GT) : Prop := es.length = ts.length ∧ ∀ j, j < ts.length → TyIs w H d (ts.getD j .zero) (es.getD j tp0).1 (es.getD j tp0).2.1 (es.getD j tp0).2.2.1 (es.getD j tp0).2.2.2.1

theorem EsAt.turn {w w' : World} {H H' : Nat → Prop} {d : Nat} {es : List Tp} {ts : List GT} (h : EsAt w H d es ts) (hz : w.heap.size ≤ w'.heap.size) (hk : ∀ b i u, ¬ H b → w.cell? ⟨b, i, none⟩ = some u → w'.cell? ⟨b, i, none⟩ = some u) (hH : ∀ b, b < w.heap.size → H' b → H b) : EsAt w' H' d es ts :=
  ⟨h.1, fun j hj => (h.2 j hj).turn hz hk hH⟩

theorem getD_snoc {α : Type} (l : List α) (x z : α) (j : Nat) : (l ++ [x]).getD j z = if j < l.length then l.getD j z else if j = l.length then x else z := by
  by_cases h : j < l.length
  · rw [if_pos h, List.getD_eq_getElem?_getD, List.getElem?_append_left h, ← List.getD_eq_getElem?_getD]
  · rw [if_neg h]
    by_cases e : j = l.length
    · subst e; rw [if_pos rfl, List.getD_eq_getElem?_getD, List.getElem?_append_right (Nat.le_refl _)]; simp
    · rw [if_neg e, List.getD_eq_getElem?_getD, List.getElem?_eq_none (by simp; omega)]; rfl

theorem EsAt.snoc {w : World} {H : Nat → Prop} {d : Nat} {es : List Tp} {ts : List GT} {t : GT} {o : Int} {x : ByteArray} {a : Option Addr} {n c : Nat} (h : EsAt w H d es ts) (ht : TyIs w H d t o x a n) : EsAt w H d (es ++ [(o, x, a, n, c)]) (ts ++ [t]) := by
  refine ⟨by rw [List.length_append, List.length_append, h.1]; rfl, fun j hj => ?_⟩
  rw [getD_snoc, getD_snoc, h.1]
  by_cases hj2 : j < ts.length
  · rw [if_pos hj2, if_pos hj2]; exact h.2 j hj2
  · have e : j = ts.length := by rw [List.length_append] at hj; simp only [List.length_cons, List.length_nil] at hj; omega
    rw [if_neg hj2, if_neg hj2, if_pos e, if_pos e]; exact ht

theorem take_map_snoc {α β : Type} (f : α → β) (l : List α) (z : α) (k : Nat) (h : k < l.length) : (l.take (k + 1)).map f = (l.take k).map f ++ [f (l.getD k z)] := by
  rw [List.take_add_one, List.getElem?_eq_getElem h, List.map_append, List.getD_eq_getElem?_getD, List.getElem?_eq_getElem h]; rfl

/-- the hot blocks, with the block of a row -/
def hotV (H : Nat → Prop) (v : Value) (b : Nat) : Prop := H b ∨ v.ownBlock = some b

theorem esAt_ty {w : World} {H : Nat → Prop} {d B k cap : Nat} {a : Option Addr} {es : List Tp} {ts : List GT} (h : EsAt w (hotV H (.slice a k cap)) d es ts) (hl : es.length = k) (hk : k ≤ 10) (hown : w.ownsRow B 42 5 (.slice a k cap) k (encE es)) (hH : ∀ b, H b → b < B) : TyAt w H (d + 1) ts a k := by
  refine ⟨by rw [← h.1, hl], hk, fun hn => ?_⟩
  have hform : ∃ g, a = some ⟨g, 0, none⟩ := by
    rcases hown.2 with ⟨e, e2⟩ | ⟨g, cap', cur, e, _⟩
    · omega
    · injection e with e; exact ⟨g, e⟩
  obtain ⟨g, rfl⟩ := hform
  obtain ⟨hBg, cur, hh, _⟩ := own_obj hown
  refine ⟨g, 0, rfl, (Array.getElem?_eq_some_iff.1 hh).1, fun hx => by have := hH g hx; omega, fun j hj => ?_⟩
  obtain ⟨h1, h2, h3, h4, h5⟩ := encE_get es j (by omega) _ rfl
  have hlen : (encE es).length = k * 5 := hown.1
  have hc : ∀ i, i < 5 → w.cell? ⟨g, 0 + j * 5 + i, none⟩ = (encE es)[j * 5 + i]? := fun i hi => by
    rw [Nat.zero_add]
    exact hown.cellAt (j * 5 + i) (by omega)
  refine ⟨_, _, _, _, _, ⟨(hc 0 (by omega)).trans h1, (hc 1 (by omega)).trans h2, (hc 2 (by omega)).trans h3, (hc 3 (by omega)).trans h4, (hc 4 (by omega)).trans h5⟩, ?_⟩
  exact (h.2 j (by rw [← h.1]; omega)).turn (Nat.le_refl _) (fun _ _ _ _ h => h) (fun b _ hx => .inl hx)

theorem ownsRow_butK {w w' : World} {kb n0 B n size : Nat} {e : TypeId} {f : Nm × Int → Option Value} {v : Value} {xs : List Value} (h : w.ownsRow B e size v n xs) (hm : MapK w kb n0 f) (hb : ButG kb w w') : w'.ownsRow B e size v n xs := by
  refine ⟨h.1, ?_⟩
  rcases h.2 with h2 | ⟨g, cap, cur, hv, hg, hh, r⟩
  · exact .inl h2
  · refine .inr ⟨g, cap, cur, hv, hg, (hb.block g (Array.getElem?_eq_some_iff.1 hh).1 fun e => ?_).trans hh, r⟩
    obtain ⟨es, cl, e1⟩ := hm.obj
    subst e; rw [e1] at hh; cases hh

theorem own_lt {w : World} {B n size : Nat} {e : TypeId} {v : Value} {xs : List Value} (h : w.ownsRow B e size v n xs) {r : Nat} (hr : v.ownBlock = some r) : r < w.heap.size := by
  rcases h.2 with ⟨e, _⟩ | ⟨g, cap', cur, e, _, hh, _⟩
  · rw [e] at hr; cases hr
  · rw [e] at hr; injection hr with hr; simp only at hr; subst hr; exact (Array.getElem?_eq_some_iff.1 hh).1

theorem news5 {w : World} {k : Nat} {a0 a1 a2 a3 a4 : Value} {t : TypeId} (h : w.heap[k]? = some (.cells #[a0, a1, a2, a3, a4] t (0, 0))) : ∀ j u, [a0, a1, a2, a3, a4][j]? = some u → w.cell? (Addr.add ⟨k, 0, none⟩ j) = some u := by
  intro j u hj
  rw [add_none, Nat.zero_add, cell_of_row _ _ j _ _ _ h]
  rw [← hj]; simp

theorem one5 (o : Int) (x : ByteArray) (a : Option Addr) (n c : Nat) : ∀ u ∈ [Value.int .i64 o, .string x, .int .i64 0, .slice none 0 0, .slice a n c], u.oneCell' = true := by
  intro u hu
  simp at hu
  rcases hu with rfl | rfl | rfl | rfl | rfl <;> rfl

set_option maxRecDepth 100000 in
set_option maxHeartbeats 2000000 in
theorem firsts_step {d : Nat} (HF : FirstC d) : FirstsC d := by
  intro H rb kb bm c1 ga capa c3 mb am cs sp abl ds rs n f a c ls w hH hg hbu h300 har hty hls hkn hl10 hd5 hn
  have HG := Lib.hid hg
  have HSS := Lib.hid hls
  have HBU := Lib.hid hbu
  have HKN := Lib.hid hkn
  have HAR := Lib.hid har
  have HTY := Lib.hid hty
  have HH := Lib.hid hH
  have HN := Lib.hid hn
  obtain ⟨_, _, _, he, hrows⟩ := hls
  injection he with he1 _ he2
  subst he1 he2
  have HRW := Lib.hid hrows
  obtain ⟨ok, hok⟩ : ∃ ok, ok = ls.all (gB cs abl ds rs d) := ⟨_, rfl⟩
  rw [← hok]
  have HOK := Lib.hid hok
  obtain ⟨lt, hlt0⟩ : ∃ lt, lt = ls.map (gT cs abl ds rs d) := ⟨_, rfl⟩
  rw [← hlt0]
  have HLT := Lib.hid hlt0
  obtain ⟨m, hm⟩ : ∃ m, m = n + ls.length * NB d := ⟨_, rfl⟩
  rw [← hm]
  have HM := Lib.hid hm
  have hkb := hg.map.lt
  have hrb := (Array.getElem?_eq_some_iff.1 hg.row).1
  have HG0 : Hid (GrAt w (hotV H (.slice none 0 0)) rb kb bm c1 ga capa c3 mb am cs abl ds rs n f) := hg.hot fun b _ hx => hx.elim id fun e => by cases e
  have HOW0 : Hid (w.ownsRow w.heap.size 42 5 (.slice none 0 0) 0 (encE [])) := World.ownsRow_nil _ _ _ _
  have HE0 : Hid (EsAt w (hotV H (.slice none 0 0)) d [] ((ls.take 0).map (gT cs abl ds rs d))) := ⟨rfl, fun j hj => absurd hj (by simp)⟩
  have HT0 : Hid (ok = ((ls.drop 0).all (gB cs abl ds rs d))) := hok
  clear hg hbu har hty hrows hok hm hn hkn hH hlt0
  go_enter Tryz.func71, Tryz.ntmps71
  go_wp2_with fail
  go_loopw [8, 15] (fun l i wr => ∃ (k : Nat) (p : Option Addr) (pc : Nat) (es : List Tp) (n' : Nat) (f' : Nm × Int → Option Value), k ≤ ls.length ∧ l = .slice p k pc ∧ i = .int .i64 k ∧ Hid (es.length = k) ∧ Hid (wr.ownsRow w.heap.size 42 5 (.slice p k pc) k (encE es)) ∧
      Hid (EsAt wr (hotV H (.slice p k pc)) d es ((ls.take k).map (gT cs abl ds rs d))) ∧ Hid (GrAt wr (hotV H (.slice p k pc)) rb kb bm c1 ga capa c3 mb am cs abl ds rs n' f') ∧ ButG kb w wr ∧ Hid (n' ≤ n + k * NB d) ∧ Hid (ok = ((ls.drop k).all (gB cs abl ds rs d)))) (fun _ i _ => ls.length - (intOf i).toNat)
  case atStart => exact ⟨0, none, 0, [], n, f, by omega, rfl, rfl, rfl, HOW0, HE0, HG0, ButG.refl _ _, by unfold Hid; omega, HT0⟩
  case round =>
    obtain ⟨k, p, pc, es, n', f', hk, rfl, rfl, hel, hown, hes, hgr, hbg, hnn, hto⟩ := hrel
    clear HG0 HOW0 HE0 HT0
    by_cases hlt : k < ls.length
    · obtain ⟨b, rfl, _, hb, hcl⟩ := HRW.out (by omega)
      obtain ⟨q, qc, g0, gs⟩ := hcl k hlt
      have hgc := fun {b i : Nat} {u : Value} (hc : w.cell? ⟨b, i, none⟩ = some u) => HG.out.cell hbg hc
      have g1 : wr.cell? ⟨b, k, none⟩ = some (.slice q (ls.getD k []).length qc) := (World.cell?_of_block (a := ⟨b, k, none⟩) (hgc g0)).trans g0
      have hs := gs.kept hbg.size (fun b j u _ hc => hgc hc)
      obtain ⟨hk1, hk2⟩ := HKN.out (ls.getD k []) (getDmem ls [] k hlt)
      have hdrop : Hid ((ls.drop k).all (gB cs abl ds rs d) = (gB cs abl ds rs d (ls.getD k []) && (ls.drop (k + 1)).all (gB cs abl ds rs d))) := by
        unfold Hid; rw [drop_getD ls [] k hlt]; rfl
      have hNB : n' + NB d ≤ n + (k + 1) * NB d := by have := hnn.out; rw [Nat.add_mul]; omega
      have hNB2 : n + (k + 1) * NB d ≤ n + ls.length * NB d := by have := Nat.mul_le_mul_right (NB d) (show k + 1 ≤ ls.length by omega); omega
      have HFC := Lib.hid (HF (hotV H (.slice p k pc)) rb kb bm c1 ga capa c3 mb am cs sp abl ds rs n' f' _ (ls.getD k []) wr (fun b hb => by
        rcases hb with hb | hb
        · have := HH.out b hb; have := hbg.size; omega
        · have := own_lt hown.out hb; omega) hgr.out HBU.out h300 HAR.out HTY.out hs hk1 hk2 hd5 (by have := HN.out; omega))
      have htk : Hid ((ls.take (k + 1)).map (gT cs abl ds rs d) = (ls.take k).map (gT cs abl ds rs d) ++ [gT cs abl ds rs d (ls.getD k [])]) := take_map_snoc _ ls [] k hlt
      generalize ls.getD k [] = s at *
      generalize gT cs abl ds rs d s = gt at *
      generalize hgb : gB cs abl ds rs d s = go at *
      have HNB := Lib.hid hNB
      have HNB2 := Lib.hid hNB2
      unfold GPost at HFC
      clear hcl g0 gs hs hk1 hk2 hgb hNB hNB2
      go_wp2_with fail
      refine HFC.out.mono ?_
      rintro e w2 ⟨o', x', a', k', c', n2, f2, rfl, hbg2, hg2, hn2, ht2⟩
      have HBG2 := Lib.hid hbg2
      have HG2 := Lib.hid hg2
      have HN2 := Lib.hid hn2
      have HT2 := Lib.hid ht2
      have hbw2 : ButG kb w w2 := hbg.trans hbg2
      have hz2 := hbw2.size
      clear hbg2 hg2 hn2 ht2 HFC
      cases go with
      | false =>
        have HOF : Hid (ok = false) := by unfold Hid; rw [hto.out, hdrop.out]; rfl
        go_wp2_with fail
        go_ret2
        exact ⟨none, 0, 0, n2, f2, by rw [HOF.out]; rfl, hbw2.trans (ButG.of_below (below_alloc w2 _)), (HG2.out.hot (fun b _ hx => .inl hx)).keep (below_alloc w2 _), by have h1 := HN2.out; have h2 := HNB.out; have h3 := HNB2.out; have h4 := HM.out; omega, by rw [HOF.out]; exact tyAt_none _ _ _ _⟩
      | true =>
        have hown2 := ownsRow_butK hown.out hgr.out.map HBG2.out
        have hes2 : EsAt w2 (hotV H (.slice p k pc)) d es ((ls.take k).map (gT cs abl ds rs d)) := hes.out.turn HBG2.out.size (fun b i u _ hc => (World.cell?_of_block (a := ⟨b, i, none⟩) (hgr.out.cell HBG2.out hc)).trans hc) (fun _ _ h => h)
        have HES2 := Lib.hid hes2
        have HOWN2 := Lib.hid hown2
        have hb3 := below_alloc w2 (Obj.cells #[.int .i64 o', .string x', .int .i64 0, .slice none 0 0, .slice a' k' c'] 42)
        have r3 := heap_alloc_new w2 (Obj.cells #[.int .i64 o', .string x', .int .i64 0, .slice none 0 0, .slice a' k' c'] 42)
        have hb4 := below_alloc (w2.alloc (Obj.cells #[.int .i64 o', .string x', .int .i64 0, .slice none 0 0, .slice a' k' c'] 42)) (Obj.cells #[.int .i64 o', .string x', .int .i64 0, .slice none 0 0, .slice a' k' c'] 42)
        have r4 := heap_alloc_new (w2.alloc (Obj.cells #[.int .i64 o', .string x', .int .i64 0, .slice none 0 0, .slice a' k' c'] 42)) (Obj.cells #[.int .i64 o', .string x', .int .i64 0, .slice none 0 0, .slice a' k' c'] 42)
        have hzz : (w2.alloc (Obj.cells #[.int .i64 o', .string x', .int .i64 0, .slice none 0 0, .slice a' k' c'] 42)).heap.size = w2.heap.size + 1 := by simp
        rw [hzz] at r4
        have HR4 := Lib.hid r4
        clear hown hes r3 r4 hes2 hown2
        go_wp2_with (at_builtin; refine wpList_append_ty _ rfl _ _ rfl w.heap.size k (.slice p k pc) (encE es) rfl ((HOWN2.out.alloc _).alloc _) (by omega) (by simp; omega) ⟨w2.heap.size + 1, 0, none⟩ 1 [.int .i64 o', .string x', .int .i64 0, .slice none 0 0, .slice a' k' c'] rfl rfl (news5 HR4.out) (one5 _ _ _ _ _) ?_; intro a5 c5 w5 hown5 hg5 hblk5)
        have hB24 : Below w2.heap.size w2 ((w2.alloc (Obj.cells #[.int .i64 o', .string x', .int .i64 0, .slice none 0 0, .slice a' k' c'] 42)).alloc (Obj.cells #[.int .i64 o', .string x', .int .i64 0, .slice none 0 0, .slice a' k' c'] 42)) := hb3.trans (hb4.mono (by omega))
        have hz4 : w2.heap.size ≤ ((w2.alloc (Obj.cells #[.int .i64 o', .string x', .int .i64 0, .slice none 0 0, .slice a' k' c'] 42)).alloc (Obj.cells #[.int .i64 o', .string x', .int .i64 0, .slice none 0 0, .slice a' k' c'] 42)).heap.size := hB24.size
        generalize ((w2.alloc (Obj.cells #[.int .i64 o', .string x', .int .i64 0, .slice none 0 0, .slice a' k' c'] 42)).alloc (Obj.cells #[.int .i64 o', .string x', .int .i64 0, .slice none 0 0, .slice a' k' c'] 42)) = W4 at *
        have hk2 : ∀ b i u, ¬ hotV H (.slice p k pc) b → w2.cell? ⟨b, i, none⟩ = some u → W4.cell? ⟨b, i, none⟩ = some u := fun b i u _ hc => (hB24.cell (p := ⟨b, i, none⟩) (lt_of_cell (a := ⟨b, i, none⟩) hc)).trans hc
        have hes4 : EsAt W4 (hotV H (.slice p k pc)) d (es ++ [(o', x', a', k', c')]) ((ls.take (k + 1)).map (gT cs abl ds rs d)) := by
          rw [htk.out]
          exact (HES2.out.turn hz4 hk2 fun _ _ h => h).snoc (HT2.out.turn hz4 hk2 fun _ _ h => h)
        have hge : ∀ b, (Value.slice p k pc).ownBlock = some b → w.heap.size ≤ b := fun b e => ownBlock_ge HOWN2.out e
        have hcold : ∀ b, b < W4.heap.size → hotV H (.slice a5 (k + 1) c5) b → hotV H (.slice p k pc) b := by
          intro b hb hx
          rcases hx with hx | hx
          · exact .inl hx
          · rcases hblk5 with e | e
            · exact .inr (e.symm.trans hx)
            · rw [e] at hx; injection hx with hx; omega
        have hgf : Hid (GrAt w5 (hotV H (.slice a5 (k + 1) c5)) rb kb bm c1 ga capa c3 mb am cs abl ds rs n2 f2) := (HG2.out.keep hB24).grown2 hg5 (fun b e => .inr e) (fun e => by have := hge _ e; omega) (fun e => by have := hge _ e; omega) (fun b e => by have := hge _ e; omega) hcold
        have hef : Hid (EsAt w5 (hotV H (.slice a5 (k + 1) c5)) d (es ++ [(o', x', a', k', c')]) ((ls.take (k + 1)).map (gT cs abl ds rs d))) := hes4.turn hg5.size (fun b i u hh hc => (World.cell?_of_block (a := ⟨b, i, none⟩) (hg5.block b (lt_of_cell (a := ⟨b, i, none⟩) hc) (fun e => hh (.inr e.symm)))).trans hc) hcold
        have hbf : ButG kb w w5 := (hbw2.trans (ButG.of_below hB24)).thenBelow ((Below.refl w.heap.size W4).grown hg5 (by omega) hge)
        have hlf : Hid ((es ++ [(o', x', a', k', c')]).length = k + 1) := by unfold Hid; rw [List.length_append, hel.out]; rfl
        have hof : Hid (w5.ownsRow w.heap.size 42 5 (.slice a5 (k + 1) c5) (k + 1) (encE (es ++ [(o', x', a', k', c')]))) := by unfold Hid; rw [encE_snoc]; exact hown5
        have hnf : Hid (n2 ≤ n + (k + 1) * NB d) := Nat.le_trans HN2.out HNB.out
        have htf : Hid (ok = (ls.drop (k + 1)).all (gB cs abl ds rs d)) := by unfold Hid; rw [hto.out, hdrop.out]; rfl
        clear hto hdrop hown5 hg5 hblk5 hge hcold hes4 hk2 hB24 hb3 hb4 hzz HR4 HES2 HOWN2
        go_roundw
        case rel => exact ⟨k + 1, a5, c5, _, n2, f2, by omega, rfl, by go_num, hlf, hof, hef, hgf, hbf, hnf, htf⟩
        case measure => simp [intOf]; omega
    · have hkk : k = ls.length := by omega
      subst hkk
      have HOF : Hid (ok = true) := by unfold Hid; rw [hto.out, List.drop_length]; rfl
      go_wp2_with fail
      go_ret2
      exact ⟨p, ls.length, pc, n', f', by rw [HOF.out]; rfl, hbg, hgr.out.hot (fun b _ hx => .inl hx), by rw [HM.out]; exact hnn.out, by rw [HOF.out, if_pos rfl, HLT.out]; have h9 := hes.out; rw [List.take_length] at h9; exact esAt_ty h9 hel.out hl10 hown.out HH.out⟩
end Go.Proofs.YtehnikgdjnmfcaaGreat

/- search 68. -/
namespace Go.Proofs.YtehnikgdjnmfcaaGreat
open Go.RowKit Go.WideMaps Go.Shelf Go.Lib
attribute [local go_sem] Oper.semAt_some

theorem asc_nodup {l : List Nm} (h : ascB l) : l.Nodup := by
  refine List.Pairwise.imp ?_ h
  intro x y hxy e
  subst e
  exact cb_irr x hxy

theorem wantC_facts {cs : List (Nm × List Nm)} {sp abl : List (List Nat)} {ds : List (Nm × Int)} {rs : List Ar} {name : Nm} {s : List Nm} (hb : Built cs sp abl) (har : arsErr cs abl ds rs = 0) (h300 : cs.length ≤ 300) (hty : typesErr ds = 0) (hh : hasAll rs name s = true) :
    (wantC cs abl ds rs name s).length ≤ 10 ∧ ∀ x ∈ wantC cs abl ds rs name s, x.all (inNs (cs.map Prod.fst)) = true ∧ x.length ≤ 300 := by
  unfold wantC wantB
  refine ⟨by rw [List.length_map, List.length_range]; have := (types_num hty name).2; omega, fun x hx => ?_⟩
  obtain ⟨i, _, rfl⟩ := List.mem_map.1 hx
  have h1 := List.all_eq_true.1 (wantL_facts (cs := cs) (abl := abl) (ds := ds) har i s hh).1
  have h2 := least_known hb h1
  refine ⟨List.all_eq_true.2 h2, ?_⟩
  have h3 := nodup_sub_len _ (cs.map Prod.fst) (asc_nodup (leastB_asc (cs.map Prod.fst) (fun i => abl.getD i []) (wantL rs name s i))) (fun y hy => of_decide_eq_true (h2 y hy))
  rw [List.length_map] at h3
  omega

theorem types_len {ds : List (Nm × Int)} (h : typesErr ds = 0) : ds.length ≤ 300 := by
  unfold typesErr at h
  by_cases h3 : 300 < ds.length
  · rw [if_pos h3] at h; exact absurd h (by decide)
  · omega

theorem cells67 {w : World} {k : Nat} {a0 a1 a2 a3 a4 a5 a6 : Value} {t : TypeId} {fr : Nat × Nat} {p : Prop} (h : w.heap[k]? = some (.cells #[a0, a1, a2, a3, a4, a5, a6] t fr)) (hp : p) :
    w.cell? ⟨k, 0, none⟩ = some a0 ∧ w.cell? ⟨k, 1, none⟩ = some a1 ∧ w.cell? ⟨k, 2, none⟩ = some a2 ∧ w.cell? ⟨k, 3, none⟩ = some a3 ∧ w.cell? ⟨k, 4, none⟩ = some a4 ∧ w.cell? ⟨k, 5, none⟩ = some a5 ∧ p :=
  ⟨by rw [cell_of_row _ _ 0 _ _ _ h]; rfl, by rw [cell_of_row _ _ 1 _ _ _ h]; rfl, by rw [cell_of_row _ _ 2 _ _ _ h]; rfl, by rw [cell_of_row _ _ 3 _ _ _ h]; rfl, by rw [cell_of_row _ _ 4 _ _ _ h]; rfl, by rw [cell_of_row _ _ 5 _ _ _ h]; rfl, hp⟩

theorem grown5 {w : World} {g : Nat} {v0 v1 v2 v3 v4 : Value} : w.grownBy (((((w.setCell ⟨g, 0, none⟩ v0).setCell ⟨g, 1, none⟩ v1).setCell ⟨g, 2, none⟩ v2).setCell ⟨g, 3, none⟩ v3).setCell ⟨g, 4, none⟩ v4) (some g) := by
  have b := below5 (v0 := v0) (v1 := v1) (v2 := v2) (v3 := v3) (v4 := v4) (Below.refl g w) (Nat.le_refl _)
  exact ⟨b.os, b.tape, b.output, b.size, fun k _ hn => block5 fun e => hn (by rw [e])⟩

/-- does a constructor give a type -/
def givesB (cs : List (Nm × List Nm)) (abl : List (List Nat)) (ds : List (Nm × Int)) (rs : List Ar) (d : Nat) (s : List Nm) (dc : Nm × Int) : Bool := hasAll rs dc.1 s && (wantC cs abl ds rs dc.1 s).all (gB cs abl ds rs d)

theorem gB_any (cs : List (Nm × List Nm)) (abl : List (List Nat)) (ds : List (Nm × Int)) (rs : List Ar) (d : Nat) (s : List Nm) : gB cs abl ds rs (d + 1) s = ds.any (givesB cs abl ds rs d s) := by
  rw [gB]; rfl

/-- the type of the first constructor that gives one -/
def pickT (cs : List (Nm × List Nm)) (abl : List (List Nat)) (ds : List (Nm × Int)) (rs : List Ar) (d : Nat) (s : List Nm) (l : List (Nm × Int)) : GT := match l.find? (givesB cs abl ds rs d s) with
  | some dc => .mk 1 dc.1 ((wantC cs abl ds rs dc.1 s).map (gT cs abl ds rs d))
  | none => .zero

theorem gT_pick (cs : List (Nm × List Nm)) (abl : List (List Nat)) (ds : List (Nm × Int)) (rs : List Ar) (d : Nat) (s : List Nm) : gT cs abl ds rs (d + 1) s = pickT cs abl ds rs d s ds := by
  rw [gT]; rfl

theorem pickT_cons (cs : List (Nm × List Nm)) (abl : List (List Nat)) (ds : List (Nm × Int)) (rs : List Ar) (d : Nat) (s : List Nm) (x : Nm × Int) (l : List (Nm × Int)) :
    pickT cs abl ds rs d s (x :: l) = if givesB cs abl ds rs d s x = true then .mk 1 x.1 ((wantC cs abl ds rs x.1 s).map (gT cs abl ds rs d)) else pickT cs abl ds rs d s l := by
  unfold pickT
  rw [List.find?_cons]
  cases givesB cs abl ds rs d s x <;> rfl

set_option maxRecDepth 100000 in
set_option maxHeartbeats 2000000 in
theorem search_step {d : Nat} (HF : FirstsC d) : SearchC d := by
  intro H rb kb bm c1 ga capa c3 mb am cs sp abl ds rs n f v s w hH hg hbu h300 har hty hs hkn hs300 hd5 hn
  have HG := Lib.hid hg
  have HSL := Lib.hid hs
  have HBU := Lib.hid hbu
  have HKN := Lib.hid hkn
  have HAR := Lib.hid har
  have HTY := Lib.hid hty
  have HH := Lib.hid hH
  have HN := Lib.hid hn
  have hds := types_len hty
  obtain ⟨_, _, sa, scap, rfl, _⟩ := hs
  have hkb := hg.map.lt
  have hrb := (Array.getElem?_eq_some_iff.1 hg.row).1
  have hslt := hg.sgf.types
  have HSLT := Lib.hid hslt
  obtain ⟨_, da, dcap, rfl, hrows⟩ := hslt
  have HRW := Lib.hid hrows
  have hb0 := below_alloc w (Obj.cells noT5 42)
  have r0 := heap_alloc_new w (Obj.cells noT5 42)
  have hz0 : (w.alloc (Obj.cells noT5 42)).heap.size = w.heap.size + 1 := by simp
  have HG0 : Hid (GrAt (w.alloc (Obj.cells noT5 42)) (fun b => H b ∨ b = w.heap.size) rb kb bm c1 ga capa (.slice da ds.length dcap) mb am cs abl ds rs n f) := (hg.hot (fun b hb hx => hx.elim id fun e => by omega)).keep hb0
  obtain ⟨ok, hok⟩ : ∃ ok, ok = gB cs abl ds rs (d + 1) s := ⟨_, rfl⟩
  rw [← hok]
  rw [gB_any] at hok
  have HT0 : Hid (ok = (ds.drop 0).any (givesB cs abl ds rs d s)) := hok
  obtain ⟨gt, hgt⟩ : ∃ gt, gt = gT cs abl ds rs (d + 1) s := ⟨_, rfl⟩
  rw [← hgt]
  rw [gT_pick] at hgt
  have HP0 : Hid (gt = pickT cs abl ds rs d s (ds.drop 0)) := hgt
  obtain ⟨m, hm⟩ : ∃ m, m = n + 300 * (10 * NB d) := ⟨_, rfl⟩
  rw [← hm]
  have HM := Lib.hid hm
  have HDD : Hid ((((d + 1 : Nat) : Int)) = (d : Int) + 1) := by unfold Hid; omega
  rw [HDD.out]
  have q3 : (w.alloc (Obj.cells #[.int .i64 0, .string ⟨#[]⟩, .int .i64 0, .slice none 0 0, .slice none 0 0] 42)).cell? ⟨rb, 3, none⟩ = some (.slice da ds.length dcap) := (cell_of_row _ _ 3 _ _ _ HG0.out.row).trans rfl
  have HR0 := Lib.hid r0
  have HB0 := Lib.hid hb0
  have hNB : Hid (n + 300 * (10 * NB d) + 1 ≤ 9000000000000000001) := by
    unfold Hid; have h3 : NB (d + 1) = 1 + 300 * (10 * NB d) := rfl; omega
  clear hg hbu har hty hrows hok hm hn hkn hH r0 hb0 hgt
  go_enter Tryz.func49, Tryz.ntmps49
  go_wp2_with fail
  go_loopw [20] (fun i wr => ∃ (k : Nat) (n' : Nat) (f' : Nm × Int → Option Value), k ≤ ds.length ∧ i = .int .i64 k ∧ Hid (GrAt wr (fun b => H b ∨ b = w.heap.size) rb kb bm c1 ga capa (.slice da ds.length dcap) mb am cs abl ds rs n' f') ∧ ButG kb (w.alloc (Obj.cells noT5 42)) wr ∧ Hid (n' ≤ n + k * (10 * NB d)) ∧ Hid (ok = (ds.drop k).any (givesB cs abl ds rs d s)) ∧ Hid (gt = pickT cs abl ds rs d s (ds.drop k))) (fun i _ => ds.length - (intOf i).toNat)
  case atStart => exact ⟨0, n, f, by omega, rfl, HG0, ButG.refl _ _, by unfold Hid; omega, HT0, HP0⟩
  case round =>
    obtain ⟨k, n', f', hk, rfl, hgr, hbg, hnn, hto, hpo⟩ := hrel
    clear HG0 HT0 HP0 q3
    by_cases hlt : k < ds.length
    · obtain ⟨b, off, rfl, hb, hcl⟩ := HRW.out (by omega)
      obtain ⟨g0, gl, g1⟩ := hcl k hlt
      have hgc := fun {b i : Nat} {u : Value} (hb : b < w.heap.size) (hc : w.cell? ⟨b, i, none⟩ = some u) => (HG.out.cell ((ButG.of_below HB0.out).trans hbg) hc)
      have e0 : wr.cell? ⟨b, off + k * 2, none⟩ = some (.string (bs (ds.getD k ([], 0)).1)) := (World.cell?_of_block (a := ⟨b, off + k * 2, none⟩) (hgc hb g0)).trans g0
      have e1 : wr.cell? ⟨b, off + k * 2 + 1, none⟩ = some (.int .i64 (ds.getD k ([], 0)).2) := (World.cell?_of_block (a := ⟨b, off + k * 2 + 1, none⟩) (hgc hb g1)).trans g1
      have hdrop : Hid ((ds.drop k).any (givesB cs abl ds rs d s) = (givesB cs abl ds rs d s (ds.getD k ([], 0)) || (ds.drop (k + 1)).any (givesB cs abl ds rs d s))) := by
        unfold Hid; rw [drop_getD ds ([], 0) k hlt]; rfl
      have hpick : Hid (pickT cs abl ds rs d s (ds.drop k) = if givesB cs abl ds rs d s (ds.getD k ([], 0)) = true then .mk 1 (ds.getD k ([], 0)).1 ((wantC cs abl ds rs (ds.getD k ([], 0)).1 s).map (gT cs abl ds rs d)) else pickT cs abl ds rs d s (ds.drop (k + 1))) := by
        unfold Hid; rw [drop_getD ds ([], 0) k hlt]; exact pickT_cons _ _ _ _ _ _ _ _
      generalize hdk : ds.getD k ([], 0) = dc at *
      obtain ⟨nm, nn⟩ := dc
      simp only [] at e0 e1 gl
      clear hcl g0 g1 hdk hgc
      have hbA : Below wr.heap.size wr (wr.alloc (Obj.cells #[.string (bs nm), .int .i64 nn] 54)).drew := (below_alloc wr (Obj.cells #[.string (bs nm), .int .i64 nn] 54)).drew
      have hgA := hgr.out.keep hbA
      have rN : (wr.alloc (Obj.cells #[.string (bs nm), .int .i64 nn] 54)).drew.heap[wr.heap.size]? = some (.cells #[.string (bs nm), .int .i64 nn] 54 (0, 0)) := heap_alloc_new wr _
      have hzA : (wr.alloc (Obj.cells #[.string (bs nm), .int .i64 nn] 54)).drew.heap.size = wr.heap.size + 1 := by show (wr.alloc (Obj.cells #[.string (bs nm), .int .i64 nn] 54)).heap.size = _; simp
      have hbwA : ButG kb w (wr.alloc (Obj.cells #[.string (bs nm), .int .i64 nn] 54)).drew := ((ButG.of_below HB0.out).trans hbg).trans (ButG.of_below hbA)
      have hsA : SlO (wr.alloc (Obj.cells #[.string (bs nm), .int .i64 nn] 54)).drew 0 (.slice sa s.length scap) s := HSL.out.kept hbwA.size (fun b j u _ hc => HG.out.cell hbwA hc)
      have hrA : (wr.alloc (Obj.cells #[.string (bs nm), .int .i64 nn] 54)).drew.heap[w.heap.size]? = some (.cells noT5 42 (0, 0)) := by
        have hz := hbg.size
        rw [hz0] at hz
        exact (hbA.block w.heap.size (by omega)).trans ((hbg.block w.heap.size (by omega) (by omega)).trans HR0.out)
      have hn0 : (wr.alloc (Obj.cells #[.string (bs nm), .int .i64 nn] 54)).drew.cell? ⟨wr.heap.size, 0, none⟩ = some (.string (bs nm)) := by rw [cell_of_row _ _ 0 _ _ _ rN]; rfl
      have hzr := hbg.size
      have HBZ : Hid (ButG kb (w.alloc (Obj.cells noT5 42)) (wr.alloc (Obj.cells #[.string (bs nm), .int .i64 nn] 54)).drew) := hbg.trans (ButG.of_below hbA)
      go_wp2_with fail
      generalize wr.alloc (Obj.cells #[.string (bs nm), .int .i64 nn] 54) = WA at *
      have WN := Lib.hid (wanted_any _ _ cs sp abl ds rs nm s WA.drew hgA.sgf HBU.out HAR.out HTY.out gl hsA.sl hs300)
      have eW : wantB (cs.map Prod.fst) (fun i => abl.getD i []) ds rs nm s = wantC cs abl ds rs nm s := rfl
      rw [eW] at WN
      have HGA := Lib.hid hgA
      have HN0 := Lib.hid hn0
      have HRA := Lib.hid hrA
      have HBWA := Lib.hid hbwA
      have hlA := hgA.map.lt
      have hrowA := (Array.getElem?_eq_some_iff.1 hgA.row).1
      have HWF := Lib.hid (fun hh => wantC_facts (name := nm) (s := s) HBU.out HAR.out h300 HTY.out hh)
      have HGV : Hid (givesB cs abl ds rs d s (nm, nn) = (hasAll rs nm s && (wantC cs abl ds rs nm s).all (gB cs abl ds rs d))) := rfl
      generalize givesB cs abl ds rs d s (nm, nn) = gv at *
      generalize hLL : (if hasAll rs nm s = true then wantC cs abl ds rs nm s else []) = L at *
      generalize hOW : hasAll rs nm s = okw at *
      have HLL := Lib.hid hLL
      clear eW hgA rN hbA hsA hn0 hrA hbwA hLL hOW
      unfold WPost at WN
      go_region_held3 (fun w' => w'.cell? ⟨rb, 0, none⟩ = some (.map (some bm)) ∧ w'.cell? ⟨rb, 1, none⟩ = some c1 ∧ w'.cell? ⟨rb, 2, none⟩ = some (.slice ga cs.length capa) ∧ w'.cell? ⟨rb, 3, none⟩ = some (.slice (some ⟨b, off, none⟩) ds.length dcap) ∧ w'.cell? ⟨rb, 4, none⟩ = some (.map (some mb)) ∧ w'.cell? ⟨rb, 5, none⟩ = some (.map (some am)) ∧ w'.cell? ⟨wr.heap.size, 0, none⟩ = some (.string (bs nm)))
        (first | exact cells67 HGA.out.row HN0.out | exact cells67 HG5.out.row HN5.out)
        ((go_at_call 38; refine WN.out.mono ?_; rintro e w5 ⟨a5, q5, rfl, hb5, hss⟩; have HG5 := Lib.hid (HGA.out.keep hb5); have HN5 := Lib.hid ((hb5.cell (p := ⟨wr.heap.size, 0, none⟩) (by simp only; omega)).trans HN0.out)))
      have hzA5 := hb5.size
      have hwA : w.heap.size < WA.drew.heap.size := (Array.getElem?_eq_some_iff.1 HRA.out).1
      have HR5 := Lib.hid ((hb5.block w.heap.size hwA).trans HRA.out)
      have HBZ5 : Hid (ButG kb (w.alloc (Obj.cells noT5 42)) w5) := HBZ.out.trans (ButG.of_below hb5)
      have HBW5 : Hid (ButG kb w w5) := HBWA.out.trans (ButG.of_below hb5)
      have HSS5 := Lib.hid (hss.mono (Nat.zero_le _))
      clear hss
      have hX : k * (10 * NB d) + 10 * NB d = (k + 1) * (10 * NB d) := (Nat.succ_mul _ _).symm
      have hX2 : (k + 1) * (10 * NB d) ≤ 300 * (10 * NB d) := Nat.mul_le_mul_right _ (by omega)
      have HX := Lib.hid hX
      have HX2 := Lib.hid hX2
      clear hX hX2
      cases okw with
      | false =>
        have htf : Hid (ok = (ds.drop (k + 1)).any (givesB cs abl ds rs d s)) := by unfold Hid; rw [hto.out, hdrop.out, HGV.out]; rfl
        have hpf : Hid (gt = pickT cs abl ds rs d s (ds.drop (k + 1))) := by unfold Hid; rw [hpo.out, hpick.out, HGV.out]; rfl
        have hnf : Hid (n' ≤ n + (k + 1) * (10 * NB d)) := by unfold Hid; have h1 := hnn.out; have h2 := HX.out; omega
        have hbz := HBZ5.out
        go_wp2_with fail
        go_roundw
        case rel => exact ⟨k + 1, n', f', by omega, by go_num, HG5, hbz, hnf, htf, hpf⟩
        case measure => simp [intOf]; omega
      | true =>
        rw [if_pos rfl] at HLL
        obtain ⟨hw10, hwk⟩ := HWF.out rfl
        rw [HLL.out] at hw10 hwk HGV
        have HPK : Hid (pickT cs abl ds rs d s (ds.drop k) = if gv = true then .mk 1 nm (L.map (gT cs abl ds rs d)) else pickT cs abl ds rs d s (ds.drop (k + 1))) := by
          unfold Hid; rw [hpick.out]; show _ = if gv = true then GT.mk 1 nm (L.map (gT cs abl ds rs d)) else _; rw [← HLL.out]
        have hL : L.length * NB d ≤ 10 * NB d := Nat.mul_le_mul_right _ hw10
        have HLB := Lib.hid hL
        have FC := Lib.hid (HF (fun b => H b ∨ b = w.heap.size) rb kb bm c1 ga capa _ mb am cs sp abl ds rs n' f' a5 q5 L w5 (fun b hb => by rcases hb with hb | rfl; have := HH.out b hb; omega; omega) HG5.out HBU.out h300 HAR.out HTY.out HSS5.out hwk hw10 (by omega) (by have h1 := hnn.out; have h2 := HX.out; have h3 := HX2.out; have h4 := hNB.out; omega))
        generalize hAL : L.all (gB cs abl ds rs d) = al at *
        have HAL := Lib.hid hAL
        unfold FPost at FC
        clear hAL hwk WN HWF hL
        go_wp2_with fail
        refine FC.out.mono ?_
        rintro e w6 ⟨a6, k6, c6, n6, f6, rfl, hb6, hg6, hn6, ht6⟩
        have n06 := (World.cell?_of_block (a := ⟨wr.heap.size, 0, none⟩) (HG5.out.cell hb6 HN5.out)).trans HN5.out
        obtain ⟨⟨y0, _⟩, _⟩ := five HR5.out
        have hr6 := (HG5.out.cell hb6 y0).trans HR5.out
        have HR6 := Lib.hid hr6
        obtain ⟨⟨z0, z1, z2, z3, z4⟩, z5, z6, z7, z8, z9⟩ := five hr6
        have HG6 := Lib.hid hg6
        have HT6 := Lib.hid ht6
        have hnf : Hid (n6 ≤ n + (k + 1) * (10 * NB d)) := by unfold Hid; have h1 := hnn.out; have h2 := HX.out; have h3 := HLB.out; omega
        have hbz := HBZ5.out.trans hb6
        have HBW6 : Hid (ButG kb w w6) := HBW5.out.trans hb6
        have hz6 := HBW6.out.size
        clear hg6 ht6 hr6 y0 hb6 hn6 FC
        cases al with
        | false =>
          have htf : Hid (ok = (ds.drop (k + 1)).any (givesB cs abl ds rs d s)) := by unfold Hid; rw [hto.out, hdrop.out, HGV.out]; rfl
          have hpf : Hid (gt = pickT cs abl ds rs d s (ds.drop (k + 1))) := by unfold Hid; rw [hpo.out, HPK.out, HGV.out]; rfl
          go_wp2_with fail
          go_roundw
          case rel => exact ⟨k + 1, n6, f6, by omega, by go_num, HG6, hbz, hnf, htf, hpf⟩
          case measure => simp [intOf]; omega
        | true =>
          have hof : Hid (ok = true) := by unfold Hid; rw [hto.out, hdrop.out, HGV.out]; rfl
          have hpf : Hid (gt = .mk 1 nm (L.map (gT cs abl ds rs d))) := by unfold Hid; rw [hpo.out, HPK.out, HGV.out]; rfl
          go_wp2_with fail
          have hBF := HBW6.out.thenBelow (below5 (v0 := .int .i64 1) (v1 := .string (bs nm)) (v2 := .int .i64 0) (v3 := .slice none 0 0) (v4 := .slice a6 k6 c6) (Below.refl w.heap.size w6) (Nat.le_refl _))
          refine bodyPost_ret (results_row_tmp rfl _ _ w.heap.size 42 #[.int .i64 1, .string (bs nm), .int .i64 0, .slice none 0 0, .slice a6 k6 c6] (0, 0) _ rfl (row5 HR6.out) Tryz.underlying42 rfl Tryz.size42) rfl ?_
          refine ⟨1, bs nm, a6, k6, c6, n6, f6, by rw [hof.out]; rfl, hBF, HG6.out.grown2 grown5 (fun b e => by injection e with e; exact .inr e.symm) (fun e => by injection e; omega) (fun e => by injection e; omega) (fun b e => by injection e; omega) (fun b _ hx => .inl hx), ?_, ?_⟩
          · have h1 := hnf.out; have h3 := HX2.out; have h4 := HM.out; omega
          · have h9 := HT6.out
            simp only [if_true] at h9
            rw [hpf.out]
            exact ⟨TyAt.turn (by simp) (fun b i u hh hc => (World.cell?_of_block (a := ⟨b, i, none⟩) (block5 fun e => hh (.inr e))).trans hc) (fun b _ hx => .inl hx) _ _ _ _ h9, rfl, rfl⟩
    · have hkk : k = ds.length := by omega
      subst hkk
      have hof : Hid (ok = false) := by unfold Hid; rw [hto.out, List.drop_length]; rfl
      have hpf : Hid (gt = .zero) := by unfold Hid; rw [hpo.out, List.drop_length]; rfl
      have hzr := hbg.size
      rw [hz0] at hzr
      have hrr := (hbg.block w.heap.size (by omega) (by omega)).trans HR0.out
      have HRR := Lib.hid hrr
      obtain ⟨⟨z0, z1, z2, z3, z4⟩, z5, z6, z7, z8, z9⟩ := five hrr
      have HBW : Hid (ButG kb w wr) := (ButG.of_below HB0.out).trans hbg
      clear hrr
      go_wp2_with fail
      have hBF := HBW.out.thenBelow (below5 (v0 := .int .i64 0) (v1 := .string ByteArray.empty) (v2 := .int .i64 0) (v3 := .slice none 0 0) (v4 := .slice none 0 0) (Below.refl w.heap.size wr) (Nat.le_refl _))
      refine bodyPost_ret (results_row_tmp rfl _ _ w.heap.size 42 noT5 (0, 0) _ rfl (row5 HRR.out) Tryz.underlying42 rfl Tryz.size42) rfl ?_
      refine ⟨0, ByteArray.empty, none, 0, 0, n', f', by rw [hof.out]; rfl, hBF, hgr.out.grown2 grown5 (fun b e => by injection e with e; exact .inr e.symm) (fun e => by injection e; omega) (fun e => by injection e; omega) (fun b e => by injection e; omega) (fun b _ hx => .inl hx), ?_, by rw [hpf.out]; exact tyIs_zero _ _ _ _⟩
      have h1 := hnn.out
      have h2 : ds.length * (10 * NB d) ≤ 300 * (10 * NB d) := Nat.mul_le_mul_right _ hds
      have h4 := HM.out
      omega

/-- Ground's search, at every depth -/
theorem first_any : ∀ d : Nat, FirstC d
  | 0 => first_zero
  | d + 1 => first_step (search_step (firsts_step (first_any d)))
end Go.Proofs.YtehnikgdjnmfcaaGreat

/- Args of narrower sorts, and of a Meet: pure facts. -/
namespace Go.Proofs.YtehnikgdjnmfcaaGreat
open Go.RowKit Go.WideMaps Go.Shelf Go.Sort Go.Lib

section
variable {cs : List (Nm × List Nm)} {sp abl : List (List Nat)} {ds : List (Nm × Int)} {rs : List Ar} {name : Nm}

theorem getD_ix {ns : List Nm} {c : Nm} (h : inNs ns c = true) : ns.getD (ixOf ns c) [] = c := by
  have hc := of_decide_eq_true h
  unfold ixOf
  rw [if_pos hc, List.getD_eq_getElem?_getD, List.getElem?_eq_getElem (List.idxOf_lt_length_of_mem hc), Option.getD_some]
  exact List.getElem_idxOf _

/-- an arity for a class is narrower than those for the classes above -/
theorem reg_le (hb : Built cs sp abl) (har : arsErr cs abl ds rs = 0) (hreg : regAll cs abl rs = true) {c' c : Nm} (hi : inP (rs.map arKey) (name, c') = true) (hk' : inNs (cs.map Prod.fst) c' = true) (hk : inNs (cs.map Prod.fst) c = true) (hle : leN (cs.map Prod.fst) sp c' c) :
    inP (rs.map arKey) (name, c) = true ∧ ∀ i, ∀ y ∈ (arAt rs (name, c)).getD i [], ∃ z ∈ (arAt rs (name, c')).getD i [], leN (cs.map Prod.fst) sp z y := by
  obtain ⟨hlt, hlen, _⟩ := arAt_facts har hi
  have hat := ixP_at hi ([], [])
  rw [key_at rs _ hlt] at hat
  have h1 : (rs.getD (ixP (rs.map arKey) (name, c')) ar0).1 = name := congrArg Prod.fst hat
  have h2 : (rs.getD (ixP (rs.map arKey) (name, c')) ar0).2.1 = c' := congrArg Prod.snd hat
  have hB := List.all_eq_true.1 hreg _ (List.mem_range.2 hlt)
  have hixc := ixOf_lt hk
  rw [List.length_map] at hixc
  have hixc' := ixOf_lt hk'
  rw [List.length_map] at hixc'
  have hO := List.all_eq_true.1 hB _ (List.mem_range.2 hixc)
  rw [h2] at hO
  have hm : ixOf (cs.map Prod.fst) c ∈ abl.getD (ixOf (cs.map Prod.fst) c') [] := (hb.mem _ hixc' _).2 hle
  rw [decide_eq_true hm, Bool.not_true, Bool.false_or] at hO
  unfold regOne at hO
  rw [h1, cname_at, getD_ix hk, Bool.and_eq_true] at hO
  obtain ⟨hin, hw⟩ := hO
  refine ⟨hin, fun i y hy => ?_⟩
  obtain ⟨_, hlen2, _⟩ := arAt_facts har hin
  have hii : i < (arAt rs (name, c)).length := by
    refine Classical.byContradiction fun hn => ?_
    rw [List.getD_eq_getElem?_getD, List.getElem?_eq_none (by omega)] at hy
    simp at hy
  have hll : (arAt rs (name, c')).length = (arAt rs (name, c)).length := by
    have : (((arAt rs (name, c')).length : Nat) : Int) = (((arAt rs (name, c)).length : Nat) : Int) := hlen.trans hlen2.symm
    omega
  have hW := List.all_eq_true.1 hw i (List.mem_range.2 (show i < (arAt rs (name, c')).length by omega))
  have hy2 := List.all_eq_true.1 hW y hy
  obtain ⟨z, hz, hbz⟩ := List.any_eq_true.1 hy2
  have hzk := List.all_eq_true.1 (arAt_get (cs := cs) (abl := abl) (ds := ds) har hi i).1 z hz
  exact ⟨z, hz, (belowB_iff hb hzk).1 hbz⟩

theorem mem_wantL {s : List Nm} {i : Nat} {y : Nm} : y ∈ wantL rs name s i ↔ ∃ c ∈ s, y ∈ (arAt rs (name, c)).getD i [] := by
  unfold wantL
  exact List.mem_flatMap

theorem want_le (hb : Built cs sp abl) (har : arsErr cs abl ds rs = 0) (hreg : regAll cs abl rs = true) {a b : List Nm} (ha : a.all (inNs (cs.map Prod.fst)) = true) (hbk : b.all (inNs (cs.map Prod.fst)) = true) (hh : hasAll rs name a = true) (hle : ∀ c ∈ b, ∃ d ∈ a, leN (cs.map Prod.fst) sp d c) :
    hasAll rs name b = true ∧ ∀ i, ∀ y ∈ wantL rs name b i, ∃ z ∈ wantL rs name a i, leN (cs.map Prod.fst) sp z y := by
  have key : ∀ c ∈ b, ∃ d ∈ a, inP (rs.map arKey) (name, c) = true ∧ ∀ i, ∀ y ∈ (arAt rs (name, c)).getD i [], ∃ z ∈ (arAt rs (name, d)).getD i [], leN (cs.map Prod.fst) sp z y := by
    intro c hc
    obtain ⟨d, hd, hl⟩ := hle c hc
    exact ⟨d, hd, reg_le hb har hreg (List.all_eq_true.1 hh d hd) (List.all_eq_true.1 ha d hd) (List.all_eq_true.1 hbk c hc) hl⟩
  refine ⟨List.all_eq_true.2 fun c hc => ?_, fun i y hy => ?_⟩
  · obtain ⟨d, _, h, _⟩ := key c hc
    exact h
  · obtain ⟨c, hc, hy2⟩ := mem_wantL.1 hy
    obtain ⟨d, hd, _, h⟩ := key c hc
    obtain ⟨z, hz, hl⟩ := h i y hy2
    exact ⟨z, mem_wantL.2 ⟨d, hd, hz⟩, hl⟩

/-- the least classes are told by what is above them -/
theorem least_unique (hb : Built cs sp abl) {S T : List Nm} (hS : ∀ x ∈ S, inNs (cs.map Prod.fst) x = true) (hT : ∀ x ∈ T, inNs (cs.map Prod.fst) x = true)
    (h1 : ∀ y ∈ T, ∃ z ∈ S, leN (cs.map Prod.fst) sp z y) (h2 : ∀ y ∈ S, ∃ z ∈ T, leN (cs.map Prod.fst) sp z y) :
    leastB (cs.map Prod.fst) (fun i => abl.getD i []) S = leastB (cs.map Prod.fst) (fun i => abl.getD i []) T := by
  have half : ∀ {S T : List Nm}, (∀ x ∈ S, inNs (cs.map Prod.fst) x = true) → (∀ x ∈ T, inNs (cs.map Prod.fst) x = true) → (∀ y ∈ T, ∃ z ∈ S, leN (cs.map Prod.fst) sp z y) → (∀ y ∈ S, ∃ z ∈ T, leN (cs.map Prod.fst) sp z y) →
      ∀ x, x ∈ leastB (cs.map Prod.fst) (fun i => abl.getD i []) S → x ∈ leastB (cs.map Prod.fst) (fun i => abl.getD i []) T := by
    intro S T hS hT h1 h2 x hx
    obtain ⟨hxS, hmin⟩ := (mem_least hb hS x).1 hx
    have hall : ∀ d ∈ T, leN (cs.map Prod.fst) sp d x → d = x := by
      intro d hd hdx
      obtain ⟨u, hu, hud⟩ := h1 d hd
      have hux : u = x := hmin u hu (Reach.trans hud hdx)
      rw [hux] at hud
      exact leN.anti hb (hT d hd) (hS x hxS) hdx hud
    obtain ⟨z, hz, hzx⟩ := h2 x hxS
    have hzx2 := hall z hz hzx
    rw [hzx2] at hz
    exact (mem_least hb hT x).2 ⟨hz, hall⟩
  exact ascB.uniq (leastB_asc _ _ _) (leastB_asc _ _ _) fun x => ⟨half hS hT h1 h2 x, half hT hS h2 h1 x⟩

theorem known_of {s : List Nm} (h : s.all (inNs (cs.map Prod.fst)) = true) : ∀ x ∈ s, inNs (cs.map Prod.fst) x = true := List.all_eq_true.1 h

/-- with a narrower sort the arguments' sorts are narrower -/
theorem want_less (hb : Built cs sp abl) (har : arsErr cs abl ds rs = 0) (hreg : regAll cs abl rs = true) {a b : List Nm} (ha : a.all (inNs (cs.map Prod.fst)) = true) (hbk : b.all (inNs (cs.map Prod.fst)) = true) (hh : hasAll rs name a = true)
    (hle : lessB (cs.map Prod.fst) (fun i => abl.getD i []) a b = true) (i : Nat) :
    lessB (cs.map Prod.fst) (fun i => abl.getD i []) (leastB (cs.map Prod.fst) (fun i => abl.getD i []) (wantL rs name a i)) (leastB (cs.map Prod.fst) (fun i => abl.getD i []) (wantL rs name b i)) = true := by
  rw [lessB_iff hb (known_of ha) (known_of hbk)] at hle
  obtain ⟨hhb, h1⟩ := want_le hb har hreg ha hbk hh hle
  have ka := known_of (wantL_facts (cs := cs) (abl := abl) (ds := ds) har i a hh).1
  have kb := known_of (wantL_facts (cs := cs) (abl := abl) (ds := ds) har i b hhb).1
  rw [lessB_iff hb (least_known hb ka) (least_known hb kb)]
  intro c hc
  obtain ⟨z, hz, hl⟩ := h1 i c (least_sub hb c hc)
  obtain ⟨m, hm, hl2⟩ := below_least hb ka _ z hz (Nat.le_refl _)
  exact ⟨m, hm, Reach.trans hl2 hl⟩

theorem hasAll_app (rs : List Ar) (name : Nm) (a b : List Nm) : hasAll rs name (a ++ b) = (hasAll rs name a && hasAll rs name b) := by
  unfold hasAll; rw [List.all_append]

/-- the arguments' sorts of a Meet are the Meets -/
theorem want_meet (hb : Built cs sp abl) (har : arsErr cs abl ds rs = 0) (hreg : regAll cs abl rs = true) {a b : List Nm} (ha : a.all (inNs (cs.map Prod.fst)) = true) (hbk : b.all (inNs (cs.map Prod.fst)) = true) (hha : hasAll rs name a = true) (hhb : hasAll rs name b = true) :
    hasAll rs name (leastB (cs.map Prod.fst) (fun i => abl.getD i []) (a ++ b)) = true ∧ ∀ i, leastB (cs.map Prod.fst) (fun i => abl.getD i []) (leastB (cs.map Prod.fst) (fun i => abl.getD i []) (wantL rs name a i) ++ leastB (cs.map Prod.fst) (fun i => abl.getD i []) (wantL rs name b i)) =
      leastB (cs.map Prod.fst) (fun i => abl.getD i []) (wantL rs name (leastB (cs.map Prod.fst) (fun i => abl.getD i []) (a ++ b)) i) := by
  have hab : (a ++ b).all (inNs (cs.map Prod.fst)) = true := by rw [List.all_append, ha, hbk]; rfl
  have hhab : hasAll rs name (a ++ b) = true := by rw [hasAll_app, hha, hhb]; rfl
  have hm : hasAll rs name (leastB (cs.map Prod.fst) (fun i => abl.getD i []) (a ++ b)) = true := List.all_eq_true.2 fun c hc => List.all_eq_true.1 hhab c (least_sub hb c hc)
  have hmk : (leastB (cs.map Prod.fst) (fun i => abl.getD i []) (a ++ b)).all (inNs (cs.map Prod.fst)) = true := List.all_eq_true.2 (least_known hb (known_of hab))
  have hdown : ∀ c ∈ a ++ b, ∃ d ∈ leastB (cs.map Prod.fst) (fun i => abl.getD i []) (a ++ b), leN (cs.map Prod.fst) sp d c := fun c hc => below_least hb (known_of hab) _ c hc (Nat.le_refl _)
  refine ⟨hm, fun i => ?_⟩
  have ka := known_of (wantL_facts (cs := cs) (abl := abl) (ds := ds) har i a hha).1
  have kb := known_of (wantL_facts (cs := cs) (abl := abl) (ds := ds) har i b hhb).1
  have km := known_of (wantL_facts (cs := cs) (abl := abl) (ds := ds) har i _ hm).1
  obtain ⟨_, wa⟩ := want_le hb har hreg hmk ha hm (fun c hc => hdown c (List.mem_append_left _ hc))
  obtain ⟨_, wb⟩ := want_le hb har hreg hmk hbk hm (fun c hc => hdown c (List.mem_append_right _ hc))
  refine least_unique hb (fun x hx => (List.mem_append.1 hx).elim (least_known hb ka x) (least_known hb kb x)) km (fun y hy => ?_) (fun y hy => ?_)
  · obtain ⟨c, hc, hy2⟩ := mem_wantL.1 hy
    rcases List.mem_append.1 (least_sub hb c hc) with h | h
    · obtain ⟨z, hz, hl⟩ := below_least hb ka _ y (mem_wantL.2 ⟨c, h, hy2⟩) (Nat.le_refl _)
      exact ⟨z, List.mem_append_left _ hz, hl⟩
    · obtain ⟨z, hz, hl⟩ := below_least hb kb _ y (mem_wantL.2 ⟨c, h, hy2⟩) (Nat.le_refl _)
      exact ⟨z, List.mem_append_right _ hz, hl⟩
  · rcases List.mem_append.1 hy with h | h
    · exact wa i y (least_sub hb y h)
    · exact wb i y (least_sub hb y h)

theorem wantC_get (i : Nat) (s : List Nm) (h : i < (wantC cs abl ds rs name s).length) : (wantC cs abl ds rs name s).getD i [] = leastB (cs.map Prod.fst) (fun i => abl.getD i []) (wantL rs name s i) := by
  unfold wantC wantB at h ⊢
  rw [List.length_map, List.length_range] at h
  rw [List.getD_eq_getElem?_getD, List.getElem?_map, List.getElem?_range h]; rfl

theorem wantC_len (s : List Nm) : (wantC cs abl ds rs name s).length = (numOf ds name).toNat := by
  unfold wantC wantB; rw [List.length_map, List.length_range]
end

end Go.Proofs.YtehnikgdjnmfcaaGreat

/- Ground of a sort is Ground of its least classes: pure facts. -/
namespace Go.Proofs.YtehnikgdjnmfcaaGreat
open Go.RowKit Go.WideMaps Go.Shelf Go.Sort Go.Lib

section
variable {cs : List (Nm × List Nm)} {sp ab : List (List Nat)} {ds : List (Nm × Int)} {rs : List Ar}

theorem need_least (hb : Built cs sp ab) (har : arsErr cs ab ds rs = 0) (hreg : regAll cs ab rs = true) {ss : List Nm} (hk : ss.all (inNs (cs.map Prod.fst)) = true) (name : Nm) :
    hasAll rs name (leastB (cs.map Prod.fst) (fun i => ab.getD i []) ss) = hasAll rs name ss ∧ (hasAll rs name ss = true → wantC cs ab ds rs name (leastB (cs.map Prod.fst) (fun i => ab.getD i []) ss) = wantC cs ab ds rs name ss) := by
  have hlk : (leastB (cs.map Prod.fst) (fun i => ab.getD i []) ss).all (inNs (cs.map Prod.fst)) = true := List.all_eq_true.2 (least_known hb (known_of hk))
  have hdown : ∀ c ∈ ss, ∃ d ∈ leastB (cs.map Prod.fst) (fun i => ab.getD i []) ss, leN (cs.map Prod.fst) sp d c := fun c hc => below_least hb (known_of hk) _ c hc (Nat.le_refl _)
  have h1 : hasAll rs name ss = true → hasAll rs name (leastB (cs.map Prod.fst) (fun i => ab.getD i []) ss) = true := fun h => List.all_eq_true.2 fun c hc => List.all_eq_true.1 h c (least_sub hb c hc)
  have h2 : hasAll rs name (leastB (cs.map Prod.fst) (fun i => ab.getD i []) ss) = true → hasAll rs name ss = true := fun h => (want_le hb har hreg hlk hk h hdown).1
  refine ⟨Bool.eq_iff_iff.2 ⟨h2, h1⟩, fun h => ?_⟩
  have hl := h1 h
  obtain ⟨_, hw⟩ := want_le hb har hreg hlk hk hl hdown
  unfold wantC wantB
  refine List.map_congr_left fun i _ => ?_
  have ka := known_of (wantL_facts (cs := cs) (abl := ab) (ds := ds) har i _ hl).1
  have kb := known_of (wantL_facts (cs := cs) (abl := ab) (ds := ds) har i _ h).1
  refine least_unique hb ka kb (hw i) (fun y hy => ?_)
  obtain ⟨c, hc, hy2⟩ := mem_wantL.1 hy
  exact ⟨y, mem_wantL.2 ⟨c, least_sub hb c hc, hy2⟩, Reach.self⟩

theorem ground_least (hb : Built cs sp ab) (har : arsErr cs ab ds rs = 0) (hreg : regAll cs ab rs = true) {ss : List Nm} (hk : ss.all (inNs (cs.map Prod.fst)) = true) : ∀ d : Nat,
    gB cs ab ds rs d (leastB (cs.map Prod.fst) (fun i => ab.getD i []) ss) = gB cs ab ds rs d ss ∧ gT cs ab ds rs d (leastB (cs.map Prod.fst) (fun i => ab.getD i []) ss) = gT cs ab ds rs d ss
  | 0 => ⟨rfl, rfl⟩
  | d + 1 => by
    have hp : givesB cs ab ds rs d (leastB (cs.map Prod.fst) (fun i => ab.getD i []) ss) = givesB cs ab ds rs d ss := by
      funext dc
      obtain ⟨h1, h2⟩ := need_least (ds := ds) hb har hreg hk dc.1
      unfold givesB
      rw [h1]
      cases h : hasAll rs dc.1 ss with
      | false => rfl
      | true => rw [h2 h]
    refine ⟨by rw [gB_any, gB_any, hp], ?_⟩
    rw [gT_pick, gT_pick]
    unfold pickT
    rw [hp]
    cases hf : ds.find? (givesB cs ab ds rs d ss) with
    | none => rfl
    | some dc =>
      have hg := List.find?_some hf
      unfold givesB at hg
      rw [Bool.and_eq_true] at hg
      simp only
      rw [(need_least (ds := ds) hb har hreg hk dc.1).2 hg.1]
end
end Go.Proofs.YtehnikgdjnmfcaaGreat
