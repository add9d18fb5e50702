/- Facts for the loop over upward. -/
import Derived.Test.YtehnikgdjnmfcaaK2
namespace Go.Proofs.Ytehnikgdjnmfcaa
open Go.RowKit Go.WideMaps Go.Shelf

theorem tag_ne {w : World} {a b : Nat} {cs cs' : Array Value} {t t' : TypeId} {fr fr' : Nat × Nat} (h : w.heap[a]? = some (.cells cs t fr)) (h' : w.heap[b]? = some (.cells cs' t' fr')) (hne : t ≠ t') : a ≠ b := by
  intro e
  subst e
  rw [h] at h'
  injection h' with h'
  injection h' with _ h' _
  exact hne h'

theorem own_obj {w : World} {B g n cap size : Nat} {e : TypeId} {xs : List Value} (h : w.ownsRow B e size (.slice (some ⟨g, 0, none⟩) n cap) n xs) : B ≤ g ∧ ∃ cur, w.heap[g]? = some (.cells cur e (0, 0)) ∧ n ≤ cap ∧ cur.size = cap * size ∧ cur.toList.take (n * size) = xs := by
  rcases h.2 with ⟨h', _⟩ | ⟨g', cap', cur, h', hg, hh, hn, _, hs, ht⟩
  · cases h'
  · cases h'; exact ⟨hg, cur, hh, hn, hs, ht⟩

theorem ints_get (l : List Nat) (j : Nat) (hj : j < l.length) : (ints l)[j]? = some (.int .i64 ((l.getD j 0 : Nat) : Int)) := by
  unfold ints
  rw [List.getElem?_map, List.getElem?_eq_getElem hj, List.getD_eq_getElem?_getD, List.getElem?_eq_getElem hj]; rfl

theorem supAt_of {B No gb g cap m : Nat} {sp : List (List Nat)} {rs : List Value} {W : World} {cs cur : Array Value} (hG : W.heap[gb]? = some (.cells cs 66 (0, 0))) (h1 : cs[1]? = some (.slice (some ⟨g, 0, none⟩) m cap))
    (hsv : W.ownsRow B 123 1 (.slice (some ⟨g, 0, none⟩) m cap) m rs) (hNo : W.heap[No]? = some (.cells cur 96 (0, 0)))
    (hrows : ∀ i, i < m → (sp.getD i []).length ≤ 20 ∧ W.ownsRow B 3 1 (rs.getD i undef) (sp.getD i []).length (ints (sp.getD i []))) : SupAt W No gb (fun i => sp.getD i []) m := by
  obtain ⟨_, cur1, ho1, _⟩ := own_obj hsv
  refine ⟨tag_ne hG hNo (by decide), (Array.getElem?_eq_some_iff.1 hG).1, g, 0, cap, by rw [cell_of_row W gb 1 _ _ _ hG]; exact h1, tag_ne ho1 hNo (by decide), (Array.getElem?_eq_some_iff.1 ho1).1, fun i hi => ?_⟩
  obtain ⟨hl, hr⟩ := hrows i hi
  refine ⟨hl, ?_⟩
  have hrl : rs.length = m := by have := hsv.1; omega
  have hcell : W.cell? ⟨g, 0 + i, none⟩ = some (rs.getD i undef) := by
    have := hsv.cellAt i (by omega)
    rw [Nat.zero_add, this, List.getD_eq_getElem?_getD, List.getElem?_eq_getElem (by omega)]; rfl
  rcases hr.2 with ⟨e1, e2⟩ | ⟨rb, rcap, rcur, e1, _, hrb, hn, _, _, ht⟩
  · refine ⟨none, 0, by rw [hcell, e1, e2], fun h => by have h' : 0 < (sp.getD i []).length := h; omega⟩
  · refine ⟨some ⟨rb, 0, none⟩, rcap, by rw [hcell, e1], fun _ => ⟨rb, 0, rfl, tag_ne hrb hNo (by decide), (Array.getElem?_eq_some_iff.1 hrb).1, fun j hj0 => ?_⟩⟩
    have hj : j < (sp.getD i []).length := hj0
    rw [Nat.zero_add, cell_of_row W rb j _ _ _ hrb]
    have h2 : (rcur.toList.take ((sp.getD i []).length * 1))[j]? = (ints (sp.getD i []))[j]? := by rw [ht]
    rw [List.getElem?_take, if_pos (by omega)] at h2
    rw [← Array.getElem?_toList, h2]
    exact ints_get _ j hj

def words5 (ys : List Nat) : List Value := [.int .u64 ((wordsOf ys 0 : Nat) : Int), .int .u64 ((wordsOf ys 1 : Nat) : Int), .int .u64 ((wordsOf ys 2 : Nat) : Int), .int .u64 ((wordsOf ys 3 : Nat) : Int), .int .u64 ((wordsOf ys 4 : Nat) : Int)]

theorem wordsOf_lt (ys : List Nat) (j : Nat) : wordsOf ys j < 18446744073709551616 := by
  suffices h : ∀ n, ∀ ys : List Nat, ys.length = n → wordsOf ys j < 18446744073709551616 from h _ ys rfl
  intro n
  induction n with
  | zero => intro ys h; rw [List.length_eq_zero_iff.1 h]; simp [wordsOf]
  | succ n ih =>
    intro ys h
    rcases List.eq_nil_or_concat ys with rfl | ⟨zs, k, rfl⟩
    · simp at h
    · have hz : zs.length = n := by simp at h; omega
      rw [List.concat_eq_append, wordsOf_snoc]
      split
      · exact or_lt64 _ k (ih zs hz)
      · exact ih zs hz

theorem words5_set (ys : List Nat) (x j : Nat) (hx : x / 64 = j) (hj : j < 5) : (words5 ys).set j (.int .u64 ((wordsOf ys j ||| 2 ^ (x % 64) : Nat) : Int)) = words5 (ys ++ [x]) := by
  have e : ∀ i, wordsOf (ys ++ [x]) i = if x / 64 = i then wordsOf ys i ||| 2 ^ (x % 64) else wordsOf ys i := wordsOf_snoc ys x
  unfold words5
  simp only [e]
  have : j = 0 ∨ j = 1 ∨ j = 2 ∨ j = 3 ∨ j = 4 := by omega
  rcases this with rfl | rfl | rfl | rfl | rfl <;> simp [hx]

end Go.Proofs.Ytehnikgdjnmfcaa
