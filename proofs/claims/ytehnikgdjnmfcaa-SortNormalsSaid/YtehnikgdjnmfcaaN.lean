/- The error cases of addClass, and its one contract. -/
import Derived.Test.YtehnikgdjnmfcaaL
namespace Go.Proofs.Ytehnikgdjnmfcaa
open Go.RowKit Go.WideMaps Go.Shelf

set_option maxRecDepth 100000 in
set_option maxHeartbeats 4000000 in
theorem addClass_name (B gb : Nat) (nm : Nm) (sl : Value) (w : World) (hBw : B ≤ w.heap.size) (hnl : nm.length ≤ maxLen) (hname : isNameB (bs nm) = false) :
    CallsIn Fence.wide 8 Try.prog 58 #[.pointer (some ⟨gb, 0, none⟩), .agg #[.string (bs nm), sl]] w (fun e w' => e = .returned (.int .i64 30) ∧ Below B w w') := by
  have hN := Lib.hid (isName_any (bs nm))
  have HN := Lib.hid hname
  clear hname
  refine callsIn_of_wp_marks Try.func58 rfl trivial (wpIn_wide.2 ?_) rfl
  simp only [Try.ntmps58, List.size_toArray, List.length_cons, List.length_nil, Nat.reduceAdd, Nat.reduceSub, Array.replicate_succ, Array.replicate_zero, List.push_toArray, List.append_toArray, List.nil_append, List.cons_append]
  go_wp2_with fail
  refine (hN.out _ (by rw [bs_size]; exact hnl)).mono ?_
  rw [HN.out]
  rintro e w1 ⟨rfl, rfl⟩
  go_wp2_with fail
  exact ⟨_, results_tmp rfl _ _ _, rfl, ((Below.refl B w).alloc hBw _).alloc (by simp; omega) _⟩

set_option maxRecDepth 100000 in
set_option maxHeartbeats 4000000 in
theorem addClass_dup (B gb bm : Nat) (nm : Nm) (sl : Value) (ns : List Nm) (w : World) (hgb : gb < w.heap.size) (hBw : B ≤ w.heap.size) (hnl : nm.length ≤ maxLen) (hname : isNameB (bs nm) = true) (hdup : inNs ns nm = true)
    (c0 : w.cell? ⟨gb, 0, none⟩ = some (.map (some bm))) (hm : MapAt w bm ns) :
    CallsIn Fence.wide 8 Try.prog 58 #[.pointer (some ⟨gb, 0, none⟩), .agg #[.string (bs nm), sl]] w (fun e w' => e = .returned (.int .i64 10) ∧ Below B w w') := by
  have hN := Lib.hid (isName_any (bs nm))
  have HN := Lib.hid hname
  have HD := Lib.hid hdup
  have HM := Lib.hid hm
  clear hname hdup hm
  refine callsIn_of_wp_marks Try.func58 rfl trivial (wpIn_wide.2 ?_) rfl
  simp only [Try.ntmps58, List.size_toArray, List.length_cons, List.length_nil, Nat.reduceAdd, Nat.reduceSub, Array.replicate_succ, Array.replicate_zero, List.push_toArray, List.append_toArray, List.nil_append, List.cons_append]
  go_wp2_with fail
  refine (hN.out _ (by rw [bs_size]; exact hnl)).mono ?_
  rw [HN.out]
  rintro e w1 ⟨rfl, rfl⟩
  have hm1 := (HM.out.alloc (Obj.cells #[.pointer (some ⟨gb, 0, none⟩)] 114)).alloc (Obj.cells #[.string (bs nm), sl] 56)
  have hlk := fun q => (hm1.drewN q).look hnl
  rw [HD.out] at hlk
  go_wp2_with fail
  go_quiet (fail)
  clear hlk
  go_wp2_with fail
  exact ⟨_, results_tmp rfl _ _ _, rfl, below_drewN (((Below.refl B w).alloc hBw _).alloc (by simp; omega) _) _⟩

set_option maxRecDepth 100000 in
set_option maxHeartbeats 4000000 in
theorem addClass_count (B gb bm : Nat) (nm : Nm) (sa : Option Addr) (n scap : Nat) (ns : List Nm) (w : World) (hgb : gb < w.heap.size) (hBw : B ≤ w.heap.size) (hnl : nm.length ≤ maxLen) (hname : isNameB (bs nm) = true) (hdup : inNs ns nm = false)
    (c0 : w.cell? ⟨gb, 0, none⟩ = some (.map (some bm))) (hm : MapAt w bm ns) (hl : 20 < n) :
    CallsIn Fence.wide 8 Try.prog 58 #[.pointer (some ⟨gb, 0, none⟩), .agg #[.string (bs nm), .slice sa n scap]] w (fun e w' => e = .returned (.int .i64 5) ∧ Below B w w') := by
  have hN := Lib.hid (isName_any (bs nm))
  have HN := Lib.hid hname
  have HD := Lib.hid hdup
  have HM := Lib.hid hm
  clear hname hdup hm
  refine callsIn_of_wp_marks Try.func58 rfl trivial (wpIn_wide.2 ?_) rfl
  simp only [Try.ntmps58, List.size_toArray, List.length_cons, List.length_nil, Nat.reduceAdd, Nat.reduceSub, Array.replicate_succ, Array.replicate_zero, List.push_toArray, List.append_toArray, List.nil_append, List.cons_append]
  go_wp2_with fail
  refine (hN.out _ (by rw [bs_size]; exact hnl)).mono ?_
  rw [HN.out]
  rintro e w1 ⟨rfl, rfl⟩
  have hm1 := (HM.out.alloc (Obj.cells #[.pointer (some ⟨gb, 0, none⟩)] 114)).alloc (Obj.cells #[.string (bs nm), .slice sa n scap] 56)
  have hlk := fun q => (hm1.drewN q).look hnl
  rw [HD.out] at hlk
  go_wp2_with fail
  go_quiet (fail)
  clear hlk
  have hl20' : decide (20 < ((n : Nat) : Int)) = true := by simp; omega
  go_wp2_with fail
  exact ⟨_, results_tmp rfl _ _ _, rfl, below_drewN (((Below.refl B w).alloc hBw _).alloc (by simp; omega) _) _⟩

/-- the error of a class -/
def classErr (ns : List Nm) (nm : Nm) (sups : List Nm) : Int :=
  if isNameB (bs nm) = false then 30 else if inNs ns nm = true then 10 else if 20 < sups.length then 5 else supErr ns sups

theorem addClass_any (B gb : Nat) (nm : Nm) (sa : Option Addr) (scap : Nat) (sups ns : List Nm) (sp ab : List (List Nat)) (w : World) (hBw : B ≤ w.heap.size) (hns : ns.length < 300)
    (hG : GAt B w gb ns sp ab) (hlt : ∀ i, i < ns.length → ∀ s ∈ sp.getD i [], s < i) (hs : SlS w (.slice sa sups.length scap) sups) (hnl : nm.length ≤ maxLen) :
    CallsIn Fence.wide 8 Try.prog 58 #[.pointer (some ⟨gb, 0, none⟩), .agg #[.string (bs nm), .slice sa sups.length scap]] w (AddPost B w gb nm sups ns sp ab (classErr ns nm sups)) := by
  obtain ⟨hBg, hgb, hspl, habl, bm, sv, av, rs, xs, hgo, hBm, hm, hsv, hrows, hav, hxs⟩ := hG
  have c0 : w.cell? ⟨gb, 0, none⟩ = some (.map (some bm)) := by rw [cell_of_row w gb 0 _ _ _ hgo]; rfl
  by_cases h1 : isNameB (bs nm) = false
  · have : classErr ns nm sups = 30 := by unfold classErr; rw [if_pos h1]
    rw [this]
    exact (addClass_name B gb nm _ w hBw hnl h1).mono (fun e w' ⟨h, hb⟩ => by subst h; exact addErr (by decide) hb)
  · have h1' : isNameB (bs nm) = true := by simpa using h1
    by_cases h2 : inNs ns nm = true
    · have : classErr ns nm sups = 10 := by unfold classErr; rw [if_neg h1, if_pos h2]
      rw [this]
      exact (addClass_dup B gb bm nm _ ns w hgb hBw hnl h1' h2 c0 hm).mono (fun e w' ⟨h, hb⟩ => by subst h; exact addErr (by decide) hb)
    · have h2' : inNs ns nm = false := by simpa using h2
      by_cases h3 : 20 < sups.length
      · have : classErr ns nm sups = 5 := by unfold classErr; rw [if_neg h1, if_neg h2, if_pos h3]
        rw [this]
        exact (addClass_count B gb bm nm sa _ scap ns w hgb hBw hnl h1' h2' c0 hm h3).mono (fun e w' ⟨h, hb⟩ => by subst h; exact addErr (by decide) hb)
      · have : classErr ns nm sups = supErr ns sups := by unfold classErr; rw [if_neg h1, if_neg h2, if_neg h3]
        rw [this]
        exact addClass_x B sp ab gb bm sv av nm sa scap sups ns rs xs w hgb hBw hBg hBm hns hspl habl hsv hrows hav hxs hlt hgo hm hs hnl h1' h2' (by omega)
end Go.Proofs.Ytehnikgdjnmfcaa
