/- Regions that draw their order inside a round of a range over a function: by the laws of plain regions. -/
import Derived.RangeFuncCalls
import Derived.Deep.RegionHeld3
import Derived.Deep.QuietTactic
import Derived.BigQuiet
namespace Go.Proofs.YtehnikgdjnmfcaaGreat
open Go Go.RowKit

/-- no operation defers a call -/
def plainOps (ops : Array Oper) : Bool := ops.toList.all fun o => match o.op with | .defer _ => false | _ => true

theorem plainOps_at {ops : Array Oper} (h : plainOps ops = true) {i : Nat} {o : Oper} (ho : ops[i]? = some o) : ∀ c, o.op ≠ .defer c := by
  intro c hc
  have hm : o ∈ ops.toList := by
    have : ops.toList[i]? = some o := by simpa using ho
    exact List.mem_of_getElem? this
  have := List.all_eq_true.1 h o hm
  rw [hc] at this; cases this

section
variable {P : Program} {ops : Array Oper} {Q : Exit → Act → World → Prop} {l n : Nat}

theorem upon_round {o : Oper} {a : Act} {K K' : Act → World → Prop} (hK : ∀ a w, K a w → K' a w) (hQo : ¬ LetsOut Q) {r : Result Next}
    (h : o.upon P a K Q r) : o.uponIn (Fence.wide.inRound l) n P a K' Q r := by
  cases r with
  | ok x w' =>
    cases x with
    | value v => exact hK _ _ h
    | skip => exact hK _ _ h
    | defer d => exact hK _ _ h
    | enter f args =>
      refine ⟨fun e => (by simp [Fence.inRound, Fence.wide] at e), (CallsIn.inRound l (callsIn_wide.2 h)).mono ?_⟩
      intro e w'' hh
      cases e with
      | returned v => exact hK _ _ hh
      | panicked ch => exact hh
      | outgrown => exact absurd hh hQo
    | row row args =>
      refine ⟨fun e => (by simp [Fence.inRound, Fence.wide] at e), fun c cs _ => ?_⟩
      obtain ⟨v, w2, r, s⟩ := h c cs
      exact ⟨v, w2, hK _ _ r, stepsIn_wide.2 s⟩
    | round => exact h.elim
    | _ => exact h.elim
  | halt s w' => cases s <;> first | exact h | exact h.elim

theorem wpOps_round (hdef : plainOps ops = true) (hQo : ¬ LetsOut Q) : ∀ (s : List Nat) (a : Act) (w : World), wpOps P ops Q s a w → wpOpsIn (Fence.wide.inRound l) n P ops Q s a w
  | [], _, _, h => h
  | i :: rest, a, w, h => by
    unfold wpOps at h
    unfold wpOpsIn
    cases ho : ops[i]? with
    | none =>
      simp only [ho] at h ⊢
      exact wpOps_round hdef hQo rest a w h
    | some o =>
      simp only [ho] at h ⊢
      by_cases hw : Region.wanted o (yielded ops a.tmps) = true
      · rw [if_pos hw] at h ⊢
        refine ⟨fun _ _ => trivial, ?_⟩
        rw [Oper.semAt_eq _ _ _ (plainOps_at hdef ho)]
        rcases h with h | h
        · exact upon_round (fun a w => wpOps_round hdef hQo rest a w) hQo h
        · exact absurd h.2 hQo
      · rw [if_neg hw] at h ⊢
        exact ⟨fun _ _ => trivial, wpOps_round hdef hQo rest _ w h⟩

theorem wpIn_region_any_round {id : Nat} {a : Act} {w : World} (hdef : plainOps ops = true) (hQo : ¬ LetsOut Q) (hm : P.follows .mixedOrders = true)
    (h : wpAny P .any ops Q ops.size (Array.replicate ops.size false) a { w with drawn := w.drawn + 1 }) : (Code.region id ops true).wpIn (Fence.wide.inRound l) n P Q a w :=
  wpIn_region_draw fun t => by
    simp only [Region.schedule, hm, Bool.true_or, if_true]
    exact wpOps_round hdef hQo _ _ _ (wpAny_sound ops.size t _ a _ h)

theorem wpIn_region_held_round {S : World → Prop} {id : Nat} {a : Act} {w : World} (hdef : plainOps ops = true) (hQo : ¬ LetsOut Q) (hm : P.follows .mixedOrders = true) (hS : S w.drew)
    (h : S w.drew → wpAnyH P .any ops Q S ops.size (Array.replicate ops.size false) a w.drew) : (Code.region id ops true).wpIn (Fence.wide.inRound l) n P Q a w :=
  wpIn_region_any_round hdef hQo hm (wpAny_of_held _ _ _ _ (h hS))

theorem wpIn_region_quiet_round {C : World → Prop} {id : Nat} {a : Act} {w : World} (hdef : plainOps ops = true) (hQo : ¬ LetsOut Q) (hm : P.follows .mixedOrders = true) (hB : Region.lexB .any ops = true) (hC : C { w with drawn := w.drawn + 1 })
    (h : wpQuiet P ops C (fun a' => ∀ w', C w' → Q .normal a' w') ops.toList a) : (Code.region id ops true).wpIn (Fence.wide.inRound l) n P Q a w := by
  simp only [Region.lexB, Bool.and_eq_true] at hB
  refine wpIn_region_any_round hdef hQo hm (wpAny_of_quiet (Q := fun a' => ∀ w', C w' → Q .normal a' w') (fun _ w' hw' h => h w' hw') _ _ _ _ hC ?_)
  have := wpAnyQ_lex (C := C) (md := .any) hB.1 ops.toList 0 (Array.replicate ops.size false) a (by simp) (by simpa using hB.2) h
  simpa using this

theorem wpIn_region_quiet_lit_round {id : Nat} {a : Act} {w : World} {lo : List Oper} (hdef : plainOps lo.toArray = true) (hQo : ¬ LetsOut Q) (hm : P.follows .mixedOrders = true) (hB : Region.lexB .any lo.toArray = true)
    (h : wpQuiet P lo.toArray (fun w' => ∃ n, w' = w.drewN n) (fun a' => ∀ w', (∃ n, w' = w.drewN n) → Q .normal a' w') lo a) : (Code.region id lo.toArray true).wpIn (Fence.wide.inRound l) n P Q a w :=
  wpIn_region_quiet_round (C := fun w' => ∃ n, w' = w.drewN n) hdef hQo hm hB ⟨1, rfl⟩ (by simpa using h)
end
end Go.Proofs.YtehnikgdjnmfcaaGreat

