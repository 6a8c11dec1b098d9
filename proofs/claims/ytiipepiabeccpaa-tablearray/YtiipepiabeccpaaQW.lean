/-
  A region that draws its order, inside a round of a range over a function: with calls and with writes, walked as one that lies outside (no operation of it defers).
-/
import Derived.Test.YtiipepiabeccpaaQR
import Derived.Deep.RegionHeld3
import Derived.RangeFuncCalls
namespace Go.Proofs.Ytiipepiabeccpaa
open Go
set_option linter.all false

section
variable {n l : Nat} {P : Program} {md : Region.Mode}
theorem rows_inRound {row : String} {args : Array Value} {w : World} {R : Value → World → Prop} (h : Rows P row args w R) : RowsIn (Fence.wide.inRound l) n P row args w R := by
  intro c cs _
  obtain ⟨v, w', hR, hs⟩ := h c cs
  exact ⟨v, w', hR, stepsIn_wide.2 hs⟩
theorem oper_inRound {o : Oper} {a : Act} {K : Act → World → Prop} {Q : Exit → Act → World → Prop} {w : World} (hnd : ∀ c, o.op ≠ .defer c) (h : Oper.wp P o a w K Q) : Oper.wpIn (Fence.wide.inRound l) n P o a w K Q := by
  refine ⟨fun _ _ => trivial, ?_⟩
  rw [Oper.semAt_eq _ _ _ hnd]
  unfold Oper.wp at h
  generalize (execOp a.eval o).run P w = r at h ⊢
  cases r with
  | halt x w' => cases x <;> first | exact h | exact (h : False).elim
  | ok x w' =>
    cases x with
    | enter f args => exact ⟨fun e => (by simp [Fence.wide] at e), CallsIn.inRound l (callsIn_wide.2 h)⟩
    | row r args => exact ⟨fun e => (by simp [Fence.wide] at e), rows_inRound h⟩
    | _ => first | exact h | exact (h : False).elim
theorem any_inRound {ops : Array Oper} {Q : Exit → Act → World → Prop} (hnd : calmOps ops.toList = true) (hno : ¬ LetsOut Q) : ∀ (fuel : Nat) (listed : Array Bool) (a : Act) (w : World),
    wpAny P md ops Q fuel listed a w → wpAnyIn (Fence.wide.inRound l) n P md ops Q fuel listed a w := by
  intro fuel
  induction fuel with
  | zero => exact fun _ _ _ h => h
  | succ fuel ih =>
    intro listed a w h
    refine ⟨h.1, fun i hi => ?_⟩
    have hq := h.2 i hi
    unfold wpOp at hq
    unfold wpOpIn
    cases ho : ops[i]? with
    | none => simp only [ho] at hq ⊢; exact ih _ _ _ hq
    | some o =>
      simp only [ho] at hq ⊢
      have hd : ∀ c, o.op ≠ .defer c := calmOps_at hnd (i := i) (by simpa using ho)
      by_cases hwn : Region.wanted o (yielded ops a.tmps) = true
      · rw [if_pos hwn] at hq ⊢
        exact oper_inRound hd (Oper.wp_mono (fun a' w' => ih _ a' w') (hq.resolve_right (fun h => hno h.2)))
      · rw [if_neg hwn] at hq ⊢
        exact ⟨fun _ _ => trivial, ih _ _ _ hq⟩
theorem wpIn_round_held {id : Nat} {ops : Array Oper} {Q : Exit → Act → World → Prop} {S : World → Prop} {a : Act} {w : World} (hnd : calmOps ops.toList = true) (hm : P.follows .mixedOrders = true) (hno : ¬ LetsOut (NoPanic Q)) (hS : S w.drew)
    (h : S w.drew → wpAnyH P .any ops (NoPanic Q) S ops.size (Array.replicate ops.size false) a w.drew) : (Code.region id ops true).wpIn (Fence.wide.inRound l) n P Q a w :=
  wpIn_mono (wpIn_region_any hm (any_inRound hnd hno _ _ _ _ (wpAny_of_held _ _ _ _ (h hS)))) NoPanic.imp
end
end Go.Proofs.Ytiipepiabeccpaa
