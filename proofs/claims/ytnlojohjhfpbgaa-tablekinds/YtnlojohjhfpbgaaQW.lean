import Derived.Sort.QuietIn
import Derived.AtR
import Derived.KernelRfl
import Derived.Deep.RegionHeld3
import Derived.RangeFuncCalls
/-
  A region that draws its order and only reads, inside a round of a range over a function: one walk in the text's order serves every order there, too (no operation of it defers).
-/
namespace Go.Proofs.Ytnlojohjhfpbgaa
open Go
set_option linter.all false

/-- No operation is a defer. -/
def calmOps (l : List Oper) : Bool := l.all fun o => match o.op with | .defer _ => false | _ => true
theorem calmOps_at {l : List Oper} (h : calmOps l = true) {i : Nat} {o : Oper} (hi : l[i]? = some o) : ∀ c, o.op ≠ .defer c := by
  intro c e
  have := List.all_eq_true.1 h o (List.mem_of_getElem? hi)
  rw [e] at this
  cases this

section
variable {F : Fence} {n : Nat} {P : Program} {md : Region.Mode} {C : World → Prop}
theorem round_oper {o : Oper} {a : Act} {K : Act → Prop} {K' : Act → World → Prop} {Q' : Exit → Act → World → Prop} {w : World} (hnd : ∀ c, o.op ≠ .defer c) (hw : C w) (h : ∀ a w', C w' → K a → K' a w')
    (ha : o.askedIn F P a C) (hh : o.quietIn F n P a C K) : o.wpIn F n P a w K' Q' := by
  obtain ⟨v, q1, q2⟩ := hh
  have q3 : Oper.quietUponIn F n P C w v ((execOp a.eval o).run P w) := q1 w hw
  refine ⟨ha w hw, ?_⟩
  rw [Oper.semAt_eq _ _ _ hnd]
  cases hr : (execOp a.eval o).run P w with
  | halt x w' => rw [hr] at q3; exact q3.elim
  | ok x w' =>
    rw [hr] at q3
    cases x with
    | value u => obtain ⟨rfl, rfl⟩ := q3; exact h _ _ hw q2
    | skip => obtain ⟨rfl, rfl⟩ := q3; exact h _ _ hw q2
    | enter f args =>
      obtain ⟨rfl, hd, hc⟩ := q3
      refine ⟨hd, hc.mono fun e w2 he => ?_⟩
      obtain ⟨rfl, h2⟩ := he
      exact h _ _ h2 q2
    | _ => exact q3.elim
theorem round_any {l : List Oper} {Q : Act → Prop} {Q' : Exit → Act → World → Prop} (hnd : calmOps l = true) (hQ : ∀ a w, C w → Q a → Q' .normal a w) : ∀ (fuel : Nat) (listed : Array Bool) (a : Act) (w : World), C w →
    wpAnyQIn F n P md l.toArray C Q fuel listed a → wpAnyIn F n P md l.toArray Q' fuel listed a w := by
  intro fuel
  induction fuel with
  | zero => exact fun _ a w hw h => ⟨h.1, hQ a w hw h.2⟩
  | succ fuel ih =>
    intro listed a w hw h
    refine ⟨fun h0 => hQ a w hw (h.1 h0), fun i hi => ?_⟩
    have hq := h.2 i hi
    unfold qOpIn at hq
    unfold wpOpIn
    cases ho : l.toArray[i]? with
    | none => simp only [ho] at hq ⊢; exact ih _ _ _ hw hq
    | some o =>
      simp only [ho] at hq ⊢
      have hd : ∀ c, o.op ≠ .defer c := calmOps_at hnd (i := i) (by simpa using ho)
      by_cases hwn : Region.wanted o (yielded l.toArray a.tmps) = true
      · rw [if_pos hwn]
        have h2 := hq.2
        rw [if_pos hwn] at h2
        exact round_oper hd hw (fun a' w' hw' => ih _ a' w' hw') hq.1 h2
      · rw [if_neg hwn]
        have h2 := hq.2
        rw [if_neg hwn] at h2
        exact ⟨hq.1 w hw, ih _ _ _ hw h2⟩
theorem wpIn_round_quiet {id : Nat} {Q : Exit → Act → World → Prop} {a : Act} {w : World} {l : List Oper} (hnd : calmOps l = true) (hm : P.follows .mixedOrders = true) (hB : Region.lexB .any l.toArray = true)
    (h : wpQuietIn F n P l.toArray (fun w' => ∃ n, w' = w.drewN n) (fun a' => ∀ w', (∃ n, w' = w.drewN n) → Q .normal a' w') l a) : (Code.region id l.toArray true).wpIn F n P Q a w := by
  simp only [Region.lexB, Bool.and_eq_true] at hB
  refine wpIn_region_any hm (round_any (C := fun w' => ∃ n, w' = w.drewN n) (Q := fun a' => ∀ w', (∃ n, w' = w.drewN n) → Q .normal a' w') hnd (fun _ w' hw' h => h w' hw') _ _ _ _ ⟨1, rfl⟩ ?_)
  have hl := wpAnyQIn_lex (F := F) (n := n) (C := fun w' => ∃ n, w' = w.drewN n) (md := .any) hB.1 l 0 (Array.replicate l.toArray.size false) a (by simp) (by simpa using hB.2) h
  simpa using hl
end
end Go.Proofs.Ytnlojohjhfpbgaa

/-
  A region that draws its order, inside a round of a range over a function: with calls and with writes, walked as one that lies outside (no operation of it defers).
-/
namespace Go.Proofs.Ytnlojohjhfpbgaa
open Go
set_option linter.all false

section
variable {n l : Nat} {P : Program} {md : Region.Mode}
theorem rows_inRound {row : String} {args : Array Value} {w : World} {R : Value → World → Prop} (h : Rows P row args w R) : RowsIn (Fence.wide.inRound l) n P row args w R := by
  intro c cs _
  obtain ⟨v, w', hR, hs⟩ := h c cs
  exact ⟨v, w', hR, stepsIn_wide.2 hs⟩
theorem oper_inRound {o : Oper} {a : Act} {K : Act → World → Prop} {Q : Exit → Act → World → Prop} {w : World} (hnd : ∀ c, o.op ≠ .defer c) (h : Oper.wp P o a w K Q) : Oper.wpIn (Fence.wide.inRound l) n P o a w K Q := by
  refine ⟨fun _ _ => trivial, ?_⟩
  rw [Oper.semAt_eq _ _ _ hnd]
  unfold Oper.wp at h
  generalize (execOp a.eval o).run P w = r at h ⊢
  cases r with
  | halt x w' => cases x <;> first | exact h | exact (h : False).elim
  | ok x w' =>
    cases x with
    | enter f args => exact ⟨fun e => (by simp [Fence.wide] at e), CallsIn.inRound l (callsIn_wide.2 h)⟩
    | row r args => exact ⟨fun e => (by simp [Fence.wide] at e), rows_inRound h⟩
    | _ => first | exact h | exact (h : False).elim
theorem any_inRound {ops : Array Oper} {Q : Exit → Act → World → Prop} (hnd : calmOps ops.toList = true) (hno : ¬ LetsOut Q) : ∀ (fuel : Nat) (listed : Array Bool) (a : Act) (w : World),
    wpAny P md ops Q fuel listed a w → wpAnyIn (Fence.wide.inRound l) n P md ops Q fuel listed a w := by
  intro fuel
  induction fuel with
  | zero => exact fun _ _ _ h => h
  | succ fuel ih =>
    intro listed a w h
    refine ⟨h.1, fun i hi => ?_⟩
    have hq := h.2 i hi
    unfold wpOp at hq
    unfold wpOpIn
    cases ho : ops[i]? with
    | none => simp only [ho] at hq ⊢; exact ih _ _ _ hq
    | some o =>
      simp only [ho] at hq ⊢
      have hd : ∀ c, o.op ≠ .defer c := calmOps_at hnd (i := i) (by simpa using ho)
      by_cases hwn : Region.wanted o (yielded ops a.tmps) = true
      · rw [if_pos hwn] at hq ⊢
        exact oper_inRound hd (Oper.wp_mono (fun a' w' => ih _ a' w') (hq.resolve_right (fun h => hno h.2)))
      · rw [if_neg hwn] at hq ⊢
        exact ⟨fun _ _ => trivial, ih _ _ _ hq⟩
theorem wpIn_round_held {id : Nat} {ops : Array Oper} {Q : Exit → Act → World → Prop} {S : World → Prop} {a : Act} {w : World} (hnd : calmOps ops.toList = true) (hm : P.follows .mixedOrders = true) (hno : ¬ LetsOut (NoPanic Q)) (hS : S w.drew)
    (h : S w.drew → wpAnyH P .any ops (NoPanic Q) S ops.size (Array.replicate ops.size false) a w.drew) : (Code.region id ops true).wpIn (Fence.wide.inRound l) n P Q a w :=
  wpIn_mono (wpIn_region_any hm (any_inRound hnd hno _ _ _ _ (wpAny_of_held _ _ _ _ (h hS)))) NoPanic.imp
end
end Go.Proofs.Ytnlojohjhfpbgaa

