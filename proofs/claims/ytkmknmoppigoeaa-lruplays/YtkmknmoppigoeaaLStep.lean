/-
  A slice of steps that is read.
-/
import Derived.Test.YtkmknmoppigoeaaLStr
namespace Go.Proofs.Ytkmknmoppigoeaa
open Go.RowKit
set_option linter.all false
/-- A slice of steps that reads as a list. -/
def Stepv (w : World) (v : Value) (ss : List (Int × List UInt8 × Int)) : Prop :=
  ∃ (A : Option Addr) (cap : Nat), v = .slice A ss.length cap ∧ ss.length ≤ maxLen ∧ ∀ (i : Nat) s, ss[i]? = some s → s.2.1.length ≤ maxLen ∧ ∃ ad, A = some ad ∧ ad.block < w.heap.size ∧ w.cell? ((ad.add (i * 3)).add 0) = some (.int .i64 s.1) ∧ w.cell? ((ad.add (i * 3)).add 1) = some (.string (str s.2.1)) ∧ w.cell? ((ad.add (i * 3)).add 2) = some (.int .i64 s.2.2)
theorem Stepv.form {w : World} {v : Value} {ss : List (Int × List UInt8 × Int)} (h : Stepv w v ss) : ∃ A cap, v = .slice A ss.length cap ∧ ss.length ≤ maxLen := by obtain ⟨A, cap, e, hl, _⟩ := h; exact ⟨A, cap, e, hl⟩
theorem Stepv.all {w : World} {A : Option Addr} {cap : Nat} {n : Nat} {ss : List (Int × List UInt8 × Int)} (h : Stepv w (.slice A n cap) ss) (i : Nat) (hi : i < ss.length) : ∃ (ad : Addr) (s : Int × List UInt8 × Int), A = some ad ∧ s.2.1.length ≤ maxLen ∧ ∀ w', Calm w w' → w'.cell? ((ad.add (i * 3)).add 0) = some (.int .i64 s.1) ∧ w'.cell? ((ad.add (i * 3)).add 1) = some (.string (str s.2.1)) ∧ w'.cell? ((ad.add (i * 3)).add 2) = some (.int .i64 s.2.2) := by
  obtain ⟨A', cap', e, hl, h1⟩ := h
  injection e with e1 _ e2
  subst e1; subst e2
  obtain ⟨h2, ad, e1, h3, h4, h5, h6⟩ := h1 i ss[i] (List.getElem?_eq_getElem hi)
  have hb : ∀ j, ((ad.add (i * 3)).add j).block < w.heap.size := fun j => by rw [Addr.add_block, Addr.add_block]; exact h3
  exact ⟨ad, ss[i], e1, h2, fun w' hc => ⟨(hc.cell (hb 0) (fun e => e)).trans h4, (hc.cell (hb 1) (fun e => e)).trans h5, (hc.cell (hb 2) (fun e => e)).trans h6⟩⟩
end Go.Proofs.Ytkmknmoppigoeaa
