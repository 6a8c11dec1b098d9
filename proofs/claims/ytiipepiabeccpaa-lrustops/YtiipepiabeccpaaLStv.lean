/-
  A slice of strings that is read.
-/
import Derived.Test.YtiipepiabeccpaaLStr
namespace Go.Proofs.Ytiipepiabeccpaa
open Go.RowKit
set_option linter.all false
/-- A slice of strings that reads as a list. -/
def Strv (w : World) (v : Value) (ss : List (List UInt8)) : Prop :=
  ∃ (A : Option Addr) (cap : Nat), v = .slice A ss.length cap ∧ ss.length ≤ maxLen ∧ ∀ (i : Nat) s, ss[i]? = some s → s.length ≤ maxLen ∧ ∃ ad, A = some ad ∧ ad.block < w.heap.size ∧ w.cell? (ad.add i) = some (.string (str s))
theorem Strv.form {w : World} {v : Value} {ss : List (List UInt8)} (h : Strv w v ss) : ∃ A cap, v = .slice A ss.length cap ∧ ss.length ≤ maxLen := by obtain ⟨A, cap, e, hl, _⟩ := h; exact ⟨A, cap, e, hl⟩
theorem Strv.all {w : World} {A : Option Addr} {cap : Nat} {n : Nat} {ss : List (List UInt8)} (h : Strv w (.slice A n cap) ss) (i : Nat) (hi : i < ss.length) : ∃ ad s, A = some ad ∧ ss[i]? = some s ∧ s.length ≤ maxLen ∧ ∀ w', Calm w w' → w'.cell? (ad.add i) = some (.string (str s)) := by
  obtain ⟨A', cap', e, hl, h1⟩ := h
  injection e with e1 _ e2
  subst e1; subst e2
  obtain ⟨h2, ad, e1, h3, h4⟩ := h1 i ss[i] (List.getElem?_eq_getElem hi)
  exact ⟨ad, ss[i], e1, List.getElem?_eq_getElem hi, h2, fun w' hc => (hc.cell (p := ad.add i) (by rw [Addr.add_block]; exact h3) (fun e => e)).trans h4⟩
end Go.Proofs.Ytiipepiabeccpaa
