/-
  A slice of structs that is read.
-/
import Derived.Test.YtnlojohjhfpbgaaLStr
namespace Go.Proofs.Ytnlojohjhfpbgaa
open Go.RowKit
set_option linter.all false
structure S10 where
  k : Int
  ky : List UInt8
  v : List UInt8
  fl : Int
  wr : Bool
  raw : Bool
  kp : Bool
/-- A slice of these that reads as a list. -/
def St10 (w : World) (v : Value) (ss : List S10) : Prop :=
  ∃ (A : Option Addr) (cap : Nat), v = .slice A ss.length cap ∧ ss.length ≤ maxLen ∧ ∀ (i : Nat) s, ss[i]? = some s → (s.ky.length ≤ maxLen ∧ s.v.length ≤ maxLen) ∧ ∃ ad, A = some ad ∧ ad.block < w.heap.size ∧ w.cell? ((ad.add (i * 7)).add 0) = some (.int .i64 s.k) ∧ w.cell? ((ad.add (i * 7)).add 1) = some (.string (str s.ky)) ∧ w.cell? ((ad.add (i * 7)).add 2) = some (.string (str s.v)) ∧ w.cell? ((ad.add (i * 7)).add 3) = some (.int .i64 s.fl) ∧ w.cell? ((ad.add (i * 7)).add 4) = some (.bool s.wr) ∧ w.cell? ((ad.add (i * 7)).add 5) = some (.bool s.raw) ∧ w.cell? ((ad.add (i * 7)).add 6) = some (.bool s.kp)
theorem St10.form {w : World} {v : Value} {ss : List S10} (h : St10 w v ss) : ∃ A cap, v = .slice A ss.length cap ∧ ss.length ≤ maxLen := by obtain ⟨A, cap, e, hl, _⟩ := h; exact ⟨A, cap, e, hl⟩
theorem St10.all {w : World} {A : Option Addr} {cap : Nat} {n : Nat} {ss : List S10} (h : St10 w (.slice A n cap) ss) (i : Nat) (hi : i < ss.length) : ∃ (ad : Addr) (s : S10), A = some ad ∧ ss[i]? = some s ∧ (s.ky.length ≤ maxLen ∧ s.v.length ≤ maxLen) ∧ ∀ w', Calm w w' → w'.cell? ((ad.add (i * 7)).add 0) = some (.int .i64 s.k) ∧ w'.cell? ((ad.add (i * 7)).add 1) = some (.string (str s.ky)) ∧ w'.cell? ((ad.add (i * 7)).add 2) = some (.string (str s.v)) ∧ w'.cell? ((ad.add (i * 7)).add 3) = some (.int .i64 s.fl) ∧ w'.cell? ((ad.add (i * 7)).add 4) = some (.bool s.wr) ∧ w'.cell? ((ad.add (i * 7)).add 5) = some (.bool s.raw) ∧ w'.cell? ((ad.add (i * 7)).add 6) = some (.bool s.kp) := by
  obtain ⟨A', cap', e, hl, h1⟩ := h
  injection e with e1 _ e2
  subst e1; subst e2
  obtain ⟨h2, ad, e1, h3, c0, c1, c2, c3, c4, c5, c6⟩ := h1 i ss[i] (List.getElem?_eq_getElem hi)
  have hb : ∀ j, ((ad.add (i * 7)).add j).block < w.heap.size := fun j => by rw [Addr.add_block, Addr.add_block]; exact h3
  exact ⟨ad, ss[i], e1, List.getElem?_eq_getElem hi, h2, fun w' hc => ⟨(hc.cell (hb 0) (fun e => e)).trans c0, (hc.cell (hb 1) (fun e => e)).trans c1, (hc.cell (hb 2) (fun e => e)).trans c2, (hc.cell (hb 3) (fun e => e)).trans c3, (hc.cell (hb 4) (fun e => e)).trans c4, (hc.cell (hb 5) (fun e => e)).trans c5, (hc.cell (hb 6) (fun e => e)).trans c6⟩⟩
end Go.Proofs.Ytnlojohjhfpbgaa
