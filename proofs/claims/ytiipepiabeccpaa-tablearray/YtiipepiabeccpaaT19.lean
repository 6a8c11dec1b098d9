/-
  Tables: what is told in any case.
-/
import Derived.Test.YtiipepiabeccpaaT18
namespace Go.Proofs.Ytiipepiabeccpaa
open Go.RowKit Go.Deep
open Go.Maps (Keyed)
set_option linter.all false

section
variable {w0 w w' : World} {tb : Nat} {q : MN} {E : List Ent}
theorem Tab.klen (h : Tab w0 w No tb q E) : ∀ x ∈ E, x.1.length = q.key := by obtain ⟨_, h, _⟩ := h; exact h.klen
theorem Tab.kinds (h : Tab w0 w No tb q E) : q.kind = 1 ∨ q.kind = 2 ∨ q.kind = 3 := by have := h.ok.kind; omega
def SomeT (w0 : World) (tb : Nat) (q : MN) (w' : World) : Prop := ∃ E, Tab w0 w' No tb q E
theorem update_any (h : Tab w0 w No tb q E) {kv vv : Value} {k v : List UInt8} (hk : Rd w kv k) (hv : Rd w vv v) (fl : Int) :
    Calls Try.prog 39 #[.pointer (some ⟨tb, 0, none⟩), kv, vv, .int .i64 fl] w fun e w' => ∃ n : Int, e = .returned (.int .i64 n) ∧ (n = 1 ↔ BadU q k v fl) ∧ SomeT w0 tb q w' := by
  by_cases hb : BadU q k v fl
  · refine (update_bad h hk hv fl hb).mono ?_
    rintro e w' ⟨rfl, a, _⟩
    exact ⟨1, rfl, ⟨fun _ => hb, fun _ => rfl⟩, _, a⟩
  · have hn : ∀ n : Int, n ≠ 1 → (n = 1 ↔ BadU q k v fl) := fun n h => ⟨fun e => absurd e h, fun e => absurd e hb⟩
    cases hg : getL k E with
    | some x =>
      obtain ⟨g, bs⟩ := x
      by_cases hf : fl = 1
      · refine (update_refused h hk hv fl hb 4 (.inl ⟨by rw [hg]; rfl, hf, rfl⟩)).mono ?_
        rintro e w' ⟨rfl, a, _⟩
        exact ⟨4, rfl, hn 4 (by decide), _, a⟩
      · refine (update_over h hk hv fl hb hg hf).mono ?_
        rintro e w' ⟨rfl, a, _⟩
        exact ⟨0, rfl, hn 0 (by decide), _, a⟩
    | none =>
      by_cases hf : fl = 2
      · refine (update_refused h hk hv fl hb 3 (.inr ⟨hg, hf, rfl⟩)).mono ?_
        rintro e w' ⟨rfl, a, _⟩
        exact ⟨3, rfl, hn 3 (by decide), _, a⟩
      · rcases h.kinds with hc | hc | hc
        · refine (update_new h hk hv fl hb hg hf 3 (SomeT w0 tb q) (.inl ⟨.inl ⟨hc, rfl⟩, fun w' a => ⟨_, a.1⟩⟩)).mono ?_
          rintro e w' ⟨rfl, a⟩
          exact ⟨3, rfl, hn 3 (by decide), a⟩
        · by_cases hl : E.length < q.max
          · refine (update_new h hk hv fl hb hg hf 0 (SomeT w0 tb q) (.inr ⟨.inl ⟨hc, hl⟩, rfl, fun w' a => by obtain ⟨g, a⟩ := addT_no a; exact ⟨_, a⟩⟩)).mono ?_
            rintro e w' ⟨rfl, a⟩
            exact ⟨0, rfl, hn 0 (by decide), a⟩
          · refine (update_new h hk hv fl hb hg hf 5 (SomeT w0 tb q) (.inl ⟨.inr ⟨hc, by omega, rfl⟩, fun w' a => ⟨_, a.1⟩⟩)).mono ?_
            rintro e w' ⟨rfl, a⟩
            exact ⟨5, rfl, hn 5 (by decide), a⟩
        · refine (update_new h hk hv fl hb hg hf 0 (SomeT w0 tb q) (.inr ⟨.inr hc, rfl, fun w' a => by obtain ⟨g, a⟩ := addT_no a; exact ⟨_, a⟩⟩)).mono ?_
          rintro e w' ⟨rfl, a⟩
          exact ⟨0, rfl, hn 0 (by decide), a⟩
theorem lookup_any (h : Tab w0 w No tb q E) {kv : Value} {k : List UInt8} (hk : Rd w kv k) :
    Calls Try.prog 37 #[.pointer (some ⟨tb, 0, none⟩), kv] w fun e w' => ∃ (p : Value) (b : Bool), e = .returned (.tuple #[p, .bool b]) ∧ (k.length ≠ q.key → b = false) ∧ SomeT w0 tb q w' := by
  cases hg : getL k E with
  | some x =>
    obtain ⟨g, bs⟩ := x
    refine (lookup_yes h hk hg).mono ?_
    rintro e w' ⟨x, rfl, _, _, a, _⟩
    exact ⟨_, true, rfl, fun e => absurd (h.klen _ (getL_some hg)) e, _, tab_no a⟩
  | none =>
    refine (lookup_no h hk hg).mono ?_
    rintro e w' ⟨rfl, a, _⟩
    exact ⟨_, false, rfl, fun _ => rfl, _, a⟩
theorem delete_any (h : Tab w0 w No tb q E) {kv : Value} {k : List UInt8} (hk : Rd w kv k) :
    Calls Try.prog 41 #[.pointer (some ⟨tb, 0, none⟩), kv] w fun e w' => ∃ n : Int, e = .returned (.int .i64 n) ∧ (n = 1 ↔ k.length ≠ q.key) ∧ SomeT w0 tb q w' := by
  by_cases hb : k.length = q.key
  · have hn : ∀ n : Int, n ≠ 1 → (n = 1 ↔ k.length ≠ q.key) := fun n h => ⟨fun e => absurd e h, fun e => absurd hb e⟩
    by_cases h1 : q.kind = 1
    · refine (delete_c h hk hb 6 (SomeT w0 tb q) (.inl ⟨.inl ⟨h1, rfl⟩, fun w' a => ⟨_, a.1⟩⟩)).mono ?_
      rintro e w' ⟨rfl, a⟩
      exact ⟨6, rfl, hn 6 (by decide), a⟩
    · cases hg : getL k E with
      | some x =>
        refine (delete_c h hk hb 0 (SomeT w0 tb q) (.inr ⟨h1, by rw [hg]; rfl, rfl, fun w' a => ⟨_, tab_no a.1⟩⟩)).mono ?_
        rintro e w' ⟨rfl, a⟩
        exact ⟨0, rfl, hn 0 (by decide), a⟩
      | none =>
        refine (delete_c h hk hb 3 (SomeT w0 tb q) (.inl ⟨.inr ⟨h1, hg, rfl⟩, fun w' a => ⟨_, a.1⟩⟩)).mono ?_
        rintro e w' ⟨rfl, a⟩
        exact ⟨3, rfl, hn 3 (by decide), a⟩
  · refine (delete_bad h hk hb).mono ?_
    rintro e w' ⟨rfl, a, _⟩
    exact ⟨1, rfl, ⟨fun _ => hb, fun _ => rfl⟩, _, a⟩
end
end Go.Proofs.Ytiipepiabeccpaa
