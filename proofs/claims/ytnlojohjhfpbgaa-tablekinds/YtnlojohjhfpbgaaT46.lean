/-
  Tables: one that stays where it lies.
-/
import Derived.Test.YtnlojohjhfpbgaaT44
import Derived.Test.YtnlojohjhfpbgaaT29
namespace Go.Proofs.Ytnlojohjhfpbgaa
open Go.RowKit Go.Deep
set_option linter.all false

/-- A table that lies in Z. -/
def ZTab (w0 w : World) (Z : Nat → Prop) (tb : Nat) (q : MN) (E : List Ent) : Prop := ∃ R, TabAt w R tb q E ∧ (∀ i, Reg R E i → w0.heap.size ≤ i ∧ Z i) ∧ Calm w0 w
section
variable {w0 w w' : World} {Z S : Nat → Prop} {t1 t2 tb : Nat} {q q1 q2 : MN} {E E1 E2 : List Ent}
theorem ZTab.calm_ (h : ZTab w0 w Z tb q E) : Calm w0 w := by obtain ⟨_, _, _, h⟩ := h; exact h
theorem ZTab.tab (h : ZTab w0 w Z tb q E) : Tab w0 w (fun i => i < w.heap.size ∧ ¬ Z i) tb q E := by
  obtain ⟨R, a, b, c⟩ := h
  exact ⟨R, a, fun i hi => ⟨(b i hi).1, fun hs => hs.2 (b i hi).2⟩, fun i hi => hi.1, c⟩
theorem ZTab.keep {P : Nat → Prop} (h : ZTab w0 w Z tb q E) (k : Keep P w w') (hP : ∀ i, Z i → ¬ P i) (hw : ∀ i, i < w0.heap.size → ¬ P i) : ZTab w0 w' Z tb q E := by
  obtain ⟨R, a, b, c⟩ := h
  exact ⟨R, a.keep k (fun i hi => hP i (b i (.inl hi)).2) (fun x hx => hP _ (b _ (.inr (List.mem_map.2 ⟨x, hx, rfl⟩))).2), b, c.then_ k (fun i hi => hw i hi)⟩
theorem ZTab.rest (h : ZTab w0 w Z tb q E) (k : Calm w w') : ZTab w0 w' Z tb q E := h.keep k (fun _ _ e => e) (fun _ _ e => e)
theorem z_look (h : ZTab w0 w Z tb q E) {kv : Value} {k : List UInt8} (hk : Rd w kv k) :
    Calls Try.prog 31 #[.pointer (some ⟨tb, 0, none⟩), kv] w fun e w' => ∃ E', (∃ p, e = .returned (.tuple #[p, .bool (vaL k E).isSome]) ∧ LkP w w' q k E E' p ∧ (∀ k', getL k' E' = getL k' E) ∧ E'.length = E.length) ∧ ZTab w0 w' Z tb q E' ∧ Held (fun i => i < w.heap.size ∧ ¬ Z i) w w' := by
  refine (kL h.tab hk).mono ?_
  rintro e w' ⟨E', a, ⟨R, b1, b2, b3, b4⟩, c⟩
  refine ⟨E', a, ⟨R, b1, fun i hi => ⟨(b2 i hi).1, ?_⟩, b4⟩, c⟩
  have h1 := (b2 i hi).2
  have h2 := b1.reg_lt i hi
  refine Classical.byContradiction (fun hz => h1 ?_)
  by_cases hl : i < w.heap.size
  · exact .inl ⟨hl, hz⟩
  · exact .inr ⟨by omega, h2⟩
/-- Of two tables the second one. -/
theorem Duo.zet (h : Duo w0 w S t1 q1 E1 t2 q2 E2) : ∃ Z : Nat → Prop, ZTab w0 w Z t2 q2 E2 ∧ (∀ i, Z i → i < w.heap.size ∧ ¬ S i ∧ w0.heap.size ≤ i) ∧ ∀ x ∈ E1, ¬ Z x.2.1 := by
  obtain ⟨R1, R2, a, b, c, d, e, f⟩ := h
  exact ⟨Reg R2 E2, ⟨R2, b, fun i hi => ⟨(d i (.inr hi)).1, hi⟩, f⟩, fun i hi => ⟨b.reg_lt i hi, (d i (.inr hi)).2, (d i (.inr hi)).1⟩, fun x hx => c _ (.inr (List.mem_map.2 ⟨x, hx, rfl⟩))⟩
/-- Between two rounds: the second table in its place, the rest as it was. -/
def ZJ (w0 w5 : World) (Z : Nat → Prop) (tb : Nat) (q : MN) (E : List Ent) (w : World) : Prop :=
  w5.heap.size ≤ w.heap.size ∧ (∀ i, i < w5.heap.size → ¬ Z i → w.heap[i]? = w5.heap[i]?) ∧ ∃ F, ZTab w0 w Z tb q F ∧ ∀ k, vaL k F = vaL k E
theorem ZJ.own {α : Type} {w5 : World} (hz : ∀ i, Z i → i < w5.heap.size) (h0 : w0.heap.size ≤ w5.heap.size) : OwnFrom w5.heap.size (fun (_ : α) => ZJ w0 w5 Z tb q E) := by
  rintro s A B row ⟨h1, h2, F, h3, h4⟩ hg hr
  have k : Keep (fun i => row = some i) A B := ⟨hg.os, hg.tape, hg.output, hg.size, fun i hi hn => hg.block i hi (fun e => hn e.symm)⟩
  refine ⟨Nat.le_trans h1 hg.size, fun i hi hn => (k.block i (Nat.lt_of_lt_of_le hi h1) (fun e => by have := (hr i e).1; omega)).trans (h2 i hi hn), F, h3.keep k (fun i hi e => by have := hz i hi; have := (hr i e).1; omega) (fun i hi e => by have := (hr i e).1; omega), h4⟩
theorem zj_look {w5 : World} (h : ZJ w0 w5 Z tb q E w) (hz : ∀ i, Z i → i < w5.heap.size) {kv : Value} {k : List UInt8} (hk : Rd w kv k) :
    Calls Try.prog 31 #[.pointer (some ⟨tb, 0, none⟩), kv] w fun e w' => (∃ p, e = .returned (.tuple #[p, .bool (vaL k E).isSome]) ∧ ((vaL k E = none ∧ p = .pointer none) ∨ ∃ x g bs, vaL k E = some bs ∧ bs.length = q.val ∧ p = .pointer (some ⟨x, 0, none⟩) ∧ Row w' x 72 #[.string (str k), .slice (some ⟨g, 0, none⟩) q.val q.val] ∧ Row w' g 5 (bs.map bv).toArray)) ∧ ZJ w0 w5 Z tb q E w' ∧ Held (fun i => i < w.heap.size ∧ ¬ Z i) w w' := by
  obtain ⟨h1, h2, F, h3, h4⟩ := h
  refine (z_look h3 hk).mono ?_
  rintro e w' ⟨E', ⟨p, rfl, hp, hg, hl⟩, hZ, hh⟩
  refine ⟨⟨p, by rw [h4], ?_⟩, ⟨Nat.le_trans h1 hh.size, fun i hi hn => (hh i ⟨Nat.lt_of_lt_of_le hi h1, hn⟩).trans (h2 i hi hn), E', hZ, fun k => ?_⟩, hh⟩
  · rcases hp with ⟨a, b⟩ | ⟨x, g, bs, a, b, c, d, e⟩
    · exact .inl ⟨(h4 k).symm.trans a, b⟩
    · obtain ⟨r1, r2⟩ := hZ.tab.has e
      exact .inr ⟨x, g, bs, (h4 k).symm.trans a, r2, b, d, r1⟩
  · have := h4 k
    unfold vaL at this ⊢
    rw [hg]
    exact this
end
end Go.Proofs.Ytnlojohjhfpbgaa
