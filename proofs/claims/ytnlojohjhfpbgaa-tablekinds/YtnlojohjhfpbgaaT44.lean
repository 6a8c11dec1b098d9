/-
  Tables: two tables: what is looked up, and counted.
-/
import Derived.Test.YtnlojohjhfpbgaaT43
namespace Go.Proofs.Ytnlojohjhfpbgaa
open Go.RowKit Go.Deep
set_option linter.all false

section
variable {w0 w w' : World} {S : Nat → Prop} {t1 t2 tb : Nat} {q q1 q2 : MN} {E E1 E2 : List Ent}
/-- A call on the first one that leaves all that is new alone. -/
theorem Duo.on1x (h : Duo w0 w S t1 q1 E1 t2 q2 E2) {F : Nat} {args : Array Value} {Z : Ending → List Ent → World → Prop}
    (hc : ∀ S' : Nat → Prop, (∀ i, S i → S' i) → Tab w0 w S' t1 q1 E1 → Calls Try.prog F args w fun e w' => ∃ E', Z e E' w' ∧ Tab w0 w' (fun i => S' i ∨ Btw w.heap.size w'.heap.size i) t1 q1 E' ∧ Held S' w w') :
    Calls Try.prog F args w fun e w' => ∃ E', Z e E' w' ∧ Duo w0 w' (fun i => S i ∨ Btw w.heap.size w'.heap.size i) t1 q1 E' t2 q2 E2 ∧ Held S w w' := by
  obtain ⟨R1, R2, a, b, c, d, e, f⟩ := h
  refine (hc (fun i => S i ∨ Reg R2 E2 i) (fun i hi => .inl hi) ⟨R1, a, fun i hi => ⟨(d i (.inl hi)).1, fun hs => hs.elim (d i (.inl hi)).2 (c i hi)⟩, fun i hi => hi.elim (e i) (b.reg_lt i), f⟩).mono ?_
  rintro x w' ⟨E', hz, ht, hh⟩
  obtain ⟨R, g1, g2, g3, g4⟩ := ht
  refine ⟨E', hz, ⟨R, R2, g1, b.kept f g4 hh (fun i hi => .inr hi), fun i h1 h2 => (g2 i h1).2 (.inl (.inr h2)), fun i hi => hi.elim (fun h1 => ⟨(g2 i h1).1, fun hs => (g2 i h1).2 (hs.imp .inl id)⟩) (fun h2 => ⟨(d i (.inr h2)).1, fun hs => hs.elim (d i (.inr h2)).2 (fun hb => ?_)⟩), fun i hi => g3 i (hi.imp .inl id), g4⟩, hh.less (fun i hi => .inl hi)⟩
  have := b.reg_lt i h2
  have := hb.1
  omega
theorem Duo.on2x (h : Duo w0 w S t1 q1 E1 t2 q2 E2) {F : Nat} {args : Array Value} {Z : Ending → List Ent → World → Prop}
    (hc : ∀ S' : Nat → Prop, (∀ i, S i → S' i) → Tab w0 w S' t2 q2 E2 → Calls Try.prog F args w fun e w' => ∃ E', Z e E' w' ∧ Tab w0 w' (fun i => S' i ∨ Btw w.heap.size w'.heap.size i) t2 q2 E' ∧ Held S' w w') :
    Calls Try.prog F args w fun e w' => ∃ E', Z e E' w' ∧ Duo w0 w' (fun i => S i ∨ Btw w.heap.size w'.heap.size i) t1 q1 E1 t2 q2 E' ∧ Held S w w' := by
  refine (h.swap.on1x hc).mono ?_
  rintro x w' ⟨E', hz, hd, hh⟩
  exact ⟨E', hz, hd.swap, hh⟩
/-- What Lookup hands back. -/
def LkP (w w' : World) (q : MN) (k : List UInt8) (E E' : List Ent) (p : Value) : Prop :=
  (vaL k E = none ∧ p = .pointer none) ∨ ∃ x g bs, vaL k E = some bs ∧ p = .pointer (some ⟨x, 0, none⟩) ∧ Btw w.heap.size w'.heap.size x ∧ Row w' x 72 #[.string (str k), .slice (some ⟨g, 0, none⟩) q.val q.val] ∧ getL k E' = some (g, bs)
theorem kL (h : Tab w0 w S tb q E) {kv : Value} {k : List UInt8} (hk : Rd w kv k) :
    Calls Try.prog 31 #[.pointer (some ⟨tb, 0, none⟩), kv] w fun e w' => ∃ E', (∃ p, e = .returned (.tuple #[p, .bool (vaL k E).isSome]) ∧ LkP w w' q k E E' p ∧ (∀ k', getL k' E' = getL k' E) ∧ E'.length = E.length) ∧ Tab w0 w' (fun i => S i ∨ Btw w.heap.size w'.heap.size i) tb q E' ∧ Held S w w' := by
  cases hv' : vaL k E with
  | none =>
    have hg := vaL_none hv'
    refine (lookup_noC h hk hg).mono ?_
    rintro e w' ⟨rfl, c⟩
    exact ⟨E, ⟨_, rfl, .inl ⟨hv', rfl⟩, fun _ => rfl, rfl⟩, h.room c, Held.calm h.slt c⟩
  | some bs =>
    obtain ⟨g, hg⟩ := vaL_some hv'
    refine (lookup_yes h hk hg).mono ?_
    rintro e w' ⟨x, rfl, hx, r, t, hh, hx2⟩
    exact ⟨_, ⟨_, rfl, .inr ⟨x, g, bs, hv', rfl, ⟨hx, hx2⟩, r, (get_use h.keys).trans hg⟩, fun k' => get_use h.keys, len_use h.keys⟩, t, hh⟩
theorem kN (h : Tab w0 w S tb q E) : Calls Try.prog 38 #[.pointer (some ⟨tb, 0, none⟩)] w fun e w' => ∃ E', (e = .returned (.int .i64 (E.length : Int)) ∧ E' = E) ∧ Tab w0 w' S tb q E' ∧ Held S w w' := by
  refine (len_c h).mono ?_
  rintro e w' ⟨rfl, a, b⟩
  exact ⟨E, ⟨rfl, rfl⟩, a, b⟩
end
end Go.Proofs.Ytnlojohjhfpbgaa
