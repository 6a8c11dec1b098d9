/-
  Tables: which keys there are.
-/
import Derived.Test.YtiipepiabeccpaaT21
namespace Go.Proofs.Ytiipepiabeccpaa
open Go.RowKit Go.Deep
set_option linter.all false

theorem keys_add {kind mx : Nat} {k bs : List UInt8} {g : Nat} {E : List Ent} (hk : k ∉ keysL E) (h : kind ≠ 3 ∨ E.length < mx) : keysL (addE kind mx k g bs E) = keysL E ++ [k] := by
  unfold addE
  split
  · rename_i h3
    have hl : E.length < mx := h.elim (fun e => absurd h3 e) id
    unfold putL
    rw [if_neg hk, if_pos hl]
    simp [keysL]
  · simp [keysL]
theorem keys_full {mx : Nat} {k bs : List UInt8} {g : Nat} {E : List Ent} (hk : k ∉ keysL E) (h : mx ≤ E.length) : keysL (addE 3 mx k g bs E) = (keysL E).tail ++ [k] := by
  unfold addE putL
  rw [if_pos rfl, if_neg hk, if_neg (by omega)]
  simp [keysL]
theorem get_key {k : List UInt8} {E : List Ent} (h : k ∈ keysL E) : ∃ g bs, getL k E = some (g, bs) := by
  cases hg : getL k E with
  | none => exact absurd h (getL_none hg)
  | some x => exact ⟨x.1, x.2, rfl⟩
theorem get_no {k : List UInt8} {E : List Ent} (h : k ∉ keysL E) : getL k E = none := getL_miss h
theorem mem_use {kind : Nat} {k k' : List UInt8} {E : List Ent} (hn : (keysL E).Nodup) : k' ∈ keysL (useN kind k E) ↔ k' ∈ keysL E := by
  have : (keysL (useN kind k E)).Perm (keysL E) := by unfold keysL; exact (perm_useN hn).map _
  exact this.mem_iff
theorem len_use {kind : Nat} {k : List UInt8} {E : List Ent} (hn : (keysL E).Nodup) : (useN kind k E).length = E.length := (perm_useN hn).length_eq
theorem len_set (k bs : List UInt8) (E : List Ent) : (setT k bs E).length = E.length := by simp [setT]
theorem len_keys (E : List Ent) : (keysL E).length = E.length := by simp [keysL]
theorem num_mem {n i : Nat} (hn : n ≤ 65536) (hi : i < 65536) : numK i ∈ (List.range n).map numK ↔ i < n := by
  constructor
  · intro h
    obtain ⟨j, hj, e⟩ := List.mem_map.1 h
    rw [List.mem_range] at hj
    rw [← numK_inj (by omega) hi e]
    exact hj
  · intro h
    exact List.mem_map.2 ⟨i, List.mem_range.2 h, rfl⟩
/-- A byte as a row. -/
theorem one_byte (w : World) (b : UInt8) (v : Value) (hv : v = bv b) : Rd (w.alloc (.cells #[v] 5)) (.slice (some ⟨w.heap.size, 0, none⟩) 1 1) [b] ∧ Calm w (w.alloc (.cells #[v] 5)) := by
  subst hv
  exact ⟨Rd.made w [b] 1 #[bv b] rfl rfl (by omega), (Keep.refl _ w).alloc _⟩
def Keys (w0 : World) (tb : Nat) (q : MN) (ks : List (List UInt8)) (w : World) : Prop := ∃ E, Tab w0 w No tb q E ∧ keysL E = ks
section
variable {w0 w : World} {tb : Nat} {q : MN} {ks : List (List UInt8)}
theorem Keys.len (h : Keys w0 tb q ks w) : ks.length ≤ q.max := by obtain ⟨E, h, rfl⟩ := h; rw [len_keys]; exact h.few
theorem keys_put (h : Keys w0 tb q ks w) {kv vv : Value} {k v : List UInt8} (hk : Rd w kv k) (hv : Rd w vv v) (fl : Int) (hkl : k.length = q.key) (hvl : v.length = q.val) (hf : 0 ≤ fl ∧ fl ≤ 1) (hkn : k ∉ ks) (hc : (q.kind = 2 ∧ ks.length < q.max) ∨ q.kind = 3) :
    Calls Try.prog 39 #[.pointer (some ⟨tb, 0, none⟩), kv, vv, .int .i64 fl] w fun e w' => e = .returned (.int .i64 0) ∧ Keys w0 tb q (if ks.length < q.max then ks ++ [k] else ks.tail ++ [k]) w' := by
  obtain ⟨E, h, rfl⟩ := h
  have hb : ¬ BadU q k v fl := by
    simp only [BadU, not_or, Decidable.not_not]
    exact ⟨hkl, hvl, by omega⟩
  refine (update_new h hk hv fl hb (get_no hkn) (by omega) 0 (Keys w0 tb q (if (keysL E).length < q.max then keysL E ++ [k] else (keysL E).tail ++ [k])) (.inr ⟨by rw [len_keys] at hc; exact hc, rfl, fun w' a => ?_⟩)).mono (fun e w' a => a)
  obtain ⟨g, a⟩ := addT_no a
  refine ⟨_, a, ?_⟩
  rw [len_keys]
  split
  · exact keys_add hkn (.inr (by assumption))
  · rename_i hl
    have h3 : q.kind = 3 := by
      rcases hc with h | h
      · rw [len_keys] at h; omega
      · exact h
    rw [h3]
    exact keys_full hkn (by omega)
theorem keys_refused (h : Keys w0 tb q ks w) {kv vv : Value} {k v : List UInt8} (hk : Rd w kv k) (hv : Rd w vv v) (fl : Int) (hkl : k.length = q.key) (hvl : v.length = q.val) (hf : 0 ≤ fl ∧ fl ≤ 1) (hkn : k ∉ ks) (h2 : q.kind = 2) (hc : q.max ≤ ks.length) :
    Calls Try.prog 39 #[.pointer (some ⟨tb, 0, none⟩), kv, vv, .int .i64 fl] w fun e w' => e = .returned (.int .i64 5) ∧ Keys w0 tb q ks w' := by
  obtain ⟨E, h, rfl⟩ := h
  have hb : ¬ BadU q k v fl := by
    simp only [BadU, not_or, Decidable.not_not]
    exact ⟨hkl, hvl, by omega⟩
  exact (update_new h hk hv fl hb (get_no hkn) (by omega) 5 (Keys w0 tb q (keysL E)) (.inl ⟨.inr ⟨h2, by rw [len_keys] at hc; exact hc, rfl⟩, fun w' a => ⟨_, a.1, rfl⟩⟩)).mono (fun e w' a => a)
/-- .. as a set, and how many. -/
def KeySet (w0 : World) (tb : Nat) (q : MN) (n : Nat) (P : List UInt8 → Prop) (w : World) : Prop := ∃ E, Tab w0 w No tb q E ∧ E.length = n ∧ ∀ k, k ∈ keysL E ↔ P k
theorem Keys.set (h : Keys w0 tb q ks w) : KeySet w0 tb q ks.length (fun k => k ∈ ks) w := by
  obtain ⟨E, h, rfl⟩ := h
  exact ⟨E, h, (len_keys E).symm, fun k => Iff.rfl⟩
variable {n : Nat} {P : List UInt8 → Prop}
theorem KeySet.calm_ (h : KeySet w0 tb q n P w) : Calm w0 w := by obtain ⟨_, h, _⟩ := h; exact h.calm_
theorem Keys.calm_ (h : Keys w0 tb q ks w) : Calm w0 w := by obtain ⟨_, h, _⟩ := h; exact h.calm_
theorem KeySet.rest {w' : World} (h : KeySet w0 tb q n P w) (k : Calm w w') : KeySet w0 tb q n P w' := by obtain ⟨E, h, a⟩ := h; exact ⟨E, h.rest k, a⟩
theorem Keys.rest {w' : World} (h : Keys w0 tb q ks w) (k : Calm w w') : Keys w0 tb q ks w' := by obtain ⟨E, h, a⟩ := h; exact ⟨E, h.rest k, a⟩
theorem set_over (h : KeySet w0 tb q n P w) {kv vv : Value} {k v : List UInt8} (hk : Rd w kv k) (hv : Rd w vv v) (fl : Int) (hkl : k.length = q.key) (hvl : v.length = q.val) (hf : fl = 0 ∨ fl = 2) (hkn : P k) :
    Calls Try.prog 39 #[.pointer (some ⟨tb, 0, none⟩), kv, vv, .int .i64 fl] w fun e w' => e = .returned (.int .i64 0) ∧ KeySet w0 tb q n P w' := by
  obtain ⟨E, h, rfl, hP⟩ := h
  have hb : ¬ BadU q k v fl := by
    simp only [BadU, not_or, Decidable.not_not]
    exact ⟨hkl, hvl, by omega⟩
  obtain ⟨g, bs, hg⟩ := get_key ((hP k).2 hkn)
  refine (update_over h hk hv fl hb hg (by omega)).mono ?_
  rintro e w' ⟨rfl, a, _⟩
  refine ⟨rfl, _, a, ?_, fun k' => ?_⟩
  · rw [len_use (by rw [keys_set]; exact h.keys), len_set]
  · rw [mem_use (by rw [keys_set]; exact h.keys), keys_set]
    exact hP k'
theorem set_look (h : KeySet w0 tb q n P w) {kv : Value} {k : List UInt8} (hk : Rd w kv k) (hp : P k) :
    Calls Try.prog 37 #[.pointer (some ⟨tb, 0, none⟩), kv] w fun e w' => ∃ v : Value, e = .returned (.tuple #[v, .bool true]) ∧ KeySet w0 tb q n P w' := by
  obtain ⟨E, h, rfl, hP⟩ := h
  obtain ⟨g, bs, hg⟩ := get_key ((hP k).2 hp)
  refine (lookup_yes h hk hg).mono ?_
  rintro e w' ⟨x, rfl, _, _, a, _⟩
  exact ⟨_, rfl, _, tab_no a, len_use h.keys, fun k' => (mem_use h.keys).trans (hP k')⟩
theorem set_miss (h : KeySet w0 tb q n P w) {kv : Value} {k : List UInt8} (hk : Rd w kv k) (hp : ¬ P k) :
    Calls Try.prog 37 #[.pointer (some ⟨tb, 0, none⟩), kv] w fun e w' => ∃ v : Value, e = .returned (.tuple #[v, .bool false]) ∧ KeySet w0 tb q n P w' := by
  obtain ⟨E, h, rfl, hP⟩ := h
  refine (lookup_no h hk (get_no (fun hc => hp ((hP k).1 hc)))).mono ?_
  rintro e w' ⟨rfl, a, _⟩
  exact ⟨_, rfl, E, a, rfl, hP⟩
theorem set_len (h : KeySet w0 tb q n P w) : Calls Try.prog 45 #[.pointer (some ⟨tb, 0, none⟩)] w fun e w' => e = .returned (.int .i64 (n : Int)) ∧ KeySet w0 tb q n P w' := by
  obtain ⟨E, h, rfl, hP⟩ := h
  refine (len_c h).mono ?_
  rintro e w' ⟨rfl, a, _⟩
  exact ⟨rfl, E, a, rfl, hP⟩
theorem KeySet.iff {P' : List UInt8 → Prop} (h : KeySet w0 tb q n P w) (hh : ∀ k, P k ↔ P' k) : KeySet w0 tb q n P' w := by
  obtain ⟨E, h, a, b⟩ := h
  exact ⟨E, h, a, fun k => (b k).trans (hh k)⟩
end
end Go.Proofs.Ytiipepiabeccpaa
