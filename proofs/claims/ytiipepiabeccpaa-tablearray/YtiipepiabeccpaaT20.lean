/-
  Tables: what an entry holds behind a call.
-/
import Derived.Test.YtiipepiabeccpaaT19
namespace Go.Proofs.Ytiipepiabeccpaa
open Go.RowKit Go.Deep
open Go.Maps (Keyed)
set_option linter.all false

section
variable {w0 w w' : World} {S : Nat → Prop} {tb : Nat} {q : MN} {E : List Ent}
theorem Tab.has (h : Tab w0 w S tb q E) {k bs : List UInt8} {g : Nat} (hg : getL k E = some (g, bs)) : Row w g 5 (bs.map bv).toArray ∧ bs.length = q.val := h.data (getL_some hg)
theorem Tab.old (h : Tab w0 w S tb q E) {k bs : List UInt8} {g : Nat} (hg : getL k E = some (g, bs)) : w0.heap.size ≤ g := by
  obtain ⟨_, _, h2, _⟩ := h
  exact (h2 g (.inr (List.mem_map.2 ⟨_, getL_some hg, rfl⟩))).1
theorem get_use {kind : Nat} {k k' : List UInt8} (hn : (keysL E).Nodup) : getL k' (useN kind k E) = getL k' E := getL_perm (perm_useN hn) hn
theorem get_set {k bs bs' : List UInt8} {g : Nat} (hg : getL k E = some (g, bs)) : getL k (setT k bs' E) = some (g, bs') := by rw [getL_set, if_pos rfl, hg]; rfl
theorem get_over {kind : Nat} {k bs bs' : List UInt8} {g : Nat} (hn : (keysL E).Nodup) (hg : getL k E = some (g, bs)) : getL k (useN kind k (setT k bs' E)) = some (g, bs') := by
  rw [get_use (by rw [keys_set]; exact hn), get_set hg]
theorem get_add {kind mx : Nat} {k bs : List UInt8} {g : Nat} (hk : getL k E = none) (hl : E.length ≤ mx) (h2 : kind ≠ 3 → E.length < mx) (hp : 1 ≤ mx) (hn : (keysL (addE kind mx k g bs E)).Nodup) : getL k (addE kind mx k g bs E) = some (g, bs) := by
  obtain ⟨E0, e1, e2, e3⟩ := addE_form (kind := kind) (g := g) (bs := bs) (getL_none hk) hl h2 hp
  exact getL_mem hn (by rw [e2]; simp)
theorem get_gone {k : List UInt8} : getL k (dropL k E) = none := by rw [getL_drop, if_pos rfl]
theorem gone_blk (hb : (blks E).Nodup) {k bs : List UInt8} {g : Nat} (hg : getL k E = some (g, bs)) : g ∈ blks E ∧ g ∉ blks (dropL k E) := by
  refine ⟨List.mem_map.2 ⟨_, getL_some hg, rfl⟩, fun hc => ?_⟩
  obtain ⟨x, hx, e⟩ := List.mem_map.1 hc
  simp only [dropL, List.mem_filter, decide_eq_true_eq] at hx
  have := uniq_blk hb hx.1 (getL_some hg) e
  exact hx.2 (by rw [this])
theorem drop_lt {k bs : List UInt8} {g : Nat} (hg : getL k E = some (g, bs)) : (dropL k E).length < E.length := by
  have hm := getL_some hg
  obtain ⟨l1, l2, rfl⟩ := List.append_of_mem hm
  unfold dropL
  rw [List.filter_append, List.filter_cons]
  simp only [not_true, decide_false, Bool.false_eq_true, if_false, List.length_append, List.length_cons]
  exact Nat.lt_of_le_of_lt (Nat.add_le_add (List.length_filter_le _ l1) (List.length_filter_le _ l2)) (by omega)
theorem Tab.kinds' (h : Tab w0 w S tb q E) : q.kind = 1 ∨ q.kind = 2 ∨ q.kind = 3 := by have := h.ok.kind; omega
theorem Tab.nod (h : Tab w0 w S tb q E) : (blks E).Nodup := by obtain ⟨_, h, _⟩ := h; exact h.nod

/-- Put, the table new: the key has its value, whatever the kind. -/
def Put1 (w0 : World) (tb : Nat) (q : MN) (k v : List UInt8) (w' : World) : Prop := ∃ E g, Tab w0 w' No tb q E ∧ getL k E = some (g, v)
theorem put_first (h : Tab w0 w No tb q E) (hE : NewE q E) {kv vv : Value} {k v : List UInt8} (hk : Rd w kv k) (hv : Rd w vv v) (hkl : k.length = q.key) (hvl : v.length = q.val) (h1 : q.kind = 1 → k = [0, 0, 0, 0]) :
    Calls Try.prog 39 #[.pointer (some ⟨tb, 0, none⟩), kv, vv, .int .i64 0] w fun e w' => e = .returned (.int .i64 0) ∧ Put1 w0 tb q k v w' := by
  have hb : ¬ BadU q k v 0 := by simp [BadU, hkl, hvl]
  have hm := h.ok.max
  unfold NewE at hE
  split at hE
  · rename_i hk1
    obtain ⟨gs, hl, rfl⟩ := hE
    have e0 := h1 hk1
    subst e0
    obtain ⟨g0, gs', rfl⟩ : ∃ g0 gs', gs = g0 :: gs' := by
      cases gs with
      | nil => simp at hl; omega
      | cons a b => exact ⟨a, b, rfl⟩
    have hg : getL [0, 0, 0, 0] (arrE q.val (g0 :: gs')) = some (g0, List.replicate q.val 0) := getL_mem h.keys (List.mem_map.2 ⟨0, by simp, rfl⟩)
    refine (update_over h hk hv 0 hb hg (by decide)).mono ?_
    rintro e w' ⟨rfl, a, _⟩
    exact ⟨rfl, _, g0, a, get_over h.keys hg⟩
  · rename_i hk1
    subst hE
    have hc : (q.kind = 2 ∧ ([] : List Ent).length < q.max) ∨ q.kind = 3 := by
      rcases h.kinds with h | h | h
      · exact absurd h hk1
      · exact .inl ⟨h, by simp; omega⟩
      · exact .inr h
    refine (update_new h hk hv 0 hb rfl (by decide) 0 (Put1 w0 tb q k v) (.inr ⟨hc, rfl, fun w' a => ?_⟩)).mono ?_
    · obtain ⟨g, a⟩ := addT_no a
      exact ⟨_, g, a, get_add rfl (Nat.zero_le _) (fun _ => by simp; omega) hm.1 a.keys⟩
    · rintro e w' ⟨rfl, a⟩
      exact ⟨rfl, a⟩
end
end Go.Proofs.Ytiipepiabeccpaa
