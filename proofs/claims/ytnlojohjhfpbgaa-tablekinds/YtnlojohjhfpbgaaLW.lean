/-
  Lists in order of use: what a caller sees, as rows of keys and values.
-/
import Derived.Test.YtnlojohjhfpbgaaLV
namespace Go.Proofs.Ytnlojohjhfpbgaa
open Go.RowKit
open Go.Maps (Keyed)
set_option linter.all false

section
variable {κ ν : Type} [DecidableEq κ]
def keysL (L : List (κ × ν)) : List κ := L.map (·.1)
def getL (k : κ) (L : List (κ × ν)) : Option ν := (L.find? (fun y => y.1 = k)).map (·.2)
def dropL (k : κ) (L : List (κ × ν)) : List (κ × ν) := L.filter (fun y => ¬ y.1 = k)
def useL (k : κ) (L : List (κ × ν)) : List (κ × ν) := match getL k L with
  | some v => dropL k L ++ [(k, v)]
  | none => L
def putL (most : Nat) (k : κ) (v : ν) (L : List (κ × ν)) : Option κ × List (κ × ν) :=
  if k ∈ keysL L then (none, dropL k L ++ [(k, v)]) else if L.length < most then (none, L ++ [(k, v)]) else (L.head?.map (·.1), L.tail ++ [(k, v)])

theorem dropL_mid {l1 l2 : List (κ × ν)} {x : κ × ν} (h : (keysL (l1 ++ x :: l2)).Nodup) : dropL x.1 (l1 ++ x :: l2) = l1 ++ l2 := by
  unfold keysL at h
  rw [List.map_append, List.map_cons] at h
  obtain ⟨h1, h2, h3⟩ := List.nodup_append.1 h
  have h4 := (List.nodup_cons.1 h2).1
  unfold dropL
  rw [List.filter_append, List.filter_cons]
  simp only [not_true, decide_false, Bool.false_eq_true, if_false]
  congr 1
  · rw [List.filter_eq_self]
    intro y hy
    simp only [decide_eq_true_eq]
    exact fun e => h3 _ (List.mem_map.2 ⟨y, hy, rfl⟩) x.1 (by simp) e
  · rw [List.filter_eq_self]
    intro y hy
    simp only [decide_eq_true_eq]
    exact fun e => h4 (List.mem_map.2 ⟨y, hy, e⟩)
theorem dropL_miss {L : List (κ × ν)} {k : κ} (h : k ∉ keysL L) : dropL k L = L := by
  unfold dropL
  rw [List.filter_eq_self]
  intro y hy
  simp only [decide_eq_true_eq]
  exact fun e => h (List.mem_map.2 ⟨y, hy, e⟩)
theorem getL_mid {l1 l2 : List (κ × ν)} {x : κ × ν} (h : (keysL (l1 ++ x :: l2)).Nodup) : getL x.1 (l1 ++ x :: l2) = some x.2 := by
  unfold keysL at h
  rw [List.map_append, List.map_cons] at h
  obtain ⟨h1, h2, h3⟩ := List.nodup_append.1 h
  unfold getL
  rw [List.find?_append]
  have : l1.find? (fun y => decide (y.1 = x.1)) = none := by
    rw [List.find?_eq_none]
    intro y hy
    simp only [decide_eq_true_eq]
    exact fun e => h3 _ (List.mem_map.2 ⟨y, hy, rfl⟩) x.1 (by simp) e
  rw [this]
  simp
theorem getL_miss {L : List (κ × ν)} {k : κ} (h : k ∉ keysL L) : getL k L = none := by
  unfold getL
  rw [List.find?_eq_none.2]
  · rfl
  · intro y hy
    simp only [decide_eq_true_eq]
    exact fun e => h (List.mem_map.2 ⟨y, hy, e⟩)
theorem split_key {L : List (κ × ν)} {k : κ} (h : k ∈ keysL L) : ∃ l1 x l2, L = l1 ++ x :: l2 ∧ x.1 = k := by
  obtain ⟨x, hx, hk⟩ := List.mem_map.1 h
  obtain ⟨l1, l2, e⟩ := List.append_of_mem hx
  exact ⟨l1, x, l2, e, hk⟩
end

section
variable {κ ν : Type} {T : Ty κ ν} {w w' : World} {b most : Nat} {R R' : Nat → Prop} {L : List (κ × ν)}
/-- A list in memory that has these keys and values, in order. -/
def LruIs (T : Ty κ ν) (w : World) (R : Nat → Prop) (b most : Nat) (L : List (κ × ν)) : Prop :=
  ∃ m nx pv D es, LruAt T w R b m most nx pv D es ∧ es.map (·.2) = L ∧ es.length ≤ most
theorem LruIs.keep (h : LruIs T w R b most L) {Q : Nat → Prop} (k : Keep Q w w') (hQ : ∀ i, R i → ¬ Q i) : LruIs T w' R b most L := by
  obtain ⟨m, nx, pv, D, es, h1, h2, h3⟩ := h
  exact ⟨m, nx, pv, D, es, h1.keep k hQ, h2, h3⟩
theorem LruIs.calm (h : LruIs T w R b most L) (k : Calm w w') : LruIs T w' R b most L := h.keep k (fun _ _ e => e)
theorem LruIs.lt (h : LruIs T w R b most L) : ∀ k, R k → k < w.heap.size := by obtain ⟨m, nx, pv, D, es, h1, h2, h3⟩ := h; exact h1.lt
theorem LruIs.len (h : LruIs T w R b most L) : L.length ≤ most := by obtain ⟨m, nx, pv, D, es, h1, rfl, h3⟩ := h; simpa using h3
theorem LruIs.pos (h : LruIs T w R b most L) : 1 ≤ most ∧ most ≤ 1100 := by obtain ⟨m, nx, pv, D, es, h1, rfl, h3⟩ := h; exact ⟨h1.pos, h1.top⟩
theorem LruIs.nodup (h : LruIs T w R b most L) : (keysL L).Nodup := by obtain ⟨m, nx, pv, D, es, h1, rfl, h3⟩ := h; simpa [keysL, Function.comp_def] using h1.keys
theorem LruIs.oks (h : LruIs T w R b most L) : ∀ x ∈ L, T.ok x.1 := by
  obtain ⟨m, nx, pv, D, es, h1, rfl, h3⟩ := h
  intro x hx
  obtain ⟨y, hy, rfl⟩ := List.mem_map.1 hx
  exact h1.oks y hy
/-- What R' has beyond R is new behind w. -/
def Grow (R R' : Nat → Prop) (w : World) : Prop := ∀ k, R' k → R k ∨ w.heap.size ≤ k
theorem Grow.refl (R : Nat → Prop) (w : World) : Grow R R w := fun _ h => .inl h
theorem Grow.trans {R'' : Nat → Prop} (h : Grow R R' w) (k : Grow R' R'' w') (hs : w.heap.size ≤ w'.heap.size) : Grow R R'' w := fun i hi => (k i hi).elim (h i) (fun e => .inr (Nat.le_trans hs e))

/-- A list that was made since w, nothing of before has turned. -/
def Lst (T : Ty κ ν) (w w' : World) (b most : Nat) (L : List (κ × ν)) : Prop := ∃ R, LruIs T w' R b most L ∧ (∀ i, R i → w.heap.size ≤ i) ∧ Calm w w'
theorem Lst.calm_ (h : Lst T w w' b most L) : Calm w w' := by obtain ⟨_, _, _, h⟩ := h; exact h
theorem Lst.len (h : Lst T w w' b most L) : L.length ≤ most := by obtain ⟨_, h, _, _⟩ := h; exact h.len
theorem Lst.nodup (h : Lst T w w' b most L) : (keysL L).Nodup := by obtain ⟨_, h, _, _⟩ := h; exact h.nodup
theorem Lst.rest {w'' : World} (h : Lst T w w' b most L) (k : Calm w' w'') : Lst T w w'' b most L := by
  obtain ⟨R, h1, h2, h3⟩ := h
  exact ⟨R, h1.calm k, h2, h3.trans k⟩
theorem Lst.step {L' : List (κ × ν)} {w'' : World} (h2 : ∀ i, R i → w.heap.size ≤ i) (h3 : Calm w w') (h4 : ∃ R', LruIs T w'' R' b most L' ∧ Grow R R' w') (k : Keep R w' w'') : Lst T w w'' b most L' := by
  obtain ⟨R', a, g⟩ := h4
  exact ⟨R', a, fun i hi => (g i hi).elim (h2 i) (fun e => Nat.le_trans h3.size e), h3.then_ k (fun i hi hc => by have := h2 i hc; omega)⟩

/-- How a key that went is told. -/
def Ty.ko (T : Ty κ ν) : Option κ → Value
  | some k => T.kv k
  | none => T.zk
def Ty.vo (T : Ty κ ν) : Option ν → Value
  | some v => T.vv v
  | none => T.zv
end
end Go.Proofs.Ytnlojohjhfpbgaa
