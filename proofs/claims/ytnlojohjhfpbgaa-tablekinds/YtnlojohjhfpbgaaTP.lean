/-
  Tables: what is pure of them.
-/
import Derived.Test.YtnlojohjhfpbgaaLW
import Derived.Test.YtnlojohjhfpbgaaLStr
namespace Go.Proofs.Ytnlojohjhfpbgaa
open Go.RowKit
set_option linter.all false

/-- A map as it is told. -/
structure MP where
  name : List UInt8
  kind : Int
  key : Int
  val : Int
  max : Int
def MP.vals (m : MP) : List Value := [.string (str m.name), .int .i64 m.kind, .int .i64 m.key, .int .i64 m.val, .int .i64 m.max]
def MP.agg (m : MP) : Value := .agg m.vals.toArray
def inNm (c : UInt8) : Bool := decide ((c.toNat = 95 ∨ (48 ≤ c.toNat ∧ c.toNat ≤ 57)) ∨ (65 ≤ c.toNat ∧ c.toNat ≤ 90) ∨ (97 ≤ c.toNat ∧ c.toNat ≤ 122))
def nmIn (s : List UInt8) : Bool := s.all inNm
def nmOk (s : List UInt8) : Bool := nmIn s && decide (1 ≤ s.length ∧ s.length ≤ 16)
def kdOk (kind key : Int) : Bool := decide ((kind = 1 ∧ key = 4) ∨ kind = 2 ∨ kind = 3)
def wi (n most : Int) : Bool := decide (1 ≤ n ∧ n ≤ most)
def MP.right (m : MP) : Bool := nmOk m.name && (kdOk m.kind m.key && (wi m.key 64 && (wi m.val 256 && wi m.max 1024)))

/-- An entry: its key, the block of its Data, its bytes. -/
abbrev Ent := List UInt8 × Nat × List UInt8
def blks (E : List Ent) : List Nat := E.map (·.2.1)
def setT (k : List UInt8) (bs : List UInt8) (E : List Ent) : List Ent := E.map (fun x => if x.1 = k then (x.1, x.2.1, bs) else x)
/-- What a use of a key makes of the entries. -/
def useT (kind : Int) (k : List UInt8) (E : List Ent) : List Ent := if kind = 3 then useL k E else E

theorem keys_set (k bs : List UInt8) (E : List Ent) : keysL (setT k bs E) = keysL E := by
  unfold keysL setT
  rw [List.map_map]
  exact List.map_congr_left (fun x _ => by simp only [Function.comp]; split <;> rfl)
theorem blks_set (k bs : List UInt8) (E : List Ent) : blks (setT k bs E) = blks E := by
  unfold blks setT
  rw [List.map_map]
  exact List.map_congr_left (fun x _ => by simp only [Function.comp]; split <;> rfl)
theorem getL_some {κ ν : Type} [DecidableEq κ] {k : κ} {v : ν} {L : List (κ × ν)} (h : getL k L = some v) : (k, v) ∈ L := by
  unfold getL at h
  obtain ⟨⟨a, b⟩, h1, h2⟩ := Option.map_eq_some_iff.1 h
  have h3 := List.find?_some h1
  simp only [decide_eq_true_eq] at h3 h2
  subst h3; subst h2
  exact List.mem_of_find?_eq_some h1
theorem getL_mem {κ ν : Type} [DecidableEq κ] {k : κ} {v : ν} {L : List (κ × ν)} (hn : (keysL L).Nodup) (h : (k, v) ∈ L) : getL k L = some v := by
  obtain ⟨l1, l2, rfl⟩ := List.append_of_mem h
  exact getL_mid (x := (k, v)) hn
theorem getL_none {κ ν : Type} [DecidableEq κ] {k : κ} {L : List (κ × ν)} (h : getL k L = none) : k ∉ keysL L := by
  intro hc
  unfold keysL at hc
  obtain ⟨x, hx, rfl⟩ := List.mem_map.1 hc
  unfold getL at h
  rw [Option.map_eq_none_iff, List.find?_eq_none] at h
  have := h x hx
  simp at this
theorem mem_useL {κ ν : Type} [DecidableEq κ] {k : κ} {L : List (κ × ν)} (hn : (keysL L).Nodup) (x : κ × ν) : x ∈ useL k L ↔ x ∈ L := by
  unfold useL
  cases hg : getL k L with
  | none => exact Iff.rfl
  | some v =>
    have hm := getL_some hg
    simp only [List.mem_append, List.mem_singleton, dropL, List.mem_filter, decide_eq_true_eq]
    constructor
    · rintro (h | rfl)
      · exact h.1
      · exact hm
    · intro h
      by_cases hk : x.1 = k
      · right
        obtain ⟨a, b⟩ := x
        simp only at hk
        subst hk
        have := getL_mem hn h
        rw [hg] at this
        injection this with this
        rw [this]
      · exact .inl ⟨h, hk⟩
theorem perm_useL {κ ν : Type} [DecidableEq κ] {k : κ} {L : List (κ × ν)} (hn : (keysL L).Nodup) : (useL k L).Perm L := by
  unfold useL
  cases hg : getL k L with
  | none => exact List.Perm.refl _
  | some v =>
    have hm := getL_some hg
    obtain ⟨l1, l2, rfl⟩ := List.append_of_mem hm
    have := dropL_mid (x := (k, v)) hn
    simp only at this ⊢
    rw [this]
    exact (List.perm_append_singleton _ _).trans (List.perm_middle.symm)
theorem perm_useT {kind : Int} {k : List UInt8} {E : List Ent} (hn : (keysL E).Nodup) : (useT kind k E).Perm E := by
  unfold useT
  split
  · exact perm_useL hn
  · exact List.Perm.refl _
theorem getL_perm {κ ν : Type} [DecidableEq κ] {k : κ} {L M : List (κ × ν)} (hp : L.Perm M) (hn : (keysL M).Nodup) : getL k L = getL k M := by
  have hn' : (keysL L).Nodup := (List.Perm.nodup_iff (show (keysL L).Perm (keysL M) from by unfold keysL; exact hp.map _)).2 hn
  cases h : getL k L with
  | some v => exact (getL_mem hn (hp.mem_iff.1 (getL_some h))).symm
  | none =>
    have := getL_none h
    exact (getL_miss (fun hc => this ((hp.map (·.1)).mem_iff.2 hc))).symm
theorem getL_set {k k' bs : List UInt8} {E : List Ent} : getL k' (setT k bs E) = if k' = k then (getL k' E).map (fun x => (x.1, bs)) else getL k' E := by
  unfold getL setT
  induction E with
  | nil => simp
  | cons x l ih =>
    simp only [List.map_cons, List.find?_cons]
    by_cases hx : x.1 = k
    · simp only [hx, if_true]
      by_cases hk : k' = k
      · subst hk; simp [hx]
      · have : ¬ k = k' := fun e => hk e.symm
        rw [if_neg hk] at ih
        simpa [this, hx, hk] using ih
    · simp only [hx, if_false]
      by_cases hk : x.1 = k'
      · have : ¬ k' = k := fun e => hx (hk.trans e)
        simp [hk, this]
      · simp only [hk, decide_false, ih]
theorem getL_drop {κ ν : Type} [DecidableEq κ] {k k' : κ} {L : List (κ × ν)} : getL k' (dropL k L) = if k' = k then none else getL k' L := by
  unfold getL dropL
  induction L with
  | nil => simp
  | cons x l ih =>
    rw [List.filter_cons]
    by_cases hx : x.1 = k
    · rw [if_neg (by simp [hx]), ih, List.find?_cons]
      by_cases hk : k' = k
      · simp [hk]
      · have : ¬ x.1 = k' := fun e => hk (e.symm.trans hx)
        simp [hk, this]
    · rw [if_pos (by simp [hx]), List.find?_cons, List.find?_cons]
      by_cases hk : x.1 = k'
      · have : ¬ k' = k := fun e => hx (hk.trans e)
        simp [hk, this]
      · simp only [hk, decide_false, ih]
theorem blks_drop {k : List UInt8} {E : List Ent} {g : Nat} (h : g ∈ blks (dropL k E)) : g ∈ blks E := by
  unfold blks dropL at *
  obtain ⟨x, hx, rfl⟩ := List.mem_map.1 h
  exact List.mem_map.2 ⟨x, (List.mem_filter.1 hx).1, rfl⟩
end Go.Proofs.Ytnlojohjhfpbgaa
