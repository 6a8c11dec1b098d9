/-
  What is right: halves, what comes next, what is put ahead. Nothing of the program.
-/
import Derived.Test.YthmiiddojccafaaH8
namespace Go.Proofs.Ythmiiddojccafaa
open Go.RowKit
set_option linter.all false

theorem right_wide {l : List In} (h : rightO l = true) {m : Nat} {x : In} (hx : l[m]? = some x) (h24 : x.op = 24) : ∃ y, l[m + 1]? = some y ∧ halfO x y = true := by
  have h1 := (right_cut l m x h hx).2
  rw [right_at l m x hx, if_pos h24, decide_eq_true (by omega)] at h1
  simp only [Bool.and_eq_true] at h1
  have h2 := h1.2
  split at h2
  · cases h2
  · rename_i y hy
    simp only [Bool.and_eq_true] at h2
    exact ⟨y, hy, h2.1⟩
theorem opAt_pos {l : List In} {k : Nat} (h : opAt l k ≠ 0) : ∃ x, l[k]? = some x ∧ x.op = opAt l k := by
  unfold opAt at h ⊢
  split at h
  · rename_i x hx; exact ⟨x, hx, rfl⟩
  · exact absurd rfl h
theorem half_at (l : List In) (k : Nat) : isHalfO l (k + 1) = decide (opAt l k = 24) := by unfold isHalfO; simp
theorem half_zero {l : List In} (h : rightO l = true) {k : Nat} (hh : isHalfO l k = true) : ∃ y, l[k]? = some y ∧ y.op = 0 ∧ y.dst = 0 ∧ y.src = 0 ∧ y.off = 0 := by
  match k, hh with
  | k + 1, hh =>
    rw [half_at] at hh
    have h24 := of_decide_eq_true hh
    obtain ⟨x, hx, e⟩ := opAt_pos (l := l) (k := k) (by omega)
    obtain ⟨y, hy, hhalf⟩ := right_wide h hx (by omega)
    exact ⟨y, hy, half_op0 hhalf⟩
theorem wrong_parts {l : List In} {k : Nat} {x : In} (hx : l[k]? = some x) (h : wrongO l k = false) : wr1 x = false ∧ wr2 x = false ∧ wr3 x = false ∧ wr4 l k x = false ∧ wr5 l k x = false := by
  rw [wrongO_some hx] at h
  unfold wrongI at h
  simp only [Bool.or_eq_false_iff] at h
  exact h
theorem lead_parts {l : List In} {k : Nat} {x : In} (h : leadO l k x = true) : 0 ≤ x.off ∧ (k : Int) + 1 + x.off < (l.length : Int) ∧ isHalfO l ((k : Int) + 1 + x.off).toNat = false := by
  unfold leadO at h
  simp only [Bool.and_eq_true, decide_eq_true_eq, Bool.not_eq_true'] at h
  exact h
theorem wr4_no {l : List In} {k : Nat} {x : In} (h : wr4 l k x = false) (hj : jumpsO x.op = true) : leadO l k x = true := by
  unfold wr4 at h
  rw [hj] at h
  simpa using h
theorem wr5_no {l : List In} {k : Nat} {x : In} (h : wr5 l k x = false) (h9 : x.op ≠ 149) : k + 1 ≠ l.length := by
  unfold wr5 at h
  intro e
  rw [decide_eq_true e, decide_eq_true h9] at h
  cases h
theorem next_nil {k : Nat} {x : In} : nextI k x = [] ↔ x.op = 149 := by
  unfold nextI
  constructor
  · intro h
    by_cases h9 : x.op = 149
    · exact h9
    · rw [if_neg h9] at h
      split at h
      · cases h
      · split at h
        · cases h
        · split at h <;> cases h
  · intro h; rw [if_pos h]
/-- What comes next is further, is there, and is no second half. -/
theorem next_ok {l : List In} (hS : shapeO l = true) {k : Nat} {x : In} (hx : l[k]? = some x) : ∀ z ∈ nextI k x, (k : Int) < z ∧ z < (l.length : Int) ∧ isHalfO l z.toNat = false := by
  obtain ⟨_, _, _, hr, hno⟩ := shape_small hS
  have hk := (List.getElem?_eq_some_iff.1 hx).1
  obtain ⟨_, _, _, h4, h5⟩ := wrong_parts hx (hno k hk)
  intro z hz
  unfold nextI at hz
  by_cases h9 : x.op = 149
  · rw [if_pos h9] at hz; cases hz
  rw [if_neg h9] at hz
  have hk1 := wr5_no h5 h9
  have hstep : x.op ≠ 24 → isHalfO l ((k : Int) + 1).toNat = false := fun h24 => by
    rw [show ((k : Int) + 1).toNat = k + 1 by omega, half_at, opAt_some hx]
    exact decide_eq_false h24
  by_cases hb5 : x.op = 5
  · rw [if_pos hb5] at hz
    simp only [List.mem_singleton] at hz
    have hj : jumpsO x.op = true := by rw [hb5]; rfl
    obtain ⟨a, b, c⟩ := lead_parts (wr4_no h4 hj)
    subst hz
    exact ⟨by omega, b, c⟩
  rw [if_neg hb5] at hz
  by_cases h24 : x.op = 24
  · rw [if_pos h24] at hz
    simp only [List.mem_singleton] at hz
    obtain ⟨y, hy, hh⟩ := right_wide hr hx h24
    have hy0 := (half_op0 hh).1
    have hky := (List.getElem?_eq_some_iff.1 hy).1
    obtain ⟨_, _, _, _, g5⟩ := wrong_parts hy (hno (k + 1) hky)
    have := wr5_no g5 (by omega)
    subst hz
    refine ⟨by omega, by omega, ?_⟩
    rw [show ((k : Int) + 2).toNat = k + 1 + 1 by omega, half_at, opAt_some hy]
    exact decide_eq_false (by omega)
  rw [if_neg h24] at hz
  split at hz
  · rename_i hj
    obtain ⟨a, b, c⟩ := lead_parts (wr4_no h4 hj.1)
    simp only [List.mem_cons, List.not_mem_nil, or_false] at hz
    rcases hz with rfl | rfl
    · exact ⟨by omega, by omega, hstep h24⟩
    · exact ⟨by omega, b, c⟩
  · simp only [List.mem_singleton] at hz
    subst hz
    exact ⟨by omega, by omega, hstep h24⟩
/-- What comes next are one or two, the second one further. -/
theorem next_form {l : List In} (hS : shapeO l = true) {k : Nat} {x : In} (hx : l[k]? = some x) (h9 : x.op ≠ 149) : (∃ a, nextI k x = [a]) ∨ ∃ a b, nextI k x = [a, b] ∧ a < b ∧ jumpsO x.op = true := by
  obtain ⟨_, _, _, hr, hno⟩ := shape_small hS
  have hk := (List.getElem?_eq_some_iff.1 hx).1
  obtain ⟨_, _, _, h4, h5⟩ := wrong_parts hx (hno k hk)
  unfold nextI
  rw [if_neg h9]
  split
  · exact .inl ⟨_, rfl⟩
  · split
    · exact .inl ⟨_, rfl⟩
    · split
      · rename_i hj
        obtain ⟨a, _, _⟩ := lead_parts (wr4_no h4 hj.1)
        exact .inr ⟨_, _, rfl, by have := hj.2; omega, hj.1⟩
      · exact .inl ⟨_, rfl⟩
/-- The last one that comes behind a jump is where it leads. -/
theorem next_last {k : Nat} {x : In} (hj : jumpsO x.op = true) : ∃ h : nextI k x ≠ [], (nextI k x).getLast h = (k : Int) + 1 + x.off := by
  have hne := of_decide_eq_true hj
  unfold nextI
  simp only [if_neg hne.2.2]
  by_cases h5 : x.op = 5
  · simp only [if_pos h5]; exact ⟨by simp, by simp⟩
  · have h24 : x.op ≠ 24 := fun e => by rw [e] at hne; omega
    simp only [if_neg h5, if_neg h24]
    by_cases h0 : x.off = 0
    · rw [if_neg (fun h => h.2 h0)]; exact ⟨by simp, by simp [h0]⟩
    · rw [if_pos ⟨hj, h0⟩]; exact ⟨by simp, by simp⟩

/-! What is put ahead. -/
theorem at_app (M l : List In) (k : Nat) : (M ++ l)[M.length + k]? = l[k]? := by rw [List.getElem?_append_right (by omega)]; congr 1; omega
theorem opAt_app (M l : List In) (k : Nat) : opAt (M ++ l) (M.length + k) = opAt l k := by unfold opAt; rw [at_app]
theorem half_app (M l : List In) (k : Nat) (hk : 0 < k) : isHalfO (M ++ l) (M.length + k) = isHalfO l k := by
  obtain ⟨j, rfl⟩ : ∃ j, k = j + 1 := ⟨k - 1, by omega⟩
  rw [← Nat.add_assoc, half_at, half_at, opAt_app]
theorem lead_app (M l : List In) (k : Nat) (x : In) : leadO (M ++ l) (M.length + k) x = leadO l k x := by
  unfold leadO
  by_cases h0 : 0 ≤ x.off
  · rw [show (((M.length + k : Nat) : Int) + 1 + x.off).toNat = M.length + ((k : Int) + 1 + x.off).toNat by omega, half_app M l _ (by omega)]
    have : decide (((M.length + k : Nat) : Int) + 1 + x.off < ((M ++ l).length : Int)) = decide ((k : Int) + 1 + x.off < (l.length : Int)) := decide_eq_decide.2 (by rw [List.length_append]; omega)
    rw [this]
  · rw [decide_eq_false h0]; rfl
theorem wrong_app (M l : List In) (k : Nat) : wrongO (M ++ l) (M.length + k) = wrongO l k := by
  unfold wrongO
  rw [at_app]
  split
  · rfl
  · rename_i x hx
    unfold wrongI wr4 wr5
    rw [lead_app]
    have : decide (M.length + k + 1 = (M ++ l).length) = decide (k + 1 = l.length) := decide_eq_decide.2 (by rw [List.length_append]; omega)
    rw [this]
/-- One that is harmless wherever it stands, but at the end. -/
structure Tame (x : In) : Prop where
  known : knownI x = true
  op24 : x.op ≠ 24
  wr1 : wr1 x = false
  wr2 : wr2 x = false
  wr3 : wr3 x = false
  jump : jumpsO x.op = false
theorem right_tame : ∀ {M : List In}, (∀ x ∈ M, knownI x = true ∧ x.op ≠ 24) → ∀ l, rightO (M ++ l) = rightO l
  | [], _, l => rfl
  | x :: M, h, l => by
    have hx := h x (by simp)
    rw [List.cons_append, right_plain _ _ hx.2, hx.1, Bool.true_and]
    exact right_tame (fun y hy => h y (List.mem_cons_of_mem _ hy)) l
theorem Tame.ok {x : In} (h : Tame x) {l : List In} {k : Nat} (hx : l[k]? = some x) (he : k + 1 ≠ l.length ∨ x.op = 149) : wrongO l k = false := by
  rw [wrongO_some hx]
  unfold wrongI wr4 wr5
  rw [h.wr1, h.wr2, h.wr3, h.jump]
  rcases he with he | he
  · rw [decide_eq_false he]; rfl
  · rw [he]; simp
theorem Tame.last {x : In} {l : List In} {k : Nat} (hx : l[k]? = some x) (he : k + 1 = l.length) (h9 : x.op ≠ 149) : wrongO l k = true := by
  rw [wrongO_some hx]
  unfold wrongI wr5
  rw [decide_eq_true he, decide_eq_true h9]
  simp
theorem rightE_cases (l : List In) : (encO l = false ∧ rightP l = 0 ∧ rightE l = 1) ∨ (encO l = true ∧ ∃ k, firstO l = some k ∧ rightP l = k ∧ rightE l = 7) ∨ (encO l = true ∧ firstO l = none ∧ rightP l = 0 ∧ rightE l = 0) := by
  unfold rightP rightE firstP firstE
  rcases he : encO l with _ | _
  · exact .inl ⟨rfl, rfl, rfl⟩
  · rcases hf : firstO l with _ | k
    · exact .inr (.inr ⟨rfl, rfl, rfl, rfl⟩)
    · exact .inr (.inl ⟨rfl, k, rfl, rfl, rfl⟩)
theorem right_told {l : List In} (he : encO l = true) {k : Nat} (hk : k < l.length) (hw : wrongO l k = true) (hno : ∀ j, j < k → wrongO l j = false) : rightP l = k ∧ rightE l = 7 := by
  have hf := firstO_some.2 ⟨hk, hw, hno⟩
  unfold rightP rightE firstP firstE
  rw [he, hf]
  exact ⟨rfl, rfl⟩
theorem right_fine {l : List In} (he : encO l = true) (hno : ∀ j, j < l.length → wrongO l j = false) : rightP l = 0 ∧ rightE l = 0 ∧ shapeO l = true := by
  have hf := firstO_none.2 hno
  unfold rightP rightE firstP firstE shapeO
  rw [he, hf]
  exact ⟨rfl, rfl, rfl⟩
theorem rightE_zero {l : List In} (h : rightE l = 0) : shapeO l = true := by
  rw [← rightE_ok, h]; rfl
theorem rightE_shape {l : List In} (h : rightE l ≠ 0) : shapeO l = false := by
  rw [← rightE_ok]; exact decide_eq_false h
theorem enc_intro {l : List In} (h1 : 1 ≤ l.length) (h2 : l.length ≤ 512) (hr : rightO l = true) : encO l = true := by
  unfold encO
  rw [decide_eq_true ⟨h1, h2⟩, hr]
  rfl
theorem enc_parts {l : List In} (h : encO l = true) : 1 ≤ l.length ∧ l.length ≤ 512 ∧ rightO l = true := by
  unfold encO at h
  simp only [Bool.and_eq_true, decide_eq_true_eq] at h
  exact ⟨h.1.1, h.1.2, h.2⟩
end Go.Proofs.Ythmiiddojccafaa
