/-
  Package isa: instructions; Wide, and what each class tells.
-/
import Derived.Test.YthmiiddojccafaaLRd
import Derived.Test.YthmiiddojccafaaRegion
import Derived.BigQuiet
namespace Go.Proofs.Ythmiiddojccafaa
open Go.RowKit
set_option linter.all false

/-- An instruction. -/
structure In where
  op : Nat
  dst : Nat
  src : Nat
  off : Int
  imm : Int
  deriving DecidableEq
def In.v (i : In) : Value := .agg #[.int .u8 (i.op : Int), .int .u8 (i.dst : Int), .int .u8 (i.src : Int), .int .i16 i.off, .int .i32 i.imm]
def In.vs (i : In) : List Value := [.int .u8 (i.op : Int), .int .u8 (i.dst : Int), .int .u8 (i.src : Int), .int .i16 i.off, .int .i32 i.imm]
structure In.Wf (i : In) : Prop where
  op : i.op < 256
  dst : i.dst < 256
  src : i.src < 256
  off : -32768 ≤ i.off ∧ i.off < 32768
  imm : -2147483648 ≤ i.imm ∧ i.imm < 2147483648

/-- The bits of an Op. -/
theorem op_bits : ∀ op : Fin 256, bits .and .u8 (op.1 : Int) 7 = ((op.1 % 8 : Nat) : Int) ∧ bits .and .u8 (op.1 : Int) 8 = ((op.1 / 8 % 2 * 8 : Nat) : Int) ∧ bits .and .u8 (op.1 : Int) 240 = ((op.1 / 16 * 16 : Nat) : Int) ∧ bits .and .u8 (op.1 : Int) 224 = ((op.1 / 32 * 32 : Nat) : Int) ∧ bits .and .u8 (op.1 : Int) 15 = ((op.1 % 16 : Nat) : Int) := by decide +kernel

/-- Where the second number stands. -/
def secO (op : Nat) : Nat := if op / 8 % 2 = 1 then 2 else 8
/-- Operations that compare. -/
def cmpO (op : Nat) : Bool := decide (op / 16 ∈ [1, 2, 3, 4, 5, 6, 7, 10, 11, 12, 13])
def brP (op : Nat) : Nat := if cmpO op then 5 + secO op else 0
def jmpP (op : Nat) : Nat := if op = 5 then 4 else if op = 133 then 8 else if op = 149 then 0 else brP op
def jmpO (op : Nat) : Bool := if op = 5 then true else if op = 133 then true else if op = 149 then true else cmpO op
def aluP (op : Nat) : Nat := if op / 16 = 8 then 1 else 1 + secO op
def aluO (op : Nat) : Bool := if op / 16 = 8 then decide (op / 8 % 2 = 0) else decide (op / 16 ≤ 12)
def memO (op : Nat) : Bool := decide (op / 32 = 3)
theorem sec_or : ∀ op, bits .or .u8 1 (secO op : Int) = ((1 + secO op : Nat) : Int) ∧ bits .or .u8 ((1 + secO op : Nat) : Int) 4 = ((5 + secO op : Nat) : Int) := by
  intro op
  unfold secO
  split <;> decide +kernel

section
variable {op : Nat} (b c : Nat) (d e : Int) (w : World)
theorem wide_c : Calls Try.prog 40 #[.agg #[.int .u8 (op : Int), .int .u8 (b : Int), .int .u8 (c : Int), .int .i16 d, .int .i32 e]] w fun x w' => x = .returned (.bool (decide (op = 24))) ∧ Calm w w' := by
  go_enter Try.func40, Try.ntmps40
  go_wp2_with fail
  go_ret
  refine ⟨?_, (Keep.refl _ w).alloc _⟩
  by_cases h : op = 24
  · subst h; rfl
  · have : ¬ ((op : Int) = 24) := by omega
    simp [h, this]
theorem second_c (ho : op < 256) : Calls Try.prog 82 #[.agg #[.int .u8 (op : Int), .int .u8 (b : Int), .int .u8 (c : Int), .int .i16 d, .int .i32 e]] w fun x w' => x = .returned (.int .u8 (secO op : Int)) ∧ Calm w w' := by
  have h1 := (op_bits ⟨op, ho⟩).2.1
  simp only at h1
  by_cases h : op / 8 % 2 = 1
  · rw [h] at h1
    have h1 : bits .and .u8 (op : Int) 8 = 8 := h1
    go_enter Try.func82, Try.ntmps82
    go_wp2_with fail
    go_ret
    exact ⟨by simp [secO, h], (Keep.refl _ w).alloc _⟩
  · have h0 : op / 8 % 2 = 0 := by omega
    rw [h0] at h1
    have h1 : bits .and .u8 (op : Int) 8 = 0 := h1
    go_enter Try.func82, Try.ntmps82
    go_wp2_with fail
    go_ret
    exact ⟨by simp [secO, h], (Keep.refl _ w).alloc _⟩
theorem cmp_yes {op : Nat} {x : Int} (hx : x = ((op / 16 * 16 : Nat) : Int)) (h : x = 16 ∨ x = 32 ∨ x = 48 ∨ x = 64 ∨ x = 80 ∨ x = 96 ∨ x = 112 ∨ x = 160 ∨ x = 176 ∨ x = 192 ∨ x = 208) : cmpO op = true := by
  unfold cmpO
  apply decide_eq_true
  simp only [List.mem_cons, List.not_mem_nil, or_false]
  omega
theorem cmp_no {op : Nat} {x : Int} (hx : x = ((op / 16 * 16 : Nat) : Int)) (h : ¬ (x = 16 ∨ x = 32 ∨ x = 48 ∨ x = 64 ∨ x = 80 ∨ x = 96 ∨ x = 112 ∨ x = 160 ∨ x = 176 ∨ x = 192 ∨ x = 208)) : cmpO op = false := by
  unfold cmpO
  apply decide_eq_false
  simp only [List.mem_cons, List.not_mem_nil, or_false]
  omega
set_option maxHeartbeats 1600000 in
theorem branch_c (ho : op < 256) : Calls Try.prog 80 #[.agg #[.int .u8 (op : Int), .int .u8 (b : Int), .int .u8 (c : Int), .int .i16 d, .int .i32 e]] w fun x w' => x = .returned (.tuple #[.int .u8 (brP op : Int), .bool (cmpO op)]) ∧ Calm w w' := by
  have h1 := (op_bits ⟨op, ho⟩).2.2.1
  simp only at h1
  obtain ⟨x, hx⟩ : ∃ x : Int, x = ((op / 16 * 16 : Nat) : Int) := ⟨_, rfl⟩
  rw [← hx] at h1
  have HX := Lib.hid hx
  have SC := Lib.hid (fun w => second_c (op := op) b c d e w ho)
  obtain ⟨o1, o2⟩ := sec_or op
  generalize hs : secO op = s at o1 o2
  have HS := Lib.hid hs
  obtain ⟨s1, hs1⟩ : ∃ s1 : Nat, s1 = 1 + s := ⟨_, rfl⟩
  obtain ⟨s2, hs2⟩ : ∃ s2 : Nat, s2 = 5 + s := ⟨_, rfl⟩
  rw [← hs1] at o1 o2
  rw [← hs2] at o2
  have H2 := Lib.hid hs2
  obtain ⟨P, hP⟩ : ∃ P : Exit → Act → World → Prop, P = bodyPost Try.prog Try.f80 (fun x w' => x = .returned (.tuple #[.int .u8 (brP op : Int), .bool (cmpO op)]) ∧ Calm w w') := ⟨_, rfl⟩
  clear hs1 hs2 hx hs hP
  go_enter Try.func80, Try.ntmps80
  go_wp2_with fail
  all_goals first
    | (rename_i hy _ _ _ _
       have hy : x = _ := eq_of_beq hy
       have HY := Lib.hid (cmp_yes HX.out (by simp only [hy]; decide))
       clear hy
       refine (SC.out _).mono ?_
       rintro e' w1 ⟨rfl, hc1⟩
       rw [HS.out]
       go_wp2_with fail
       go_ret2
       exact ⟨by unfold brP; rw [HY.out, HS.out, if_pos rfl, ← H2.out]; rfl, ((Keep.refl _ w).alloc _).trans hc1⟩)
    | (go_ret2
       have HY := cmp_no HX.out (by simp_all)
       exact ⟨by unfold brP; rw [HY]; rfl, (Keep.refl _ w).alloc _⟩)
end
end Go.Proofs.Ythmiiddojccafaa
