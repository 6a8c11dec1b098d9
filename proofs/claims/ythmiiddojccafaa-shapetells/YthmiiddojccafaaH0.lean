/-
  Package shape: what an instruction is by its Op: writes, isHelper, jumps.
-/
import Derived.Test.YthmiiddojccafaaI1
namespace Go.Proofs.Ythmiiddojccafaa
open Go.RowKit
set_option linter.all false

def helpO (m : Int) : Bool := decide (m = 1 ∨ m = 2 ∨ m = 3 ∨ m = 5 ∨ m = 7 ∨ m = 9)
def writesO (op : Nat) : Bool := decide (op % 8 = 4 ∨ op % 8 = 7 ∨ op % 8 = 1 ∨ op = 24)
def jumpsO (op : Nat) : Bool := decide ((op % 8 = 5 ∨ op % 8 = 6) ∧ op ≠ 133 ∧ op ≠ 149)

section
variable {op : Nat} (b c : Nat) (d e : Int) (w : World)
set_option maxHeartbeats 1600000 in
theorem writes_c (ho : op < 256) : Calls Try.prog 26 #[.agg #[.int .u8 (op : Int), .int .u8 (b : Int), .int .u8 (c : Int), .int .i16 d, .int .i32 e]] w fun x w' => x = .returned (.bool (writesO op)) ∧ Calm w w' := by
  have h1 := (op_bits ⟨op, ho⟩).1
  simp only at h1
  obtain ⟨x, hx⟩ : ∃ x : Int, x = ((op % 8 : Nat) : Int) := ⟨_, rfl⟩
  rw [← hx] at h1
  by_cases y4 : x = 4
  · have hR : writesO op = true := decide_eq_true (by omega)
    rw [hR]
    clear hR hx ho
    subst y4
    go_enter Try.func26, Try.ntmps26
    go_wp2_with fail
    go_ret
    exact ⟨rfl, (Keep.refl _ w).alloc _⟩
  by_cases y7 : x = 7
  · have hR : writesO op = true := decide_eq_true (by omega)
    rw [hR]
    clear hR hx ho
    subst y7
    go_enter Try.func26, Try.ntmps26
    go_wp2_with fail
    go_ret
    exact ⟨rfl, (Keep.refl _ w).alloc _⟩
  by_cases y1 : x = 1
  · have hR : writesO op = true := decide_eq_true (by omega)
    rw [hR]
    clear hR hx ho
    subst y1
    go_enter Try.func26, Try.ntmps26
    go_wp2_with fail
    go_ret
    exact ⟨rfl, (Keep.refl _ w).alloc _⟩
  have hR : writesO op = decide (op = 24) := decide_eq_decide.2 (by omega)
  rw [hR]
  have i4 : (x == 4) = false := by rw [beq_eq_false_iff_ne]; exact y4
  have i7 : (x == 7) = false := by rw [beq_eq_false_iff_ne]; exact y7
  have i1 : (x == 1) = false := by rw [beq_eq_false_iff_ne]; exact y1
  have WC := Lib.hid (fun w => wide_c (op := op) b c d e w)
  clear hR hx ho y4 y7 y1
  go_enter Try.func26, Try.ntmps26
  go_wp2_with fail
  refine (WC.out _).mono ?_
  rintro e' w1 ⟨rfl, hc1⟩
  go_wp2_with fail
  go_ret
  exact ⟨rfl, ((Keep.refl _ w).alloc _).trans hc1⟩
set_option maxHeartbeats 1600000 in
theorem isHelper_c (m : Int) : Calls Try.prog 28 #[.int .i32 m] w fun x w' => x = .returned (.bool (helpO m)) ∧ Calm w w' := by
  by_cases y1 : m = 1
  · subst y1
    have hR : helpO 1 = true := by decide
    rw [hR]
    clear hR
    go_enter Try.func28, Try.ntmps28
    go_wp2_with fail
    go_ret
    exact ⟨rfl, Keep.refl _ w⟩
  by_cases y2 : m = 2
  · subst y2
    have hR : helpO 2 = true := by decide
    rw [hR]
    clear hR
    go_enter Try.func28, Try.ntmps28
    go_wp2_with fail
    go_ret
    exact ⟨rfl, Keep.refl _ w⟩
  by_cases y3 : m = 3
  · subst y3
    have hR : helpO 3 = true := by decide
    rw [hR]
    clear hR
    go_enter Try.func28, Try.ntmps28
    go_wp2_with fail
    go_ret
    exact ⟨rfl, Keep.refl _ w⟩
  by_cases y5 : m = 5
  · subst y5
    have hR : helpO 5 = true := by decide
    rw [hR]
    clear hR
    go_enter Try.func28, Try.ntmps28
    go_wp2_with fail
    go_ret
    exact ⟨rfl, Keep.refl _ w⟩
  by_cases y7 : m = 7
  · subst y7
    have hR : helpO 7 = true := by decide
    rw [hR]
    clear hR
    go_enter Try.func28, Try.ntmps28
    go_wp2_with fail
    go_ret
    exact ⟨rfl, Keep.refl _ w⟩
  by_cases y9 : m = 9
  · subst y9
    have hR : helpO 9 = true := by decide
    rw [hR]
    clear hR
    go_enter Try.func28, Try.ntmps28
    go_wp2_with fail
    go_ret
    exact ⟨rfl, Keep.refl _ w⟩
  have hR : helpO m = false := decide_eq_false (by omega)
  rw [hR]
  have i1 : (m == 1) = false := by rw [beq_eq_false_iff_ne]; exact y1
  have i2 : (m == 2) = false := by rw [beq_eq_false_iff_ne]; exact y2
  have i3 : (m == 3) = false := by rw [beq_eq_false_iff_ne]; exact y3
  have i5 : (m == 5) = false := by rw [beq_eq_false_iff_ne]; exact y5
  have i7 : (m == 7) = false := by rw [beq_eq_false_iff_ne]; exact y7
  have i9 : (m == 9) = false := by rw [beq_eq_false_iff_ne]; exact y9
  clear hR y1 y2 y3 y5 y7 y9
  go_enter Try.func28, Try.ntmps28
  go_wp2_with fail
  go_ret
  exact ⟨rfl, Keep.refl _ w⟩
set_option maxHeartbeats 1600000 in
theorem jumps_c (ho : op < 256) : Calls Try.prog 30 #[.agg #[.int .u8 (op : Int), .int .u8 (b : Int), .int .u8 (c : Int), .int .i16 d, .int .i32 e]] w fun x w' => x = .returned (.bool (jumpsO op)) ∧ Calm w w' := by
  have h1 := (op_bits ⟨op, ho⟩).1
  simp only at h1
  obtain ⟨x, hx⟩ : ∃ x : Int, x = ((op % 8 : Nat) : Int) := ⟨_, rfl⟩
  rw [← hx] at h1
  by_cases hj : x = 5 ∨ x = 6
  · by_cases h133 : op = 133
    · have hR : jumpsO op = false := decide_eq_false (fun h => h.2.1 h133)
      rw [hR]
      have i1 : ((op : Int) != 133) = false := by subst h133; rfl
      clear hR hx h133 ho
      rcases hj with rfl | rfl
      · go_enter Try.func30, Try.ntmps30
        go_wp2_with fail
        go_ret
        exact ⟨rfl, (Keep.refl _ w).alloc _⟩
      · go_enter Try.func30, Try.ntmps30
        go_wp2_with fail
        go_ret
        exact ⟨rfl, (Keep.refl _ w).alloc _⟩
    · by_cases h149 : op = 149
      · have hR : jumpsO op = false := decide_eq_false (fun h => h.2.2 h149)
        rw [hR]
        have i1 : ((op : Int) != 133) = true := by rw [bne_iff_ne]; omega
        have i2 : ((op : Int) != 149) = false := by subst h149; rfl
        clear hR hx h133 h149 ho
        rcases hj with rfl | rfl
        · go_enter Try.func30, Try.ntmps30
          go_wp2_with fail
          go_ret
          exact ⟨rfl, (Keep.refl _ w).alloc _⟩
        · go_enter Try.func30, Try.ntmps30
          go_wp2_with fail
          go_ret
          exact ⟨rfl, (Keep.refl _ w).alloc _⟩
      · have hR : jumpsO op = true := decide_eq_true (by omega)
        rw [hR]
        have i1 : ((op : Int) != 133) = true := by rw [bne_iff_ne]; omega
        have i2 : ((op : Int) != 149) = true := by rw [bne_iff_ne]; omega
        clear hR hx h133 h149 ho
        rcases hj with rfl | rfl
        · go_enter Try.func30, Try.ntmps30
          go_wp2_with fail
          go_ret
          exact ⟨rfl, (Keep.refl _ w).alloc _⟩
        · go_enter Try.func30, Try.ntmps30
          go_wp2_with fail
          go_ret
          exact ⟨rfl, (Keep.refl _ w).alloc _⟩
  · have hR : jumpsO op = false := decide_eq_false (by omega)
    rw [hR]
    have i5 : (x == 5) = false := by rw [beq_eq_false_iff_ne]; omega
    have i6 : (x == 6) = false := by rw [beq_eq_false_iff_ne]; omega
    clear hR hx hj ho
    go_enter Try.func30, Try.ntmps30
    go_wp2_with fail
    go_ret
    exact ⟨rfl, (Keep.refl _ w).alloc _⟩
end
end Go.Proofs.Ythmiiddojccafaa
