/-
  Shifts: pure facts.
-/
import Derived.Test.YtboiakahhkihiaaAL
namespace Go.Proofs.Ytboiakahhkihiaa
open Go.RowKit
set_option linter.all false

section
variable {n a m k : Nat}
theorem half_pow (hn : 0 < n) : 2 ^ n = 2 ^ (n - 1) + 2 ^ (n - 1) := by
  have : n = (n - 1) + 1 := by omega
  rw [this, Nat.pow_succ]
  simp
  omega
theorem sgn_bounds (hn : 0 < n) (h : a < 2 ^ n) : -((2 ^ (n - 1) : Nat) : Int) ≤ sgn n a ∧ sgn n a < ((2 ^ (n - 1) : Nat) : Int) := by
  have e := half_pow hn
  unfold sgn
  split <;> omega
theorem sgn_back (hn : 0 < n) {s : Int} (h1 : -((2 ^ (n - 1) : Nat) : Int) ≤ s) (h2 : s < ((2 ^ (n - 1) : Nat) : Int)) : sgn n (s % ((2 ^ n : Nat) : Int)).toNat = s := by
  have e := half_pow hn
  have hp := pos2 (n - 1)
  by_cases hs : 0 ≤ s
  · have e1 : s % ((2 ^ n : Nat) : Int) = s := Int.emod_eq_of_lt hs (by omega)
    rw [e1]
    unfold sgn
    rw [if_pos (by omega)]
    omega
  · have e1 : s % ((2 ^ n : Nat) : Int) = s + ((2 ^ n : Nat) : Int) := by
      have : (s + ((2 ^ n : Nat) : Int)) % ((2 ^ n : Nat) : Int) = s + ((2 ^ n : Nat) : Int) := Int.emod_eq_of_lt (by omega) (by omega)
      rwa [Int.add_emod_right] at this
    rw [e1]
    unfold sgn
    rw [if_neg (by omega)]
    omega
theorem sgn_mod (hn : 0 < n) (h : a < 2 ^ n) : (sgn n a % ((2 ^ n : Nat) : Int)).toNat = a := by
  unfold sgn
  split
  · rw [Int.emod_eq_of_lt (by omega) (by omega)]; omega
  · rw [Int.sub_emod_right, Int.emod_eq_of_lt (by omega) (by omega)]; omega
theorem sgn_down (hn : 0 < n) (h : a < 2 ^ n) (m : Nat) : sgn n ((sgn n a / ((2 ^ m : Nat) : Int)) % ((2 ^ n : Nat) : Int)).toNat = sgn n a / ((2 ^ m : Nat) : Int) := by
  obtain ⟨b1, b2⟩ := sgn_bounds hn h
  have hp := pos2 m
  have hq := pos2 (n - 1)
  have hpi : (1 : Int) ≤ ((2 ^ m : Nat) : Int) := by omega
  refine sgn_back hn ?_ ?_
  · apply Int.le_ediv_of_mul_le (by omega)
    have : -((2 ^ (n - 1) : Nat) : Int) * ((2 ^ m : Nat) : Int) ≤ -((2 ^ (n - 1) : Nat) : Int) * 1 := Int.mul_le_mul_of_nonpos_left (by omega) hpi
    omega
  · apply Int.ediv_lt_of_lt_mul (by omega)
    have : ((2 ^ (n - 1) : Nat) : Int) * 1 ≤ ((2 ^ (n - 1) : Nat) : Int) * ((2 ^ m : Nat) : Int) := Int.mul_le_mul_of_nonneg_left hpi (by omega)
    omega
end

section
variable {wide : Bool} {a m k : Nat}
theorem sh_id (hm : m < bW wide) : m % 2 ^ bW wide % bW wide = m := by
  have := bW_lt wide
  rw [Nat.mod_eq_of_lt (Nat.lt_trans hm this), Nat.mod_eq_of_lt hm]
theorem D_lsh (hm : m < bW wide) : D (bW wide) 96 a m = a % 2 ^ bW wide * 2 ^ m % 2 ^ bW wide := by
  show a % 2 ^ bW wide * 2 ^ (m % 2 ^ bW wide % bW wide) % 2 ^ bW wide = _
  rw [sh_id hm]
theorem D_rsh (hm : m < bW wide) : D (bW wide) 112 a m = a % 2 ^ bW wide / 2 ^ m := by
  show a % 2 ^ bW wide / 2 ^ (m % 2 ^ bW wide % bW wide) = _
  rw [sh_id hm]
theorem D_arsh (hm : m < bW wide) : D (bW wide) 192 a m = ((sgn (bW wide) (a % 2 ^ bW wide) / ((2 ^ m : Nat) : Int)) % ((2 ^ bW wide : Nat) : Int)).toNat := by
  show ((sgn (bW wide) (a % 2 ^ bW wide) / ((2 ^ (m % 2 ^ bW wide % bW wide) : Nat) : Int)) % ((2 ^ bW wide : Nat) : Int)).toNat = _
  rw [sh_id hm]
theorem lsh_go (hm : m + k < bW wide) : D (bW wide) 96 (D (bW wide) 96 a m) k = D (bW wide) 96 a (m + k) := by
  rw [D_lsh (show k < bW wide by omega), D_lsh (show m < bW wide by omega), D_lsh hm, Nat.mod_mod, Nat.mod_mul_mod, Nat.mul_assoc, ← Nat.pow_add]
theorem rsh_go (hm : m + k < bW wide) : D (bW wide) 112 (D (bW wide) 112 a m) k = D (bW wide) 112 a (m + k) := by
  have h := D_lt (bW wide) 112 a m
  rw [D_rsh (a := D (bW wide) 112 a m) (show k < bW wide by omega), Nat.mod_eq_of_lt h, D_rsh (show m < bW wide by omega), D_rsh hm, Nat.div_div_eq_div_mul, ← Nat.pow_add]
theorem arsh_go (hm : m + k < bW wide) : D (bW wide) 192 (D (bW wide) 192 a m) k = D (bW wide) 192 a (m + k) := by
  have h := D_lt (bW wide) 192 a m
  rw [D_arsh (a := D (bW wide) 192 a m) (show k < bW wide by omega), Nat.mod_eq_of_lt h, D_arsh (show m < bW wide by omega), sgn_down (bW_pos wide) (Nat.mod_lt _ (pos2 _)), D_arsh hm]
  congr 2
  rw [Nat.pow_add, Int.natCast_mul, Int.ediv_ediv_of_nonneg (Int.natCast_nonneg _)]
theorem nil_id : bW wide % 2 ^ bW wide % bW wide = 0 := by cases wide <;> decide
theorem lsh_all (h : a < 2 ^ bW wide) : D (bW wide) 96 a (bW wide) = a := by
  show a % 2 ^ bW wide * 2 ^ (bW wide % 2 ^ bW wide % bW wide) % 2 ^ bW wide = a
  rw [nil_id, Nat.mod_eq_of_lt h, Nat.pow_zero, Nat.mul_one, Nat.mod_eq_of_lt h]
theorem rsh_all (h : a < 2 ^ bW wide) : D (bW wide) 112 a (bW wide) = a := by
  show a % 2 ^ bW wide / 2 ^ (bW wide % 2 ^ bW wide % bW wide) = a
  rw [nil_id, Nat.mod_eq_of_lt h, Nat.pow_zero, Nat.div_one]
theorem arsh_all (h : a < 2 ^ bW wide) : D (bW wide) 192 a (bW wide) = a := by
  show ((sgn (bW wide) (a % 2 ^ bW wide) / ((2 ^ (bW wide % 2 ^ bW wide % bW wide) : Nat) : Int)) % ((2 ^ bW wide : Nat) : Int)).toNat = a
  rw [nil_id, Nat.mod_eq_of_lt h, Nat.pow_zero]
  show ((sgn (bW wide) a / 1) % _).toNat = a
  rw [Int.ediv_one]
  exact sgn_mod (bW_pos wide) h
theorem down_up (h : a < 2 ^ bW wide) (hm : m < bW wide) (hz : a / 2 ^ (bW wide - m - 1) / 2 = 0) : D (bW wide) 112 (D (bW wide) 96 a m) m = a := by
  have hp := pos2 m
  have h1 : a < 2 ^ (bW wide - m) := by
    rw [Nat.div_div_eq_div_mul, ← Nat.pow_succ, show Nat.succ (bW wide - m - 1) = bW wide - m by omega] at hz
    exact (Nat.div_eq_zero_iff_lt (pos2 _)).1 hz
  have h2 : a * 2 ^ m < 2 ^ bW wide := by
    have : 2 ^ bW wide = 2 ^ (bW wide - m) * 2 ^ m := by rw [← Nat.pow_add]; congr 1; omega
    rw [this]
    exact (Nat.mul_lt_mul_right hp).2 h1
  rw [D_rsh hm, D_lsh hm, Nat.mod_eq_of_lt h, Nat.mod_eq_of_lt h2, Nat.mod_eq_of_lt h2, Nat.mul_div_cancel _ hp]
theorem left_low (h : a < 2 ^ bW wide) (hm : m < bW wide) : D (bW wide) 160 a (D (bW wide) 96 (D (bW wide) 112 a m) m) < 2 ^ m := by
  have hp := pos2 m
  have h1 : a / 2 ^ m < 2 ^ bW wide := Nat.lt_of_le_of_lt (Nat.div_le_self _ _) h
  have h2 : a / 2 ^ m * 2 ^ m < 2 ^ bW wide := Nat.lt_of_le_of_lt (Nat.div_mul_le_self _ _) h
  rw [D_lsh hm, D_rsh hm, Nat.mod_eq_of_lt h, Nat.mod_eq_of_lt h1, Nat.mod_eq_of_lt h2]
  show (a % 2 ^ bW wide ^^^ a / 2 ^ m * 2 ^ m % 2 ^ bW wide) < 2 ^ m
  rw [Nat.mod_eq_of_lt h, Nat.mod_eq_of_lt h2]
  apply (Nat.div_eq_zero_iff_lt hp).1
  rw [Nat.xor_div_two_pow, Nat.mul_div_cancel _ hp, Nat.xor_self]
end

end Go.Proofs.Ytboiakahhkihiaa
