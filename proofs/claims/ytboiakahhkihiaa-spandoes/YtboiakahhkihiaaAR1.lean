/-
  The reference of layer 7: small functions.
-/
import Derived.Test.YtboiakahhkihiaaAS
namespace Go.Proofs.Ytboiakahhkihiaa
open Go.RowKit
set_option linter.all false

theorem rlow_c (a : Nat) (w : World) : Calls Try.prog 65 #[.int .u64 (a : Int)] w fun e w' => e = .returned (.int .u64 ((a % 4294967296 : Nat) : Int)) ∧ Calm w w' := by
  go_enter Try.func65, Try.ntmps65
  go_wp2_with fail
  go_ret
  exact ⟨rfl, Keep.refl _ w⟩

set_option maxHeartbeats 800000 in
theorem rup_c {a n : Nat} (ha : a < 18446744073709551616) (hn : n < 64) (w : World) : Calls Try.prog 66 #[.int .u64 (a : Int), .int .u64 (n : Int)] w fun e w' => e = .returned (.int .u64 ((a * 2 ^ n % 18446744073709551616 : Nat) : Int)) ∧ Calm w w' := by
  have HA := Lib.hid ha
  have hni : (n : Int) < 64 := by omega
  clear ha
  go_enter Try.func66, Try.ntmps66
  go_wp2_with fail
  go_loopw [0, 5] (fun x i wr => ∃ k : Nat, k ≤ n ∧ i = .int .u64 k ∧ x = .int .u64 ((a * 2 ^ k % 18446744073709551616 : Nat) : Int) ∧ Calm w wr) (fun _ i _ => n - (intOf i).toNat)
  case atStart => exact ⟨0, by omega, rfl, by rw [Nat.pow_zero, Nat.mul_one, Nat.mod_eq_of_lt HA.out], Keep.refl _ w⟩
  case round =>
    obtain ⟨k, hk, rfl, rfl, hcal⟩ := hrel
    have HC := Lib.hid hcal
    clear hcal
    obtain ⟨x, hx⟩ : ∃ x, x = a * 2 ^ k % 18446744073709551616 := ⟨_, rfl⟩
    have HX := Lib.hid hx
    rw [← hx]
    clear hx
    by_cases hlt : k < n
    · have i1 : (k : Int) < (n : Int) := by omega
      go_wp2_with fail
      go_roundw
      case rel => exact ⟨k + 1, by omega, by go_num, congrArg _ (by
        have := HX.out
        rw [IntKind.wrap_u64, Nat.pow_succ, ← Nat.mul_assoc]
        omega), HC.out⟩
      case measure => simp [intOf]; omega
    · obtain rfl : k = n := by omega
      clear hlt hk
      go_wp2_with fail
      go_ret
      exact ⟨ret_eq (congrArg _ HX.out), HC.out⟩
set_option maxHeartbeats 800000 in
theorem rdown0_c {a n : Nat} (bv : Nat) (ha : a < 18446744073709551616) (hn : n < 64) (w : World) : Calls Try.prog 67 #[.int .u64 (a : Int), .int .u64 (n : Int), .int .u64 (bv : Int), .bool false] w fun e w' => e = .returned (.int .u64 ((a / 2 ^ n : Nat) : Int)) ∧ Calm w w' := by
  have HA := Lib.hid ha
  have hni : (n : Int) < 64 := by omega
  clear ha
  go_enter Try.func67, Try.ntmps67
  go_wp2_with fail
  go_loopw [0, 9] (fun x i wr => ∃ k : Nat, k ≤ n ∧ i = .int .u64 k ∧ x = .int .u64 ((a / 2 ^ k : Nat) : Int) ∧ Calm w wr) (fun _ i _ => n - (intOf i).toNat)
  case atStart => exact ⟨0, by omega, rfl, by rw [Nat.pow_zero, Nat.div_one], Keep.refl _ w⟩
  case round =>
    obtain ⟨k, hk, rfl, rfl, hcal⟩ := hrel
    have HC := Lib.hid hcal
    clear hcal
    obtain ⟨x, hx⟩ : ∃ x, x = a / 2 ^ k := ⟨_, rfl⟩
    have HX := Lib.hid hx
    rw [← hx]
    clear hx
    by_cases hlt : k < n
    · have i1 : (k : Int) < (n : Int) := by omega
      go_wp2_with fail
      go_roundw
      case rel => exact ⟨k + 1, by omega, by go_num, congrArg _ (by
        have h1 := HX.out
        have h2 := HA.out
        have h3 := Nat.div_le_self a (2 ^ k)
        rw [Nat.pow_succ, ← Nat.div_div_eq_div_mul, ← h1]
        exact wrapU64 (x := x / 2) (by omega)), HC.out⟩
      case measure => simp [intOf]; omega
    · obtain rfl : k = n := by omega
      clear hlt hk
      go_wp2_with fail
      go_ret
      exact ⟨ret_eq (congrArg _ HX.out), HC.out⟩

/-- What is shifted down, the highest bit kept. -/
def arT (n a k : Nat) : Nat := ((sgn n a / ((2 ^ k : Nat) : Int)) % ((2 ^ n : Nat) : Int)).toNat
theorem arT_zero {n a : Nat} (hn : 0 < n) (h : a < 2 ^ n) : arT n a 0 = a := by
  unfold arT
  rw [Nat.pow_zero]
  show ((sgn n a / 1) % _).toNat = a
  rw [Int.ediv_one]
  exact sgn_mod hn h
theorem arT_pos {n a k : Nat} (h : a < 2 ^ n) (h' : a < 2 ^ (n - 1)) : arT n a k = a / 2 ^ k := by
  unfold arT sgn
  rw [if_pos h']
  have : a / 2 ^ k < 2 ^ n := Nat.lt_of_le_of_lt (Nat.div_le_self _ _) h
  rw [← Int.natCast_ediv]
  generalize a / 2 ^ k = z at this ⊢
  rw [Int.emod_eq_of_lt (by omega) (by omega)]
  rfl
theorem or_top {x n : Nat} (h : x < 2 ^ n) : x ||| 2 ^ n = x + 2 ^ n := by
  have hk := (and_or_xor x (2 ^ n)).1
  rw [and_pow, Nat.div_eq_of_lt h] at hk
  omega
theorem arT_form {n a k : Nat} (hn : 0 < n) (h : a < 2 ^ n) (hs : ¬ a < 2 ^ (n - 1)) : ((arT n a k : Nat) : Int) = ((a : Int) - ((2 ^ n : Nat) : Int)) / ((2 ^ k : Nat) : Int) + ((2 ^ n : Nat) : Int) ∧ -((2 ^ (n - 1) : Nat) : Int) ≤ ((a : Int) - ((2 ^ n : Nat) : Int)) / ((2 ^ k : Nat) : Int) ∧ ((a : Int) - ((2 ^ n : Nat) : Int)) / ((2 ^ k : Nat) : Int) < 0 := by
  have e := half_pow hn
  have hp := pos2 k
  have hpi : (1 : Int) ≤ ((2 ^ k : Nat) : Int) := by omega
  have b1 : -((2 ^ (n - 1) : Nat) : Int) ≤ ((a : Int) - ((2 ^ n : Nat) : Int)) / ((2 ^ k : Nat) : Int) := by
    apply Int.le_ediv_of_mul_le (by omega)
    have : -((2 ^ (n - 1) : Nat) : Int) * ((2 ^ k : Nat) : Int) ≤ -((2 ^ (n - 1) : Nat) : Int) * 1 := Int.mul_le_mul_of_nonpos_left (by omega) hpi
    omega
  have b2 : ((a : Int) - ((2 ^ n : Nat) : Int)) / ((2 ^ k : Nat) : Int) < 0 := by
    apply Int.ediv_lt_of_lt_mul (by omega)
    omega
  refine ⟨?_, b1, b2⟩
  unfold arT sgn
  rw [if_neg hs]
  generalize ((a : Int) - ((2 ^ n : Nat) : Int)) / ((2 ^ k : Nat) : Int) = t at b1 b2
  have : (t + ((2 ^ n : Nat) : Int)) % ((2 ^ n : Nat) : Int) = t + ((2 ^ n : Nat) : Int) := Int.emod_eq_of_lt (by omega) (by omega)
  rw [Int.add_emod_right] at this
  rw [this]
  omega
theorem arT_step {n a k : Nat} (hn : 0 < n) (h : a < 2 ^ n) (hs : ¬ a < 2 ^ (n - 1)) : arT n a (k + 1) = arT n a k / 2 ||| 2 ^ (n - 1) ∧ arT n a k / 2 < 2 ^ (n - 1) := by
  have e := half_pow hn
  obtain ⟨f1, b1, b2⟩ := arT_form (k := k) hn h hs
  obtain ⟨f2, b3, b4⟩ := arT_form (k := k + 1) hn h hs
  have hd : ((a : Int) - ((2 ^ n : Nat) : Int)) / ((2 ^ (k + 1) : Nat) : Int) = ((a : Int) - ((2 ^ n : Nat) : Int)) / ((2 ^ k : Nat) : Int) / 2 := by
    rw [Nat.pow_succ, Int.natCast_mul, Int.ediv_ediv_of_nonneg (Int.natCast_nonneg _)]
    rfl
  rw [hd] at f2 b3 b4
  generalize ((a : Int) - ((2 ^ n : Nat) : Int)) / ((2 ^ k : Nat) : Int) = t at *
  have hl : arT n a k / 2 < 2 ^ (n - 1) := by omega
  exact ⟨by rw [or_top hl]; omega, hl⟩
set_option maxHeartbeats 800000 in
theorem rdown64_c {a n : Nat} (ha : a < 18446744073709551616) (hs : ¬ a < 9223372036854775808) (hn : n < 64) (w : World) : Calls Try.prog 67 #[.int .u64 (a : Int), .int .u64 (n : Int), .int .u64 64, .bool true] w fun e w' => e = .returned (.int .u64 ((arT 64 a n : Nat) : Int)) ∧ Calm w w' := by
  have HA := Lib.hid ha
  have HS := Lib.hid hs
  have hni : (n : Int) < 64 := by omega
  clear ha hs
  go_enter Try.func67, Try.ntmps67
  go_wp2_with fail
  go_loopw [0, 9] (fun x i wr => ∃ k : Nat, k ≤ n ∧ i = .int .u64 k ∧ x = .int .u64 ((arT 64 a k : Nat) : Int) ∧ Calm w wr) (fun _ i _ => n - (intOf i).toNat)
  case atStart => exact ⟨0, by omega, rfl, by rw [arT_zero (by decide) HA.out], Keep.refl _ w⟩
  case round =>
    obtain ⟨k, hk, rfl, rfl, hcal⟩ := hrel
    have HC := Lib.hid hcal
    clear hcal
    obtain ⟨e1, e2⟩ := arT_step (n := 64) (k := k) (by decide) HA.out HS.out
    obtain ⟨x, hx⟩ : ∃ x, x = arT 64 a k := ⟨_, rfl⟩
    rw [← hx] at e1 e2 ⊢
    have HX := Lib.hid hx
    have w1 : IntKind.u64.wrap ((x : Int) / 2) = ((x / 2 : Nat) : Int) := wrapU64 (x := x / 2) (Nat.lt_of_lt_of_le e2 (by decide))
    obtain ⟨y, hy⟩ : ∃ y, y = x / 2 := ⟨_, rfl⟩
    rw [← hy] at e1 e2 w1
    have w2 : bits .or .u64 (y : Int) 9223372036854775808 = ((y ||| 9223372036854775808 : Nat) : Int) := u64_or_nat y 9223372036854775808 (Nat.lt_of_lt_of_le e2 (by decide)) (by decide)
    have E1 := Lib.hid e1
    clear hx hy e1 e2
    by_cases hlt : k < n
    · have i1 : (k : Int) < (n : Int) := by omega
      go_wp2_with fail
      go_roundw
      case rel => exact ⟨k + 1, by omega, by go_num, congrArg _ (congrArg _ E1.out.symm), HC.out⟩
      case measure => simp [intOf]; omega
    · obtain rfl : k = n := by omega
      clear hlt hk
      go_wp2_with fail
      go_ret
      exact ⟨ret_eq (congrArg _ HX.out), HC.out⟩
set_option maxHeartbeats 800000 in
theorem rdown32_c {a n : Nat} (ha : a < 4294967296) (hs : ¬ a < 2147483648) (hn : n < 64) (w : World) : Calls Try.prog 67 #[.int .u64 (a : Int), .int .u64 (n : Int), .int .u64 32, .bool true] w fun e w' => e = .returned (.int .u64 ((arT 32 a n : Nat) : Int)) ∧ Calm w w' := by
  have HA := Lib.hid ha
  have HS := Lib.hid hs
  have hni : (n : Int) < 64 := by omega
  clear ha hs
  go_enter Try.func67, Try.ntmps67
  go_wp2_with fail
  go_loopw [0, 9] (fun x i wr => ∃ k : Nat, k ≤ n ∧ i = .int .u64 k ∧ x = .int .u64 ((arT 32 a k : Nat) : Int) ∧ Calm w wr) (fun _ i _ => n - (intOf i).toNat)
  case atStart => exact ⟨0, by omega, rfl, by rw [arT_zero (by decide) HA.out], Keep.refl _ w⟩
  case round =>
    obtain ⟨k, hk, rfl, rfl, hcal⟩ := hrel
    have HC := Lib.hid hcal
    clear hcal
    obtain ⟨e1, e2⟩ := arT_step (n := 32) (k := k) (by decide) HA.out HS.out
    obtain ⟨x, hx⟩ : ∃ x, x = arT 32 a k := ⟨_, rfl⟩
    rw [← hx] at e1 e2 ⊢
    have HX := Lib.hid hx
    have w1 : IntKind.u64.wrap ((x : Int) / 2) = ((x / 2 : Nat) : Int) := wrapU64 (x := x / 2) (Nat.lt_of_lt_of_le e2 (by decide))
    obtain ⟨y, hy⟩ : ∃ y, y = x / 2 := ⟨_, rfl⟩
    rw [← hy] at e1 e2 w1
    have w2 : bits .or .u64 (y : Int) 2147483648 = ((y ||| 2147483648 : Nat) : Int) := u64_or_nat y 2147483648 (Nat.lt_of_lt_of_le e2 (by decide)) (by decide)
    have E1 := Lib.hid e1
    clear hx hy e1 e2
    by_cases hlt : k < n
    · have i1 : (k : Int) < (n : Int) := by omega
      go_wp2_with fail
      go_roundw
      case rel => exact ⟨k + 1, by omega, by go_num, congrArg _ (congrArg _ E1.out.symm), HC.out⟩
      case measure => simp [intOf]; omega
    · obtain rfl : k = n := by omega
      clear hlt hk
      go_wp2_with fail
      go_ret
      exact ⟨ret_eq (congrArg _ HX.out), HC.out⟩

end Go.Proofs.Ytboiakahhkihiaa
