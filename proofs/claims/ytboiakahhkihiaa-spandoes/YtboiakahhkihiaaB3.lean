/-
  Package alu: Do, Test.
-/
import Derived.Test.YtboiakahhkihiaaA2
namespace Go.Proofs.Ytboiakahhkihiaa
open Go.RowKit
set_option linter.all false

/-- How many bits a word has. -/
def bW (wide : Bool) : Nat := if wide then 64 else 32
/-- Of the lowest n bits alone. -/
def D (n op a b : Nat) : Nat := dW n op (a % 2 ^ n) (b % 2 ^ n)
def T (n op a b : Nat) : Bool := tW n op (a % 2 ^ n) (b % 2 ^ n)

theorem ite_lt {p : Prop} [Decidable p] {x y m : Nat} (hx : x < m) (hy : y < m) : (if p then x else y) < m := by by_cases h : p <;> simp [h, hx, hy]
theorem dW_lt {n op a b : Nat} (ha : a < 2 ^ n) (hb : b < 2 ^ n) : dW n op a b < 2 ^ n := by
  have hp : 0 < 2 ^ n := Nat.two_pow_pos n
  unfold dW
  repeat' apply ite_lt
  · exact Nat.mod_lt _ hp
  · exact Nat.mod_lt _ hp
  · exact Nat.mod_lt _ hp
  · exact Nat.lt_of_le_of_lt (Nat.div_le_self _ _) ha
  · exact Nat.or_lt_two_pow ha hb
  · exact Nat.and_lt_two_pow _ hb
  · exact Nat.mod_lt _ hp
  · exact Nat.lt_of_le_of_lt (Nat.div_le_self _ _) ha
  · exact Nat.mod_lt _ hp
  · exact Nat.lt_of_le_of_lt (Nat.mod_le _ _) ha
  · exact Nat.xor_lt_two_pow ha hb
  · exact hb
  · have h0 := Int.emod_nonneg (sgn n a / ((2 ^ (b % n) : Nat) : Int)) (b := ((2 ^ n : Nat) : Int)) (by omega)
    have h1 := Int.emod_lt_of_pos (sgn n a / ((2 ^ (b % n) : Nat) : Int)) (b := ((2 ^ n : Nat) : Int)) (by omega)
    omega
  · exact hp
theorem D_lt (n op a b : Nat) : D n op a b < 2 ^ n := dW_lt (Nat.mod_lt _ (Nat.two_pow_pos n)) (Nat.mod_lt _ (Nat.two_pow_pos n))
theorem D_lt64 (wide : Bool) (op a b : Nat) : D (bW wide) op a b < 18446744073709551616 := by
  have := D_lt (bW wide) op a b
  cases wide
  · exact Nat.lt_trans this (by decide)
  · exact this

theorem do_c {op a b : Nat} (wide : Bool) (w : World) (ha : a < 18446744073709551616) (hb : b < 18446744073709551616) : Calls Try.prog 27 #[.int .u8 (op : Int), .bool wide, .int .u64 (a : Int), .int .u64 (b : Int)] w fun x w' => x = .returned (.tuple #[.int .u64 ((D (bW wide) op a b : Nat) : Int), .bool (isO op)]) ∧ Calm w w' := by
  cases wide
  · have K : Hid (∀ w, Calls Try.prog 37 #[.int .u8 (op : Int), .int .u32 ((a : Int) % 4294967296), .int .u32 ((b : Int) % 4294967296)] w fun x w' => x = .returned (.tuple #[.int .u32 ((D 32 op a b : Nat) : Int), .bool (isO op)]) ∧ Calm w w') := Lib.hid fun w => do32_c (op := op) (a := a % 4294967296) (b := b % 4294967296) w (Nat.mod_lt _ (by decide)) (Nat.mod_lt _ (by decide))
    clear ha hb
    go_enter Try.func27, Try.ntmps27
    go_wp2_with fail
    refine (K.out _).mono ?_
    rintro x w0 ⟨rfl, hc0⟩
    have C0 := Lib.hid hc0
    clear hc0
    go_wp2_with fail
    go_ret2
    exact ⟨ret2_eq (wrapU64 (D_lt64 false op a b)) rfl, C0.out⟩
  · have K : Hid (∀ w, Calls Try.prog 36 #[.int .u8 (op : Int), .int .u64 (a : Int), .int .u64 (b : Int)] w fun x w' => x = .returned (.tuple #[.int .u64 ((D 64 op a b : Nat) : Int), .bool (isO op)]) ∧ Calm w w') := Lib.hid fun w => by
      have e1 : a % 2 ^ 64 = a := Nat.mod_eq_of_lt ha
      have e2 : b % 2 ^ 64 = b := Nat.mod_eq_of_lt hb
      unfold D
      rw [e1, e2]
      exact do64_c w ha hb
    clear ha hb
    go_enter Try.func27, Try.ntmps27
    go_wp2_with fail
    refine (K.out _).mono ?_
    rintro x w0 ⟨rfl, hc0⟩
    have C0 := Lib.hid hc0
    clear hc0
    go_wp2_with fail
    go_ret2
    exact ⟨rfl, C0.out⟩

theorem test_c {op a b : Nat} (wide : Bool) (w : World) (ha : a < 18446744073709551616) (hb : b < 18446744073709551616) : Calls Try.prog 29 #[.int .u8 (op : Int), .bool wide, .int .u64 (a : Int), .int .u64 (b : Int)] w fun x w' => x = .returned (.tuple #[.bool (T (bW wide) op a b), .bool (isT op)]) ∧ Calm w w' := by
  cases wide
  · have K : Hid (∀ w, Calls Try.prog 39 #[.int .u8 (op : Int), .int .u32 ((a : Int) % 4294967296), .int .u32 ((b : Int) % 4294967296)] w fun x w' => x = .returned (.tuple #[.bool (T 32 op a b), .bool (isT op)]) ∧ Calm w w') := Lib.hid fun w => test32_c (op := op) (a := a % 4294967296) (b := b % 4294967296) w (Nat.mod_lt _ (by decide)) (Nat.mod_lt _ (by decide))
    clear ha hb
    go_enter Try.func29, Try.ntmps29
    go_wp2_with fail
    refine (K.out _).mono ?_
    rintro x w0 ⟨rfl, hc0⟩
    have C0 := Lib.hid hc0
    clear hc0
    go_wp2_with fail
    go_ret2
    exact ⟨rfl, C0.out⟩
  · have K : Hid (∀ w, Calls Try.prog 38 #[.int .u8 (op : Int), .int .u64 (a : Int), .int .u64 (b : Int)] w fun x w' => x = .returned (.tuple #[.bool (T 64 op a b), .bool (isT op)]) ∧ Calm w w') := Lib.hid fun w => by
      have e1 : a % 2 ^ 64 = a := Nat.mod_eq_of_lt ha
      have e2 : b % 2 ^ 64 = b := Nat.mod_eq_of_lt hb
      unfold T
      rw [e1, e2]
      exact test64_c w ha hb
    clear ha hb
    go_enter Try.func29, Try.ntmps29
    go_wp2_with fail
    refine (K.out _).mono ?_
    rintro x w0 ⟨rfl, hc0⟩
    have C0 := Lib.hid hc0
    clear hc0
    go_wp2_with fail
    go_ret2
    exact ⟨rfl, C0.out⟩

end Go.Proofs.Ytboiakahhkihiaa
