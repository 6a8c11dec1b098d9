/-
  Package alu: Do, Test, Ops, Tests.
-/
import Derived.Test.YtilkmopclijclaaA2
import Derived.Test.YtilkmopclijclaaLRd
namespace Go.Proofs.Ytilkmopclijclaa
open Go.RowKit
set_option linter.all false

/-- How many bits a word has. -/
def bW (wide : Bool) : Nat := if wide then 64 else 32
/-- Of the lowest n bits alone. -/
def D (n op a b : Nat) : Nat := dW n op (a % 2 ^ n) (b % 2 ^ n)
def T (n op a b : Nat) : Bool := tW n op (a % 2 ^ n) (b % 2 ^ n)

theorem ite_lt {p : Prop} [Decidable p] {x y m : Nat} (hx : x < m) (hy : y < m) : (if p then x else y) < m := by by_cases h : p <;> simp [h, hx, hy]
theorem dW_lt {n op a b : Nat} (ha : a < 2 ^ n) (hb : b < 2 ^ n) : dW n op a b < 2 ^ n := by
  have hp : 0 < 2 ^ n := Nat.two_pow_pos n
  unfold dW
  repeat' apply ite_lt
  · exact Nat.mod_lt _ hp
  · exact Nat.mod_lt _ hp
  · exact Nat.mod_lt _ hp
  · exact Nat.lt_of_le_of_lt (Nat.div_le_self _ _) ha
  · exact Nat.or_lt_two_pow ha hb
  · exact Nat.and_lt_two_pow _ hb
  · exact Nat.mod_lt _ hp
  · exact Nat.lt_of_le_of_lt (Nat.div_le_self _ _) ha
  · exact Nat.mod_lt _ hp
  · exact Nat.lt_of_le_of_lt (Nat.mod_le _ _) ha
  · exact Nat.xor_lt_two_pow ha hb
  · exact hb
  · have h0 := Int.emod_nonneg (sgn n a / ((2 ^ (b % n) : Nat) : Int)) (b := ((2 ^ n : Nat) : Int)) (by omega)
    have h1 := Int.emod_lt_of_pos (sgn n a / ((2 ^ (b % n) : Nat) : Int)) (b := ((2 ^ n : Nat) : Int)) (by omega)
    omega
  · exact hp
theorem D_lt (n op a b : Nat) : D n op a b < 2 ^ n := dW_lt (Nat.mod_lt _ (Nat.two_pow_pos n)) (Nat.mod_lt _ (Nat.two_pow_pos n))
theorem D_lt64 (wide : Bool) (op a b : Nat) : D (bW wide) op a b < 18446744073709551616 := by
  have := D_lt (bW wide) op a b
  cases wide
  · exact Nat.lt_trans this (by decide)
  · exact this

theorem do_c {op a b : Nat} (wide : Bool) (w : World) (ha : a < 18446744073709551616) (hb : b < 18446744073709551616) : Calls Try.prog 12 #[.int .u8 (op : Int), .bool wide, .int .u64 (a : Int), .int .u64 (b : Int)] w fun x w' => x = .returned (.tuple #[.int .u64 ((D (bW wide) op a b : Nat) : Int), .bool (isO op)]) ∧ Calm w w' := by
  cases wide
  · have K : Hid (∀ w, Calls Try.prog 23 #[.int .u8 (op : Int), .int .u32 ((a : Int) % 4294967296), .int .u32 ((b : Int) % 4294967296)] w fun x w' => x = .returned (.tuple #[.int .u32 ((D 32 op a b : Nat) : Int), .bool (isO op)]) ∧ Calm w w') := Lib.hid fun w => do32_c (op := op) (a := a % 4294967296) (b := b % 4294967296) w (Nat.mod_lt _ (by decide)) (Nat.mod_lt _ (by decide))
    clear ha hb
    go_enter Try.func12, Try.ntmps12
    go_wp2_with fail
    refine (K.out _).mono ?_
    rintro x w0 ⟨rfl, hc0⟩
    have C0 := Lib.hid hc0
    clear hc0
    go_wp2_with fail
    go_ret2
    exact ⟨ret2_eq (wrapU64 (D_lt64 false op a b)) rfl, C0.out⟩
  · have K : Hid (∀ w, Calls Try.prog 22 #[.int .u8 (op : Int), .int .u64 (a : Int), .int .u64 (b : Int)] w fun x w' => x = .returned (.tuple #[.int .u64 ((D 64 op a b : Nat) : Int), .bool (isO op)]) ∧ Calm w w') := Lib.hid fun w => by
      have e1 : a % 2 ^ 64 = a := Nat.mod_eq_of_lt ha
      have e2 : b % 2 ^ 64 = b := Nat.mod_eq_of_lt hb
      unfold D
      rw [e1, e2]
      exact do64_c w ha hb
    clear ha hb
    go_enter Try.func12, Try.ntmps12
    go_wp2_with fail
    refine (K.out _).mono ?_
    rintro x w0 ⟨rfl, hc0⟩
    have C0 := Lib.hid hc0
    clear hc0
    go_wp2_with fail
    go_ret2
    exact ⟨rfl, C0.out⟩
theorem test_c {op a b : Nat} (wide : Bool) (w : World) (ha : a < 18446744073709551616) (hb : b < 18446744073709551616) : Calls Try.prog 18 #[.int .u8 (op : Int), .bool wide, .int .u64 (a : Int), .int .u64 (b : Int)] w fun x w' => x = .returned (.tuple #[.bool (T (bW wide) op a b), .bool (isT op)]) ∧ Calm w w' := by
  cases wide
  · have K : Hid (∀ w, Calls Try.prog 28 #[.int .u8 (op : Int), .int .u32 ((a : Int) % 4294967296), .int .u32 ((b : Int) % 4294967296)] w fun x w' => x = .returned (.tuple #[.bool (T 32 op a b), .bool (isT op)]) ∧ Calm w w') := Lib.hid fun w => test32_c (op := op) (a := a % 4294967296) (b := b % 4294967296) w (Nat.mod_lt _ (by decide)) (Nat.mod_lt _ (by decide))
    clear ha hb
    go_enter Try.func18, Try.ntmps18
    go_wp2_with fail
    refine (K.out _).mono ?_
    rintro x w0 ⟨rfl, hc0⟩
    have C0 := Lib.hid hc0
    clear hc0
    go_wp2_with fail
    go_ret2
    exact ⟨rfl, C0.out⟩
  · have K : Hid (∀ w, Calls Try.prog 27 #[.int .u8 (op : Int), .int .u64 (a : Int), .int .u64 (b : Int)] w fun x w' => x = .returned (.tuple #[.bool (T 64 op a b), .bool (isT op)]) ∧ Calm w w') := Lib.hid fun w => by
      have e1 : a % 2 ^ 64 = a := Nat.mod_eq_of_lt ha
      have e2 : b % 2 ^ 64 = b := Nat.mod_eq_of_lt hb
      unfold T
      rw [e1, e2]
      exact test64_c w ha hb
    clear ha hb
    go_enter Try.func18, Try.ntmps18
    go_wp2_with fail
    refine (K.out _).mono ?_
    rintro x w0 ⟨rfl, hc0⟩
    have C0 := Lib.hid hc0
    clear hc0
    go_wp2_with fail
    go_ret2
    exact ⟨rfl, C0.out⟩

def opsL : List UInt8 := [0, 16, 32, 48, 64, 80, 96, 112, 128, 144, 160, 176, 192]
def testsL : List UInt8 := [16, 32, 48, 64, 80, 96, 112, 160, 176, 192, 208]
/-- A slice that reads as these bytes, and has no more. -/
def Lit (w : World) (v : Value) (bs : List UInt8) : Prop := Rd w v bs ∧ ∃ ad c, v = .slice (some ad) bs.length c
theorem Lit.calm {w w' : World} {v : Value} {bs : List UInt8} (h : Lit w v bs) (hc : Calm w w') : Lit w' v bs := ⟨h.1.calm hc, h.2⟩
theorem ops_c (w : World) : Calls Try.prog 15 #[] w fun x w' => ∃ v, x = .returned v ∧ Calm w w' ∧ Lit w' v opsL := by
  go_enter Try.func15, Try.ntmps15
  go_wp2_with fail
  go_ret
  exact ⟨_, rfl, (Keep.refl _ w).alloc _, Rd.made w opsL 13 _ rfl rfl (by decide), _, _, rfl⟩
theorem tests_c (w : World) : Calls Try.prog 20 #[] w fun x w' => ∃ v, x = .returned v ∧ Calm w w' ∧ Lit w' v testsL := by
  go_enter Try.func20, Try.ntmps20
  go_wp2_with fail
  go_ret
  exact ⟨_, rfl, (Keep.refl _ w).alloc _, Rd.made w testsL 11 _ rfl rfl (by decide), _, _, rfl⟩
theorem rtests_c (w : World) : Calls Try.prog 21 #[] w fun x w' => ∃ v, x = .returned v ∧ Calm w w' ∧ Lit w' v testsL := by
  go_enter Try.func21, Try.ntmps21
  go_wp2_with fail
  go_ret
  exact ⟨_, rfl, (Keep.refl _ w).alloc _, Rd.made w testsL 11 _ rfl rfl (by decide), _, _, rfl⟩
end Go.Proofs.Ytilkmopclijclaa
