/-
  Package isa: countFits, insnOf.
-/
import Derived.Test.YthmiiddojccafaaIP
namespace Go.Proofs.Ythmiiddojccafaa
open Go.RowKit
set_option linter.all false

theorem countFits_c (n : Nat) (w : World) : Calls Try.prog 41 #[.int .i64 (n : Int)] w fun x w' => x = .returned (.bool (decide (1 ≤ n ∧ n ≤ 512))) ∧ w = w' := by
  by_cases h1 : 1 ≤ n
  · by_cases h2 : n ≤ 512
    · have i1 : (1 : Int) ≤ (n : Int) := by omega
      have i2 : (n : Int) ≤ 512 := by omega
      go_enter Try.func41, Try.ntmps41
      go_wp2_with fail
      go_ret
      exact ⟨by rw [decide_eq_true ⟨h1, h2⟩]; rfl, rfl⟩
    · have i1 : (1 : Int) ≤ (n : Int) := by omega
      have i2 : ¬ ((n : Int) ≤ 512) := by omega
      go_enter Try.func41, Try.ntmps41
      go_wp2_with fail
      go_ret
      exact ⟨rfl, rfl⟩
  · have i1 : ¬ ((1 : Int) ≤ (n : Int)) := by omega
    go_enter Try.func41, Try.ntmps41
    go_wp2_with fail
    go_ret
    exact ⟨rfl, rfl⟩

theorem ofInt_nat (k n : Nat) (h : n < 2 ^ k) : (BitVec.ofInt k (n : Int)).toNat = n := by
  rw [BitVec.toNat_ofInt]
  rw [← Int.natCast_emod, Int.toNat_natCast, Nat.mod_eq_of_lt h]
theorem wrap_i16 (n : Int) : IntKind.i16.wrap n = (n + 32768) % 65536 - 32768 := by
  simp [IntKind.wrap, IntKind.bits, IntKind.signed]
  try omega
theorem wrap_i32 (n : Int) : IntKind.i32.wrap n = (n + 2147483648) % 4294967296 - 2147483648 := by
  simp [IntKind.wrap, IntKind.bits, IntKind.signed]
  try omega
theorem or_16 (x y : Int) : bits .or .i16 x y = IntKind.i16.wrap (((x % 65536).toNat ||| (y % 65536).toNat : Nat) : Int) := by
  show IntKind.i16.wrap ((BitVec.ofInt 16 x ||| BitVec.ofInt 16 y).toNat : Nat) = _
  rw [BitVec.toNat_or, BitVec.toNat_ofInt, BitVec.toNat_ofInt]
  rfl
theorem or_32 (x y : Int) : bits .or .i32 x y = IntKind.i32.wrap (((x % 4294967296).toNat ||| (y % 4294967296).toNat : Nat) : Int) := by
  show IntKind.i32.wrap ((BitVec.ofInt 32 x ||| BitVec.ofInt 32 y).toNat : Nat) = _
  rw [BitVec.toNat_or, BitVec.toNat_ofInt, BitVec.toNat_ofInt]
  rfl
/-- a | b << 8 of two bytes, as an int16. -/
theorem or16 (a b : Nat) (ha : a < 256) (hb : b < 256) : bits .or .i16 (a : Int) (IntKind.i16.wrap ((b : Int) * 256)) = s16 (a + 256 * b) := by
  rw [or_16, wrap_i16, wrap_i16]
  have e1 : ((a : Int) % 65536).toNat = a := by omega
  have e2 : ((((b : Int) * 256 + 32768) % 65536 - 32768) % 65536).toNat = b * 256 := by omega
  rw [e1, e2, Nat.or_comm, Go.nat_join 8 (b * 256) a (by omega) ha]
  unfold s16
  split <;> omega
theorem or32a (a b : Nat) (ha : a < 256) (hb : b < 256) : bits .or .i32 (a : Int) (IntKind.i32.wrap ((b : Int) * 256)) = ((a + 256 * b : Nat) : Int) := by
  rw [or_32, wrap_i32, wrap_i32]
  have e1 : ((a : Int) % 4294967296).toNat = a := by omega
  have e2 : ((((b : Int) * 256 + 2147483648) % 4294967296 - 2147483648) % 4294967296).toNat = b * 256 := by omega
  have e3 : b * 256 % 2 ^ 8 = 0 := Nat.mul_mod_left b 256
  rw [e1, e2, Nat.or_comm, Go.nat_join 8 (b * 256) a e3 ha]
  omega
theorem or32b (a b : Nat) (ha : a < 65536) (hb : b < 256) : bits .or .i32 (a : Int) (IntKind.i32.wrap ((b : Int) * 65536)) = ((a + 65536 * b : Nat) : Int) := by
  rw [or_32, wrap_i32, wrap_i32]
  have e1 : ((a : Int) % 4294967296).toNat = a := by omega
  have e2 : ((((b : Int) * 65536 + 2147483648) % 4294967296 - 2147483648) % 4294967296).toNat = b * 65536 := by omega
  have e3 : b * 65536 % 2 ^ 16 = 0 := Nat.mul_mod_left b 65536
  rw [e1, e2, Nat.or_comm, Go.nat_join 16 (b * 65536) a e3 ha]
  omega
theorem or32c (a b : Nat) (ha : a < 16777216) (hb : b < 256) : bits .or .i32 (a : Int) (IntKind.i32.wrap ((b : Int) * 16777216)) = s32 (a + 16777216 * b) := by
  rw [or_32, wrap_i32, wrap_i32]
  have e1 : ((a : Int) % 4294967296).toNat = a := by omega
  have e2 : ((((b : Int) * 16777216 + 2147483648) % 4294967296 - 2147483648) % 4294967296).toNat = b * 16777216 := by omega
  have e3 : b * 16777216 % 2 ^ 24 = 0 := Nat.mul_mod_left b 16777216
  rw [e1, e2, Nat.or_comm, Go.nat_join 24 (b * 16777216) a e3 ha]
  unfold s32
  split <;> omega
end Go.Proofs.Ythmiiddojccafaa
