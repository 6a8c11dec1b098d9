/-
  Package alu: quotient, remainder, places, signed.
-/
import Derived.Test.YtboiakahhkihiaaProg
import Derived.Test.YtboiakahhkihiaaMem
import Derived.Test.YtboiakahhkihiaaRegion
import Derived.Laws.BitsAllLaws
import Derived.BigQuiet
namespace Go.Proofs.Ytboiakahhkihiaa
open Go.RowKit
set_option linter.all false

/-- A number of n bits with its sign. -/
def sgn (n a : Nat) : Int := if a < 2 ^ (n - 1) then (a : Int) else (a : Int) - ((2 ^ n : Nat) : Int)
theorem sgn64 {a : Nat} (h : a < 18446744073709551616) : wrap64 (a : Int) = sgn 64 a := by
  unfold wrap64
  show _ = if a < 9223372036854775808 then (a : Int) else (a : Int) - 18446744073709551616
  split <;> omega
theorem sgn32 {a : Nat} (h : a < 4294967296) : wrap64 (wrap32 (a : Int)) = sgn 32 a := by
  unfold wrap64 wrap32
  show _ = if a < 2147483648 then (a : Int) else (a : Int) - 4294967296
  split <;> omega
theorem ret_eq {k : IntKind} {x y : Int} (h : x = y) : Ending.returned (.int k x) = Ending.returned (.int k y) := by rw [h]
theorem wrapU64 {x : Nat} (h : x < 18446744073709551616) : IntKind.u64.wrap (x : Int) = (x : Int) := by rw [IntKind.wrap_u64]; omega
theorem wrapU32 {x : Nat} (h : x < 4294967296) : IntKind.u32.wrap (x : Int) = (x : Int) := by rw [IntKind.wrap_u32]; omega

theorem assert_no (v : Value) (w : World) : (Instr.typeAssert (.iface 22 v) 20 63 true).run Try.prog w = .ok (.tuple #[.int .u32 0, .bool false]) w := by kernel_rfl
theorem assert_yes (v : Value) (w : World) : (Instr.typeAssert (.iface 63 v) 20 63 true).run Try.prog w = .ok (.tuple #[v, .bool true]) w := by kernel_rfl

section
variable {a b : Nat} (w : World)
theorem quo64_c (ha : a < 18446744073709551616) : Calls Try.prog 54 #[.int .u64 (a : Int), .int .u64 (b : Int)] w fun x w' => x = .returned (.int .u64 ((a / b : Nat) : Int)) ∧ Calm w w' := by
  by_cases h : b = 0
  · subst h
    go_enter Try.func54, Try.ntmps54
    go_wp2_with fail
    go_ret
    exact ⟨by simp, Keep.refl _ w⟩
  · have h1 : ((b : Int) == 0) = false := by simpa using h
    go_enter Try.func54, Try.ntmps54
    go_wp2_with fail
    go_ret
    have := Nat.div_le_self a b
    refine ⟨?_, Keep.refl _ w⟩
    exact ret_eq (wrapU64 (x := a / b) (by omega))
theorem quo32_c (ha : a < 4294967296) : Calls Try.prog 58 #[.int .u32 (a : Int), .int .u32 (b : Int)] w fun x w' => x = .returned (.int .u32 ((a / b : Nat) : Int)) ∧ Calm w w' := by
  by_cases h : b = 0
  · subst h
    go_enter Try.func58, Try.ntmps58
    go_wp2_with fail
    go_ret
    exact ⟨by simp, Keep.refl _ w⟩
  · have h1 : ((b : Int) == 0) = false := by simpa using h
    go_enter Try.func58, Try.ntmps58
    go_wp2_with fail
    go_ret
    have := Nat.div_le_self a b
    refine ⟨?_, Keep.refl _ w⟩
    exact ret_eq (wrapU32 (x := a / b) (by omega))
theorem rem64_c (ha : a < 18446744073709551616) : Calls Try.prog 56 #[.int .u64 (a : Int), .int .u64 (b : Int)] w fun x w' => x = .returned (.int .u64 ((a % b : Nat) : Int)) ∧ Calm w w' := by
  by_cases h : b = 0
  · subst h
    go_enter Try.func56, Try.ntmps56
    go_wp2_with fail
    go_ret
    exact ⟨by simp, Keep.refl _ w⟩
  · have h1 : ((b : Int) == 0) = false := by simpa using h
    go_enter Try.func56, Try.ntmps56
    go_wp2_with fail
    go_ret
    refine ⟨?_, Keep.refl _ w⟩
    try rfl
theorem rem32_c (ha : a < 4294967296) : Calls Try.prog 60 #[.int .u32 (a : Int), .int .u32 (b : Int)] w fun x w' => x = .returned (.int .u32 ((a % b : Nat) : Int)) ∧ Calm w w' := by
  by_cases h : b = 0
  · subst h
    go_enter Try.func60, Try.ntmps60
    go_wp2_with fail
    go_ret
    exact ⟨by simp, Keep.refl _ w⟩
  · have h1 : ((b : Int) == 0) = false := by simpa using h
    go_enter Try.func60, Try.ntmps60
    go_wp2_with fail
    go_ret
    refine ⟨?_, Keep.refl _ w⟩
    try rfl
theorem ones64_c : Calls Try.prog 68 #[.int .u64 18446744073709551615] w fun x w' => x = .returned (.int .i64 64) ∧ Calm w w' := by
  go_enter Try.func68, Try.ntmps68
  go_wp2_with fail
  go_ret
  exact ⟨ret_eq (by decide +kernel), Keep.refl _ w⟩
theorem ones32_c : Calls Try.prog 68 #[.int .u64 4294967295] w fun x w' => x = .returned (.int .i64 32) ∧ Calm w w' := by
  go_enter Try.func68, Try.ntmps68
  go_wp2_with fail
  go_ret
  exact ⟨ret_eq (by decide +kernel), Keep.refl _ w⟩
theorem places64_c  : Calls Try.prog 55 #[.int .u64 (b : Int)] w fun x w' => x = .returned (.int .u64 ((b % 64 : Nat) : Int)) ∧ Calm w w' := by
  have e : bits .xor .u64 IntKind.u64.max 0 = 18446744073709551615 := by decide +kernel
  have sg : IntKind.u64.signed = false := rfl
  go_enter Try.func55, Try.ntmps55
  go_wp2_with fail
  refine (ones64_c w).mono ?_
  rintro e w1 ⟨rfl, hc⟩
  have C := Lib.hid hc
  clear hc
  go_wp2_with fail
  go_ret
  refine ⟨?_, C.out⟩
  try rfl
theorem places32_c  : Calls Try.prog 59 #[.int .u32 (b : Int)] w fun x w' => x = .returned (.int .u32 ((b % 32 : Nat) : Int)) ∧ Calm w w' := by
  have e : bits .xor .u32 IntKind.u32.max 0 = 4294967295 := by decide +kernel
  have sg : IntKind.u32.signed = false := rfl
  go_enter Try.func59, Try.ntmps59
  go_wp2_with fail
  refine (ones32_c w).mono ?_
  rintro e w1 ⟨rfl, hc⟩
  have C := Lib.hid hc
  clear hc
  go_wp2_with fail
  go_ret
  refine ⟨?_, C.out⟩
  try rfl
theorem signed64_c (ha : a < 18446744073709551616) : Calls Try.prog 57 #[.int .u64 (a : Int)] w fun x w' => x = .returned (.int .i64 (sgn 64 a)) ∧ Calm w w' := by
  have h := assert_no
  have H := Lib.hid (sgn64 ha)
  clear ha
  go_enter Try.func57, Try.ntmps57
  go_wp2_with fail
  go_ret
  exact ⟨ret_eq H.out, Keep.refl _ w⟩
theorem signed32_c (ha : a < 4294967296) : Calls Try.prog 61 #[.int .u32 (a : Int)] w fun x w' => x = .returned (.int .i64 (sgn 32 a)) ∧ Calm w w' := by
  have h := assert_yes
  have H := Lib.hid (sgn32 ha)
  clear ha
  go_enter Try.func61, Try.ntmps61
  go_wp2_with fail
  go_ret
  exact ⟨ret_eq H.out, Keep.refl _ w⟩
end

end Go.Proofs.Ytboiakahhkihiaa
