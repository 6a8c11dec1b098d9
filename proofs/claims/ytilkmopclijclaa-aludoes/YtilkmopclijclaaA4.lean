/-
  What is shown ahead of each statement on alu.
-/
import Derived.Test.YtilkmopclijclaaA3
namespace Go.Proofs.Ytilkmopclijclaa
open Go.RowKit
set_option linter.all false

set_option maxHeartbeats 1600000 in
theorem shown7_c (w : World) : Calls Try.prog 11 #[] w fun x w' => x = .returned (.bool true) ∧ Calm w w' := by
  have K1 : Hid (∀ w, Calls Try.prog 12 #[.int .u8 48, .bool true, .int .u64 7, .int .u64 0] w fun x w' => x = .returned (.tuple #[.int .u64 0, .bool true]) ∧ Calm w w') := Lib.hid fun w => do_c (op := 48) (a := 7) (b := 0) true w (by decide) (by decide)
  have K2 : Hid (∀ w, Calls Try.prog 12 #[.int .u8 144, .bool true, .int .u64 7, .int .u64 0] w fun x w' => x = .returned (.tuple #[.int .u64 7, .bool true]) ∧ Calm w w') := Lib.hid fun w => do_c (op := 144) (a := 7) (b := 0) true w (by decide) (by decide)
  have K3 : Hid (∀ w, Calls Try.prog 12 #[.int .u8 192, .bool false, .int .u64 2147483648, .int .u64 31] w fun x w' => x = .returned (.tuple #[.int .u64 4294967295, .bool true]) ∧ Calm w w') := Lib.hid fun w => do_c (op := 192) (a := 2147483648) (b := 31) false w (by decide) (by decide)
  have K4 : Hid (∀ w, Calls Try.prog 18 #[.int .u8 192, .bool true, .int .u64 9223372036854775808, .int .u64 0] w fun x w' => x = .returned (.tuple #[.bool true, .bool true]) ∧ Calm w w') := Lib.hid fun w => test_c (op := 192) (a := 9223372036854775808) (b := 0) true w (by decide) (by decide)
  go_enter Try.func11, Try.ntmps11
  go_wp2_with fail
  refine (K1.out _).mono ?_
  rintro x w1 ⟨rfl, hc⟩
  have C1 := Lib.hid hc
  clear hc
  go_wp2_with fail
  refine (K2.out _).mono ?_
  rintro x w2 ⟨rfl, hc⟩
  have C2 := Lib.hid (C1.out.trans hc)
  clear hc
  go_wp2_with fail
  refine (K3.out _).mono ?_
  rintro x w3 ⟨rfl, hc⟩
  have C3 := Lib.hid (C2.out.trans hc)
  clear hc
  go_wp2_with fail
  refine (K4.out _).mono ?_
  rintro x w4 ⟨rfl, hc⟩
  have C4 := Lib.hid (C3.out.trans hc)
  clear hc
  go_wp2_with fail
  refine (ops_c _).mono ?_
  rintro x w5 ⟨v, rfl, hc, -, ad, cap, rfl⟩
  have C5 := Lib.hid (C4.out.trans hc)
  clear hc
  go_wp2_with fail
  refine (tests_c _).mono ?_
  rintro x w6 ⟨v, rfl, hc, -, ad', cap', rfl⟩
  have C6 := Lib.hid (C5.out.trans hc)
  clear hc
  go_wp2_with fail
  go_ret
  exact ⟨rfl, C6.out⟩
end Go.Proofs.Ytilkmopclijclaa
