/-
  The walk of AluLow.
-/
import Derived.Test.YtilkmopclijclaaA4
import Derived.Test.YtilkmopclijclaaAL
namespace Go.Proofs.Ytilkmopclijclaa
open Go.RowKit
set_option linter.all false

set_option maxHeartbeats 1600000 in
theorem aluLow_false {op a b c d : Nat} (ha : a < 18446744073709551616) (hb : b < 18446744073709551616) (hc : c < 18446744073709551616) (hd : d < 18446744073709551616) (w : World) : Calls Try.prog 6 #[.int .u8 (op : Int), .int .u64 (a : Int), .int .u64 (b : Int), .int .u64 (c : Int), .int .u64 (d : Int)] w fun e w' => e = .returned (.bool true) ∧ Calm w w' := by
  obtain ⟨a1, ea1⟩ : ∃ z, z = a &&& 4294967295 := ⟨_, rfl⟩
  have ma : bits .and .u64 (a : Int) 4294967295 = (a1 : Int) := by rw [ea1]; exact u64_and_nat a 4294967295 ha (by decide)
  have la1 : a1 < 18446744073709551616 := by rw [ea1]; exact Nat.lt_of_le_of_lt Nat.and_le_left ha
  obtain ⟨c1, ec1⟩ : ∃ z, z = c * 2 ^ 32 % 18446744073709551616 := ⟨_, rfl⟩
  have mc : IntKind.u64.wrap ((c : Int) * 4294967296) = (c1 : Int) := by rw [ec1, IntKind.wrap_u64]; omega
  have lc1 : c1 < 18446744073709551616 := by rw [ec1]; exact Nat.mod_lt _ (by decide)
  obtain ⟨a2, ea2⟩ : ∃ z, z = a1 ||| c1 := ⟨_, rfl⟩
  have oa : bits .or .u64 (a1 : Int) (c1 : Int) = (a2 : Int) := by rw [ea2]; exact u64_or_nat a1 c1 la1 lc1
  have la2 : a2 < 18446744073709551616 := by rw [ea2]; exact Nat.or_lt_two_pow (n := 64) la1 lc1
  have fa : a2 % 4294967296 = a % 4294967296 := by rw [ea2, ea1, ec1]; exact low_join a c
  obtain ⟨b1, eb1⟩ : ∃ z, z = b &&& 4294967295 := ⟨_, rfl⟩
  have mb : bits .and .u64 (b : Int) 4294967295 = (b1 : Int) := by rw [eb1]; exact u64_and_nat b 4294967295 hb (by decide)
  have lb1 : b1 < 18446744073709551616 := by rw [eb1]; exact Nat.lt_of_le_of_lt Nat.and_le_left hb
  obtain ⟨d1, ed1⟩ : ∃ z, z = d * 2 ^ 32 % 18446744073709551616 := ⟨_, rfl⟩
  have md : IntKind.u64.wrap ((d : Int) * 4294967296) = (d1 : Int) := by rw [ed1, IntKind.wrap_u64]; omega
  have ld1 : d1 < 18446744073709551616 := by rw [ed1]; exact Nat.mod_lt _ (by decide)
  obtain ⟨b2, eb2⟩ : ∃ z, z = b1 ||| d1 := ⟨_, rfl⟩
  have ob : bits .or .u64 (b1 : Int) (d1 : Int) = (b2 : Int) := by rw [eb2]; exact u64_or_nat b1 d1 lb1 ld1
  have lb2 : b2 < 18446744073709551616 := by rw [eb2]; exact Nat.or_lt_two_pow (n := 64) lb1 ld1
  have fb : b2 % 4294967296 = b % 4294967296 := by rw [eb2, eb1, ed1]; exact low_join b d
  obtain ⟨x, ex⟩ : ∃ z, z = D (bW false) op a b := ⟨_, rfl⟩
  have lx : x < 4294967296 := by rw [ex]; exact D_lt 32 _ _ _
  have ix : (x : Int) / 4294967296 = 0 := by omega
  obtain ⟨ok, eok⟩ : ∃ z, z = isO op := ⟨_, rfl⟩
  obtain ⟨t, et⟩ : ∃ z, z = T (bW false) op a b := ⟨_, rfl⟩
  obtain ⟨kt, ekt⟩ : ∃ z, z = isT op := ⟨_, rfl⟩
  have K1 : Hid (∀ w, Calls Try.prog 12 #[.int .u8 (op : Int), .bool false, .int .u64 (a : Int), .int .u64 (b : Int)] w fun ee w' => ee = .returned (.tuple #[.int .u64 (x : Int), .bool ok]) ∧ Calm w w') := Lib.hid fun w => by
    have h := do_c (op := op) (a := a) (b := b) false w ha hb
    rw [← ex, ← eok] at h
    exact h
  have K2 : Hid (∀ w, Calls Try.prog 12 #[.int .u8 (op : Int), .bool false, .int .u64 (a2 : Int), .int .u64 (b2 : Int)] w fun ee w' => ee = .returned (.tuple #[.int .u64 (x : Int), .bool ok]) ∧ Calm w w') := Lib.hid fun w => by
    have h := do_c (op := op) (a := a2) (b := b2) false w la2 lb2
    rw [show D (bW false) op a2 b2 = x from by rw [ex]; exact low_D fa fb op, ← eok] at h
    exact h
  have K3 : Hid (∀ w, Calls Try.prog 18 #[.int .u8 (op : Int), .bool false, .int .u64 (a : Int), .int .u64 (b : Int)] w fun ee w' => ee = .returned (.tuple #[.bool t, .bool kt]) ∧ Calm w w') := Lib.hid fun w => by
    have h := test_c (op := op) (a := a) (b := b) false w ha hb
    rw [← et, ← ekt] at h
    exact h
  have K4 : Hid (∀ w, Calls Try.prog 18 #[.int .u8 (op : Int), .bool false, .int .u64 (a2 : Int), .int .u64 (b2 : Int)] w fun ee w' => ee = .returned (.tuple #[.bool t, .bool kt]) ∧ Calm w w') := Lib.hid fun w => by
    have h := test_c (op := op) (a := a2) (b := b2) false w la2 lb2
    rw [show T (bW false) op a2 b2 = t from by rw [et]; exact low_T fa fb op, ← ekt] at h
    exact h
  clear ha hb hc hd ea1 eb1 ec1 ed1 ea2 eb2 la1 lb1 lc1 ld1 la2 lb2 fa fb ex eok et ekt lx
  go_enter Try.func6, Try.ntmps6
  go_wp2_with fail
  refine (shown7_c _).mono ?_
  rintro x w0 ⟨rfl, hc⟩
  have C0 := Lib.hid hc
  clear hc
  go_wp2_with fail
  refine (K1.out _).mono ?_
  rintro x w1 ⟨rfl, hc⟩
  have C1 := Lib.hid (C0.out.trans (hc))
  clear hc
  go_wp2_with fail
  refine (K2.out _).mono ?_
  rintro x w2 ⟨rfl, hc⟩
  have C2 := Lib.hid (C1.out.trans (hc))
  clear hc
  go_wp2_with fail
  refine (K3.out _).mono ?_
  rintro x w3 ⟨rfl, hc⟩
  have C3 := Lib.hid (C2.out.trans (hc))
  clear hc
  go_wp2_with fail
  refine (K4.out _).mono ?_
  rintro x w4 ⟨rfl, hc⟩
  have C4 := Lib.hid (C3.out.trans (hc))
  clear hc
  go_wp2_with fail
  go_ret
  exact ⟨rfl, C4.out⟩

end Go.Proofs.Ytilkmopclijclaa