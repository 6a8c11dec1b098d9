/-
  The walk of AluBits.
-/
import Derived.Test.YtilkmopclijclaaA4
import Derived.Test.YtilkmopclijclaaAL
namespace Go.Proofs.Ytilkmopclijclaa
open Go.RowKit
set_option linter.all false

set_option maxHeartbeats 1600000 in
theorem aluBits_false {a b : Nat} (ha : a < 18446744073709551616) (hb : b < 18446744073709551616) (w : World) : Calls Try.prog 10 #[.bool false, .int .u64 (a : Int), .int .u64 (b : Int)] w fun e w' => e = .returned (.bool true) ∧ Calm w w' := by
  obtain ⟨c, ec⟩ : ∃ z, z = D (bW false) 80 a b := ⟨_, rfl⟩
  have lc : c < 18446744073709551616 := by rw [ec]; exact D_lt64 false _ _ _
  obtain ⟨o, eo⟩ : ∃ z, z = D (bW false) 64 a b := ⟨_, rfl⟩
  have lo : o < 18446744073709551616 := by rw [eo]; exact D_lt64 false _ _ _
  obtain ⟨x, ex⟩ : ∃ z, z = D (bW false) 160 a b := ⟨_, rfl⟩
  have lx : x < 18446744073709551616 := by rw [ex]; exact D_lt64 false _ _ _
  obtain ⟨s, es⟩ : ∃ z, z = D (bW false) 0 a b := ⟨_, rfl⟩
  have ls : s < 18446744073709551616 := by rw [es]; exact D_lt64 false _ _ _
  obtain ⟨g, eg⟩ : ∃ z, z = D (bW false) 128 b 0 := ⟨_, rfl⟩
  have lg : g < 18446744073709551616 := by rw [eg]; exact D_lt64 false _ _ _
  obtain ⟨u, eu⟩ : ∃ z, z = D (bW false) 16 a b := ⟨_, rfl⟩
  have lu : u < 18446744073709551616 := by rw [eu]; exact D_lt64 false _ _ _
  have K1 : Hid (∀ w, Calls Try.prog 12 #[.int .u8 80, .bool false, .int .u64 (a : Int), .int .u64 (b : Int)] w fun ee w' => ee = .returned (.tuple #[.int .u64 (c : Int), .bool true]) ∧ Calm w w') := Lib.hid fun w => by
    have h := do_c (op := 80) (a := a) (b := b) false w ha hb
    rw [← ec] at h
    exact h
  have K2 : Hid (∀ w, Calls Try.prog 12 #[.int .u8 64, .bool false, .int .u64 (a : Int), .int .u64 (b : Int)] w fun ee w' => ee = .returned (.tuple #[.int .u64 (o : Int), .bool true]) ∧ Calm w w') := Lib.hid fun w => by
    have h := do_c (op := 64) (a := a) (b := b) false w ha hb
    rw [← eo] at h
    exact h
  have K3 : Hid (∀ w, Calls Try.prog 12 #[.int .u8 160, .bool false, .int .u64 (a : Int), .int .u64 (b : Int)] w fun ee w' => ee = .returned (.tuple #[.int .u64 (x : Int), .bool true]) ∧ Calm w w') := Lib.hid fun w => by
    have h := do_c (op := 160) (a := a) (b := b) false w ha hb
    rw [← ex] at h
    exact h
  have K4 : Hid (∀ w, Calls Try.prog 12 #[.int .u8 0, .bool false, .int .u64 (a : Int), .int .u64 (b : Int)] w fun ee w' => ee = .returned (.tuple #[.int .u64 (s : Int), .bool true]) ∧ Calm w w') := Lib.hid fun w => by
    have h := do_c (op := 0) (a := a) (b := b) false w ha hb
    rw [← es] at h
    exact h
  have K5 : Hid (∀ w, Calls Try.prog 12 #[.int .u8 0, .bool false, .int .u64 (c : Int), .int .u64 (o : Int)] w fun ee w' => ee = .returned (.tuple #[.int .u64 (s : Int), .bool true]) ∧ Calm w w') := Lib.hid fun w => by
    have h := do_c (op := 0) (a := c) (b := o) false w lc lo
    rw [show D (bW false) 0 c o = s from by rw [ec, eo, es]; exact bits_one] at h
    exact h
  have K6 : Hid (∀ w, Calls Try.prog 12 #[.int .u8 0, .bool false, .int .u64 (c : Int), .int .u64 (x : Int)] w fun ee w' => ee = .returned (.tuple #[.int .u64 (o : Int), .bool true]) ∧ Calm w w') := Lib.hid fun w => by
    have h := do_c (op := 0) (a := c) (b := x) false w lc lx
    rw [show D (bW false) 0 c x = o from by rw [ec, ex, eo]; exact bits_two] at h
    exact h
  have K7 : Hid (∀ w, Calls Try.prog 12 #[.int .u8 128, .bool false, .int .u64 (b : Int), .int .u64 0] w fun ee w' => ee = .returned (.tuple #[.int .u64 (g : Int), .bool true]) ∧ Calm w w') := Lib.hid fun w => by
    have h := do_c (op := 128) (a := b) (b := 0) false w hb (by decide)
    rw [← eg] at h
    exact h
  have K8 : Hid (∀ w, Calls Try.prog 12 #[.int .u8 16, .bool false, .int .u64 (a : Int), .int .u64 (b : Int)] w fun ee w' => ee = .returned (.tuple #[.int .u64 (u : Int), .bool true]) ∧ Calm w w') := Lib.hid fun w => by
    have h := do_c (op := 16) (a := a) (b := b) false w ha hb
    rw [← eu] at h
    exact h
  have K9 : Hid (∀ w, Calls Try.prog 12 #[.int .u8 0, .bool false, .int .u64 (a : Int), .int .u64 (g : Int)] w fun ee w' => ee = .returned (.tuple #[.int .u64 (u : Int), .bool true]) ∧ Calm w w') := Lib.hid fun w => by
    have h := do_c (op := 0) (a := a) (b := g) false w ha lg
    rw [show D (bW false) 0 a g = u from by rw [eg, eu]; exact bits_sub] at h
    exact h
  have K10 : Hid (∀ w, Calls Try.prog 18 #[.int .u8 64, .bool false, .int .u64 (a : Int), .int .u64 (b : Int)] w fun ee w' => ee = .returned (.tuple #[.bool ((c : Int) != 0), .bool true]) ∧ Calm w w') := Lib.hid fun w => by
    have h := test_c (op := 64) (a := a) (b := b) false w ha hb
    rw [bits_set, ← ec, show decide (¬ c = 0) = ((c : Int) != 0) by rw [Bool.eq_iff_iff]; simp] at h
    exact h
  clear ha hb ec eo ex es eg eu lc lo lx ls lg lu
  go_enter Try.func10, Try.ntmps10
  go_wp2_with fail
  refine (shown7_c _).mono ?_
  rintro x w0 ⟨rfl, hc⟩
  have C0 := Lib.hid hc
  clear hc
  go_wp2_with fail
  refine (K1.out _).mono ?_
  rintro x w1 ⟨rfl, hc⟩
  have C1 := Lib.hid (C0.out.trans (hc))
  clear hc
  go_wp2_with fail
  refine (K2.out _).mono ?_
  rintro x w2 ⟨rfl, hc⟩
  have C2 := Lib.hid (C1.out.trans (hc))
  clear hc
  go_wp2_with fail
  refine (K3.out _).mono ?_
  rintro x w3 ⟨rfl, hc⟩
  have C3 := Lib.hid (C2.out.trans (hc))
  clear hc
  go_wp2_with fail
  refine (K4.out _).mono ?_
  rintro x w4 ⟨rfl, hc⟩
  have C4 := Lib.hid (C3.out.trans (hc))
  clear hc
  go_wp2_with fail
  refine (K5.out _).mono ?_
  rintro x w5 ⟨rfl, hc⟩
  have C5 := Lib.hid (C4.out.trans (hc))
  clear hc
  go_wp2_with fail
  refine (K6.out _).mono ?_
  rintro x w6 ⟨rfl, hc⟩
  have C6 := Lib.hid (C5.out.trans (hc))
  clear hc
  go_wp2_with fail
  refine (K7.out _).mono ?_
  rintro x w7 ⟨rfl, hc⟩
  have C7 := Lib.hid (C6.out.trans (hc))
  clear hc
  go_wp2_with fail
  refine (K8.out _).mono ?_
  rintro x w8 ⟨rfl, hc⟩
  have C8 := Lib.hid (C7.out.trans (hc))
  clear hc
  go_wp2_with fail
  refine (K9.out _).mono ?_
  rintro x w9 ⟨rfl, hc⟩
  have C9 := Lib.hid (C8.out.trans (hc))
  clear hc
  go_wp2_with fail
  refine (K10.out _).mono ?_
  rintro x w10 ⟨rfl, hc⟩
  have C10 := Lib.hid (C9.out.trans (hc))
  clear hc
  go_wp2_with fail
  go_ret
  exact ⟨rfl, C10.out⟩

set_option maxHeartbeats 1600000 in
theorem aluBits_true {a b : Nat} (ha : a < 18446744073709551616) (hb : b < 18446744073709551616) (w : World) : Calls Try.prog 10 #[.bool true, .int .u64 (a : Int), .int .u64 (b : Int)] w fun e w' => e = .returned (.bool true) ∧ Calm w w' := by
  obtain ⟨c, ec⟩ : ∃ z, z = D (bW true) 80 a b := ⟨_, rfl⟩
  have lc : c < 18446744073709551616 := by rw [ec]; exact D_lt64 true _ _ _
  obtain ⟨o, eo⟩ : ∃ z, z = D (bW true) 64 a b := ⟨_, rfl⟩
  have lo : o < 18446744073709551616 := by rw [eo]; exact D_lt64 true _ _ _
  obtain ⟨x, ex⟩ : ∃ z, z = D (bW true) 160 a b := ⟨_, rfl⟩
  have lx : x < 18446744073709551616 := by rw [ex]; exact D_lt64 true _ _ _
  obtain ⟨s, es⟩ : ∃ z, z = D (bW true) 0 a b := ⟨_, rfl⟩
  have ls : s < 18446744073709551616 := by rw [es]; exact D_lt64 true _ _ _
  obtain ⟨g, eg⟩ : ∃ z, z = D (bW true) 128 b 0 := ⟨_, rfl⟩
  have lg : g < 18446744073709551616 := by rw [eg]; exact D_lt64 true _ _ _
  obtain ⟨u, eu⟩ : ∃ z, z = D (bW true) 16 a b := ⟨_, rfl⟩
  have lu : u < 18446744073709551616 := by rw [eu]; exact D_lt64 true _ _ _
  have K1 : Hid (∀ w, Calls Try.prog 12 #[.int .u8 80, .bool true, .int .u64 (a : Int), .int .u64 (b : Int)] w fun ee w' => ee = .returned (.tuple #[.int .u64 (c : Int), .bool true]) ∧ Calm w w') := Lib.hid fun w => by
    have h := do_c (op := 80) (a := a) (b := b) true w ha hb
    rw [← ec] at h
    exact h
  have K2 : Hid (∀ w, Calls Try.prog 12 #[.int .u8 64, .bool true, .int .u64 (a : Int), .int .u64 (b : Int)] w fun ee w' => ee = .returned (.tuple #[.int .u64 (o : Int), .bool true]) ∧ Calm w w') := Lib.hid fun w => by
    have h := do_c (op := 64) (a := a) (b := b) true w ha hb
    rw [← eo] at h
    exact h
  have K3 : Hid (∀ w, Calls Try.prog 12 #[.int .u8 160, .bool true, .int .u64 (a : Int), .int .u64 (b : Int)] w fun ee w' => ee = .returned (.tuple #[.int .u64 (x : Int), .bool true]) ∧ Calm w w') := Lib.hid fun w => by
    have h := do_c (op := 160) (a := a) (b := b) true w ha hb
    rw [← ex] at h
    exact h
  have K4 : Hid (∀ w, Calls Try.prog 12 #[.int .u8 0, .bool true, .int .u64 (a : Int), .int .u64 (b : Int)] w fun ee w' => ee = .returned (.tuple #[.int .u64 (s : Int), .bool true]) ∧ Calm w w') := Lib.hid fun w => by
    have h := do_c (op := 0) (a := a) (b := b) true w ha hb
    rw [← es] at h
    exact h
  have K5 : Hid (∀ w, Calls Try.prog 12 #[.int .u8 0, .bool true, .int .u64 (c : Int), .int .u64 (o : Int)] w fun ee w' => ee = .returned (.tuple #[.int .u64 (s : Int), .bool true]) ∧ Calm w w') := Lib.hid fun w => by
    have h := do_c (op := 0) (a := c) (b := o) true w lc lo
    rw [show D (bW true) 0 c o = s from by rw [ec, eo, es]; exact bits_one] at h
    exact h
  have K6 : Hid (∀ w, Calls Try.prog 12 #[.int .u8 0, .bool true, .int .u64 (c : Int), .int .u64 (x : Int)] w fun ee w' => ee = .returned (.tuple #[.int .u64 (o : Int), .bool true]) ∧ Calm w w') := Lib.hid fun w => by
    have h := do_c (op := 0) (a := c) (b := x) true w lc lx
    rw [show D (bW true) 0 c x = o from by rw [ec, ex, eo]; exact bits_two] at h
    exact h
  have K7 : Hid (∀ w, Calls Try.prog 12 #[.int .u8 128, .bool true, .int .u64 (b : Int), .int .u64 0] w fun ee w' => ee = .returned (.tuple #[.int .u64 (g : Int), .bool true]) ∧ Calm w w') := Lib.hid fun w => by
    have h := do_c (op := 128) (a := b) (b := 0) true w hb (by decide)
    rw [← eg] at h
    exact h
  have K8 : Hid (∀ w, Calls Try.prog 12 #[.int .u8 16, .bool true, .int .u64 (a : Int), .int .u64 (b : Int)] w fun ee w' => ee = .returned (.tuple #[.int .u64 (u : Int), .bool true]) ∧ Calm w w') := Lib.hid fun w => by
    have h := do_c (op := 16) (a := a) (b := b) true w ha hb
    rw [← eu] at h
    exact h
  have K9 : Hid (∀ w, Calls Try.prog 12 #[.int .u8 0, .bool true, .int .u64 (a : Int), .int .u64 (g : Int)] w fun ee w' => ee = .returned (.tuple #[.int .u64 (u : Int), .bool true]) ∧ Calm w w') := Lib.hid fun w => by
    have h := do_c (op := 0) (a := a) (b := g) true w ha lg
    rw [show D (bW true) 0 a g = u from by rw [eg, eu]; exact bits_sub] at h
    exact h
  have K10 : Hid (∀ w, Calls Try.prog 18 #[.int .u8 64, .bool true, .int .u64 (a : Int), .int .u64 (b : Int)] w fun ee w' => ee = .returned (.tuple #[.bool ((c : Int) != 0), .bool true]) ∧ Calm w w') := Lib.hid fun w => by
    have h := test_c (op := 64) (a := a) (b := b) true w ha hb
    rw [bits_set, ← ec, show decide (¬ c = 0) = ((c : Int) != 0) by rw [Bool.eq_iff_iff]; simp] at h
    exact h
  clear ha hb ec eo ex es eg eu lc lo lx ls lg lu
  go_enter Try.func10, Try.ntmps10
  go_wp2_with fail
  refine (shown7_c _).mono ?_
  rintro x w0 ⟨rfl, hc⟩
  have C0 := Lib.hid hc
  clear hc
  go_wp2_with fail
  refine (K1.out _).mono ?_
  rintro x w1 ⟨rfl, hc⟩
  have C1 := Lib.hid (C0.out.trans (hc))
  clear hc
  go_wp2_with fail
  refine (K2.out _).mono ?_
  rintro x w2 ⟨rfl, hc⟩
  have C2 := Lib.hid (C1.out.trans (hc))
  clear hc
  go_wp2_with fail
  refine (K3.out _).mono ?_
  rintro x w3 ⟨rfl, hc⟩
  have C3 := Lib.hid (C2.out.trans (hc))
  clear hc
  go_wp2_with fail
  refine (K4.out _).mono ?_
  rintro x w4 ⟨rfl, hc⟩
  have C4 := Lib.hid (C3.out.trans (hc))
  clear hc
  go_wp2_with fail
  refine (K5.out _).mono ?_
  rintro x w5 ⟨rfl, hc⟩
  have C5 := Lib.hid (C4.out.trans (hc))
  clear hc
  go_wp2_with fail
  refine (K6.out _).mono ?_
  rintro x w6 ⟨rfl, hc⟩
  have C6 := Lib.hid (C5.out.trans (hc))
  clear hc
  go_wp2_with fail
  refine (K7.out _).mono ?_
  rintro x w7 ⟨rfl, hc⟩
  have C7 := Lib.hid (C6.out.trans (hc))
  clear hc
  go_wp2_with fail
  refine (K8.out _).mono ?_
  rintro x w8 ⟨rfl, hc⟩
  have C8 := Lib.hid (C7.out.trans (hc))
  clear hc
  go_wp2_with fail
  refine (K9.out _).mono ?_
  rintro x w9 ⟨rfl, hc⟩
  have C9 := Lib.hid (C8.out.trans (hc))
  clear hc
  go_wp2_with fail
  refine (K10.out _).mono ?_
  rintro x w10 ⟨rfl, hc⟩
  have C10 := Lib.hid (C9.out.trans (hc))
  clear hc
  go_wp2_with fail
  go_ret
  exact ⟨rfl, C10.out⟩

theorem aluBits_w (wide : Bool) {a b : Nat} (ha : a < 18446744073709551616) (hb : b < 18446744073709551616) (w : World) : Calls Try.prog 10 #[.bool wide, .int .u64 (a : Int), .int .u64 (b : Int)] w fun e w' => e = .returned (.bool true) ∧ Calm w w' := by
  cases wide
  · exact aluBits_false ha hb w
  · exact aluBits_true ha hb w
end Go.Proofs.Ytilkmopclijclaa