/-
  The walk of AluSigned.
-/
import Derived.Test.YtilkmopclijclaaA4
import Derived.Test.YtilkmopclijclaaAL
namespace Go.Proofs.Ytilkmopclijclaa
open Go.RowKit
set_option linter.all false


set_option maxHeartbeats 1600000 in
theorem aluSigned_false {a b : Nat} (ha : a < 18446744073709551616) (hb : b < 18446744073709551616) (w : World) : Calls Try.prog 8 #[.bool false, .int .u64 (a : Int), .int .u64 (b : Int)] w fun e w' => e = .returned (.bool true) ∧ Calm w w' := by
  obtain ⟨f0, f1, f2, f3⟩ := flip_T (x := a) (y := b) false 2147483648 rfl
  obtain ⟨a1, ea⟩ : ∃ z, z = a ^^^ 2147483648 := ⟨_, rfl⟩
  obtain ⟨b1, eb⟩ : ∃ z, z = b ^^^ 2147483648 := ⟨_, rfl⟩
  have ma : bits .xor .u64 (a : Int) 2147483648 = (a1 : Int) := by rw [ea]; exact u64_xor_nat a 2147483648 ha (by decide)
  have mb : bits .xor .u64 (b : Int) 2147483648 = (b1 : Int) := by rw [eb]; exact u64_xor_nat b 2147483648 hb (by decide)
  have la : a1 < 18446744073709551616 := by rw [ea]; exact Nat.xor_lt_two_pow (n := 64) ha (by decide)
  have lb : b1 < 18446744073709551616 := by rw [eb]; exact Nat.xor_lt_two_pow (n := 64) hb (by decide)
  rw [← ea, ← eb] at f0 f1 f2 f3
  obtain ⟨t0, e0⟩ : ∃ z, z = T (bW false) 96 a b := ⟨_, rfl⟩
  have K0 : Hid (∀ w, Calls Try.prog 18 #[.int .u8 96, .bool false, .int .u64 (a : Int), .int .u64 (b : Int)] w fun ee w' => ee = .returned (.tuple #[.bool t0, .bool true]) ∧ Calm w w') := Lib.hid fun w => by
    have h := test_c (op := 96) (a := a) (b := b) false w ha hb
    rw [← e0] at h
    exact h
  have L0 : Hid (∀ w, Calls Try.prog 18 #[.int .u8 32, .bool false, .int .u64 (a1 : Int), .int .u64 (b1 : Int)] w fun ee w' => ee = .returned (.tuple #[.bool t0, .bool true]) ∧ Calm w w') := Lib.hid fun w => by
    have h := test_c (op := 32) (a := a1) (b := b1) false w la lb
    rw [← f0, ← e0] at h
    exact h
  obtain ⟨t1, e1⟩ : ∃ z, z = T (bW false) 112 a b := ⟨_, rfl⟩
  have K1 : Hid (∀ w, Calls Try.prog 18 #[.int .u8 112, .bool false, .int .u64 (a : Int), .int .u64 (b : Int)] w fun ee w' => ee = .returned (.tuple #[.bool t1, .bool true]) ∧ Calm w w') := Lib.hid fun w => by
    have h := test_c (op := 112) (a := a) (b := b) false w ha hb
    rw [← e1] at h
    exact h
  have L1 : Hid (∀ w, Calls Try.prog 18 #[.int .u8 48, .bool false, .int .u64 (a1 : Int), .int .u64 (b1 : Int)] w fun ee w' => ee = .returned (.tuple #[.bool t1, .bool true]) ∧ Calm w w') := Lib.hid fun w => by
    have h := test_c (op := 48) (a := a1) (b := b1) false w la lb
    rw [← f1, ← e1] at h
    exact h
  obtain ⟨t2, e2⟩ : ∃ z, z = T (bW false) 192 a b := ⟨_, rfl⟩
  have K2 : Hid (∀ w, Calls Try.prog 18 #[.int .u8 192, .bool false, .int .u64 (a : Int), .int .u64 (b : Int)] w fun ee w' => ee = .returned (.tuple #[.bool t2, .bool true]) ∧ Calm w w') := Lib.hid fun w => by
    have h := test_c (op := 192) (a := a) (b := b) false w ha hb
    rw [← e2] at h
    exact h
  have L2 : Hid (∀ w, Calls Try.prog 18 #[.int .u8 160, .bool false, .int .u64 (a1 : Int), .int .u64 (b1 : Int)] w fun ee w' => ee = .returned (.tuple #[.bool t2, .bool true]) ∧ Calm w w') := Lib.hid fun w => by
    have h := test_c (op := 160) (a := a1) (b := b1) false w la lb
    rw [← f2, ← e2] at h
    exact h
  obtain ⟨t3, e3⟩ : ∃ z, z = T (bW false) 208 a b := ⟨_, rfl⟩
  have K3 : Hid (∀ w, Calls Try.prog 18 #[.int .u8 208, .bool false, .int .u64 (a : Int), .int .u64 (b : Int)] w fun ee w' => ee = .returned (.tuple #[.bool t3, .bool true]) ∧ Calm w w') := Lib.hid fun w => by
    have h := test_c (op := 208) (a := a) (b := b) false w ha hb
    rw [← e3] at h
    exact h
  have L3 : Hid (∀ w, Calls Try.prog 18 #[.int .u8 176, .bool false, .int .u64 (a1 : Int), .int .u64 (b1 : Int)] w fun ee w' => ee = .returned (.tuple #[.bool t3, .bool true]) ∧ Calm w w') := Lib.hid fun w => by
    have h := test_c (op := 176) (a := a1) (b := b1) false w la lb
    rw [← f3, ← e3] at h
    exact h
  clear ha hb la lb ea eb f0 f1 f2 f3 e0 e1 e2 e3
  go_enter Try.func8, Try.ntmps8
  go_wp2_with fail
  refine (shown7_c _).mono ?_
  rintro x w0 ⟨rfl, hc⟩
  have C0 := Lib.hid hc
  clear hc
  have R0 : Hid (Row (((((w0.alloc (.cells #[.int .u8 96, .int .u8 32] 5)).alloc (.cells #[.int .u8 112, .int .u8 48] 5)).alloc (.cells #[.int .u8 192, .int .u8 160] 5)).alloc (.cells #[.int .u8 208, .int .u8 176] 5)).alloc (.cells #[.slice (some ⟨w0.heap.size, 0, none⟩) 2 2, .slice (some ⟨w0.heap.size + 1, 0, none⟩) 2 2, .slice (some ⟨w0.heap.size + 1 + 1, 0, none⟩) 2 2, .slice (some ⟨w0.heap.size + 1 + 1 + 1, 0, none⟩) 2 2] 27)) (w0.heap.size) 5 #[.int .u8 96, .int .u8 32]) := Lib.hid (((((Row.made' w0 _ _ _ (by simp [size_alloc])).alloc _).alloc _).alloc _).alloc _)
  have R1 : Hid (Row (((((w0.alloc (.cells #[.int .u8 96, .int .u8 32] 5)).alloc (.cells #[.int .u8 112, .int .u8 48] 5)).alloc (.cells #[.int .u8 192, .int .u8 160] 5)).alloc (.cells #[.int .u8 208, .int .u8 176] 5)).alloc (.cells #[.slice (some ⟨w0.heap.size, 0, none⟩) 2 2, .slice (some ⟨w0.heap.size + 1, 0, none⟩) 2 2, .slice (some ⟨w0.heap.size + 1 + 1, 0, none⟩) 2 2, .slice (some ⟨w0.heap.size + 1 + 1 + 1, 0, none⟩) 2 2] 27)) (w0.heap.size + 1) 5 #[.int .u8 112, .int .u8 48]) := Lib.hid ((((Row.made' (w0.alloc (.cells #[.int .u8 96, .int .u8 32] 5)) _ _ _ (by simp [size_alloc])).alloc _).alloc _).alloc _)
  have R2 : Hid (Row (((((w0.alloc (.cells #[.int .u8 96, .int .u8 32] 5)).alloc (.cells #[.int .u8 112, .int .u8 48] 5)).alloc (.cells #[.int .u8 192, .int .u8 160] 5)).alloc (.cells #[.int .u8 208, .int .u8 176] 5)).alloc (.cells #[.slice (some ⟨w0.heap.size, 0, none⟩) 2 2, .slice (some ⟨w0.heap.size + 1, 0, none⟩) 2 2, .slice (some ⟨w0.heap.size + 1 + 1, 0, none⟩) 2 2, .slice (some ⟨w0.heap.size + 1 + 1 + 1, 0, none⟩) 2 2] 27)) (w0.heap.size + 1 + 1) 5 #[.int .u8 192, .int .u8 160]) := Lib.hid (((Row.made' ((w0.alloc (.cells #[.int .u8 96, .int .u8 32] 5)).alloc (.cells #[.int .u8 112, .int .u8 48] 5)) _ _ _ (by simp [size_alloc])).alloc _).alloc _)
  have R3 : Hid (Row (((((w0.alloc (.cells #[.int .u8 96, .int .u8 32] 5)).alloc (.cells #[.int .u8 112, .int .u8 48] 5)).alloc (.cells #[.int .u8 192, .int .u8 160] 5)).alloc (.cells #[.int .u8 208, .int .u8 176] 5)).alloc (.cells #[.slice (some ⟨w0.heap.size, 0, none⟩) 2 2, .slice (some ⟨w0.heap.size + 1, 0, none⟩) 2 2, .slice (some ⟨w0.heap.size + 1 + 1, 0, none⟩) 2 2, .slice (some ⟨w0.heap.size + 1 + 1 + 1, 0, none⟩) 2 2] 27)) (w0.heap.size + 1 + 1 + 1) 5 #[.int .u8 208, .int .u8 176]) := Lib.hid ((Row.made' (((w0.alloc (.cells #[.int .u8 96, .int .u8 32] 5)).alloc (.cells #[.int .u8 112, .int .u8 48] 5)).alloc (.cells #[.int .u8 192, .int .u8 160] 5)) _ _ _ (by simp [size_alloc])).alloc _)
  have Ro : Hid (Row (((((w0.alloc (.cells #[.int .u8 96, .int .u8 32] 5)).alloc (.cells #[.int .u8 112, .int .u8 48] 5)).alloc (.cells #[.int .u8 192, .int .u8 160] 5)).alloc (.cells #[.int .u8 208, .int .u8 176] 5)).alloc (.cells #[.slice (some ⟨w0.heap.size, 0, none⟩) 2 2, .slice (some ⟨w0.heap.size + 1, 0, none⟩) 2 2, .slice (some ⟨w0.heap.size + 1 + 1, 0, none⟩) 2 2, .slice (some ⟨w0.heap.size + 1 + 1 + 1, 0, none⟩) 2 2] 27)) (w0.heap.size + 1 + 1 + 1 + 1) 27 #[.slice (some ⟨w0.heap.size, 0, none⟩) 2 2, .slice (some ⟨w0.heap.size + 1, 0, none⟩) 2 2, .slice (some ⟨w0.heap.size + 1 + 1, 0, none⟩) 2 2, .slice (some ⟨w0.heap.size + 1 + 1 + 1, 0, none⟩) 2 2]) := Lib.hid (Row.made' ((((w0.alloc (.cells #[.int .u8 96, .int .u8 32] 5)).alloc (.cells #[.int .u8 112, .int .u8 48] 5)).alloc (.cells #[.int .u8 192, .int .u8 160] 5)).alloc (.cells #[.int .u8 208, .int .u8 176] 5)) _ _ _ (by simp [size_alloc]))
  have Rc : Hid (Calm w0 (((((w0.alloc (.cells #[.int .u8 96, .int .u8 32] 5)).alloc (.cells #[.int .u8 112, .int .u8 48] 5)).alloc (.cells #[.int .u8 192, .int .u8 160] 5)).alloc (.cells #[.int .u8 208, .int .u8 176] 5)).alloc (.cells #[.slice (some ⟨w0.heap.size, 0, none⟩) 2 2, .slice (some ⟨w0.heap.size + 1, 0, none⟩) 2 2, .slice (some ⟨w0.heap.size + 1 + 1, 0, none⟩) 2 2, .slice (some ⟨w0.heap.size + 1 + 1 + 1, 0, none⟩) 2 2] 27))) := Lib.hid ((((((Keep.refl _ w0).alloc _).alloc _).alloc _).alloc _).alloc _)
  go_wp2_with fail
  obtain ⟨wBR, hBR⟩ : ∃ x, x = (((((w0.alloc (.cells #[.int .u8 96, .int .u8 32] 5)).alloc (.cells #[.int .u8 112, .int .u8 48] 5)).alloc (.cells #[.int .u8 192, .int .u8 160] 5)).alloc (.cells #[.int .u8 208, .int .u8 176] 5)).alloc (.cells #[.slice (some ⟨w0.heap.size, 0, none⟩) 2 2, .slice (some ⟨w0.heap.size + 1, 0, none⟩) 2 2, .slice (some ⟨w0.heap.size + 1 + 1, 0, none⟩) 2 2, .slice (some ⟨w0.heap.size + 1 + 1 + 1, 0, none⟩) 2 2] 27)) := ⟨_, rfl⟩
  rw [← hBR] at R0 R1 R2 R3 Ro Rc ⊢
  clear hBR
  go_loopw [10] (fun i wr => ∃ k : Nat, k ≤ 4 ∧ i = .int .i64 k ∧ Calm wBR wr) (fun i _ => 4 - (intOf i).toNat)
  case atStart => exact ⟨0, by omega, rfl, Keep.refl _ _⟩
  case round =>
    obtain ⟨k, hk, rfl, hcal⟩ := hrel
    have HC := Lib.hid hcal
    clear hcal
    have hk4 : k = 0 ∨ k = 1 ∨ k = 2 ∨ k = 3 ∨ k = 4 := by omega
    clear hk
    rcases hk4 with rfl | rfl | rfl | rfl | rfl
    · have c0 : wr.cell? ⟨w0.heap.size + 1 + 1 + 1 + 1, 0, none⟩ = _ := (Ro.out.keep HC.out (fun e => e)).cell 0
      have c1 : wr.cell? ⟨w0.heap.size, 0, none⟩ = _ := (R0.out.keep HC.out (fun e => e)).cell 0
      simp only [List.getElem?_toArray, List.getElem?_cons_zero, List.getElem?_cons_succ] at c0 c1
      go_wp2_with fail
      refine (K0.out _).mono ?_
      rintro x w1 ⟨rfl, hc⟩
      have D1 := Lib.hid (HC.out.trans hc)
      clear hc c0 c1
      have c0 : w1.cell? ⟨w0.heap.size + 1 + 1 + 1 + 1, 0, none⟩ = _ := (Ro.out.keep D1.out (fun e => e)).cell 0
      have c1 : w1.cell? ⟨w0.heap.size, 1, none⟩ = _ := (R0.out.keep D1.out (fun e => e)).cell 1
      simp only [List.getElem?_toArray, List.getElem?_cons_zero, List.getElem?_cons_succ] at c0 c1
      go_wp2_with fail
      refine (L0.out _).mono ?_
      rintro x w2 ⟨rfl, hc⟩
      have D2 := Lib.hid (D1.out.trans hc)
      clear hc c0 c1
      go_wp2_with fail
      go_roundw
      case rel => exact ⟨1, by omega, by go_num, D2.out⟩
      case measure => simp [intOf]
    · have c0 : wr.cell? ⟨w0.heap.size + 1 + 1 + 1 + 1, 1, none⟩ = _ := (Ro.out.keep HC.out (fun e => e)).cell 1
      have c1 : wr.cell? ⟨w0.heap.size + 1, 0, none⟩ = _ := (R1.out.keep HC.out (fun e => e)).cell 0
      simp only [List.getElem?_toArray, List.getElem?_cons_zero, List.getElem?_cons_succ] at c0 c1
      go_wp2_with fail
      refine (K1.out _).mono ?_
      rintro x w1 ⟨rfl, hc⟩
      have D1 := Lib.hid (HC.out.trans hc)
      clear hc c0 c1
      have c0 : w1.cell? ⟨w0.heap.size + 1 + 1 + 1 + 1, 1, none⟩ = _ := (Ro.out.keep D1.out (fun e => e)).cell 1
      have c1 : w1.cell? ⟨w0.heap.size + 1, 1, none⟩ = _ := (R1.out.keep D1.out (fun e => e)).cell 1
      simp only [List.getElem?_toArray, List.getElem?_cons_zero, List.getElem?_cons_succ] at c0 c1
      go_wp2_with fail
      refine (L1.out _).mono ?_
      rintro x w2 ⟨rfl, hc⟩
      have D2 := Lib.hid (D1.out.trans hc)
      clear hc c0 c1
      go_wp2_with fail
      go_roundw
      case rel => exact ⟨2, by omega, by go_num, D2.out⟩
      case measure => simp [intOf]
    · have c0 : wr.cell? ⟨w0.heap.size + 1 + 1 + 1 + 1, 2, none⟩ = _ := (Ro.out.keep HC.out (fun e => e)).cell 2
      have c1 : wr.cell? ⟨w0.heap.size + 1 + 1, 0, none⟩ = _ := (R2.out.keep HC.out (fun e => e)).cell 0
      simp only [List.getElem?_toArray, List.getElem?_cons_zero, List.getElem?_cons_succ] at c0 c1
      go_wp2_with fail
      refine (K2.out _).mono ?_
      rintro x w1 ⟨rfl, hc⟩
      have D1 := Lib.hid (HC.out.trans hc)
      clear hc c0 c1
      have c0 : w1.cell? ⟨w0.heap.size + 1 + 1 + 1 + 1, 2, none⟩ = _ := (Ro.out.keep D1.out (fun e => e)).cell 2
      have c1 : w1.cell? ⟨w0.heap.size + 1 + 1, 1, none⟩ = _ := (R2.out.keep D1.out (fun e => e)).cell 1
      simp only [List.getElem?_toArray, List.getElem?_cons_zero, List.getElem?_cons_succ] at c0 c1
      go_wp2_with fail
      refine (L2.out _).mono ?_
      rintro x w2 ⟨rfl, hc⟩
      have D2 := Lib.hid (D1.out.trans hc)
      clear hc c0 c1
      go_wp2_with fail
      go_roundw
      case rel => exact ⟨3, by omega, by go_num, D2.out⟩
      case measure => simp [intOf]
    · have c0 : wr.cell? ⟨w0.heap.size + 1 + 1 + 1 + 1, 3, none⟩ = _ := (Ro.out.keep HC.out (fun e => e)).cell 3
      have c1 : wr.cell? ⟨w0.heap.size + 1 + 1 + 1, 0, none⟩ = _ := (R3.out.keep HC.out (fun e => e)).cell 0
      simp only [List.getElem?_toArray, List.getElem?_cons_zero, List.getElem?_cons_succ] at c0 c1
      go_wp2_with fail
      refine (K3.out _).mono ?_
      rintro x w1 ⟨rfl, hc⟩
      have D1 := Lib.hid (HC.out.trans hc)
      clear hc c0 c1
      have c0 : w1.cell? ⟨w0.heap.size + 1 + 1 + 1 + 1, 3, none⟩ = _ := (Ro.out.keep D1.out (fun e => e)).cell 3
      have c1 : w1.cell? ⟨w0.heap.size + 1 + 1 + 1, 1, none⟩ = _ := (R3.out.keep D1.out (fun e => e)).cell 1
      simp only [List.getElem?_toArray, List.getElem?_cons_zero, List.getElem?_cons_succ] at c0 c1
      go_wp2_with fail
      refine (L3.out _).mono ?_
      rintro x w2 ⟨rfl, hc⟩
      have D2 := Lib.hid (D1.out.trans hc)
      clear hc c0 c1
      go_wp2_with fail
      go_roundw
      case rel => exact ⟨4, by omega, by go_num, D2.out⟩
      case measure => simp [intOf]
    · go_wp2_with fail
      go_ret
      exact ⟨rfl, C0.out.trans (Rc.out.trans HC.out)⟩

set_option maxHeartbeats 1600000 in
theorem aluSigned_true {a b : Nat} (ha : a < 18446744073709551616) (hb : b < 18446744073709551616) (w : World) : Calls Try.prog 8 #[.bool true, .int .u64 (a : Int), .int .u64 (b : Int)] w fun e w' => e = .returned (.bool true) ∧ Calm w w' := by
  obtain ⟨f0, f1, f2, f3⟩ := flip_T (x := a) (y := b) true 9223372036854775808 rfl
  obtain ⟨a1, ea⟩ : ∃ z, z = a ^^^ 9223372036854775808 := ⟨_, rfl⟩
  obtain ⟨b1, eb⟩ : ∃ z, z = b ^^^ 9223372036854775808 := ⟨_, rfl⟩
  have ma : bits .xor .u64 (a : Int) 9223372036854775808 = (a1 : Int) := by rw [ea]; exact u64_xor_nat a 9223372036854775808 ha (by decide)
  have mb : bits .xor .u64 (b : Int) 9223372036854775808 = (b1 : Int) := by rw [eb]; exact u64_xor_nat b 9223372036854775808 hb (by decide)
  have la : a1 < 18446744073709551616 := by rw [ea]; exact Nat.xor_lt_two_pow (n := 64) ha (by decide)
  have lb : b1 < 18446744073709551616 := by rw [eb]; exact Nat.xor_lt_two_pow (n := 64) hb (by decide)
  rw [← ea, ← eb] at f0 f1 f2 f3
  obtain ⟨t0, e0⟩ : ∃ z, z = T (bW true) 96 a b := ⟨_, rfl⟩
  have K0 : Hid (∀ w, Calls Try.prog 18 #[.int .u8 96, .bool true, .int .u64 (a : Int), .int .u64 (b : Int)] w fun ee w' => ee = .returned (.tuple #[.bool t0, .bool true]) ∧ Calm w w') := Lib.hid fun w => by
    have h := test_c (op := 96) (a := a) (b := b) true w ha hb
    rw [← e0] at h
    exact h
  have L0 : Hid (∀ w, Calls Try.prog 18 #[.int .u8 32, .bool true, .int .u64 (a1 : Int), .int .u64 (b1 : Int)] w fun ee w' => ee = .returned (.tuple #[.bool t0, .bool true]) ∧ Calm w w') := Lib.hid fun w => by
    have h := test_c (op := 32) (a := a1) (b := b1) true w la lb
    rw [← f0, ← e0] at h
    exact h
  obtain ⟨t1, e1⟩ : ∃ z, z = T (bW true) 112 a b := ⟨_, rfl⟩
  have K1 : Hid (∀ w, Calls Try.prog 18 #[.int .u8 112, .bool true, .int .u64 (a : Int), .int .u64 (b : Int)] w fun ee w' => ee = .returned (.tuple #[.bool t1, .bool true]) ∧ Calm w w') := Lib.hid fun w => by
    have h := test_c (op := 112) (a := a) (b := b) true w ha hb
    rw [← e1] at h
    exact h
  have L1 : Hid (∀ w, Calls Try.prog 18 #[.int .u8 48, .bool true, .int .u64 (a1 : Int), .int .u64 (b1 : Int)] w fun ee w' => ee = .returned (.tuple #[.bool t1, .bool true]) ∧ Calm w w') := Lib.hid fun w => by
    have h := test_c (op := 48) (a := a1) (b := b1) true w la lb
    rw [← f1, ← e1] at h
    exact h
  obtain ⟨t2, e2⟩ : ∃ z, z = T (bW true) 192 a b := ⟨_, rfl⟩
  have K2 : Hid (∀ w, Calls Try.prog 18 #[.int .u8 192, .bool true, .int .u64 (a : Int), .int .u64 (b : Int)] w fun ee w' => ee = .returned (.tuple #[.bool t2, .bool true]) ∧ Calm w w') := Lib.hid fun w => by
    have h := test_c (op := 192) (a := a) (b := b) true w ha hb
    rw [← e2] at h
    exact h
  have L2 : Hid (∀ w, Calls Try.prog 18 #[.int .u8 160, .bool true, .int .u64 (a1 : Int), .int .u64 (b1 : Int)] w fun ee w' => ee = .returned (.tuple #[.bool t2, .bool true]) ∧ Calm w w') := Lib.hid fun w => by
    have h := test_c (op := 160) (a := a1) (b := b1) true w la lb
    rw [← f2, ← e2] at h
    exact h
  obtain ⟨t3, e3⟩ : ∃ z, z = T (bW true) 208 a b := ⟨_, rfl⟩
  have K3 : Hid (∀ w, Calls Try.prog 18 #[.int .u8 208, .bool true, .int .u64 (a : Int), .int .u64 (b : Int)] w fun ee w' => ee = .returned (.tuple #[.bool t3, .bool true]) ∧ Calm w w') := Lib.hid fun w => by
    have h := test_c (op := 208) (a := a) (b := b) true w ha hb
    rw [← e3] at h
    exact h
  have L3 : Hid (∀ w, Calls Try.prog 18 #[.int .u8 176, .bool true, .int .u64 (a1 : Int), .int .u64 (b1 : Int)] w fun ee w' => ee = .returned (.tuple #[.bool t3, .bool true]) ∧ Calm w w') := Lib.hid fun w => by
    have h := test_c (op := 176) (a := a1) (b := b1) true w la lb
    rw [← f3, ← e3] at h
    exact h
  clear ha hb la lb ea eb f0 f1 f2 f3 e0 e1 e2 e3
  go_enter Try.func8, Try.ntmps8
  go_wp2_with fail
  refine (shown7_c _).mono ?_
  rintro x w0 ⟨rfl, hc⟩
  have C0 := Lib.hid hc
  clear hc
  have R0 : Hid (Row (((((w0.alloc (.cells #[.int .u8 96, .int .u8 32] 5)).alloc (.cells #[.int .u8 112, .int .u8 48] 5)).alloc (.cells #[.int .u8 192, .int .u8 160] 5)).alloc (.cells #[.int .u8 208, .int .u8 176] 5)).alloc (.cells #[.slice (some ⟨w0.heap.size, 0, none⟩) 2 2, .slice (some ⟨w0.heap.size + 1, 0, none⟩) 2 2, .slice (some ⟨w0.heap.size + 1 + 1, 0, none⟩) 2 2, .slice (some ⟨w0.heap.size + 1 + 1 + 1, 0, none⟩) 2 2] 27)) (w0.heap.size) 5 #[.int .u8 96, .int .u8 32]) := Lib.hid (((((Row.made' w0 _ _ _ (by simp [size_alloc])).alloc _).alloc _).alloc _).alloc _)
  have R1 : Hid (Row (((((w0.alloc (.cells #[.int .u8 96, .int .u8 32] 5)).alloc (.cells #[.int .u8 112, .int .u8 48] 5)).alloc (.cells #[.int .u8 192, .int .u8 160] 5)).alloc (.cells #[.int .u8 208, .int .u8 176] 5)).alloc (.cells #[.slice (some ⟨w0.heap.size, 0, none⟩) 2 2, .slice (some ⟨w0.heap.size + 1, 0, none⟩) 2 2, .slice (some ⟨w0.heap.size + 1 + 1, 0, none⟩) 2 2, .slice (some ⟨w0.heap.size + 1 + 1 + 1, 0, none⟩) 2 2] 27)) (w0.heap.size + 1) 5 #[.int .u8 112, .int .u8 48]) := Lib.hid ((((Row.made' (w0.alloc (.cells #[.int .u8 96, .int .u8 32] 5)) _ _ _ (by simp [size_alloc])).alloc _).alloc _).alloc _)
  have R2 : Hid (Row (((((w0.alloc (.cells #[.int .u8 96, .int .u8 32] 5)).alloc (.cells #[.int .u8 112, .int .u8 48] 5)).alloc (.cells #[.int .u8 192, .int .u8 160] 5)).alloc (.cells #[.int .u8 208, .int .u8 176] 5)).alloc (.cells #[.slice (some ⟨w0.heap.size, 0, none⟩) 2 2, .slice (some ⟨w0.heap.size + 1, 0, none⟩) 2 2, .slice (some ⟨w0.heap.size + 1 + 1, 0, none⟩) 2 2, .slice (some ⟨w0.heap.size + 1 + 1 + 1, 0, none⟩) 2 2] 27)) (w0.heap.size + 1 + 1) 5 #[.int .u8 192, .int .u8 160]) := Lib.hid (((Row.made' ((w0.alloc (.cells #[.int .u8 96, .int .u8 32] 5)).alloc (.cells #[.int .u8 112, .int .u8 48] 5)) _ _ _ (by simp [size_alloc])).alloc _).alloc _)
  have R3 : Hid (Row (((((w0.alloc (.cells #[.int .u8 96, .int .u8 32] 5)).alloc (.cells #[.int .u8 112, .int .u8 48] 5)).alloc (.cells #[.int .u8 192, .int .u8 160] 5)).alloc (.cells #[.int .u8 208, .int .u8 176] 5)).alloc (.cells #[.slice (some ⟨w0.heap.size, 0, none⟩) 2 2, .slice (some ⟨w0.heap.size + 1, 0, none⟩) 2 2, .slice (some ⟨w0.heap.size + 1 + 1, 0, none⟩) 2 2, .slice (some ⟨w0.heap.size + 1 + 1 + 1, 0, none⟩) 2 2] 27)) (w0.heap.size + 1 + 1 + 1) 5 #[.int .u8 208, .int .u8 176]) := Lib.hid ((Row.made' (((w0.alloc (.cells #[.int .u8 96, .int .u8 32] 5)).alloc (.cells #[.int .u8 112, .int .u8 48] 5)).alloc (.cells #[.int .u8 192, .int .u8 160] 5)) _ _ _ (by simp [size_alloc])).alloc _)
  have Ro : Hid (Row (((((w0.alloc (.cells #[.int .u8 96, .int .u8 32] 5)).alloc (.cells #[.int .u8 112, .int .u8 48] 5)).alloc (.cells #[.int .u8 192, .int .u8 160] 5)).alloc (.cells #[.int .u8 208, .int .u8 176] 5)).alloc (.cells #[.slice (some ⟨w0.heap.size, 0, none⟩) 2 2, .slice (some ⟨w0.heap.size + 1, 0, none⟩) 2 2, .slice (some ⟨w0.heap.size + 1 + 1, 0, none⟩) 2 2, .slice (some ⟨w0.heap.size + 1 + 1 + 1, 0, none⟩) 2 2] 27)) (w0.heap.size + 1 + 1 + 1 + 1) 27 #[.slice (some ⟨w0.heap.size, 0, none⟩) 2 2, .slice (some ⟨w0.heap.size + 1, 0, none⟩) 2 2, .slice (some ⟨w0.heap.size + 1 + 1, 0, none⟩) 2 2, .slice (some ⟨w0.heap.size + 1 + 1 + 1, 0, none⟩) 2 2]) := Lib.hid (Row.made' ((((w0.alloc (.cells #[.int .u8 96, .int .u8 32] 5)).alloc (.cells #[.int .u8 112, .int .u8 48] 5)).alloc (.cells #[.int .u8 192, .int .u8 160] 5)).alloc (.cells #[.int .u8 208, .int .u8 176] 5)) _ _ _ (by simp [size_alloc]))
  have Rc : Hid (Calm w0 (((((w0.alloc (.cells #[.int .u8 96, .int .u8 32] 5)).alloc (.cells #[.int .u8 112, .int .u8 48] 5)).alloc (.cells #[.int .u8 192, .int .u8 160] 5)).alloc (.cells #[.int .u8 208, .int .u8 176] 5)).alloc (.cells #[.slice (some ⟨w0.heap.size, 0, none⟩) 2 2, .slice (some ⟨w0.heap.size + 1, 0, none⟩) 2 2, .slice (some ⟨w0.heap.size + 1 + 1, 0, none⟩) 2 2, .slice (some ⟨w0.heap.size + 1 + 1 + 1, 0, none⟩) 2 2] 27))) := Lib.hid ((((((Keep.refl _ w0).alloc _).alloc _).alloc _).alloc _).alloc _)
  go_wp2_with fail
  obtain ⟨wBR, hBR⟩ : ∃ x, x = (((((w0.alloc (.cells #[.int .u8 96, .int .u8 32] 5)).alloc (.cells #[.int .u8 112, .int .u8 48] 5)).alloc (.cells #[.int .u8 192, .int .u8 160] 5)).alloc (.cells #[.int .u8 208, .int .u8 176] 5)).alloc (.cells #[.slice (some ⟨w0.heap.size, 0, none⟩) 2 2, .slice (some ⟨w0.heap.size + 1, 0, none⟩) 2 2, .slice (some ⟨w0.heap.size + 1 + 1, 0, none⟩) 2 2, .slice (some ⟨w0.heap.size + 1 + 1 + 1, 0, none⟩) 2 2] 27)) := ⟨_, rfl⟩
  rw [← hBR] at R0 R1 R2 R3 Ro Rc ⊢
  clear hBR
  go_loopw [10] (fun i wr => ∃ k : Nat, k ≤ 4 ∧ i = .int .i64 k ∧ Calm wBR wr) (fun i _ => 4 - (intOf i).toNat)
  case atStart => exact ⟨0, by omega, rfl, Keep.refl _ _⟩
  case round =>
    obtain ⟨k, hk, rfl, hcal⟩ := hrel
    have HC := Lib.hid hcal
    clear hcal
    have hk4 : k = 0 ∨ k = 1 ∨ k = 2 ∨ k = 3 ∨ k = 4 := by omega
    clear hk
    rcases hk4 with rfl | rfl | rfl | rfl | rfl
    · have c0 : wr.cell? ⟨w0.heap.size + 1 + 1 + 1 + 1, 0, none⟩ = _ := (Ro.out.keep HC.out (fun e => e)).cell 0
      have c1 : wr.cell? ⟨w0.heap.size, 0, none⟩ = _ := (R0.out.keep HC.out (fun e => e)).cell 0
      simp only [List.getElem?_toArray, List.getElem?_cons_zero, List.getElem?_cons_succ] at c0 c1
      go_wp2_with fail
      refine (K0.out _).mono ?_
      rintro x w1 ⟨rfl, hc⟩
      have D1 := Lib.hid (HC.out.trans hc)
      clear hc c0 c1
      have c0 : w1.cell? ⟨w0.heap.size + 1 + 1 + 1 + 1, 0, none⟩ = _ := (Ro.out.keep D1.out (fun e => e)).cell 0
      have c1 : w1.cell? ⟨w0.heap.size, 1, none⟩ = _ := (R0.out.keep D1.out (fun e => e)).cell 1
      simp only [List.getElem?_toArray, List.getElem?_cons_zero, List.getElem?_cons_succ] at c0 c1
      go_wp2_with fail
      refine (L0.out _).mono ?_
      rintro x w2 ⟨rfl, hc⟩
      have D2 := Lib.hid (D1.out.trans hc)
      clear hc c0 c1
      go_wp2_with fail
      go_roundw
      case rel => exact ⟨1, by omega, by go_num, D2.out⟩
      case measure => simp [intOf]
    · have c0 : wr.cell? ⟨w0.heap.size + 1 + 1 + 1 + 1, 1, none⟩ = _ := (Ro.out.keep HC.out (fun e => e)).cell 1
      have c1 : wr.cell? ⟨w0.heap.size + 1, 0, none⟩ = _ := (R1.out.keep HC.out (fun e => e)).cell 0
      simp only [List.getElem?_toArray, List.getElem?_cons_zero, List.getElem?_cons_succ] at c0 c1
      go_wp2_with fail
      refine (K1.out _).mono ?_
      rintro x w1 ⟨rfl, hc⟩
      have D1 := Lib.hid (HC.out.trans hc)
      clear hc c0 c1
      have c0 : w1.cell? ⟨w0.heap.size + 1 + 1 + 1 + 1, 1, none⟩ = _ := (Ro.out.keep D1.out (fun e => e)).cell 1
      have c1 : w1.cell? ⟨w0.heap.size + 1, 1, none⟩ = _ := (R1.out.keep D1.out (fun e => e)).cell 1
      simp only [List.getElem?_toArray, List.getElem?_cons_zero, List.getElem?_cons_succ] at c0 c1
      go_wp2_with fail
      refine (L1.out _).mono ?_
      rintro x w2 ⟨rfl, hc⟩
      have D2 := Lib.hid (D1.out.trans hc)
      clear hc c0 c1
      go_wp2_with fail
      go_roundw
      case rel => exact ⟨2, by omega, by go_num, D2.out⟩
      case measure => simp [intOf]
    · have c0 : wr.cell? ⟨w0.heap.size + 1 + 1 + 1 + 1, 2, none⟩ = _ := (Ro.out.keep HC.out (fun e => e)).cell 2
      have c1 : wr.cell? ⟨w0.heap.size + 1 + 1, 0, none⟩ = _ := (R2.out.keep HC.out (fun e => e)).cell 0
      simp only [List.getElem?_toArray, List.getElem?_cons_zero, List.getElem?_cons_succ] at c0 c1
      go_wp2_with fail
      refine (K2.out _).mono ?_
      rintro x w1 ⟨rfl, hc⟩
      have D1 := Lib.hid (HC.out.trans hc)
      clear hc c0 c1
      have c0 : w1.cell? ⟨w0.heap.size + 1 + 1 + 1 + 1, 2, none⟩ = _ := (Ro.out.keep D1.out (fun e => e)).cell 2
      have c1 : w1.cell? ⟨w0.heap.size + 1 + 1, 1, none⟩ = _ := (R2.out.keep D1.out (fun e => e)).cell 1
      simp only [List.getElem?_toArray, List.getElem?_cons_zero, List.getElem?_cons_succ] at c0 c1
      go_wp2_with fail
      refine (L2.out _).mono ?_
      rintro x w2 ⟨rfl, hc⟩
      have D2 := Lib.hid (D1.out.trans hc)
      clear hc c0 c1
      go_wp2_with fail
      go_roundw
      case rel => exact ⟨3, by omega, by go_num, D2.out⟩
      case measure => simp [intOf]
    · have c0 : wr.cell? ⟨w0.heap.size + 1 + 1 + 1 + 1, 3, none⟩ = _ := (Ro.out.keep HC.out (fun e => e)).cell 3
      have c1 : wr.cell? ⟨w0.heap.size + 1 + 1 + 1, 0, none⟩ = _ := (R3.out.keep HC.out (fun e => e)).cell 0
      simp only [List.getElem?_toArray, List.getElem?_cons_zero, List.getElem?_cons_succ] at c0 c1
      go_wp2_with fail
      refine (K3.out _).mono ?_
      rintro x w1 ⟨rfl, hc⟩
      have D1 := Lib.hid (HC.out.trans hc)
      clear hc c0 c1
      have c0 : w1.cell? ⟨w0.heap.size + 1 + 1 + 1 + 1, 3, none⟩ = _ := (Ro.out.keep D1.out (fun e => e)).cell 3
      have c1 : w1.cell? ⟨w0.heap.size + 1 + 1 + 1, 1, none⟩ = _ := (R3.out.keep D1.out (fun e => e)).cell 1
      simp only [List.getElem?_toArray, List.getElem?_cons_zero, List.getElem?_cons_succ] at c0 c1
      go_wp2_with fail
      refine (L3.out _).mono ?_
      rintro x w2 ⟨rfl, hc⟩
      have D2 := Lib.hid (D1.out.trans hc)
      clear hc c0 c1
      go_wp2_with fail
      go_roundw
      case rel => exact ⟨4, by omega, by go_num, D2.out⟩
      case measure => simp [intOf]
    · go_wp2_with fail
      go_ret
      exact ⟨rfl, C0.out.trans (Rc.out.trans HC.out)⟩

theorem aluSigned_w (wide : Bool) {a b : Nat} (ha : a < 18446744073709551616) (hb : b < 18446744073709551616) (w : World) : Calls Try.prog 8 #[.bool wide, .int .u64 (a : Int), .int .u64 (b : Int)] w fun e w' => e = .returned (.bool true) ∧ Calm w w' := by
  cases wide
  · exact aluSigned_false ha hb w
  · exact aluSigned_true ha hb w
end Go.Proofs.Ytilkmopclijclaa