/-
  The walk of AluBack.
-/
import Derived.Test.YtilkmopclijclaaA4
import Derived.Test.YtilkmopclijclaaAL
namespace Go.Proofs.Ytilkmopclijclaa
open Go.RowKit
set_option linter.all false

set_option maxHeartbeats 1600000 in
theorem aluBack_false {a b : Nat} (ha : a < 18446744073709551616) (hb : b < 18446744073709551616) (w : World) : Calls Try.prog 5 #[.bool false, .int .u64 (a : Int), .int .u64 (b : Int)] w fun e w' => e = .returned (.bool true) ∧ Calm w w' := by
  have hn : bW false = 32 := rfl
  have hm : bits .and .u64 (a : Int) 4294967295 = ((a % 4294967296 : Nat) : Int) := by
    rw [show (4294967295 : Int) = ((4294967295 : Nat) : Int) from rfl, u64_and_nat a 4294967295 ha (by decide)]
    exact congrArg _ (Nat.and_two_pow_sub_one_eq_mod a 32)
  have hA : a % 4294967296 < 2 ^ bW false := Nat.mod_lt _ (by decide)
  obtain ⟨A, eA⟩ : ∃ A, A = a % 4294967296 := ⟨_, rfl⟩
  rw [← eA] at hm hA
  have hA64 : A < 18446744073709551616 := Nat.lt_trans hA (by decide)
  clear eA
  obtain ⟨x1, ex1⟩ : ∃ z, z = D (bW false) 0 A b := ⟨_, rfl⟩
  have lx1 : x1 < 18446744073709551616 := by rw [ex1]; exact D_lt64 false _ _ _
  obtain ⟨y1, ey1⟩ : ∃ z, z = D (bW false) 160 A b := ⟨_, rfl⟩
  have ly1 : y1 < 18446744073709551616 := by rw [ey1]; exact D_lt64 false _ _ _
  obtain ⟨q, eq⟩ : ∃ z, z = D (bW false) 48 A b := ⟨_, rfl⟩
  have lq : q < 18446744073709551616 := by rw [eq]; exact D_lt64 false _ _ _
  obtain ⟨r, er⟩ : ∃ z, z = D (bW false) 144 A b := ⟨_, rfl⟩
  have lr : r < 18446744073709551616 := by rw [er]; exact D_lt64 false _ _ _
  obtain ⟨n1, en1⟩ : ∃ z, z = D (bW false) 128 A 0 := ⟨_, rfl⟩
  have ln1 : n1 < 18446744073709551616 := by rw [en1]; exact D_lt64 false _ _ _
  obtain ⟨p, ep⟩ : ∃ z, z = D (bW false) 32 q b := ⟨_, rfl⟩
  have lp : p < 18446744073709551616 := by rw [ep]; exact D_lt64 false _ _ _
  have K1 : Hid (∀ w, Calls Try.prog 12 #[.int .u8 0, .bool false, .int .u64 (A : Int), .int .u64 (b : Int)] w fun ee w' => ee = .returned (.tuple #[.int .u64 (x1 : Int), .bool true]) ∧ Calm w w') := Lib.hid fun w => by
    have h := do_c (op := 0) (a := A) (b := b) false w hA64 hb
    rw [← ex1] at h
    exact h
  have K2 : Hid (∀ w, Calls Try.prog 12 #[.int .u8 16, .bool false, .int .u64 (x1 : Int), .int .u64 (b : Int)] w fun ee w' => ee = .returned (.tuple #[.int .u64 (A : Int), .bool true]) ∧ Calm w w') := Lib.hid fun w => by
    have h := do_c (op := 16) (a := x1) (b := b) false w lx1 hb
    rw [show D (bW false) 16 x1 b = A from by rw [ex1]; exact back_add (wide := false) (b := b) hA] at h
    exact h
  have K3 : Hid (∀ w, Calls Try.prog 12 #[.int .u8 160, .bool false, .int .u64 (A : Int), .int .u64 (b : Int)] w fun ee w' => ee = .returned (.tuple #[.int .u64 (y1 : Int), .bool true]) ∧ Calm w w') := Lib.hid fun w => by
    have h := do_c (op := 160) (a := A) (b := b) false w hA64 hb
    rw [← ey1] at h
    exact h
  have K4 : Hid (∀ w, Calls Try.prog 12 #[.int .u8 160, .bool false, .int .u64 (y1 : Int), .int .u64 (b : Int)] w fun ee w' => ee = .returned (.tuple #[.int .u64 (A : Int), .bool true]) ∧ Calm w w') := Lib.hid fun w => by
    have h := do_c (op := 160) (a := y1) (b := b) false w ly1 hb
    rw [show D (bW false) 160 y1 b = A from by rw [ey1]; exact back_xor (wide := false) (b := b) hA] at h
    exact h
  have K5 : Hid (∀ w, Calls Try.prog 12 #[.int .u8 48, .bool false, .int .u64 (A : Int), .int .u64 (b : Int)] w fun ee w' => ee = .returned (.tuple #[.int .u64 (q : Int), .bool true]) ∧ Calm w w') := Lib.hid fun w => by
    have h := do_c (op := 48) (a := A) (b := b) false w hA64 hb
    rw [← eq] at h
    exact h
  have K6 : Hid (∀ w, Calls Try.prog 12 #[.int .u8 144, .bool false, .int .u64 (A : Int), .int .u64 (b : Int)] w fun ee w' => ee = .returned (.tuple #[.int .u64 (r : Int), .bool true]) ∧ Calm w w') := Lib.hid fun w => by
    have h := do_c (op := 144) (a := A) (b := b) false w hA64 hb
    rw [← er] at h
    exact h
  have K7 : Hid (∀ w, Calls Try.prog 12 #[.int .u8 32, .bool false, .int .u64 (q : Int), .int .u64 (b : Int)] w fun ee w' => ee = .returned (.tuple #[.int .u64 (p : Int), .bool true]) ∧ Calm w w') := Lib.hid fun w => by
    have h := do_c (op := 32) (a := q) (b := b) false w lq hb
    rw [← ep] at h
    exact h
  have K8 : Hid (∀ w, Calls Try.prog 12 #[.int .u8 0, .bool false, .int .u64 (p : Int), .int .u64 (r : Int)] w fun ee w' => ee = .returned (.tuple #[.int .u64 (A : Int), .bool true]) ∧ Calm w w') := Lib.hid fun w => by
    have h := do_c (op := 0) (a := p) (b := r) false w lp lr
    rw [show D (bW false) 0 p r = A from by rw [ep, eq, er]; exact back_div (wide := false) (b := b) hA] at h
    exact h
  have K9 : Hid (∀ w, Calls Try.prog 12 #[.int .u8 128, .bool false, .int .u64 (A : Int), .int .u64 0] w fun ee w' => ee = .returned (.tuple #[.int .u64 (n1 : Int), .bool true]) ∧ Calm w w') := Lib.hid fun w => by
    have h := do_c (op := 128) (a := A) (b := 0) false w hA64 (by decide)
    rw [← en1] at h
    exact h
  have K10 : Hid (∀ w, Calls Try.prog 12 #[.int .u8 128, .bool false, .int .u64 (n1 : Int), .int .u64 0] w fun ee w' => ee = .returned (.tuple #[.int .u64 (A : Int), .bool true]) ∧ Calm w w') := Lib.hid fun w => by
    have h := do_c (op := 128) (a := n1) (b := 0) false w ln1 (by decide)
    rw [show D (bW false) 128 n1 0 = A from by rw [en1]; exact back_neg (wide := false) hA] at h
    exact h
  have K11 : Hid (∀ w, Calls Try.prog 12 #[.int .u8 176, .bool false, .int .u64 (b : Int), .int .u64 (A : Int)] w fun ee w' => ee = .returned (.tuple #[.int .u64 (A : Int), .bool true]) ∧ Calm w w') := Lib.hid fun w => by
    have h := do_c (op := 176) (a := b) (b := A) false w hb hA64
    rw [show D (bW false) 176 b A = A from back_mov (wide := false) (b := b) hA] at h
    exact h
  clear ha hb hA hA64 ex1 ey1 eq er en1 ep lx1 ly1 lq lr ln1 lp hn
  go_enter Try.func5, Try.ntmps5
  go_wp2_with fail
  refine (shown7_c _).mono ?_
  rintro x w0 ⟨rfl, hc⟩
  have C0 := Lib.hid hc
  clear hc
  go_wp2_with fail
  refine (K1.out _).mono ?_
  rintro x w1 ⟨rfl, hc⟩
  have C1 := Lib.hid (C0.out.trans (hc))
  clear hc
  go_wp2_with fail
  refine (K2.out _).mono ?_
  rintro x w2 ⟨rfl, hc⟩
  have C2 := Lib.hid (C1.out.trans (hc))
  clear hc
  go_wp2_with fail
  refine (K3.out _).mono ?_
  rintro x w3 ⟨rfl, hc⟩
  have C3 := Lib.hid (C2.out.trans (hc))
  clear hc
  go_wp2_with fail
  refine (K4.out _).mono ?_
  rintro x w4 ⟨rfl, hc⟩
  have C4 := Lib.hid (C3.out.trans (hc))
  clear hc
  go_wp2_with fail
  refine (K5.out _).mono ?_
  rintro x w5 ⟨rfl, hc⟩
  have C5 := Lib.hid (C4.out.trans (hc))
  clear hc
  go_wp2_with fail
  refine (K6.out _).mono ?_
  rintro x w6 ⟨rfl, hc⟩
  have C6 := Lib.hid (C5.out.trans (hc))
  clear hc
  go_wp2_with fail
  refine (K7.out _).mono ?_
  rintro x w7 ⟨rfl, hc⟩
  have C7 := Lib.hid (C6.out.trans (hc))
  clear hc
  go_wp2_with fail
  refine (K8.out _).mono ?_
  rintro x w8 ⟨rfl, hc⟩
  have C8 := Lib.hid (C7.out.trans (hc))
  clear hc
  go_wp2_with fail
  refine (K9.out _).mono ?_
  rintro x w9 ⟨rfl, hc⟩
  have C9 := Lib.hid (C8.out.trans (hc))
  clear hc
  go_wp2_with fail
  refine (K10.out _).mono ?_
  rintro x w10 ⟨rfl, hc⟩
  have C10 := Lib.hid (C9.out.trans (hc))
  clear hc
  go_wp2_with fail
  refine (K11.out _).mono ?_
  rintro x w11 ⟨rfl, hc⟩
  have C11 := Lib.hid (C10.out.trans (hc))
  clear hc
  go_wp2_with fail
  go_ret
  exact ⟨rfl, C11.out⟩

set_option maxHeartbeats 1600000 in
theorem aluBack_true {a b : Nat} (ha : a < 18446744073709551616) (hb : b < 18446744073709551616) (w : World) : Calls Try.prog 5 #[.bool true, .int .u64 (a : Int), .int .u64 (b : Int)] w fun e w' => e = .returned (.bool true) ∧ Calm w w' := by
  have hn : bW true = 64 := rfl
  obtain ⟨A, eA⟩ : ∃ A, A = a := ⟨_, rfl⟩
  have hA : A < 2 ^ bW true := by rw [eA]; exact ha
  have hA64 : A < 18446744073709551616 := hA
  rw [← eA]
  clear eA
  obtain ⟨x1, ex1⟩ : ∃ z, z = D (bW true) 0 A b := ⟨_, rfl⟩
  have lx1 : x1 < 18446744073709551616 := by rw [ex1]; exact D_lt64 true _ _ _
  obtain ⟨y1, ey1⟩ : ∃ z, z = D (bW true) 160 A b := ⟨_, rfl⟩
  have ly1 : y1 < 18446744073709551616 := by rw [ey1]; exact D_lt64 true _ _ _
  obtain ⟨q, eq⟩ : ∃ z, z = D (bW true) 48 A b := ⟨_, rfl⟩
  have lq : q < 18446744073709551616 := by rw [eq]; exact D_lt64 true _ _ _
  obtain ⟨r, er⟩ : ∃ z, z = D (bW true) 144 A b := ⟨_, rfl⟩
  have lr : r < 18446744073709551616 := by rw [er]; exact D_lt64 true _ _ _
  obtain ⟨n1, en1⟩ : ∃ z, z = D (bW true) 128 A 0 := ⟨_, rfl⟩
  have ln1 : n1 < 18446744073709551616 := by rw [en1]; exact D_lt64 true _ _ _
  obtain ⟨p, ep⟩ : ∃ z, z = D (bW true) 32 q b := ⟨_, rfl⟩
  have lp : p < 18446744073709551616 := by rw [ep]; exact D_lt64 true _ _ _
  have K1 : Hid (∀ w, Calls Try.prog 12 #[.int .u8 0, .bool true, .int .u64 (A : Int), .int .u64 (b : Int)] w fun ee w' => ee = .returned (.tuple #[.int .u64 (x1 : Int), .bool true]) ∧ Calm w w') := Lib.hid fun w => by
    have h := do_c (op := 0) (a := A) (b := b) true w hA64 hb
    rw [← ex1] at h
    exact h
  have K2 : Hid (∀ w, Calls Try.prog 12 #[.int .u8 16, .bool true, .int .u64 (x1 : Int), .int .u64 (b : Int)] w fun ee w' => ee = .returned (.tuple #[.int .u64 (A : Int), .bool true]) ∧ Calm w w') := Lib.hid fun w => by
    have h := do_c (op := 16) (a := x1) (b := b) true w lx1 hb
    rw [show D (bW true) 16 x1 b = A from by rw [ex1]; exact back_add (wide := true) (b := b) hA] at h
    exact h
  have K3 : Hid (∀ w, Calls Try.prog 12 #[.int .u8 160, .bool true, .int .u64 (A : Int), .int .u64 (b : Int)] w fun ee w' => ee = .returned (.tuple #[.int .u64 (y1 : Int), .bool true]) ∧ Calm w w') := Lib.hid fun w => by
    have h := do_c (op := 160) (a := A) (b := b) true w hA64 hb
    rw [← ey1] at h
    exact h
  have K4 : Hid (∀ w, Calls Try.prog 12 #[.int .u8 160, .bool true, .int .u64 (y1 : Int), .int .u64 (b : Int)] w fun ee w' => ee = .returned (.tuple #[.int .u64 (A : Int), .bool true]) ∧ Calm w w') := Lib.hid fun w => by
    have h := do_c (op := 160) (a := y1) (b := b) true w ly1 hb
    rw [show D (bW true) 160 y1 b = A from by rw [ey1]; exact back_xor (wide := true) (b := b) hA] at h
    exact h
  have K5 : Hid (∀ w, Calls Try.prog 12 #[.int .u8 48, .bool true, .int .u64 (A : Int), .int .u64 (b : Int)] w fun ee w' => ee = .returned (.tuple #[.int .u64 (q : Int), .bool true]) ∧ Calm w w') := Lib.hid fun w => by
    have h := do_c (op := 48) (a := A) (b := b) true w hA64 hb
    rw [← eq] at h
    exact h
  have K6 : Hid (∀ w, Calls Try.prog 12 #[.int .u8 144, .bool true, .int .u64 (A : Int), .int .u64 (b : Int)] w fun ee w' => ee = .returned (.tuple #[.int .u64 (r : Int), .bool true]) ∧ Calm w w') := Lib.hid fun w => by
    have h := do_c (op := 144) (a := A) (b := b) true w hA64 hb
    rw [← er] at h
    exact h
  have K7 : Hid (∀ w, Calls Try.prog 12 #[.int .u8 32, .bool true, .int .u64 (q : Int), .int .u64 (b : Int)] w fun ee w' => ee = .returned (.tuple #[.int .u64 (p : Int), .bool true]) ∧ Calm w w') := Lib.hid fun w => by
    have h := do_c (op := 32) (a := q) (b := b) true w lq hb
    rw [← ep] at h
    exact h
  have K8 : Hid (∀ w, Calls Try.prog 12 #[.int .u8 0, .bool true, .int .u64 (p : Int), .int .u64 (r : Int)] w fun ee w' => ee = .returned (.tuple #[.int .u64 (A : Int), .bool true]) ∧ Calm w w') := Lib.hid fun w => by
    have h := do_c (op := 0) (a := p) (b := r) true w lp lr
    rw [show D (bW true) 0 p r = A from by rw [ep, eq, er]; exact back_div (wide := true) (b := b) hA] at h
    exact h
  have K9 : Hid (∀ w, Calls Try.prog 12 #[.int .u8 128, .bool true, .int .u64 (A : Int), .int .u64 0] w fun ee w' => ee = .returned (.tuple #[.int .u64 (n1 : Int), .bool true]) ∧ Calm w w') := Lib.hid fun w => by
    have h := do_c (op := 128) (a := A) (b := 0) true w hA64 (by decide)
    rw [← en1] at h
    exact h
  have K10 : Hid (∀ w, Calls Try.prog 12 #[.int .u8 128, .bool true, .int .u64 (n1 : Int), .int .u64 0] w fun ee w' => ee = .returned (.tuple #[.int .u64 (A : Int), .bool true]) ∧ Calm w w') := Lib.hid fun w => by
    have h := do_c (op := 128) (a := n1) (b := 0) true w ln1 (by decide)
    rw [show D (bW true) 128 n1 0 = A from by rw [en1]; exact back_neg (wide := true) hA] at h
    exact h
  have K11 : Hid (∀ w, Calls Try.prog 12 #[.int .u8 176, .bool true, .int .u64 (b : Int), .int .u64 (A : Int)] w fun ee w' => ee = .returned (.tuple #[.int .u64 (A : Int), .bool true]) ∧ Calm w w') := Lib.hid fun w => by
    have h := do_c (op := 176) (a := b) (b := A) true w hb hA64
    rw [show D (bW true) 176 b A = A from back_mov (wide := true) (b := b) hA] at h
    exact h
  clear ha hb hA hA64 ex1 ey1 eq er en1 ep lx1 ly1 lq lr ln1 lp hn
  go_enter Try.func5, Try.ntmps5
  go_wp2_with fail
  refine (shown7_c _).mono ?_
  rintro x w0 ⟨rfl, hc⟩
  have C0 := Lib.hid hc
  clear hc
  go_wp2_with fail
  refine (K1.out _).mono ?_
  rintro x w1 ⟨rfl, hc⟩
  have C1 := Lib.hid (C0.out.trans (hc))
  clear hc
  go_wp2_with fail
  refine (K2.out _).mono ?_
  rintro x w2 ⟨rfl, hc⟩
  have C2 := Lib.hid (C1.out.trans (hc))
  clear hc
  go_wp2_with fail
  refine (K3.out _).mono ?_
  rintro x w3 ⟨rfl, hc⟩
  have C3 := Lib.hid (C2.out.trans (hc))
  clear hc
  go_wp2_with fail
  refine (K4.out _).mono ?_
  rintro x w4 ⟨rfl, hc⟩
  have C4 := Lib.hid (C3.out.trans (hc))
  clear hc
  go_wp2_with fail
  refine (K5.out _).mono ?_
  rintro x w5 ⟨rfl, hc⟩
  have C5 := Lib.hid (C4.out.trans (hc))
  clear hc
  go_wp2_with fail
  refine (K6.out _).mono ?_
  rintro x w6 ⟨rfl, hc⟩
  have C6 := Lib.hid (C5.out.trans (hc))
  clear hc
  go_wp2_with fail
  refine (K7.out _).mono ?_
  rintro x w7 ⟨rfl, hc⟩
  have C7 := Lib.hid (C6.out.trans (hc))
  clear hc
  go_wp2_with fail
  refine (K8.out _).mono ?_
  rintro x w8 ⟨rfl, hc⟩
  have C8 := Lib.hid (C7.out.trans (hc))
  clear hc
  go_wp2_with fail
  refine (K9.out _).mono ?_
  rintro x w9 ⟨rfl, hc⟩
  have C9 := Lib.hid (C8.out.trans (hc))
  clear hc
  go_wp2_with fail
  refine (K10.out _).mono ?_
  rintro x w10 ⟨rfl, hc⟩
  have C10 := Lib.hid (C9.out.trans (hc))
  clear hc
  go_wp2_with fail
  refine (K11.out _).mono ?_
  rintro x w11 ⟨rfl, hc⟩
  have C11 := Lib.hid (C10.out.trans (hc))
  clear hc
  go_wp2_with fail
  go_ret
  exact ⟨rfl, C11.out⟩

theorem aluBack_w (wide : Bool) {a b : Nat} (ha : a < 18446744073709551616) (hb : b < 18446744073709551616) (w : World) : Calls Try.prog 5 #[.bool wide, .int .u64 (a : Int), .int .u64 (b : Int)] w fun e w' => e = .returned (.bool true) ∧ Calm w w' := by
  cases wide
  · exact aluBack_false ha hb w
  · exact aluBack_true ha hb w
end Go.Proofs.Ytilkmopclijclaa