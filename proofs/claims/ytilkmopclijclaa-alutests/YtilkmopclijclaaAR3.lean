/-
  The reference of layer 7: Test.
-/
import Derived.Test.YtilkmopclijclaaAR1
namespace Go.Proofs.Ytilkmopclijclaa
open Go.RowKit
set_option linter.all false

set_option maxHeartbeats 3200000 in
theorem rtest_false {op a b : Nat} (w : World) (ha : a < 18446744073709551616) (hb : b < 18446744073709551616) : Calls Try.prog 19 #[.int .u8 (op : Int), .bool false, .int .u64 (a : Int), .int .u64 (b : Int)] w fun ee w' => ee = .returned (.tuple #[.bool (T (bW false) op a b), .bool (isT op)]) ∧ Calm w w' := by
  have hT : T (bW false) op a b = tW 32 op (a % 4294967296) (b % 4294967296) := rfl
  rw [hT]
  clear hT
  have hA : a % 4294967296 < 4294967296 := Nat.mod_lt _ (by decide)
  have hB : b % 4294967296 < 4294967296 := Nat.mod_lt _ (by decide)
  obtain ⟨A, eA⟩ : ∃ A, A = a % 4294967296 := ⟨_, rfl⟩
  obtain ⟨B, eB⟩ : ∃ B, B = b % 4294967296 := ⟨_, rfl⟩
  rw [← eA] at hA ⊢
  rw [← eB] at hB ⊢
  have LA : Hid (∀ w, Calls Try.prog 24 #[.int .u64 (a : Int)] w fun e w' => e = .returned (.int .u64 (A : Int)) ∧ Calm w w') := Lib.hid (by rw [eA]; exact rlow_c a)
  have LB : Hid (∀ w, Calls Try.prog 24 #[.int .u64 (b : Int)] w fun e w' => e = .returned (.int .u64 (B : Int)) ∧ Calm w w') := Lib.hid (by rw [eB]; exact rlow_c b)
  have A64 : A < 18446744073709551616 := Nat.lt_of_lt_of_le hA (by decide)
  have B64 : B < 18446744073709551616 := Nat.lt_of_lt_of_le hB (by decide)
  obtain ⟨x, ex⟩ : ∃ x, x = A ^^^ 2147483648 := ⟨_, rfl⟩
  obtain ⟨y, ey⟩ : ∃ y, y = B ^^^ 2147483648 := ⟨_, rfl⟩
  have SX : Hid (∀ w, Calls Try.prog 29 #[.int .u64 (A : Int), .int .u64 32] w fun e w' => e = .returned (.int .u64 (x : Int)) ∧ Calm w w') := Lib.hid (by rw [ex]; exact rsigned32_c A64)
  have SY : Hid (∀ w, Calls Try.prog 29 #[.int .u64 (B : Int), .int .u64 32] w fun e w' => e = .returned (.int .u64 (y : Int)) ∧ Calm w w') := Lib.hid (by rw [ey]; exact rsigned32_c B64)
  have FX : Hid ((x : Int) = sgn 32 A + 2147483648) := Lib.hid (by rw [ex]; exact flip (n := 32) (by decide) hA)
  have FY : Hid ((y : Int) = sgn 32 B + 2147483648) := Lib.hid (by rw [ey]; exact flip (n := 32) (by decide) hB)
  have hd := u64_and_nat A B A64 B64
  obtain ⟨d, hd'⟩ : ∃ d, d = A &&& B := ⟨_, rfl⟩
  rw [← hd'] at hd
  have HD := Lib.hid hd'
  clear ha hb hA hB A64 B64 ex ey hd' eA eB
  go_enter Try.func19, Try.ntmps19
  go_wp2_with fail
  refine (LA.out _).mono ?_
  rintro e w0 ⟨rfl, hc⟩
  have C0 := Lib.hid (hc)
  clear hc
  go_wp2_with fail
  refine (LB.out _).mono ?_
  rintro e w1 ⟨rfl, hc⟩
  have C1 := Lib.hid (C0.out.trans hc)
  clear hc
  go_wp2_with fail
  refine (SX.out _).mono ?_
  rintro e w2 ⟨rfl, hc⟩
  have C2 := Lib.hid (C1.out.trans hc)
  clear hc
  go_wp2_with fail
  refine (SY.out _).mono ?_
  rintro e w3 ⟨rfl, hc⟩
  have C3 := Lib.hid (C2.out.trans hc)
  clear hc
  go_wp2_with fail
  · have e : op = 16 := op_is (by assumption)
    subst e
    go_ret2
    exact ⟨retb_eq (by show _ = decide (A = B); first | rfl | (rw [Bool.eq_iff_iff]; simp <;> omega)) rfl, C3.out⟩
  · have e : op = 80 := op_is (by assumption)
    subst e
    go_ret2
    exact ⟨retb_eq (by show _ = decide (¬ A = B); first | rfl | (rw [Bool.eq_iff_iff]; simp <;> omega)) rfl, C3.out⟩
  · have e : op = 32 := op_is (by assumption)
    subst e
    go_ret2
    exact ⟨retb_eq (by show _ = decide (B < A); first | rfl | (rw [Bool.eq_iff_iff]; simp <;> omega)) rfl, C3.out⟩
  · have e : op = 48 := op_is (by assumption)
    subst e
    go_ret2
    exact ⟨retb_eq (by show _ = decide (B ≤ A); first | rfl | (rw [Bool.eq_iff_iff]; simp <;> omega)) rfl, C3.out⟩
  · have e : op = 160 := op_is (by assumption)
    subst e
    go_ret2
    exact ⟨retb_eq (by show _ = decide (A < B); first | rfl | (rw [Bool.eq_iff_iff]; simp <;> omega)) rfl, C3.out⟩
  · have e : op = 176 := op_is (by assumption)
    subst e
    go_ret2
    exact ⟨retb_eq (by show _ = decide (A ≤ B); first | rfl | (rw [Bool.eq_iff_iff]; simp <;> omega)) rfl, C3.out⟩
  · have e : op = 64 := op_is (by assumption)
    subst e
    go_ret2
    exact ⟨retb_eq (by show _ = decide (¬ A &&& B = 0); rw [← HD.out]; first | rfl | (rw [Bool.eq_iff_iff]; simp <;> omega)) rfl, C3.out⟩
  · have e : op = 96 := op_is (by assumption)
    subst e
    go_ret2
    exact ⟨retb_eq (by show _ = decide (sgn 32 B < sgn 32 A); rw [decide_eq_decide]; have := FX.out; have := FY.out; omega) rfl, C3.out⟩
  · have e : op = 112 := op_is (by assumption)
    subst e
    go_ret2
    exact ⟨retb_eq (by show _ = decide (sgn 32 B ≤ sgn 32 A); rw [decide_eq_decide]; have := FX.out; have := FY.out; omega) rfl, C3.out⟩
  · have e : op = 192 := op_is (by assumption)
    subst e
    go_ret2
    exact ⟨retb_eq (by show _ = decide (sgn 32 A < sgn 32 B); rw [decide_eq_decide]; have := FX.out; have := FY.out; omega) rfl, C3.out⟩
  · have e : op = 208 := op_is (by assumption)
    subst e
    go_ret2
    exact ⟨retb_eq (by show _ = decide (sgn 32 A ≤ sgn 32 B); rw [decide_eq_decide]; have := FX.out; have := FY.out; omega) rfl, C3.out⟩
  · go_ret2
    refine ⟨retb_eq (y := tW 32 op A B) ?_ ?_, C3.out⟩
    · unfold tW
      rw [if_neg (op_not (k := 16) (by assumption)), if_neg (op_not (k := 32) (by assumption)), if_neg (op_not (k := 48) (by assumption)), if_neg (op_not (k := 64) (by assumption)), if_neg (op_not (k := 80) (by assumption)), if_neg (op_not (k := 96) (by assumption)), if_neg (op_not (k := 112) (by assumption)), if_neg (op_not (k := 160) (by assumption)), if_neg (op_not (k := 176) (by assumption)), if_neg (op_not (k := 192) (by assumption)), if_neg (op_not (k := 208) (by assumption))]
    · unfold isT
      symm
      apply decide_eq_false
      simp only [List.mem_cons, List.not_mem_nil, or_false, not_or]
      exact ⟨op_not (k := 16) (by assumption), op_not (k := 32) (by assumption), op_not (k := 48) (by assumption), op_not (k := 64) (by assumption), op_not (k := 80) (by assumption), op_not (k := 96) (by assumption), op_not (k := 112) (by assumption), op_not (k := 160) (by assumption), op_not (k := 176) (by assumption), op_not (k := 192) (by assumption), op_not (k := 208) (by assumption)⟩
set_option maxHeartbeats 3200000 in
theorem rtest_true {op a b : Nat} (w : World) (ha : a < 18446744073709551616) (hb : b < 18446744073709551616) : Calls Try.prog 19 #[.int .u8 (op : Int), .bool true, .int .u64 (a : Int), .int .u64 (b : Int)] w fun ee w' => ee = .returned (.tuple #[.bool (T (bW true) op a b), .bool (isT op)]) ∧ Calm w w' := by
  have hT : T (bW true) op a b = tW 64 op (a % 18446744073709551616) (b % 18446744073709551616) := rfl
  rw [hT]
  clear hT
  have hA : a % 18446744073709551616 < 18446744073709551616 := Nat.mod_lt _ (by decide)
  have hB : b % 18446744073709551616 < 18446744073709551616 := Nat.mod_lt _ (by decide)
  rw [Nat.mod_eq_of_lt ha] at hA ⊢
  rw [Nat.mod_eq_of_lt hb] at hB ⊢
  obtain ⟨A, eA⟩ : ∃ A, A = a := ⟨_, rfl⟩
  obtain ⟨B, eB⟩ : ∃ B, B = b := ⟨_, rfl⟩
  rw [← eA] at hA ⊢
  rw [← eB] at hB ⊢
  have A64 : A < 18446744073709551616 := Nat.lt_of_lt_of_le hA (by decide)
  have B64 : B < 18446744073709551616 := Nat.lt_of_lt_of_le hB (by decide)
  obtain ⟨x, ex⟩ : ∃ x, x = A ^^^ 9223372036854775808 := ⟨_, rfl⟩
  obtain ⟨y, ey⟩ : ∃ y, y = B ^^^ 9223372036854775808 := ⟨_, rfl⟩
  have SX : Hid (∀ w, Calls Try.prog 29 #[.int .u64 (A : Int), .int .u64 64] w fun e w' => e = .returned (.int .u64 (x : Int)) ∧ Calm w w') := Lib.hid (by rw [ex]; exact rsigned64_c A64)
  have SY : Hid (∀ w, Calls Try.prog 29 #[.int .u64 (B : Int), .int .u64 64] w fun e w' => e = .returned (.int .u64 (y : Int)) ∧ Calm w w') := Lib.hid (by rw [ey]; exact rsigned64_c B64)
  have FX : Hid ((x : Int) = sgn 64 A + 9223372036854775808) := Lib.hid (by rw [ex]; exact flip (n := 64) (by decide) hA)
  have FY : Hid ((y : Int) = sgn 64 B + 9223372036854775808) := Lib.hid (by rw [ey]; exact flip (n := 64) (by decide) hB)
  have hd := u64_and_nat A B A64 B64
  obtain ⟨d, hd'⟩ : ∃ d, d = A &&& B := ⟨_, rfl⟩
  rw [← hd'] at hd
  have HD := Lib.hid hd'
  clear ha hb hA hB A64 B64 ex ey hd' eA eB
  go_enter Try.func19, Try.ntmps19
  go_wp2_with fail
  refine (SX.out _).mono ?_
  rintro e w0 ⟨rfl, hc⟩
  have C0 := Lib.hid (hc)
  clear hc
  go_wp2_with fail
  refine (SY.out _).mono ?_
  rintro e w1 ⟨rfl, hc⟩
  have C1 := Lib.hid (C0.out.trans hc)
  clear hc
  go_wp2_with fail
  · have e : op = 16 := op_is (by assumption)
    subst e
    go_ret2
    exact ⟨retb_eq (by show _ = decide (A = B); first | rfl | (rw [Bool.eq_iff_iff]; simp <;> omega)) rfl, C1.out⟩
  · have e : op = 80 := op_is (by assumption)
    subst e
    go_ret2
    exact ⟨retb_eq (by show _ = decide (¬ A = B); first | rfl | (rw [Bool.eq_iff_iff]; simp <;> omega)) rfl, C1.out⟩
  · have e : op = 32 := op_is (by assumption)
    subst e
    go_ret2
    exact ⟨retb_eq (by show _ = decide (B < A); first | rfl | (rw [Bool.eq_iff_iff]; simp <;> omega)) rfl, C1.out⟩
  · have e : op = 48 := op_is (by assumption)
    subst e
    go_ret2
    exact ⟨retb_eq (by show _ = decide (B ≤ A); first | rfl | (rw [Bool.eq_iff_iff]; simp <;> omega)) rfl, C1.out⟩
  · have e : op = 160 := op_is (by assumption)
    subst e
    go_ret2
    exact ⟨retb_eq (by show _ = decide (A < B); first | rfl | (rw [Bool.eq_iff_iff]; simp <;> omega)) rfl, C1.out⟩
  · have e : op = 176 := op_is (by assumption)
    subst e
    go_ret2
    exact ⟨retb_eq (by show _ = decide (A ≤ B); first | rfl | (rw [Bool.eq_iff_iff]; simp <;> omega)) rfl, C1.out⟩
  · have e : op = 64 := op_is (by assumption)
    subst e
    go_ret2
    exact ⟨retb_eq (by show _ = decide (¬ A &&& B = 0); rw [← HD.out]; first | rfl | (rw [Bool.eq_iff_iff]; simp <;> omega)) rfl, C1.out⟩
  · have e : op = 96 := op_is (by assumption)
    subst e
    go_ret2
    exact ⟨retb_eq (by show _ = decide (sgn 64 B < sgn 64 A); rw [decide_eq_decide]; have := FX.out; have := FY.out; omega) rfl, C1.out⟩
  · have e : op = 112 := op_is (by assumption)
    subst e
    go_ret2
    exact ⟨retb_eq (by show _ = decide (sgn 64 B ≤ sgn 64 A); rw [decide_eq_decide]; have := FX.out; have := FY.out; omega) rfl, C1.out⟩
  · have e : op = 192 := op_is (by assumption)
    subst e
    go_ret2
    exact ⟨retb_eq (by show _ = decide (sgn 64 A < sgn 64 B); rw [decide_eq_decide]; have := FX.out; have := FY.out; omega) rfl, C1.out⟩
  · have e : op = 208 := op_is (by assumption)
    subst e
    go_ret2
    exact ⟨retb_eq (by show _ = decide (sgn 64 A ≤ sgn 64 B); rw [decide_eq_decide]; have := FX.out; have := FY.out; omega) rfl, C1.out⟩
  · go_ret2
    refine ⟨retb_eq (y := tW 64 op A B) ?_ ?_, C1.out⟩
    · unfold tW
      rw [if_neg (op_not (k := 16) (by assumption)), if_neg (op_not (k := 32) (by assumption)), if_neg (op_not (k := 48) (by assumption)), if_neg (op_not (k := 64) (by assumption)), if_neg (op_not (k := 80) (by assumption)), if_neg (op_not (k := 96) (by assumption)), if_neg (op_not (k := 112) (by assumption)), if_neg (op_not (k := 160) (by assumption)), if_neg (op_not (k := 176) (by assumption)), if_neg (op_not (k := 192) (by assumption)), if_neg (op_not (k := 208) (by assumption))]
    · unfold isT
      symm
      apply decide_eq_false
      simp only [List.mem_cons, List.not_mem_nil, or_false, not_or]
      exact ⟨op_not (k := 16) (by assumption), op_not (k := 32) (by assumption), op_not (k := 48) (by assumption), op_not (k := 64) (by assumption), op_not (k := 80) (by assumption), op_not (k := 96) (by assumption), op_not (k := 112) (by assumption), op_not (k := 160) (by assumption), op_not (k := 176) (by assumption), op_not (k := 192) (by assumption), op_not (k := 208) (by assumption)⟩
theorem rtest_c {op a b : Nat} (wide : Bool) (w : World) (ha : a < 18446744073709551616) (hb : b < 18446744073709551616) : Calls Try.prog 19 #[.int .u8 (op : Int), .bool wide, .int .u64 (a : Int), .int .u64 (b : Int)] w fun ee w' => ee = .returned (.tuple #[.bool (T (bW wide) op a b), .bool (isT op)]) ∧ Calm w w' := by
  cases wide
  · exact rtest_false w ha hb
  · exact rtest_true w ha hb
end Go.Proofs.Ytilkmopclijclaa