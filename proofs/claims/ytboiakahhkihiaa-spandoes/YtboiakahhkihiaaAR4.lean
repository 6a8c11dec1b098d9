/-
  The reference of layer 7: Do.
-/
import Derived.Test.YtboiakahhkihiaaAR1
namespace Go.Proofs.Ytboiakahhkihiaa
open Go.RowKit
set_option linter.all false

theorem arT_lt (n a k : Nat) : arT n a k < 2 ^ n := by
  have hp := pos2 n
  have h0 := Int.emod_nonneg (sgn n a / ((2 ^ k : Nat) : Int)) (b := ((2 ^ n : Nat) : Int)) (by omega)
  have h1 := Int.emod_lt_of_pos (sgn n a / ((2 ^ k : Nat) : Int)) (b := ((2 ^ n : Nat) : Int)) (by omega)
  unfold arT
  omega
theorem rlowI_c {z : Int} (hz : 0 ≤ z) (w : World) : Calls Try.prog 65 #[.int .u64 z] w fun e w' => e = .returned (.int .u64 (z % 4294967296)) ∧ Calm w w' := by
  obtain ⟨a, rfl⟩ := Int.eq_ofNat_of_zero_le hz
  exact rlow_c a w
theorem not64 {b : Nat} (hb : b < 18446744073709551616) : bits .xor .u64 IntKind.u64.max (b : Int) = ((18446744073709551615 - b : Nat) : Int) := by
  have e : IntKind.u64.max = ((18446744073709551615 : Nat) : Int) := by decide
  rw [e, u64_xor_nat 18446744073709551615 b (by decide) hb]
  have h := (and_or_xor 18446744073709551615 b).2
  have h2 : b &&& 18446744073709551615 = b % 2 ^ 64 := Nat.and_two_pow_sub_one_eq_mod b 64
  rw [Nat.and_comm, h2, Nat.mod_eq_of_lt hb] at h
  exact congrArg _ (by omega)

/-- Multiplied bit by bit. -/
def mulT (a b k : Nat) : Nat := a * (b % 2 ^ k) % 18446744073709551616
theorem mulT_zero (a b : Nat) : mulT a b 0 = 0 := by unfold mulT; rw [Nat.pow_zero, Nat.mod_one, Nat.mul_zero]
theorem mulT_all {b : Nat} (a : Nat) (hb : b < 18446744073709551616) : mulT a b 64 = a * b % 18446744073709551616 := by unfold mulT; rw [Nat.mod_eq_of_lt (a := b) hb]
theorem mulT_off {a b k : Nat} (h : b / 2 ^ k % 2 = 0) : mulT a b (k + 1) = mulT a b k := by unfold mulT; rw [Nat.mod_pow_succ, h, Nat.mul_zero, Nat.add_zero]
theorem mulT_on {a b k : Nat} (h : b / 2 ^ k % 2 = 1) : mulT a b (k + 1) = (mulT a b k + a * 2 ^ k % 18446744073709551616) % 18446744073709551616 := by
  unfold mulT
  rw [Nat.mod_pow_succ, h, Nat.mul_one, Nat.mul_add, ← Nat.add_mod]
theorem mulT_lt (a b k : Nat) : mulT a b k < 18446744073709551616 := Nat.mod_lt _ (by decide)
theorem bit_at {b : Nat} (hb : b < 18446744073709551616) (k : Nat) : bits .and .u64 ((b : Int) / 2 ^ k) 1 = ((b / 2 ^ k % 2 : Nat) : Int) := by
  rw [pow_cast, ← Int.natCast_ediv]
  have h := u64_and_nat (b / 2 ^ k) 1 (Nat.lt_of_le_of_lt (Nat.div_le_self _ _) hb) (by decide)
  rw [Nat.and_one_is_mod] at h
  exact h

set_option maxHeartbeats 6400000 in
set_option maxRecDepth 20000 in
theorem rdo_false {op a b : Nat} (w : World) (ha : a < 18446744073709551616) (hb : b < 18446744073709551616) : Calls Try.prog 48 #[.int .u8 (op : Int), .bool false, .int .u64 (a : Int), .int .u64 (b : Int)] w fun ee w' => ee = .returned (.tuple #[.int .u64 ((D (bW false) op a b : Nat) : Int), .bool (isO op)]) ∧ Calm w w' := by
  have hT : D (bW false) op a b = dW 32 op (a % 4294967296) (b % 4294967296) := rfl
  rw [hT]
  clear hT
  have hA : a % 4294967296 < 4294967296 := Nat.mod_lt _ (by decide)
  have hB : b % 4294967296 < 4294967296 := Nat.mod_lt _ (by decide)
  obtain ⟨A, eA⟩ : ∃ A, A = a % 4294967296 := ⟨_, rfl⟩
  obtain ⟨B, eB⟩ : ∃ B, B = b % 4294967296 := ⟨_, rfl⟩
  rw [← eA] at hA ⊢
  rw [← eB] at hB ⊢
  have LA : Hid (∀ w, Calls Try.prog 65 #[.int .u64 (a : Int)] w fun e w' => e = .returned (.int .u64 (A : Int)) ∧ Calm w w') := Lib.hid (by rw [eA]; exact rlow_c a)
  have LB : Hid (∀ w, Calls Try.prog 65 #[.int .u64 (b : Int)] w fun e w' => e = .returned (.int .u64 (B : Int)) ∧ Calm w w') := Lib.hid (by rw [eB]; exact rlow_c b)
  have A64 : A < 18446744073709551616 := Nat.lt_of_lt_of_le hA (by decide)
  have B64 : B < 18446744073709551616 := Nat.lt_of_lt_of_le hB (by decide)
  obtain ⟨s, es⟩ : ∃ s, s = B % 32 := ⟨_, rfl⟩
  have ms : (B : Int) % 32 = (s : Int) := by omega
  have hs : s < 64 := by omega
  obtain ⟨r, er⟩ : ∃ r, r = decide (¬ A < 2147483648) := ⟨_, rfl⟩
  have mr : (bits .and .u64 ((A : Int) / 2147483648) 1 == 1) = r := by
    by_cases h : A < 2147483648
    · have : (A : Int) / 2147483648 = 0 := by omega
      rw [this, er]; simp [h]; decide +kernel
    · have : (A : Int) / 2147483648 = 1 := by omega
      rw [this, er]; simp [h]; decide +kernel
  have md := u64_and_nat A B A64 B64
  obtain ⟨d, ed⟩ : ∃ d, d = A &&& B := ⟨_, rfl⟩
  rw [← ed] at md
  have hd := and_or_xor A B
  rw [← ed] at hd
  have mb := not64 B64
  have ma := not64 A64
  obtain ⟨nb, enb⟩ : ∃ z, z = 18446744073709551615 - B := ⟨_, rfl⟩
  obtain ⟨na, ena⟩ : ∃ z, z = 18446744073709551615 - A := ⟨_, rfl⟩
  rw [← enb] at mb
  rw [← ena] at ma
  have HA := Lib.hid hA
  have HB := Lib.hid hB
  have H64 := Lib.hid (And.intro A64 B64)
  have HS := Lib.hid hs
  have ES := Lib.hid es
  have ER := Lib.hid er
  have ED := Lib.hid hd
  have EC := Lib.hid ed
  have EN := Lib.hid (And.intro enb ena)
  clear ha hb hA hB A64 B64 eA eB es hs er ed hd enb ena
  go_enter Try.func48, Try.ntmps48
  go_wp2_with fail
  refine (LA.out _).mono ?_
  rintro e w0 ⟨rfl, hc⟩
  have C0 := Lib.hid (hc)
  clear hc
  go_wp2_with fail
  refine (LB.out _).mono ?_
  rintro e w1 ⟨rfl, hc⟩
  have C1 := Lib.hid (C0.out.trans hc)
  clear hc
  go_wp2_with fail
  · have e : op = 0 := op_is (by assumption)
    subst e
    refine (rlowI_c (wrap_u64_nonneg _) _).mono ?_
    rintro e w9 ⟨rfl, hc⟩
    have C9 := Lib.hid ((C1.out).trans hc)
    clear hc
    go_wp2_with fail
    go_ret2
    exact ⟨ret2_eq (by have hA := HA.out; have hB := HB.out; rw [IntKind.wrap_u64]; show _ = (((A + B) % 4294967296 : Nat) : Int); omega) rfl, C9.out⟩
  · have e : op = 16 := op_is (by assumption)
    subst e
    refine (rlowI_c (wrap_u64_nonneg _) _).mono ?_
    rintro e w9 ⟨rfl, hc⟩
    have C9 := Lib.hid ((C1.out).trans hc)
    clear hc
    go_wp2_with fail
    go_ret2
    exact ⟨ret2_eq (by have hA := HA.out; have hB := HB.out; have e1 := EN.out.1; rw [IntKind.wrap_u64, IntKind.wrap_u64]; show _ = (((A + (4294967296 - B)) % 4294967296 : Nat) : Int); omega) rfl, C9.out⟩
  · have e : op = 32 := op_is (by assumption)
    subst e
    clear ms mr md mb ma
    go_loopw [13, 14] (fun x i wr => ∃ k : Nat, k ≤ 64 ∧ i = .int .i64 k ∧ x = .int .u64 ((mulT A B k : Nat) : Int) ∧ Calm w wr) (fun _ i _ => 64 - (intOf i).toNat)
    case atStart => exact ⟨0, by omega, rfl, by rw [mulT_zero]; rfl, C1.out⟩
    case round =>
      obtain ⟨k, hk, rfl, rfl, hcal⟩ := hrel
      have HC := Lib.hid hcal
      clear hcal
      have HM := Lib.hid (mulT_lt A B k)
      by_cases hlt : k < 64
      · have i1 : (k : Int) < 64 := by omega
        have t1 := bit_at H64.out.2 k
        obtain ⟨c, hc⟩ : ∃ c, c = B / 2 ^ k % 2 := ⟨_, rfl⟩
        rw [← hc] at t1
        have hc2 : c = 0 ∨ c = 1 := by omega
        have E0 : Hid (c = 0 → mulT A B (k + 1) = mulT A B k) := Lib.hid fun h => mulT_off (hc.symm.trans h)
        have E1 : Hid (c = 1 → mulT A B (k + 1) = (mulT A B k + A * 2 ^ k % 18446744073709551616) % 18446744073709551616) := Lib.hid fun h => mulT_on (hc.symm.trans h)
        obtain ⟨x, hx⟩ : ∃ x, x = mulT A B k := ⟨_, rfl⟩
        have HX := Lib.hid hx
        rw [← hx]
        clear hx hc
        rcases hc2 with rfl | rfl
        · go_wp2_with fail
          go_roundw
          case rel => exact ⟨k + 1, by omega, by go_num, by rw [E0.out rfl, ← HX.out], HC.out⟩
          case measure => simp [intOf]; omega
        · go_wp2_with fail
          go_roundw
          case rel => exact ⟨k + 1, by omega, by go_num, congrArg _ (by
            rw [E1.out rfl, ← HX.out, IntKind.wrap_u64, IntKind.wrap_u64, pow_cast, ← Int.natCast_mul]
            omega), HC.out⟩
          case measure => simp [intOf]; omega
      · obtain rfl : k = 64 := by omega
        clear hlt hk
        have HL := Lib.hid (mulT_all A H64.out.2)
        go_wp2_with fail
        refine (rlowI_c (Int.natCast_nonneg _) _).mono ?_
        rintro e w9 ⟨rfl, hc⟩
        have C9 := Lib.hid ((HC.out).trans hc)
        clear hc
        go_wp2_with fail
        go_ret2
        exact ⟨ret2_eq (by rw [HL.out]; show _ = ((A * B % 4294967296 : Nat) : Int); generalize A * B = z; omega) rfl, C9.out⟩
  · have e : op = 48 := op_is (by assumption)
    subst e
    refine (rlowI_c (wrap_u64_nonneg _) _).mono ?_
    rintro e w9 ⟨rfl, hc⟩
    have C9 := Lib.hid ((C1.out).trans hc)
    clear hc
    go_wp2_with fail
    go_ret2
    exact ⟨ret2_eq (by have hA := HA.out; have := Nat.div_le_self A B; show IntKind.u64.wrap ((A / B : Nat) : Int) % 4294967296 = ((A / B : Nat) : Int); generalize A / B = z at *; rw [wrapU64 (x := z) (by omega)]; omega) rfl, C9.out⟩
  · have e : op = 48 := op_is (by assumption)
    subst e
    have hz : ¬ 0 < B := by assumption
    obtain rfl : B = 0 := by omega
    refine (rlowI_c (Int.le_refl _) _).mono ?_
    rintro e w9 ⟨rfl, hc⟩
    have C9 := Lib.hid ((C1.out).trans hc)
    clear hc
    go_wp2_with fail
    go_ret2
    exact ⟨ret2_eq (by show _ = ((A / 0 : Nat) : Int); rw [Nat.div_zero]; rfl) rfl, C9.out⟩
  · have e : op = 144 := op_is (by assumption)
    subst e
    refine (rlowI_c (wrap_u64_nonneg _) _).mono ?_
    rintro e w9 ⟨rfl, hc⟩
    have C9 := Lib.hid ((C1.out).trans hc)
    clear hc
    go_wp2_with fail
    go_ret2
    exact ⟨ret2_eq (by have hA := HA.out; have h1 := Nat.div_le_self A B; have h2 := Nat.div_mul_le_self A B; have h3 := Nat.div_add_mod A B; rw [Nat.mul_comm] at h3; have e1 : IntKind.u64.wrap ((A : Int) / (B : Int)) = ((A / B : Nat) : Int) := wrapU64 (x := A / B) (by omega); rw [e1, ← Int.natCast_mul, wrapU64 (x := A / B * B) (by omega), IntKind.wrap_u64]; show _ = ((A % B : Nat) : Int); generalize A / B * B = z at *; omega) rfl, C9.out⟩
  · have e : op = 144 := op_is (by assumption)
    subst e
    have hz : ¬ 0 < B := by assumption
    obtain rfl : B = 0 := by omega
    refine (rlowI_c (Int.natCast_nonneg _) _).mono ?_
    rintro e w9 ⟨rfl, hc⟩
    have C9 := Lib.hid ((C1.out).trans hc)
    clear hc
    go_wp2_with fail
    go_ret2
    exact ⟨ret2_eq (by have hA := HA.out; show _ = ((A % 0 : Nat) : Int); rw [Nat.mod_zero]; omega) rfl, C9.out⟩
  · have e : op = 64 := op_is (by assumption)
    subst e
    refine (rlowI_c (wrap_u64_nonneg _) _).mono ?_
    rintro e w9 ⟨rfl, hc⟩
    have C9 := Lib.hid ((C1.out).trans hc)
    clear hc
    go_wp2_with fail
    go_ret2
    exact ⟨ret2_eq (by have hA := HA.out; have hB := HB.out; have h1 := ED.out.1; have h2 := Nat.or_lt_two_pow (n := 32) HA.out HB.out; rw [IntKind.wrap_u64, IntKind.wrap_u64]; show _ = ((A ||| B : Nat) : Int); generalize (A ||| B) = z at *; omega) rfl, C9.out⟩
  · have e : op = 80 := op_is (by assumption)
    subst e
    refine (rlowI_c (Int.natCast_nonneg _) _).mono ?_
    rintro e w9 ⟨rfl, hc⟩
    have C9 := Lib.hid ((C1.out).trans hc)
    clear hc
    go_wp2_with fail
    go_ret2
    exact ⟨ret2_eq (by have h2 := Nat.and_lt_two_pow (n := 32) A HB.out; show _ = ((A &&& B : Nat) : Int); rw [← EC.out] at h2 ⊢; omega) rfl, C9.out⟩
  · have e : op = 160 := op_is (by assumption)
    subst e
    refine (rlowI_c (wrap_u64_nonneg _) _).mono ?_
    rintro e w9 ⟨rfl, hc⟩
    have C9 := Lib.hid ((C1.out).trans hc)
    clear hc
    go_wp2_with fail
    go_ret2
    exact ⟨ret2_eq (by have hA := HA.out; have hB := HB.out; have h1 := ED.out.2; have h2 := Nat.xor_lt_two_pow (n := 32) HA.out HB.out; rw [IntKind.wrap_u64, IntKind.wrap_u64, IntKind.wrap_u64]; show _ = ((A ^^^ B : Nat) : Int); generalize (A ^^^ B) = z at *; omega) rfl, C9.out⟩
  · have e : op = 96 := op_is (by assumption)
    subst e
    refine (rup_c H64.out.1 HS.out _).mono ?_
    rintro e w5 ⟨rfl, hc⟩
    have C5 := Lib.hid ((C1.out).trans hc)
    clear hc
    go_wp2_with fail
    refine (rlowI_c (Int.natCast_nonneg _) _).mono ?_
    rintro e w9 ⟨rfl, hc⟩
    have C9 := Lib.hid ((C5.out).trans hc)
    clear hc
    go_wp2_with fail
    go_ret2
    exact ⟨ret2_eq (by show _ = ((A * 2 ^ (B % 32) % 4294967296 : Nat) : Int); rw [← ES.out, pow_cast, ← Int.natCast_mul]; generalize A * 2 ^ s = z; omega) rfl, C9.out⟩
  · have e : op = 112 := op_is (by assumption)
    subst e
    refine (rdown0_c 32 H64.out.1 HS.out _).mono ?_
    rintro e w5 ⟨rfl, hc⟩
    have C5 := Lib.hid ((C1.out).trans hc)
    clear hc
    go_wp2_with fail
    refine (rlowI_c (Int.natCast_nonneg _) _).mono ?_
    rintro e w9 ⟨rfl, hc⟩
    have C9 := Lib.hid ((C5.out).trans hc)
    clear hc
    go_wp2_with fail
    go_ret2
    exact ⟨ret2_eq (by show _ = ((A / 2 ^ (B % 32) : Nat) : Int); rw [← ES.out, pow_cast, ← Int.natCast_ediv]; have h1 := Nat.div_le_self A (2 ^ s); have hA := HA.out; generalize A / 2 ^ s = z at *; omega) rfl, C9.out⟩
  · have e : op = 192 := op_is (by assumption)
    subst e
    cases r
    · have hr : A < 2147483648 := by have := ER.out; simpa using this
      refine (rdown0_c 32 H64.out.1 HS.out _).mono ?_
      rintro e w5 ⟨rfl, hc⟩
      have C5 := Lib.hid ((C1.out).trans hc)
      clear hc
      rw [← arT_pos (n := 32) (k := s) HA.out hr]
      clear hr
      go_wp2_with fail
      refine (rlowI_c (Int.natCast_nonneg _) _).mono ?_
      rintro e w9 ⟨rfl, hc⟩
      have C9 := Lib.hid ((C5.out).trans hc)
      clear hc
      go_wp2_with fail
      go_ret2
      exact ⟨ret2_eq (by show _ = ((arT 32 A (B % 32) : Nat) : Int); rw [← ES.out]; have h1 := arT_lt 32 A s; generalize arT 32 A s = z at *; omega) rfl, C9.out⟩
    · have hr : ¬ A < 2147483648 := by have := ER.out; simpa using this
      refine (rdown32_c HA.out hr HS.out _).mono ?_
      rintro e w5 ⟨rfl, hc⟩
      have C5 := Lib.hid ((C1.out).trans hc)
      clear hc hr
      go_wp2_with fail
      refine (rlowI_c (Int.natCast_nonneg _) _).mono ?_
      rintro e w9 ⟨rfl, hc⟩
      have C9 := Lib.hid ((C5.out).trans hc)
      clear hc
      go_wp2_with fail
      go_ret2
      exact ⟨ret2_eq (by show _ = ((arT 32 A (B % 32) : Nat) : Int); rw [← ES.out]; have h1 := arT_lt 32 A s; generalize arT 32 A s = z at *; omega) rfl, C9.out⟩
  · have e : op = 128 := op_is (by assumption)
    subst e
    refine (rlowI_c (wrap_u64_nonneg _) _).mono ?_
    rintro e w9 ⟨rfl, hc⟩
    have C9 := Lib.hid ((C1.out).trans hc)
    clear hc
    go_wp2_with fail
    go_ret2
    exact ⟨ret2_eq (by have hA := HA.out; have hB := HB.out; have e1 := EN.out.2; rw [IntKind.wrap_u64]; show _ = (((4294967296 - A) % 4294967296 : Nat) : Int); omega) rfl, C9.out⟩
  · have e : op = 176 := op_is (by assumption)
    subst e
    refine (rlowI_c (Int.natCast_nonneg _) _).mono ?_
    rintro e w9 ⟨rfl, hc⟩
    have C9 := Lib.hid ((C1.out).trans hc)
    clear hc
    go_wp2_with fail
    go_ret2
    exact ⟨ret2_eq (by have hB := HB.out; show _ = ((B : Nat) : Int); omega) rfl, C9.out⟩
  · go_ret2
    refine ⟨ret2_eq (y := ((dW 32 op A B : Nat) : Int)) ?_ ?_, C1.out⟩
    · unfold dW
      rw [if_neg (op_not (k := 0) (by assumption)), if_neg (op_not (k := 16) (by assumption)), if_neg (op_not (k := 32) (by assumption)), if_neg (op_not (k := 48) (by assumption)), if_neg (op_not (k := 64) (by assumption)), if_neg (op_not (k := 80) (by assumption)), if_neg (op_not (k := 96) (by assumption)), if_neg (op_not (k := 112) (by assumption)), if_neg (op_not (k := 128) (by assumption)), if_neg (op_not (k := 144) (by assumption)), if_neg (op_not (k := 160) (by assumption)), if_neg (op_not (k := 176) (by assumption)), if_neg (op_not (k := 192) (by assumption))]
      rfl
    · unfold isO
      symm
      apply decide_eq_false
      simp only [List.mem_cons, List.not_mem_nil, or_false, not_or]
      exact ⟨op_not (k := 0) (by assumption), op_not (k := 16) (by assumption), op_not (k := 32) (by assumption), op_not (k := 48) (by assumption), op_not (k := 64) (by assumption), op_not (k := 80) (by assumption), op_not (k := 96) (by assumption), op_not (k := 112) (by assumption), op_not (k := 128) (by assumption), op_not (k := 144) (by assumption), op_not (k := 160) (by assumption), op_not (k := 176) (by assumption), op_not (k := 192) (by assumption)⟩
set_option maxHeartbeats 6400000 in
set_option maxRecDepth 20000 in
theorem rdo_true {op a b : Nat} (w : World) (ha : a < 18446744073709551616) (hb : b < 18446744073709551616) : Calls Try.prog 48 #[.int .u8 (op : Int), .bool true, .int .u64 (a : Int), .int .u64 (b : Int)] w fun ee w' => ee = .returned (.tuple #[.int .u64 ((D (bW true) op a b : Nat) : Int), .bool (isO op)]) ∧ Calm w w' := by
  have hT : D (bW true) op a b = dW 64 op (a % 18446744073709551616) (b % 18446744073709551616) := rfl
  rw [hT]
  clear hT
  have hA : a % 18446744073709551616 < 18446744073709551616 := Nat.mod_lt _ (by decide)
  have hB : b % 18446744073709551616 < 18446744073709551616 := Nat.mod_lt _ (by decide)
  rw [Nat.mod_eq_of_lt ha] at hA ⊢
  rw [Nat.mod_eq_of_lt hb] at hB ⊢
  obtain ⟨A, eA⟩ : ∃ A, A = a := ⟨_, rfl⟩
  obtain ⟨B, eB⟩ : ∃ B, B = b := ⟨_, rfl⟩
  rw [← eA] at hA ⊢
  rw [← eB] at hB ⊢
  have A64 : A < 18446744073709551616 := Nat.lt_of_lt_of_le hA (by decide)
  have B64 : B < 18446744073709551616 := Nat.lt_of_lt_of_le hB (by decide)
  obtain ⟨s, es⟩ : ∃ s, s = B % 64 := ⟨_, rfl⟩
  have ms : (B : Int) % 64 = (s : Int) := by omega
  have hs : s < 64 := by omega
  obtain ⟨r, er⟩ : ∃ r, r = decide (¬ A < 9223372036854775808) := ⟨_, rfl⟩
  have mr : (bits .and .u64 ((A : Int) / 9223372036854775808) 1 == 1) = r := by
    by_cases h : A < 9223372036854775808
    · have : (A : Int) / 9223372036854775808 = 0 := by omega
      rw [this, er]; simp [h]; decide +kernel
    · have : (A : Int) / 9223372036854775808 = 1 := by omega
      rw [this, er]; simp [h]; decide +kernel
  have md := u64_and_nat A B A64 B64
  obtain ⟨d, ed⟩ : ∃ d, d = A &&& B := ⟨_, rfl⟩
  rw [← ed] at md
  have hd := and_or_xor A B
  rw [← ed] at hd
  have mb := not64 B64
  have ma := not64 A64
  obtain ⟨nb, enb⟩ : ∃ z, z = 18446744073709551615 - B := ⟨_, rfl⟩
  obtain ⟨na, ena⟩ : ∃ z, z = 18446744073709551615 - A := ⟨_, rfl⟩
  rw [← enb] at mb
  rw [← ena] at ma
  have HA := Lib.hid hA
  have HB := Lib.hid hB
  have H64 := Lib.hid (And.intro A64 B64)
  have HS := Lib.hid hs
  have ES := Lib.hid es
  have ER := Lib.hid er
  have ED := Lib.hid hd
  have EC := Lib.hid ed
  have EN := Lib.hid (And.intro enb ena)
  clear ha hb hA hB A64 B64 eA eB es hs er ed hd enb ena
  go_enter Try.func48, Try.ntmps48
  go_wp2_with fail
  · have e : op = 0 := op_is (by assumption)
    subst e
    go_ret2
    exact ⟨ret2_eq (by have hA := HA.out; have hB := HB.out; rw [IntKind.wrap_u64]; show _ = (((A + B) % 18446744073709551616 : Nat) : Int); omega) rfl, (Keep.refl _ w)⟩
  · have e : op = 16 := op_is (by assumption)
    subst e
    go_ret2
    exact ⟨ret2_eq (by have hA := HA.out; have hB := HB.out; have e1 := EN.out.1; rw [IntKind.wrap_u64, IntKind.wrap_u64]; show _ = (((A + (18446744073709551616 - B)) % 18446744073709551616 : Nat) : Int); omega) rfl, (Keep.refl _ w)⟩
  · have e : op = 32 := op_is (by assumption)
    subst e
    clear ms mr md mb ma
    go_loopw [13, 14] (fun x i wr => ∃ k : Nat, k ≤ 64 ∧ i = .int .i64 k ∧ x = .int .u64 ((mulT A B k : Nat) : Int) ∧ Calm w wr) (fun _ i _ => 64 - (intOf i).toNat)
    case atStart => exact ⟨0, by omega, rfl, by rw [mulT_zero]; rfl, (Keep.refl _ w)⟩
    case round =>
      obtain ⟨k, hk, rfl, rfl, hcal⟩ := hrel
      have HC := Lib.hid hcal
      clear hcal
      have HM := Lib.hid (mulT_lt A B k)
      by_cases hlt : k < 64
      · have i1 : (k : Int) < 64 := by omega
        have t1 := bit_at H64.out.2 k
        obtain ⟨c, hc⟩ : ∃ c, c = B / 2 ^ k % 2 := ⟨_, rfl⟩
        rw [← hc] at t1
        have hc2 : c = 0 ∨ c = 1 := by omega
        have E0 : Hid (c = 0 → mulT A B (k + 1) = mulT A B k) := Lib.hid fun h => mulT_off (hc.symm.trans h)
        have E1 : Hid (c = 1 → mulT A B (k + 1) = (mulT A B k + A * 2 ^ k % 18446744073709551616) % 18446744073709551616) := Lib.hid fun h => mulT_on (hc.symm.trans h)
        obtain ⟨x, hx⟩ : ∃ x, x = mulT A B k := ⟨_, rfl⟩
        have HX := Lib.hid hx
        rw [← hx]
        clear hx hc
        rcases hc2 with rfl | rfl
        · go_wp2_with fail
          go_roundw
          case rel => exact ⟨k + 1, by omega, by go_num, by rw [E0.out rfl, ← HX.out], HC.out⟩
          case measure => simp [intOf]; omega
        · go_wp2_with fail
          go_roundw
          case rel => exact ⟨k + 1, by omega, by go_num, congrArg _ (by
            rw [E1.out rfl, ← HX.out, IntKind.wrap_u64, IntKind.wrap_u64, pow_cast, ← Int.natCast_mul]
            omega), HC.out⟩
          case measure => simp [intOf]; omega
      · obtain rfl : k = 64 := by omega
        clear hlt hk
        have HL := Lib.hid (mulT_all A H64.out.2)
        go_wp2_with fail
        go_ret2
        exact ⟨ret2_eq (by rw [HL.out]; rfl) rfl, HC.out⟩
  · have e : op = 48 := op_is (by assumption)
    subst e
    go_ret2
    exact ⟨ret2_eq (by have hA := HA.out; have := Nat.div_le_self A B; exact wrapU64 (x := A / B) (by omega)) rfl, (Keep.refl _ w)⟩
  · have e : op = 48 := op_is (by assumption)
    subst e
    have hz : ¬ 0 < B := by assumption
    obtain rfl : B = 0 := by omega
    go_ret2
    exact ⟨ret2_eq (by show _ = ((A / 0 : Nat) : Int); rw [Nat.div_zero]; rfl) rfl, (Keep.refl _ w)⟩
  · have e : op = 144 := op_is (by assumption)
    subst e
    go_ret2
    exact ⟨ret2_eq (by have hA := HA.out; have h1 := Nat.div_le_self A B; have h2 := Nat.div_mul_le_self A B; have h3 := Nat.div_add_mod A B; rw [Nat.mul_comm] at h3; have e1 : IntKind.u64.wrap ((A : Int) / (B : Int)) = ((A / B : Nat) : Int) := wrapU64 (x := A / B) (by omega); rw [e1, ← Int.natCast_mul, wrapU64 (x := A / B * B) (by omega), IntKind.wrap_u64]; show _ = ((A % B : Nat) : Int); generalize A / B * B = z at *; omega) rfl, (Keep.refl _ w)⟩
  · have e : op = 144 := op_is (by assumption)
    subst e
    have hz : ¬ 0 < B := by assumption
    obtain rfl : B = 0 := by omega
    go_ret2
    exact ⟨ret2_eq (by show _ = ((A % 0 : Nat) : Int); rw [Nat.mod_zero]) rfl, (Keep.refl _ w)⟩
  · have e : op = 64 := op_is (by assumption)
    subst e
    go_ret2
    exact ⟨ret2_eq (by have hA := HA.out; have hB := HB.out; have h1 := ED.out.1; have h2 := Nat.or_lt_two_pow (n := 64) HA.out HB.out; rw [IntKind.wrap_u64, IntKind.wrap_u64]; show _ = ((A ||| B : Nat) : Int); generalize (A ||| B) = z at *; omega) rfl, (Keep.refl _ w)⟩
  · have e : op = 80 := op_is (by assumption)
    subst e
    go_ret2
    exact ⟨ret2_eq (by show _ = ((A &&& B : Nat) : Int); rw [EC.out]) rfl, (Keep.refl _ w)⟩
  · have e : op = 160 := op_is (by assumption)
    subst e
    go_ret2
    exact ⟨ret2_eq (by have hA := HA.out; have hB := HB.out; have h1 := ED.out.2; have h2 := Nat.xor_lt_two_pow (n := 64) HA.out HB.out; rw [IntKind.wrap_u64, IntKind.wrap_u64, IntKind.wrap_u64]; show _ = ((A ^^^ B : Nat) : Int); generalize (A ^^^ B) = z at *; omega) rfl, (Keep.refl _ w)⟩
  · have e : op = 96 := op_is (by assumption)
    subst e
    refine (rup_c H64.out.1 HS.out _).mono ?_
    rintro e w5 ⟨rfl, hc⟩
    have C5 := Lib.hid (((Keep.refl _ w)).trans hc)
    clear hc
    go_wp2_with fail
    go_ret2
    exact ⟨ret2_eq (by show _ = ((A * 2 ^ (B % 64) % 18446744073709551616 : Nat) : Int); rw [← ES.out, pow_cast, ← Int.natCast_mul]; rfl) rfl, C5.out⟩
  · have e : op = 112 := op_is (by assumption)
    subst e
    refine (rdown0_c 64 H64.out.1 HS.out _).mono ?_
    rintro e w5 ⟨rfl, hc⟩
    have C5 := Lib.hid (((Keep.refl _ w)).trans hc)
    clear hc
    go_wp2_with fail
    go_ret2
    exact ⟨ret2_eq (by show _ = ((A / 2 ^ (B % 64) : Nat) : Int); rw [← ES.out, pow_cast, ← Int.natCast_ediv]; skip) rfl, C5.out⟩
  · have e : op = 192 := op_is (by assumption)
    subst e
    cases r
    · have hr : A < 9223372036854775808 := by have := ER.out; simpa using this
      refine (rdown0_c 64 H64.out.1 HS.out _).mono ?_
      rintro e w5 ⟨rfl, hc⟩
      have C5 := Lib.hid (((Keep.refl _ w)).trans hc)
      clear hc
      rw [← arT_pos (n := 64) (k := s) HA.out hr]
      clear hr
      go_wp2_with fail
      go_ret2
      exact ⟨ret2_eq (by show _ = ((arT 64 A (B % 64) : Nat) : Int); rw [← ES.out]) rfl, C5.out⟩
    · have hr : ¬ A < 9223372036854775808 := by have := ER.out; simpa using this
      refine (rdown64_c HA.out hr HS.out _).mono ?_
      rintro e w5 ⟨rfl, hc⟩
      have C5 := Lib.hid (((Keep.refl _ w)).trans hc)
      clear hc hr
      go_wp2_with fail
      go_ret2
      exact ⟨ret2_eq (by show _ = ((arT 64 A (B % 64) : Nat) : Int); rw [← ES.out]) rfl, C5.out⟩
  · have e : op = 128 := op_is (by assumption)
    subst e
    go_ret2
    exact ⟨ret2_eq (by have hA := HA.out; have hB := HB.out; have e1 := EN.out.2; rw [IntKind.wrap_u64]; show _ = (((18446744073709551616 - A) % 18446744073709551616 : Nat) : Int); omega) rfl, (Keep.refl _ w)⟩
  · have e : op = 176 := op_is (by assumption)
    subst e
    go_ret2
    exact ⟨ret2_eq (by rfl) rfl, (Keep.refl _ w)⟩
  · go_ret2
    refine ⟨ret2_eq (y := ((dW 64 op A B : Nat) : Int)) ?_ ?_, (Keep.refl _ w)⟩
    · unfold dW
      rw [if_neg (op_not (k := 0) (by assumption)), if_neg (op_not (k := 16) (by assumption)), if_neg (op_not (k := 32) (by assumption)), if_neg (op_not (k := 48) (by assumption)), if_neg (op_not (k := 64) (by assumption)), if_neg (op_not (k := 80) (by assumption)), if_neg (op_not (k := 96) (by assumption)), if_neg (op_not (k := 112) (by assumption)), if_neg (op_not (k := 128) (by assumption)), if_neg (op_not (k := 144) (by assumption)), if_neg (op_not (k := 160) (by assumption)), if_neg (op_not (k := 176) (by assumption)), if_neg (op_not (k := 192) (by assumption))]
      rfl
    · unfold isO
      symm
      apply decide_eq_false
      simp only [List.mem_cons, List.not_mem_nil, or_false, not_or]
      exact ⟨op_not (k := 0) (by assumption), op_not (k := 16) (by assumption), op_not (k := 32) (by assumption), op_not (k := 48) (by assumption), op_not (k := 64) (by assumption), op_not (k := 80) (by assumption), op_not (k := 96) (by assumption), op_not (k := 112) (by assumption), op_not (k := 128) (by assumption), op_not (k := 144) (by assumption), op_not (k := 160) (by assumption), op_not (k := 176) (by assumption), op_not (k := 192) (by assumption)⟩
theorem rdo_c {op a b : Nat} (wide : Bool) (w : World) (ha : a < 18446744073709551616) (hb : b < 18446744073709551616) : Calls Try.prog 48 #[.int .u8 (op : Int), .bool wide, .int .u64 (a : Int), .int .u64 (b : Int)] w fun ee w' => ee = .returned (.tuple #[.int .u64 ((D (bW wide) op a b : Nat) : Int), .bool (isO op)]) ∧ Calm w w' := by
  cases wide
  · exact rdo_false w ha hb
  · exact rdo_true w ha hb

end Go.Proofs.Ytboiakahhkihiaa