/-
  Package alu: do and test, of words of both sizes.
-/
import Derived.Test.YtboiakahhkihiaaA1
namespace Go.Proofs.Ytboiakahhkihiaa
open Go.RowKit
set_option linter.all false

/-- What an operation makes of two words of n bits. -/
def dW (n op a b : Nat) : Nat :=
  if op = 0 then (a + b) % 2 ^ n else if op = 16 then (a + (2 ^ n - b)) % 2 ^ n else if op = 32 then a * b % 2 ^ n else if op = 48 then a / b
  else if op = 64 then a ||| b else if op = 80 then a &&& b else if op = 96 then a * 2 ^ (b % n) % 2 ^ n else if op = 112 then a / 2 ^ (b % n)
  else if op = 128 then (2 ^ n - a) % 2 ^ n else if op = 144 then a % b else if op = 160 then a ^^^ b else if op = 176 then b
  else if op = 192 then ((sgn n a / ((2 ^ (b % n) : Nat) : Int)) % ((2 ^ n : Nat) : Int)).toNat else 0
def isO (op : Nat) : Bool := decide (op ∈ [0, 16, 32, 48, 64, 80, 96, 112, 128, 144, 160, 176, 192])
/-- Whether a test holds of two words of n bits. -/
def tW (n op a b : Nat) : Bool :=
  if op = 16 then decide (a = b) else if op = 32 then decide (b < a) else if op = 48 then decide (b ≤ a) else if op = 64 then decide (¬ a &&& b = 0)
  else if op = 80 then decide (¬ a = b) else if op = 96 then decide (sgn n b < sgn n a) else if op = 112 then decide (sgn n b ≤ sgn n a)
  else if op = 160 then decide (a < b) else if op = 176 then decide (a ≤ b) else if op = 192 then decide (sgn n a < sgn n b) else if op = 208 then decide (sgn n a ≤ sgn n b) else false
def isT (op : Nat) : Bool := decide (op ∈ [16, 32, 48, 64, 80, 96, 112, 160, 176, 192, 208])
theorem ret2_eq {k : IntKind} {x y : Int} {p q : Bool} (h : x = y) (h' : p = q) : Ending.returned (.tuple #[.int k x, .bool p]) = Ending.returned (.tuple #[.int k y, .bool q]) := by rw [h, h']
theorem retb_eq {x y : Bool} {p q : Bool} (h : x = y) (h' : p = q) : Ending.returned (.tuple #[.bool x, .bool p]) = Ending.returned (.tuple #[.bool y, .bool q]) := by rw [h, h']
theorem op_is {op k : Nat} (h : ((op : Int) == (k : Int)) = true) : op = k := by have := eq_of_beq h; omega
theorem op_not {op k : Nat} (h : ((op : Int) == (k : Int)) = false) : op ≠ k := by intro e; subst e; simp at h
theorem pow_min {b n : Nat} (h : b < n) : min ((b : Int).toNat) n = b := by rw [Int.toNat_natCast]; omega
theorem pow_cast (s : Nat) : (2 : Int) ^ s = ((2 ^ s : Nat) : Int) := by rw [Int.natCast_pow]; rfl


set_option maxHeartbeats 3200000 in

theorem do64_c {op a b : Nat} (w : World) (ha : a < 18446744073709551616) (hb : b < 18446744073709551616) : Calls Try.prog 36 #[.int .u8 (op : Int), .int .u64 (a : Int), .int .u64 (b : Int)] w fun x w' => x = .returned (.tuple #[.int .u64 ((dW 64 op a b : Nat) : Int), .bool (isO op)]) ∧ Calm w w' := by
  have HA := Lib.hid ha
  have HB := Lib.hid hb
  have hp : b % 64 < 64 := Nat.mod_lt _ (by decide)
  have HP := Lib.hid hp
  clear ha hb hp
  go_enter Try.func36, Try.ntmps36
  go_wp2_with fail
  · have e : op = 0 := op_is (by assumption)
    subst e
    go_ret2
    exact ⟨ret2_eq (by rw [IntKind.wrap_u64]; show _ = (((a + b) % 18446744073709551616 : Nat) : Int); omega) rfl, Keep.refl _ w⟩
  · have e : op = 16 := op_is (by assumption)
    subst e
    go_ret2
    exact ⟨ret2_eq (by have hb := HB.out; rw [IntKind.wrap_u64]; show _ = (((a + (18446744073709551616 - b)) % 18446744073709551616 : Nat) : Int); omega) rfl, Keep.refl _ w⟩
  · have e : op = 32 := op_is (by assumption)
    subst e
    go_ret2
    exact ⟨ret2_eq (by rw [IntKind.wrap_u64]; exact (by rw [← Int.natCast_mul]; rfl)) rfl, Keep.refl _ w⟩
  · have e : op = 48 := op_is (by assumption)
    subst e
    refine (quo64_c (b := b) w HA.out).mono ?_
    rintro x w0 ⟨rfl, hc0⟩
    have C0 := Lib.hid hc0
    clear hc0
    go_wp2_with fail
    go_ret2
    exact ⟨ret2_eq (by rfl) rfl, C0.out⟩
  · have e : op = 64 := op_is (by assumption)
    subst e
    go_ret2
    exact ⟨ret2_eq (by exact u64_or_nat a b HA.out HB.out) rfl, Keep.refl _ w⟩
  · have e : op = 80 := op_is (by assumption)
    subst e
    go_ret2
    exact ⟨ret2_eq (by exact u64_and_nat a b HA.out HB.out) rfl, Keep.refl _ w⟩
  · have e : op = 96 := op_is (by assumption)
    subst e
    refine (places64_c (b := b) w).mono ?_
    rintro x w0 ⟨rfl, hc0⟩
    have C0 := Lib.hid hc0
    clear hc0
    go_wp2_with fail
    go_ret2
    exact ⟨ret2_eq (by rw [IntKind.wrap_u64]; rw [pow_cast, ← Int.natCast_mul]; rfl) rfl, C0.out⟩
  · have e : op = 112 := op_is (by assumption)
    subst e
    refine (places64_c (b := b) w).mono ?_
    rintro x w0 ⟨rfl, hc0⟩
    have C0 := Lib.hid hc0
    clear hc0
    go_wp2_with fail
    go_ret2
    exact ⟨ret2_eq (by rw [pow_cast, ← Int.natCast_ediv]; rfl) rfl, C0.out⟩
  · have e : op = 128 := op_is (by assumption)
    subst e
    go_ret2
    exact ⟨ret2_eq (by have ha := HA.out; rw [IntKind.wrap_u64]; show _ = (((18446744073709551616 - a) % 18446744073709551616 : Nat) : Int); omega) rfl, Keep.refl _ w⟩
  · have e : op = 144 := op_is (by assumption)
    subst e
    refine (rem64_c (b := b) w HA.out).mono ?_
    rintro x w0 ⟨rfl, hc0⟩
    have C0 := Lib.hid hc0
    clear hc0
    go_wp2_with fail
    go_ret2
    exact ⟨ret2_eq (by rfl) rfl, C0.out⟩
  · have e : op = 160 := op_is (by assumption)
    subst e
    go_ret2
    exact ⟨ret2_eq (by exact u64_xor_nat a b HA.out HB.out) rfl, Keep.refl _ w⟩
  · have e : op = 176 := op_is (by assumption)
    subst e
    go_ret2
    exact ⟨ret2_eq (by rfl) rfl, Keep.refl _ w⟩
  · have e : op = 192 := op_is (by assumption)
    subst e
    refine (signed64_c w HA.out).mono ?_
    rintro x w0 ⟨rfl, hc0⟩
    have C0 := Lib.hid hc0
    clear hc0
    obtain ⟨s, hs⟩ : ∃ s, s = sgn 64 a := ⟨_, rfl⟩
    have HS := Lib.hid hs
    rw [← hs]
    clear hs
    go_wp2_with fail
    refine (places64_c (b := b) _).mono ?_
    rintro x w1 ⟨rfl, hc1⟩
    have C1 := Lib.hid hc1
    clear hc1
    go_wp2_with fail
    go_ret2
    exact ⟨ret2_eq (by rw [HS.out]; rw [IntKind.wrap_u64]; rw [pow_cast]; exact (Int.toNat_of_nonneg (Int.emod_nonneg _ (by decide))).symm) rfl, C0.out.trans C1.out⟩
  · go_ret2
    refine ⟨ret2_eq (y := ((dW 64 op a b : Nat) : Int)) ?_ ?_, Keep.refl _ w⟩
    · unfold dW
      rw [if_neg (op_not (k := 0) (by assumption)), if_neg (op_not (k := 16) (by assumption)), if_neg (op_not (k := 32) (by assumption)), if_neg (op_not (k := 48) (by assumption)), if_neg (op_not (k := 64) (by assumption)), if_neg (op_not (k := 80) (by assumption)), if_neg (op_not (k := 96) (by assumption)), if_neg (op_not (k := 112) (by assumption)), if_neg (op_not (k := 128) (by assumption)), if_neg (op_not (k := 144) (by assumption)), if_neg (op_not (k := 160) (by assumption)), if_neg (op_not (k := 176) (by assumption)), if_neg (op_not (k := 192) (by assumption))]
      rfl
    · unfold isO
      symm
      apply decide_eq_false
      simp only [List.mem_cons, List.not_mem_nil, or_false, not_or]
      exact ⟨op_not (k := 0) (by assumption), op_not (k := 16) (by assumption), op_not (k := 32) (by assumption), op_not (k := 48) (by assumption), op_not (k := 64) (by assumption), op_not (k := 80) (by assumption), op_not (k := 96) (by assumption), op_not (k := 112) (by assumption), op_not (k := 128) (by assumption), op_not (k := 144) (by assumption), op_not (k := 160) (by assumption), op_not (k := 176) (by assumption), op_not (k := 192) (by assumption)⟩

set_option maxHeartbeats 3200000 in

theorem test64_c {op a b : Nat} (w : World) (ha : a < 18446744073709551616) (hb : b < 18446744073709551616) : Calls Try.prog 38 #[.int .u8 (op : Int), .int .u64 (a : Int), .int .u64 (b : Int)] w fun x w' => x = .returned (.tuple #[.bool (tW 64 op a b), .bool (isT op)]) ∧ Calm w w' := by
  have HA := Lib.hid ha
  have HB := Lib.hid hb
  have hd := u64_and_nat a b ha hb
  obtain ⟨d, hd'⟩ : ∃ d, d = a &&& b := ⟨_, rfl⟩
  rw [← hd'] at hd
  have HD := Lib.hid hd'
  clear ha hb hd'
  go_enter Try.func38, Try.ntmps38
  go_wp2_with fail
  · have e : op = 16 := op_is (by assumption)
    subst e
    go_ret2
    exact ⟨retb_eq (by show _ = decide (a = b); first | rfl | (rw [Bool.eq_iff_iff]; simp <;> omega)) rfl, Keep.refl _ w⟩
  · have e : op = 32 := op_is (by assumption)
    subst e
    go_ret2
    exact ⟨retb_eq (by show _ = decide (b < a); first | rfl | (rw [Bool.eq_iff_iff]; simp <;> omega)) rfl, Keep.refl _ w⟩
  · have e : op = 48 := op_is (by assumption)
    subst e
    go_ret2
    exact ⟨retb_eq (by show _ = decide (b ≤ a); first | rfl | (rw [Bool.eq_iff_iff]; simp <;> omega)) rfl, Keep.refl _ w⟩
  · have e : op = 64 := op_is (by assumption)
    subst e
    go_ret2
    exact ⟨retb_eq (by show _ = decide (¬ a &&& b = 0); rw [← HD.out, Bool.eq_iff_iff]; simp <;> omega) rfl, Keep.refl _ w⟩
  · have e : op = 80 := op_is (by assumption)
    subst e
    go_ret2
    exact ⟨retb_eq (by show _ = decide (¬ a = b); first | rfl | (rw [Bool.eq_iff_iff]; simp <;> omega)) rfl, Keep.refl _ w⟩
  · have e : op = 96 := op_is (by assumption)
    subst e
    obtain ⟨s, hs⟩ : ∃ s, s = sgn 64 a := ⟨_, rfl⟩
    obtain ⟨t, ht⟩ : ∃ t, t = sgn 64 b := ⟨_, rfl⟩
    have HS := Lib.hid (And.intro hs ht)
    have SA : Hid (∀ w, Calls Try.prog 57 #[.int .u64 (a : Int)] w fun x w' => x = .returned (.int .i64 s) ∧ Calm w w') := Lib.hid (by intro w; rw [hs]; exact signed64_c w HA.out)
    have SB : Hid (∀ w, Calls Try.prog 57 #[.int .u64 (b : Int)] w fun x w' => x = .returned (.int .i64 t) ∧ Calm w w') := Lib.hid (by intro w; rw [ht]; exact signed64_c w HB.out)
    clear hs ht
    refine (SA.out w).mono ?_
    rintro x w0 ⟨rfl, hc0⟩
    have C0 := Lib.hid hc0
    clear hc0
    go_wp2_with fail
    refine (SB.out _).mono ?_
    rintro x w1 ⟨rfl, hc1⟩
    have C1 := Lib.hid hc1
    clear hc1
    go_wp2_with fail
    go_ret2
    exact ⟨retb_eq (by show _ = decide (sgn 64 b < sgn 64 a); rw [← HS.out.1, ← HS.out.2]) rfl, C0.out.trans C1.out⟩
  · have e : op = 112 := op_is (by assumption)
    subst e
    obtain ⟨s, hs⟩ : ∃ s, s = sgn 64 a := ⟨_, rfl⟩
    obtain ⟨t, ht⟩ : ∃ t, t = sgn 64 b := ⟨_, rfl⟩
    have HS := Lib.hid (And.intro hs ht)
    have SA : Hid (∀ w, Calls Try.prog 57 #[.int .u64 (a : Int)] w fun x w' => x = .returned (.int .i64 s) ∧ Calm w w') := Lib.hid (by intro w; rw [hs]; exact signed64_c w HA.out)
    have SB : Hid (∀ w, Calls Try.prog 57 #[.int .u64 (b : Int)] w fun x w' => x = .returned (.int .i64 t) ∧ Calm w w') := Lib.hid (by intro w; rw [ht]; exact signed64_c w HB.out)
    clear hs ht
    refine (SA.out w).mono ?_
    rintro x w0 ⟨rfl, hc0⟩
    have C0 := Lib.hid hc0
    clear hc0
    go_wp2_with fail
    refine (SB.out _).mono ?_
    rintro x w1 ⟨rfl, hc1⟩
    have C1 := Lib.hid hc1
    clear hc1
    go_wp2_with fail
    go_ret2
    exact ⟨retb_eq (by show _ = decide (sgn 64 b ≤ sgn 64 a); rw [← HS.out.1, ← HS.out.2]) rfl, C0.out.trans C1.out⟩
  · have e : op = 160 := op_is (by assumption)
    subst e
    go_ret2
    exact ⟨retb_eq (by show _ = decide (a < b); first | rfl | (rw [Bool.eq_iff_iff]; simp <;> omega)) rfl, Keep.refl _ w⟩
  · have e : op = 176 := op_is (by assumption)
    subst e
    go_ret2
    exact ⟨retb_eq (by show _ = decide (a ≤ b); first | rfl | (rw [Bool.eq_iff_iff]; simp <;> omega)) rfl, Keep.refl _ w⟩
  · have e : op = 192 := op_is (by assumption)
    subst e
    obtain ⟨s, hs⟩ : ∃ s, s = sgn 64 a := ⟨_, rfl⟩
    obtain ⟨t, ht⟩ : ∃ t, t = sgn 64 b := ⟨_, rfl⟩
    have HS := Lib.hid (And.intro hs ht)
    have SA : Hid (∀ w, Calls Try.prog 57 #[.int .u64 (a : Int)] w fun x w' => x = .returned (.int .i64 s) ∧ Calm w w') := Lib.hid (by intro w; rw [hs]; exact signed64_c w HA.out)
    have SB : Hid (∀ w, Calls Try.prog 57 #[.int .u64 (b : Int)] w fun x w' => x = .returned (.int .i64 t) ∧ Calm w w') := Lib.hid (by intro w; rw [ht]; exact signed64_c w HB.out)
    clear hs ht
    refine (SA.out w).mono ?_
    rintro x w0 ⟨rfl, hc0⟩
    have C0 := Lib.hid hc0
    clear hc0
    go_wp2_with fail
    refine (SB.out _).mono ?_
    rintro x w1 ⟨rfl, hc1⟩
    have C1 := Lib.hid hc1
    clear hc1
    go_wp2_with fail
    go_ret2
    exact ⟨retb_eq (by show _ = decide (sgn 64 a < sgn 64 b); rw [← HS.out.1, ← HS.out.2]) rfl, C0.out.trans C1.out⟩
  · have e : op = 208 := op_is (by assumption)
    subst e
    obtain ⟨s, hs⟩ : ∃ s, s = sgn 64 a := ⟨_, rfl⟩
    obtain ⟨t, ht⟩ : ∃ t, t = sgn 64 b := ⟨_, rfl⟩
    have HS := Lib.hid (And.intro hs ht)
    have SA : Hid (∀ w, Calls Try.prog 57 #[.int .u64 (a : Int)] w fun x w' => x = .returned (.int .i64 s) ∧ Calm w w') := Lib.hid (by intro w; rw [hs]; exact signed64_c w HA.out)
    have SB : Hid (∀ w, Calls Try.prog 57 #[.int .u64 (b : Int)] w fun x w' => x = .returned (.int .i64 t) ∧ Calm w w') := Lib.hid (by intro w; rw [ht]; exact signed64_c w HB.out)
    clear hs ht
    refine (SA.out w).mono ?_
    rintro x w0 ⟨rfl, hc0⟩
    have C0 := Lib.hid hc0
    clear hc0
    go_wp2_with fail
    refine (SB.out _).mono ?_
    rintro x w1 ⟨rfl, hc1⟩
    have C1 := Lib.hid hc1
    clear hc1
    go_wp2_with fail
    go_ret2
    exact ⟨retb_eq (by show _ = decide (sgn 64 a ≤ sgn 64 b); rw [← HS.out.1, ← HS.out.2]) rfl, C0.out.trans C1.out⟩
  · go_ret2
    refine ⟨retb_eq (y := tW 64 op a b) ?_ ?_, Keep.refl _ w⟩
    · unfold tW
      rw [if_neg (op_not (k := 16) (by assumption)), if_neg (op_not (k := 32) (by assumption)), if_neg (op_not (k := 48) (by assumption)), if_neg (op_not (k := 64) (by assumption)), if_neg (op_not (k := 80) (by assumption)), if_neg (op_not (k := 96) (by assumption)), if_neg (op_not (k := 112) (by assumption)), if_neg (op_not (k := 160) (by assumption)), if_neg (op_not (k := 176) (by assumption)), if_neg (op_not (k := 192) (by assumption)), if_neg (op_not (k := 208) (by assumption))]
    · unfold isT
      symm
      apply decide_eq_false
      simp only [List.mem_cons, List.not_mem_nil, or_false, not_or]
      exact ⟨op_not (k := 16) (by assumption), op_not (k := 32) (by assumption), op_not (k := 48) (by assumption), op_not (k := 64) (by assumption), op_not (k := 80) (by assumption), op_not (k := 96) (by assumption), op_not (k := 112) (by assumption), op_not (k := 160) (by assumption), op_not (k := 176) (by assumption), op_not (k := 192) (by assumption), op_not (k := 208) (by assumption)⟩

set_option maxHeartbeats 3200000 in

theorem do32_c {op a b : Nat} (w : World) (ha : a < 4294967296) (hb : b < 4294967296) : Calls Try.prog 37 #[.int .u8 (op : Int), .int .u32 (a : Int), .int .u32 (b : Int)] w fun x w' => x = .returned (.tuple #[.int .u32 ((dW 32 op a b : Nat) : Int), .bool (isO op)]) ∧ Calm w w' := by
  have HA := Lib.hid ha
  have HB := Lib.hid hb
  have hp : b % 32 < 32 := Nat.mod_lt _ (by decide)
  have HP := Lib.hid hp
  clear ha hb hp
  go_enter Try.func37, Try.ntmps37
  go_wp2_with fail
  · have e : op = 0 := op_is (by assumption)
    subst e
    go_ret2
    exact ⟨ret2_eq (by show _ = (((a + b) % 4294967296 : Nat) : Int); omega) rfl, Keep.refl _ w⟩
  · have e : op = 16 := op_is (by assumption)
    subst e
    go_ret2
    exact ⟨ret2_eq (by have hb := HB.out; show _ = (((a + (4294967296 - b)) % 4294967296 : Nat) : Int); omega) rfl, Keep.refl _ w⟩
  · have e : op = 32 := op_is (by assumption)
    subst e
    go_ret2
    exact ⟨ret2_eq (by exact (by rw [← Int.natCast_mul]; rfl)) rfl, Keep.refl _ w⟩
  · have e : op = 48 := op_is (by assumption)
    subst e
    refine (quo32_c (b := b) w HA.out).mono ?_
    rintro x w0 ⟨rfl, hc0⟩
    have C0 := Lib.hid hc0
    clear hc0
    go_wp2_with fail
    go_ret2
    exact ⟨ret2_eq (by rfl) rfl, C0.out⟩
  · have e : op = 64 := op_is (by assumption)
    subst e
    go_ret2
    exact ⟨ret2_eq (by exact u32_or_nat a b HA.out HB.out) rfl, Keep.refl _ w⟩
  · have e : op = 80 := op_is (by assumption)
    subst e
    go_ret2
    exact ⟨ret2_eq (by exact u32_and_nat a b HA.out HB.out) rfl, Keep.refl _ w⟩
  · have e : op = 96 := op_is (by assumption)
    subst e
    refine (places32_c (b := b) w).mono ?_
    rintro x w0 ⟨rfl, hc0⟩
    have C0 := Lib.hid hc0
    clear hc0
    go_wp2_with fail
    go_ret2
    exact ⟨ret2_eq (by rw [pow_cast, ← Int.natCast_mul]; rfl) rfl, C0.out⟩
  · have e : op = 112 := op_is (by assumption)
    subst e
    refine (places32_c (b := b) w).mono ?_
    rintro x w0 ⟨rfl, hc0⟩
    have C0 := Lib.hid hc0
    clear hc0
    go_wp2_with fail
    go_ret2
    exact ⟨ret2_eq (by rw [pow_cast, ← Int.natCast_ediv]; rfl) rfl, C0.out⟩
  · have e : op = 128 := op_is (by assumption)
    subst e
    go_ret2
    exact ⟨ret2_eq (by have ha := HA.out; show _ = (((4294967296 - a) % 4294967296 : Nat) : Int); omega) rfl, Keep.refl _ w⟩
  · have e : op = 144 := op_is (by assumption)
    subst e
    refine (rem32_c (b := b) w HA.out).mono ?_
    rintro x w0 ⟨rfl, hc0⟩
    have C0 := Lib.hid hc0
    clear hc0
    go_wp2_with fail
    go_ret2
    exact ⟨ret2_eq (by rfl) rfl, C0.out⟩
  · have e : op = 160 := op_is (by assumption)
    subst e
    go_ret2
    exact ⟨ret2_eq (by exact u32_xor_nat a b HA.out HB.out) rfl, Keep.refl _ w⟩
  · have e : op = 176 := op_is (by assumption)
    subst e
    go_ret2
    exact ⟨ret2_eq (by rfl) rfl, Keep.refl _ w⟩
  · have e : op = 192 := op_is (by assumption)
    subst e
    refine (signed32_c w HA.out).mono ?_
    rintro x w0 ⟨rfl, hc0⟩
    have C0 := Lib.hid hc0
    clear hc0
    obtain ⟨s, hs⟩ : ∃ s, s = sgn 32 a := ⟨_, rfl⟩
    have HS := Lib.hid hs
    rw [← hs]
    clear hs
    go_wp2_with fail
    refine (places32_c (b := b) _).mono ?_
    rintro x w1 ⟨rfl, hc1⟩
    have C1 := Lib.hid hc1
    clear hc1
    go_wp2_with fail
    go_ret2
    exact ⟨ret2_eq (by rw [HS.out]; rw [pow_cast]; exact (Int.toNat_of_nonneg (Int.emod_nonneg _ (by decide))).symm) rfl, C0.out.trans C1.out⟩
  · go_ret2
    refine ⟨ret2_eq (y := ((dW 32 op a b : Nat) : Int)) ?_ ?_, Keep.refl _ w⟩
    · unfold dW
      rw [if_neg (op_not (k := 0) (by assumption)), if_neg (op_not (k := 16) (by assumption)), if_neg (op_not (k := 32) (by assumption)), if_neg (op_not (k := 48) (by assumption)), if_neg (op_not (k := 64) (by assumption)), if_neg (op_not (k := 80) (by assumption)), if_neg (op_not (k := 96) (by assumption)), if_neg (op_not (k := 112) (by assumption)), if_neg (op_not (k := 128) (by assumption)), if_neg (op_not (k := 144) (by assumption)), if_neg (op_not (k := 160) (by assumption)), if_neg (op_not (k := 176) (by assumption)), if_neg (op_not (k := 192) (by assumption))]
      rfl
    · unfold isO
      symm
      apply decide_eq_false
      simp only [List.mem_cons, List.not_mem_nil, or_false, not_or]
      exact ⟨op_not (k := 0) (by assumption), op_not (k := 16) (by assumption), op_not (k := 32) (by assumption), op_not (k := 48) (by assumption), op_not (k := 64) (by assumption), op_not (k := 80) (by assumption), op_not (k := 96) (by assumption), op_not (k := 112) (by assumption), op_not (k := 128) (by assumption), op_not (k := 144) (by assumption), op_not (k := 160) (by assumption), op_not (k := 176) (by assumption), op_not (k := 192) (by assumption)⟩

set_option maxHeartbeats 3200000 in

theorem test32_c {op a b : Nat} (w : World) (ha : a < 4294967296) (hb : b < 4294967296) : Calls Try.prog 39 #[.int .u8 (op : Int), .int .u32 (a : Int), .int .u32 (b : Int)] w fun x w' => x = .returned (.tuple #[.bool (tW 32 op a b), .bool (isT op)]) ∧ Calm w w' := by
  have HA := Lib.hid ha
  have HB := Lib.hid hb
  have hd := u32_and_nat a b ha hb
  obtain ⟨d, hd'⟩ : ∃ d, d = a &&& b := ⟨_, rfl⟩
  rw [← hd'] at hd
  have HD := Lib.hid hd'
  clear ha hb hd'
  go_enter Try.func39, Try.ntmps39
  go_wp2_with fail
  · have e : op = 16 := op_is (by assumption)
    subst e
    go_ret2
    exact ⟨retb_eq (by show _ = decide (a = b); first | rfl | (rw [Bool.eq_iff_iff]; simp <;> omega)) rfl, Keep.refl _ w⟩
  · have e : op = 32 := op_is (by assumption)
    subst e
    go_ret2
    exact ⟨retb_eq (by show _ = decide (b < a); first | rfl | (rw [Bool.eq_iff_iff]; simp <;> omega)) rfl, Keep.refl _ w⟩
  · have e : op = 48 := op_is (by assumption)
    subst e
    go_ret2
    exact ⟨retb_eq (by show _ = decide (b ≤ a); first | rfl | (rw [Bool.eq_iff_iff]; simp <;> omega)) rfl, Keep.refl _ w⟩
  · have e : op = 64 := op_is (by assumption)
    subst e
    go_ret2
    exact ⟨retb_eq (by show _ = decide (¬ a &&& b = 0); rw [← HD.out, Bool.eq_iff_iff]; simp <;> omega) rfl, Keep.refl _ w⟩
  · have e : op = 80 := op_is (by assumption)
    subst e
    go_ret2
    exact ⟨retb_eq (by show _ = decide (¬ a = b); first | rfl | (rw [Bool.eq_iff_iff]; simp <;> omega)) rfl, Keep.refl _ w⟩
  · have e : op = 96 := op_is (by assumption)
    subst e
    obtain ⟨s, hs⟩ : ∃ s, s = sgn 32 a := ⟨_, rfl⟩
    obtain ⟨t, ht⟩ : ∃ t, t = sgn 32 b := ⟨_, rfl⟩
    have HS := Lib.hid (And.intro hs ht)
    have SA : Hid (∀ w, Calls Try.prog 61 #[.int .u32 (a : Int)] w fun x w' => x = .returned (.int .i64 s) ∧ Calm w w') := Lib.hid (by intro w; rw [hs]; exact signed32_c w HA.out)
    have SB : Hid (∀ w, Calls Try.prog 61 #[.int .u32 (b : Int)] w fun x w' => x = .returned (.int .i64 t) ∧ Calm w w') := Lib.hid (by intro w; rw [ht]; exact signed32_c w HB.out)
    clear hs ht
    refine (SA.out w).mono ?_
    rintro x w0 ⟨rfl, hc0⟩
    have C0 := Lib.hid hc0
    clear hc0
    go_wp2_with fail
    refine (SB.out _).mono ?_
    rintro x w1 ⟨rfl, hc1⟩
    have C1 := Lib.hid hc1
    clear hc1
    go_wp2_with fail
    go_ret2
    exact ⟨retb_eq (by show _ = decide (sgn 32 b < sgn 32 a); rw [← HS.out.1, ← HS.out.2]) rfl, C0.out.trans C1.out⟩
  · have e : op = 112 := op_is (by assumption)
    subst e
    obtain ⟨s, hs⟩ : ∃ s, s = sgn 32 a := ⟨_, rfl⟩
    obtain ⟨t, ht⟩ : ∃ t, t = sgn 32 b := ⟨_, rfl⟩
    have HS := Lib.hid (And.intro hs ht)
    have SA : Hid (∀ w, Calls Try.prog 61 #[.int .u32 (a : Int)] w fun x w' => x = .returned (.int .i64 s) ∧ Calm w w') := Lib.hid (by intro w; rw [hs]; exact signed32_c w HA.out)
    have SB : Hid (∀ w, Calls Try.prog 61 #[.int .u32 (b : Int)] w fun x w' => x = .returned (.int .i64 t) ∧ Calm w w') := Lib.hid (by intro w; rw [ht]; exact signed32_c w HB.out)
    clear hs ht
    refine (SA.out w).mono ?_
    rintro x w0 ⟨rfl, hc0⟩
    have C0 := Lib.hid hc0
    clear hc0
    go_wp2_with fail
    refine (SB.out _).mono ?_
    rintro x w1 ⟨rfl, hc1⟩
    have C1 := Lib.hid hc1
    clear hc1
    go_wp2_with fail
    go_ret2
    exact ⟨retb_eq (by show _ = decide (sgn 32 b ≤ sgn 32 a); rw [← HS.out.1, ← HS.out.2]) rfl, C0.out.trans C1.out⟩
  · have e : op = 160 := op_is (by assumption)
    subst e
    go_ret2
    exact ⟨retb_eq (by show _ = decide (a < b); first | rfl | (rw [Bool.eq_iff_iff]; simp <;> omega)) rfl, Keep.refl _ w⟩
  · have e : op = 176 := op_is (by assumption)
    subst e
    go_ret2
    exact ⟨retb_eq (by show _ = decide (a ≤ b); first | rfl | (rw [Bool.eq_iff_iff]; simp <;> omega)) rfl, Keep.refl _ w⟩
  · have e : op = 192 := op_is (by assumption)
    subst e
    obtain ⟨s, hs⟩ : ∃ s, s = sgn 32 a := ⟨_, rfl⟩
    obtain ⟨t, ht⟩ : ∃ t, t = sgn 32 b := ⟨_, rfl⟩
    have HS := Lib.hid (And.intro hs ht)
    have SA : Hid (∀ w, Calls Try.prog 61 #[.int .u32 (a : Int)] w fun x w' => x = .returned (.int .i64 s) ∧ Calm w w') := Lib.hid (by intro w; rw [hs]; exact signed32_c w HA.out)
    have SB : Hid (∀ w, Calls Try.prog 61 #[.int .u32 (b : Int)] w fun x w' => x = .returned (.int .i64 t) ∧ Calm w w') := Lib.hid (by intro w; rw [ht]; exact signed32_c w HB.out)
    clear hs ht
    refine (SA.out w).mono ?_
    rintro x w0 ⟨rfl, hc0⟩
    have C0 := Lib.hid hc0
    clear hc0
    go_wp2_with fail
    refine (SB.out _).mono ?_
    rintro x w1 ⟨rfl, hc1⟩
    have C1 := Lib.hid hc1
    clear hc1
    go_wp2_with fail
    go_ret2
    exact ⟨retb_eq (by show _ = decide (sgn 32 a < sgn 32 b); rw [← HS.out.1, ← HS.out.2]) rfl, C0.out.trans C1.out⟩
  · have e : op = 208 := op_is (by assumption)
    subst e
    obtain ⟨s, hs⟩ : ∃ s, s = sgn 32 a := ⟨_, rfl⟩
    obtain ⟨t, ht⟩ : ∃ t, t = sgn 32 b := ⟨_, rfl⟩
    have HS := Lib.hid (And.intro hs ht)
    have SA : Hid (∀ w, Calls Try.prog 61 #[.int .u32 (a : Int)] w fun x w' => x = .returned (.int .i64 s) ∧ Calm w w') := Lib.hid (by intro w; rw [hs]; exact signed32_c w HA.out)
    have SB : Hid (∀ w, Calls Try.prog 61 #[.int .u32 (b : Int)] w fun x w' => x = .returned (.int .i64 t) ∧ Calm w w') := Lib.hid (by intro w; rw [ht]; exact signed32_c w HB.out)
    clear hs ht
    refine (SA.out w).mono ?_
    rintro x w0 ⟨rfl, hc0⟩
    have C0 := Lib.hid hc0
    clear hc0
    go_wp2_with fail
    refine (SB.out _).mono ?_
    rintro x w1 ⟨rfl, hc1⟩
    have C1 := Lib.hid hc1
    clear hc1
    go_wp2_with fail
    go_ret2
    exact ⟨retb_eq (by show _ = decide (sgn 32 a ≤ sgn 32 b); rw [← HS.out.1, ← HS.out.2]) rfl, C0.out.trans C1.out⟩
  · go_ret2
    refine ⟨retb_eq (y := tW 32 op a b) ?_ ?_, Keep.refl _ w⟩
    · unfold tW
      rw [if_neg (op_not (k := 16) (by assumption)), if_neg (op_not (k := 32) (by assumption)), if_neg (op_not (k := 48) (by assumption)), if_neg (op_not (k := 64) (by assumption)), if_neg (op_not (k := 80) (by assumption)), if_neg (op_not (k := 96) (by assumption)), if_neg (op_not (k := 112) (by assumption)), if_neg (op_not (k := 160) (by assumption)), if_neg (op_not (k := 176) (by assumption)), if_neg (op_not (k := 192) (by assumption)), if_neg (op_not (k := 208) (by assumption))]
    · unfold isT
      symm
      apply decide_eq_false
      simp only [List.mem_cons, List.not_mem_nil, or_false, not_or]
      exact ⟨op_not (k := 16) (by assumption), op_not (k := 32) (by assumption), op_not (k := 48) (by assumption), op_not (k := 64) (by assumption), op_not (k := 80) (by assumption), op_not (k := 96) (by assumption), op_not (k := 112) (by assumption), op_not (k := 160) (by assumption), op_not (k := 176) (by assumption), op_not (k := 192) (by assumption), op_not (k := 208) (by assumption)⟩

end Go.Proofs.Ytboiakahhkihiaa