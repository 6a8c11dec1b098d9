/-
  CRC-32 as arithmetic of natural numbers. Nothing of the program is named here.
-/
import Derived.WalkKit
namespace Go.Proofs.YtfigiofiakkbdaaDoor
set_option linter.all false

def poly : Nat := 3988292384
def st (n : Nat) : Nat := n / 2 ^^^ (if n % 2 = 1 then poly else 0)
def steps : Nat → Nat → Nat
  | 0, x => x
  | k + 1, x => steps k (st x)

theorem nat_xor_div (a b : Nat) : (a ^^^ b) / 2 = a / 2 ^^^ b / 2 := by
  apply Nat.eq_of_testBit_eq
  intro i
  simp [Nat.testBit_div_two, Nat.testBit_xor]
theorem nat_xor_mod (a b : Nat) : (a ^^^ b) % 2 = (a % 2 + b % 2) % 2 := by
  have h := Nat.testBit_xor a b 0
  simp only [Nat.testBit_zero] at h
  rcases Nat.mod_two_eq_zero_or_one a with ha | ha <;> rcases Nat.mod_two_eq_zero_or_one b with hb | hb <;> rcases Nat.mod_two_eq_zero_or_one (a ^^^ b) with hc | hc <;> simp [ha, hb, hc] at h ⊢
theorem st_xor (a b : Nat) : st (a ^^^ b) = st a ^^^ st b := by
  unfold st
  rw [nat_xor_div, nat_xor_mod]
  rcases Nat.mod_two_eq_zero_or_one a with ha | ha <;> rcases Nat.mod_two_eq_zero_or_one b with hb | hb <;> simp [ha, hb]
  · rw [Nat.xor_assoc]
  · rw [Nat.xor_assoc, Nat.xor_assoc, Nat.xor_comm (b / 2)]
  · rw [Nat.xor_assoc, Nat.xor_comm poly, Nat.xor_assoc, Nat.xor_self, Nat.xor_zero]
theorem st_two (m : Nat) : st (2 * m) = m := by
  unfold st
  rw [Nat.mul_div_cancel_left m (by decide), Nat.mul_mod_right]
  simp
theorem st_zero : st 0 = 0 := rfl
theorem st_lt (x : Nat) (h : x < 2 ^ 32) : st x < 2 ^ 32 := by
  unfold st
  apply Nat.xor_lt_two_pow
  · omega
  · split
    · decide
    · decide
theorem st_inj (x : Nat) (h : x < 2 ^ 32) (h0 : st x = 0) : x = 0 := by
  unfold st at h0
  rcases Nat.mod_two_eq_zero_or_one x with hx | hx
  · simp [hx] at h0
    omega
  · rw [if_pos hx] at h0
    have h1 : (x / 2 ^^^ poly).testBit 31 = true := by
      rw [Nat.testBit_xor, Nat.testBit_lt_two_pow (show x / 2 < 2 ^ 31 by omega)]
      decide
    rw [h0] at h1
    simp at h1

theorem steps_add (j k x : Nat) : steps (j + k) x = steps k (steps j x) := by
  induction j generalizing x with
  | zero => rw [Nat.zero_add]; rfl
  | succ j ih => rw [show j + 1 + k = (j + k) + 1 by omega]; exact ih (st x)
theorem steps_xor (k a b : Nat) : steps k (a ^^^ b) = steps k a ^^^ steps k b := by
  induction k generalizing a b with
  | zero => rfl
  | succ k ih => simp only [steps]; rw [st_xor, ih]
theorem steps_pow (k m : Nat) : steps k (2 ^ k * m) = m := by
  induction k with
  | zero => simp [steps]
  | succ k ih =>
    simp only [steps]
    rw [show 2 ^ (k + 1) * m = 2 * (2 ^ k * m) by rw [Nat.pow_succ]; rw [Nat.mul_comm (2 ^ k) 2, Nat.mul_assoc], st_two, ih]
theorem steps_pow_le (j k m : Nat) (h : k ≤ j) : steps j (2 ^ k * m) = steps (j - k) m := by
  rw [show j = k + (j - k) by omega, steps_add, steps_pow, show k + (j - k) - k = j - k by omega]
theorem steps_lt (k x : Nat) (h : x < 2 ^ 32) : steps k x < 2 ^ 32 := by
  induction k generalizing x with
  | zero => exact h
  | succ k ih => exact ih _ (st_lt x h)
theorem steps_zero (k : Nat) : steps k 0 = 0 := by
  induction k with
  | zero => rfl
  | succ k ih => exact ih
theorem steps_inj (k x : Nat) (h : x < 2 ^ 32) (h0 : steps k x = 0) : x = 0 := by
  induction k generalizing x with
  | zero => exact h0
  | succ k ih => exact st_inj x h (ih _ (st_lt x h) h0)

/-- What four bits do. -/
def tab4 : List Nat := [0, 498536548, 997073096, 651767980, 1994146192, 1802195444, 1303535960, 1342533948, 3988292384, 4027552580, 3604390888, 3412177804, 2607071920, 2262029012, 2685067896, 3183342108]
theorem low_xor (k a m : Nat) (h : a < 2 ^ k) : a + 2 ^ k * m = a ^^^ 2 ^ k * m := by
  rw [Nat.add_comm, Nat.two_pow_add_eq_or_of_lt h]
  apply Nat.eq_of_testBit_eq
  intro i
  rw [Nat.testBit_or, Nat.testBit_xor, Nat.testBit_two_pow_mul]
  by_cases hi : k ≤ i
  · rw [Nat.testBit_lt_two_pow (Nat.lt_of_lt_of_le h (Nat.pow_le_pow_right (by decide) hi))]
    simp
  · simp [hi]
theorem tab_steps : ∀ i : Fin 16, steps 4 i.1 = tab4[i.1]'(by simpa [tab4] using i.2) := by decide +kernel
theorem four_eq (c : Nat) : c / 16 ^^^ tab4[c % 16]'(by simp [tab4]; omega) = steps 4 c := by
  have h := tab_steps ⟨c % 16, Nat.mod_lt _ (by decide)⟩
  conv => rhs; rw [← Nat.mod_add_div c (2 ^ 4), low_xor 4 _ _ (Nat.mod_lt _ (by decide)), steps_xor, steps_pow]
  rw [Nat.xor_comm, ← h]

/-- The bytes as a number, the lowest first. -/
def num : List UInt8 → Nat
  | [] => 0
  | b :: r => b.toNat + 256 * num r
/-- What bytes make of a state. -/
def eat (c : Nat) (bs : List UInt8) : Nat := bs.foldl (fun c b => steps 8 (c ^^^ b.toNat)) c
theorem eat_nil (c : Nat) : eat c [] = c := rfl
theorem eat_cons (c : Nat) (b : UInt8) (bs : List UInt8) : eat c (b :: bs) = eat (steps 8 (c ^^^ b.toNat)) bs := rfl
theorem eat_app (c : Nat) (a b : List UInt8) : eat c (a ++ b) = eat (eat c a) b := List.foldl_append ..
theorem eat_snoc (c : Nat) (a : List UInt8) (b : UInt8) : eat c (a ++ [b]) = steps 8 (eat c a ^^^ b.toNat) := by rw [eat_app]; rfl
theorem u8_lt (b : UInt8) : b.toNat < 256 := b.toBitVec.isLt
theorem eat_lt (c : Nat) (bs : List UInt8) (h : c < 2 ^ 32) : eat c bs < 2 ^ 32 := by
  induction bs generalizing c with
  | nil => exact h
  | cons b r ih =>
    rw [eat_cons]
    exact ih _ (steps_lt _ _ (Nat.xor_lt_two_pow h (Nat.lt_of_lt_of_le (u8_lt b) (by decide))))
theorem num_cons (b : UInt8) (r : List UInt8) : num (b :: r) = b.toNat ^^^ 2 ^ 8 * num r := low_xor 8 b.toNat (num r) (u8_lt b)
theorem eat_num (c : Nat) (bs : List UInt8) : eat c bs = steps (8 * bs.length) (c ^^^ num bs) := by
  induction bs generalizing c with
  | nil => simp [eat, num, steps]
  | cons b r ih =>
    rw [eat_cons, ih, num_cons, List.length_cons, show 8 * (r.length + 1) = 8 + 8 * r.length by omega, steps_add, ← Nat.xor_assoc, steps_xor 8 (c ^^^ b.toNat), steps_pow]

/-- One bit turned. -/
theorem num_turn (bs : List UInt8) (k : Nat) (h : k < 8 * bs.length) (x : UInt8) (hx : x.toNat = (bs[k / 8]'(by omega)).toNat ^^^ 2 ^ (k % 8)) : num (bs.set (k / 8) x) = num bs ^^^ 2 ^ k := by
  induction bs generalizing k with
  | nil => simp at h
  | cons b r ih =>
    by_cases hk : k < 8
    · have e0 : k / 8 = 0 := by omega
      have e1 : k % 8 = k := by omega
      simp only [e0, e1, List.getElem_cons_zero] at hx
      rw [e0, List.set_cons_zero, num_cons, num_cons, hx, Nat.xor_assoc, Nat.xor_assoc, Nat.xor_comm (2 ^ k)]
    · obtain ⟨j, rfl⟩ : ∃ j, k = j + 8 := ⟨k - 8, by omega⟩
      have e0 : (j + 8) / 8 = j / 8 + 1 := by omega
      have e1 : (j + 8) % 8 = j % 8 := by omega
      simp only [e0, e1, List.getElem_cons_succ] at hx
      simp only [List.length_cons] at h
      rw [e0, List.set_cons_succ, num_cons, num_cons, ih j (by omega) hx, Nat.xor_assoc]
      congr 1
      rw [show 2 ^ (j + 8) = 2 ^ 8 * 2 ^ j by rw [Nat.pow_add, Nat.mul_comm]]
      apply Nat.eq_of_testBit_eq
      intro i
      simp only [Nat.testBit_xor, Nat.testBit_two_pow_mul]
      by_cases hi : 8 ≤ i <;> simp [hi]
theorem num_xor (a b : List UInt8) (h : a.length = b.length) : num (List.zipWith (fun x y => UInt8.ofNat (x.toNat ^^^ y.toNat)) a b) = num a ^^^ num b := by
  induction a generalizing b with
  | nil => cases b with
    | nil => rfl
    | cons y b => simp at h
  | cons x a ih => cases b with
    | nil => simp at h
    | cons y b =>
      simp only [List.length_cons] at h
      rw [List.zipWith_cons_cons, num_cons, num_cons, num_cons, ih b (by omega)]
      have hl : x.toNat ^^^ y.toNat < 2 ^ 8 := Nat.xor_lt_two_pow (u8_lt x) (u8_lt y)
      rw [show (UInt8.ofNat (x.toNat ^^^ y.toNat)).toNat = x.toNat ^^^ y.toNat by rw [UInt8.toNat_ofNat']; exact Nat.mod_eq_of_lt hl]
      rw [Nat.xor_assoc, Nat.xor_assoc]
      congr 1
      rw [← Nat.xor_assoc, Nat.xor_comm (2 ^ 8 * num a), Nat.xor_assoc]
      congr 1
      apply Nat.eq_of_testBit_eq
      intro i
      simp only [Nat.testBit_xor, Nat.testBit_two_pow_mul]
      by_cases hi : 8 ≤ i <;> simp [hi]

/-- All bits turned. -/
def ones : Nat := 4294967295
theorem ones_xor (c : Nat) (h : c < 2 ^ 32) : ones ^^^ c = ones - c := by
  have e : ones - c = 2 ^ 32 - (c + 1) := by unfold ones; omega
  have e1 : ones = 2 ^ 32 - 1 := rfl
  rw [e]
  apply Nat.eq_of_testBit_eq
  intro i
  rw [Nat.testBit_two_pow_sub_succ h, Nat.testBit_xor, e1, Nat.testBit_two_pow_sub_one]
  by_cases hi : i < 32
  · simp [hi]
  · rw [Nat.testBit_lt_two_pow (Nat.lt_of_lt_of_le h (Nat.pow_le_pow_right (by decide) (Nat.le_of_not_lt hi)))]
    simp [hi]
/-- The sum of bytes behind a sum. -/
def more (sum : Nat) (bs : List UInt8) : Nat := ones - eat (ones - sum) bs
end Go.Proofs.YtfigiofiakkbdaaDoor
