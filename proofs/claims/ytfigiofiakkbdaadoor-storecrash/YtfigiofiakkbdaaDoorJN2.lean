import Derived.WalkKit
import Derived.Laws.BitsAllLaws
/-
  CRC-32 as arithmetic of natural numbers. Nothing of the program is named here.
-/
namespace Go.Proofs.YtfigiofiakkbdaaDoor
set_option linter.all false

def poly : Nat := 3988292384
def st (n : Nat) : Nat := n / 2 ^^^ (if n % 2 = 1 then poly else 0)
def steps : Nat → Nat → Nat
  | 0, x => x
  | k + 1, x => steps k (st x)

theorem nat_xor_div (a b : Nat) : (a ^^^ b) / 2 = a / 2 ^^^ b / 2 := by
  apply Nat.eq_of_testBit_eq
  intro i
  simp [Nat.testBit_div_two, Nat.testBit_xor]
theorem nat_xor_mod (a b : Nat) : (a ^^^ b) % 2 = (a % 2 + b % 2) % 2 := by
  have h := Nat.testBit_xor a b 0
  simp only [Nat.testBit_zero] at h
  rcases Nat.mod_two_eq_zero_or_one a with ha | ha <;> rcases Nat.mod_two_eq_zero_or_one b with hb | hb <;> rcases Nat.mod_two_eq_zero_or_one (a ^^^ b) with hc | hc <;> simp [ha, hb, hc] at h ⊢
theorem st_xor (a b : Nat) : st (a ^^^ b) = st a ^^^ st b := by
  unfold st
  rw [nat_xor_div, nat_xor_mod]
  rcases Nat.mod_two_eq_zero_or_one a with ha | ha <;> rcases Nat.mod_two_eq_zero_or_one b with hb | hb <;> simp [ha, hb]
  · rw [Nat.xor_assoc]
  · rw [Nat.xor_assoc, Nat.xor_assoc, Nat.xor_comm (b / 2)]
  · rw [Nat.xor_assoc, Nat.xor_comm poly, Nat.xor_assoc, Nat.xor_self, Nat.xor_zero]
theorem st_two (m : Nat) : st (2 * m) = m := by
  unfold st
  rw [Nat.mul_div_cancel_left m (by decide), Nat.mul_mod_right]
  simp
theorem st_zero : st 0 = 0 := rfl
theorem st_lt (x : Nat) (h : x < 2 ^ 32) : st x < 2 ^ 32 := by
  unfold st
  apply Nat.xor_lt_two_pow
  · omega
  · split
    · decide
    · decide
theorem st_inj (x : Nat) (h : x < 2 ^ 32) (h0 : st x = 0) : x = 0 := by
  unfold st at h0
  rcases Nat.mod_two_eq_zero_or_one x with hx | hx
  · simp [hx] at h0
    omega
  · rw [if_pos hx] at h0
    have h1 : (x / 2 ^^^ poly).testBit 31 = true := by
      rw [Nat.testBit_xor, Nat.testBit_lt_two_pow (show x / 2 < 2 ^ 31 by omega)]
      decide
    rw [h0] at h1
    simp at h1

theorem steps_add (j k x : Nat) : steps (j + k) x = steps k (steps j x) := by
  induction j generalizing x with
  | zero => rw [Nat.zero_add]; rfl
  | succ j ih => rw [show j + 1 + k = (j + k) + 1 by omega]; exact ih (st x)
theorem steps_xor (k a b : Nat) : steps k (a ^^^ b) = steps k a ^^^ steps k b := by
  induction k generalizing a b with
  | zero => rfl
  | succ k ih => simp only [steps]; rw [st_xor, ih]
theorem steps_pow (k m : Nat) : steps k (2 ^ k * m) = m := by
  induction k with
  | zero => simp [steps]
  | succ k ih =>
    simp only [steps]
    rw [show 2 ^ (k + 1) * m = 2 * (2 ^ k * m) by rw [Nat.pow_succ]; rw [Nat.mul_comm (2 ^ k) 2, Nat.mul_assoc], st_two, ih]
theorem steps_pow_le (j k m : Nat) (h : k ≤ j) : steps j (2 ^ k * m) = steps (j - k) m := by
  rw [show j = k + (j - k) by omega, steps_add, steps_pow, show k + (j - k) - k = j - k by omega]
theorem steps_lt (k x : Nat) (h : x < 2 ^ 32) : steps k x < 2 ^ 32 := by
  induction k generalizing x with
  | zero => exact h
  | succ k ih => exact ih _ (st_lt x h)
theorem steps_zero (k : Nat) : steps k 0 = 0 := by
  induction k with
  | zero => rfl
  | succ k ih => exact ih
theorem steps_inj (k x : Nat) (h : x < 2 ^ 32) (h0 : steps k x = 0) : x = 0 := by
  induction k generalizing x with
  | zero => exact h0
  | succ k ih => exact st_inj x h (ih _ (st_lt x h) h0)

/-- What four bits do. -/
def tab4 : List Nat := [0, 498536548, 997073096, 651767980, 1994146192, 1802195444, 1303535960, 1342533948, 3988292384, 4027552580, 3604390888, 3412177804, 2607071920, 2262029012, 2685067896, 3183342108]
theorem low_xor (k a m : Nat) (h : a < 2 ^ k) : a + 2 ^ k * m = a ^^^ 2 ^ k * m := by
  rw [Nat.add_comm, Nat.two_pow_add_eq_or_of_lt h]
  apply Nat.eq_of_testBit_eq
  intro i
  rw [Nat.testBit_or, Nat.testBit_xor, Nat.testBit_two_pow_mul]
  by_cases hi : k ≤ i
  · rw [Nat.testBit_lt_two_pow (Nat.lt_of_lt_of_le h (Nat.pow_le_pow_right (by decide) hi))]
    simp
  · simp [hi]
theorem tab_steps : ∀ i : Fin 16, steps 4 i.1 = tab4[i.1]'(by simpa [tab4] using i.2) := by decide +kernel
theorem four_eq (c : Nat) : c / 16 ^^^ tab4[c % 16]'(by simp [tab4]; omega) = steps 4 c := by
  have h := tab_steps ⟨c % 16, Nat.mod_lt _ (by decide)⟩
  conv => rhs; rw [← Nat.mod_add_div c (2 ^ 4), low_xor 4 _ _ (Nat.mod_lt _ (by decide)), steps_xor, steps_pow]
  rw [Nat.xor_comm, ← h]

/-- The bytes as a number, the lowest first. -/
def num : List UInt8 → Nat
  | [] => 0
  | b :: r => b.toNat + 256 * num r
/-- What bytes make of a state. -/
def eat (c : Nat) (bs : List UInt8) : Nat := bs.foldl (fun c b => steps 8 (c ^^^ b.toNat)) c
theorem eat_nil (c : Nat) : eat c [] = c := rfl
theorem eat_cons (c : Nat) (b : UInt8) (bs : List UInt8) : eat c (b :: bs) = eat (steps 8 (c ^^^ b.toNat)) bs := rfl
theorem eat_app (c : Nat) (a b : List UInt8) : eat c (a ++ b) = eat (eat c a) b := List.foldl_append ..
theorem eat_snoc (c : Nat) (a : List UInt8) (b : UInt8) : eat c (a ++ [b]) = steps 8 (eat c a ^^^ b.toNat) := by rw [eat_app]; rfl
theorem u8_lt (b : UInt8) : b.toNat < 256 := b.toBitVec.isLt
theorem eat_lt (c : Nat) (bs : List UInt8) (h : c < 2 ^ 32) : eat c bs < 2 ^ 32 := by
  induction bs generalizing c with
  | nil => exact h
  | cons b r ih =>
    rw [eat_cons]
    exact ih _ (steps_lt _ _ (Nat.xor_lt_two_pow h (Nat.lt_of_lt_of_le (u8_lt b) (by decide))))
theorem num_cons (b : UInt8) (r : List UInt8) : num (b :: r) = b.toNat ^^^ 2 ^ 8 * num r := low_xor 8 b.toNat (num r) (u8_lt b)
theorem eat_num (c : Nat) (bs : List UInt8) : eat c bs = steps (8 * bs.length) (c ^^^ num bs) := by
  induction bs generalizing c with
  | nil => simp [eat, num, steps]
  | cons b r ih =>
    rw [eat_cons, ih, num_cons, List.length_cons, show 8 * (r.length + 1) = 8 + 8 * r.length by omega, steps_add, ← Nat.xor_assoc, steps_xor 8 (c ^^^ b.toNat), steps_pow]

/-- One bit turned. -/
theorem num_turn (bs : List UInt8) (k : Nat) (h : k < 8 * bs.length) (x : UInt8) (hx : x.toNat = (bs[k / 8]'(by omega)).toNat ^^^ 2 ^ (k % 8)) : num (bs.set (k / 8) x) = num bs ^^^ 2 ^ k := by
  induction bs generalizing k with
  | nil => simp at h
  | cons b r ih =>
    by_cases hk : k < 8
    · have e0 : k / 8 = 0 := by omega
      have e1 : k % 8 = k := by omega
      simp only [e0, e1, List.getElem_cons_zero] at hx
      rw [e0, List.set_cons_zero, num_cons, num_cons, hx, Nat.xor_assoc, Nat.xor_assoc, Nat.xor_comm (2 ^ k)]
    · obtain ⟨j, rfl⟩ : ∃ j, k = j + 8 := ⟨k - 8, by omega⟩
      have e0 : (j + 8) / 8 = j / 8 + 1 := by omega
      have e1 : (j + 8) % 8 = j % 8 := by omega
      simp only [e0, e1, List.getElem_cons_succ] at hx
      simp only [List.length_cons] at h
      rw [e0, List.set_cons_succ, num_cons, num_cons, ih j (by omega) hx, Nat.xor_assoc]
      congr 1
      rw [show 2 ^ (j + 8) = 2 ^ 8 * 2 ^ j by rw [Nat.pow_add, Nat.mul_comm]]
      apply Nat.eq_of_testBit_eq
      intro i
      simp only [Nat.testBit_xor, Nat.testBit_two_pow_mul]
      by_cases hi : 8 ≤ i <;> simp [hi]
theorem num_xor (a b : List UInt8) (h : a.length = b.length) : num (List.zipWith (fun x y => UInt8.ofNat (x.toNat ^^^ y.toNat)) a b) = num a ^^^ num b := by
  induction a generalizing b with
  | nil => cases b with
    | nil => rfl
    | cons y b => simp at h
  | cons x a ih => cases b with
    | nil => simp at h
    | cons y b =>
      simp only [List.length_cons] at h
      rw [List.zipWith_cons_cons, num_cons, num_cons, num_cons, ih b (by omega)]
      have hl : x.toNat ^^^ y.toNat < 2 ^ 8 := Nat.xor_lt_two_pow (u8_lt x) (u8_lt y)
      rw [show (UInt8.ofNat (x.toNat ^^^ y.toNat)).toNat = x.toNat ^^^ y.toNat by rw [UInt8.toNat_ofNat']; exact Nat.mod_eq_of_lt hl]
      rw [Nat.xor_assoc, Nat.xor_assoc]
      congr 1
      rw [← Nat.xor_assoc, Nat.xor_comm (2 ^ 8 * num a), Nat.xor_assoc]
      congr 1
      apply Nat.eq_of_testBit_eq
      intro i
      simp only [Nat.testBit_xor, Nat.testBit_two_pow_mul]
      by_cases hi : 8 ≤ i <;> simp [hi]

/-- All bits turned. -/
def ones : Nat := 4294967295
theorem ones_xor (c : Nat) (h : c < 2 ^ 32) : ones ^^^ c = ones - c := by
  have e : ones - c = 2 ^ 32 - (c + 1) := by unfold ones; omega
  have e1 : ones = 2 ^ 32 - 1 := rfl
  rw [e]
  apply Nat.eq_of_testBit_eq
  intro i
  rw [Nat.testBit_two_pow_sub_succ h, Nat.testBit_xor, e1, Nat.testBit_two_pow_sub_one]
  by_cases hi : i < 32
  · simp [hi]
  · rw [Nat.testBit_lt_two_pow (Nat.lt_of_lt_of_le h (Nat.pow_le_pow_right (by decide) (Nat.le_of_not_lt hi)))]
    simp [hi]
/-- The sum of bytes behind a sum. -/
def more (sum : Nat) (bs : List UInt8) : Nat := ones - eat (ones - sum) bs
end Go.Proofs.YtfigiofiakkbdaaDoor

/-
  Facts on the numbers of CRC-32, in the walk's forms.
-/
namespace Go.Proofs.YtfigiofiakkbdaaDoor
open Go.RowKit
set_option linter.all false

theorem not_u32 (s : Nat) (h : s < 2 ^ 32) : bits .xor .u32 IntKind.u32.max (s : Int) = ((ones - s : Nat) : Int) := by
  have := Go.u32_xor_nat ones s (by decide) h
  rw [ones_xor s h] at this
  exact this
theorem bv_xor (c : Nat) (b : UInt8) (h : c < 2 ^ 32) : bits .xor .u32 (c : Int) (b.toNat : Int) = ((c ^^^ b.toNat : Nat) : Int) := Go.u32_xor_nat c b.toNat h (Nat.lt_of_lt_of_le (u8_lt b) (by decide))
theorem xor_lt32 (c : Nat) (b : UInt8) (h : c < 2 ^ 32) : c ^^^ b.toNat < 2 ^ 32 := Nat.xor_lt_two_pow h (Nat.lt_of_lt_of_le (u8_lt b) (by decide))
theorem eat_take (c : Nat) (bs : List UInt8) (j : Nat) (b : UInt8) (h : bs[j]? = some b) : eat c (bs.take (j + 1)) = steps 8 (eat c (bs.take j) ^^^ b.toNat) := by
  rw [List.take_add_one, h, Option.toList_some, eat_snoc]
theorem u8_conv (b : UInt8) : IntKind.u32.wrap (b.toNat : Int) = (b.toNat : Int) := by
  have := u8_lt b
  rw [IntKind.wrap_u32]; omega

end Go.Proofs.YtfigiofiakkbdaaDoor

/-
  A journal's pictures, as lists of bytes. Nothing of the program is named here.
-/
namespace Go.Proofs.YtfigiofiakkbdaaDoor
set_option linter.all false

/-- A number as k bytes, the lowest first. -/
def le : Nat → Nat → List UInt8
  | 0, _ => []
  | k + 1, n => UInt8.ofNat n :: le k (n / 256)
theorem le_len (k n : Nat) : (le k n).length = k := by
  induction k generalizing n with
  | zero => rfl
  | succ k ih => simp [le, ih]
theorem num_le (k n : Nat) (h : n < 256 ^ k) : num (le k n) = n := by
  induction k generalizing n with
  | zero => simp at h; simp [le, num, h]
  | succ k ih =>
    simp only [le, num, UInt8.toNat_ofNat']
    rw [ih (n / 256) (by rw [Nat.pow_succ] at h; exact Nat.div_lt_of_lt_mul (by omega))]
    omega
theorem le_num (bs : List UInt8) : le bs.length (num bs) = bs := by
  induction bs with
  | nil => rfl
  | cons b r ih =>
    have hb := u8_lt b
    simp only [List.length_cons, le, num]
    congr 1
    · apply UInt8.toNat.inj
      rw [UInt8.toNat_ofNat']
      omega
    · rw [show (b.toNat + 256 * num r) / 256 = num r by omega, ih]
theorem num_lt (bs : List UInt8) : num bs < 256 ^ bs.length := by
  induction bs with
  | nil => simp [num]
  | cons b r ih =>
    have hb := u8_lt b
    simp only [num, List.length_cons, Nat.pow_succ]
    omega

/-- Noughts up to whole sectors. -/
def pad (n : Nat) : List UInt8 := List.replicate ((512 - n % 512) % 512) 0
/-- The twelve bytes, and the sum. -/
def head12 (n len : Nat) : List UInt8 := le 8 n ++ le 4 len
def head16 (n len : Nat) (bs : List UInt8) : List UInt8 := head12 n len ++ le 4 (more 0 (head12 n len ++ bs))
/-- A picture, of a length as it is told. -/
def pic (n len : Nat) (bs : List UInt8) : List UInt8 := head16 n len bs ++ bs ++ pad (16 + bs.length)
theorem head12_len (n len : Nat) : (head12 n len).length = 12 := by simp [head12, le_len]
theorem head16_len (n len : Nat) (bs : List UInt8) : (head16 n len bs).length = 16 := by simp [head16, head12_len, le_len]
theorem pic_len (n len : Nat) (bs : List UInt8) : (pic n len bs).length = (16 + bs.length + 511) / 512 * 512 := by
  simp only [pic, List.length_append, head16_len, pad, List.length_replicate]
  omega
theorem pic_take (n len : Nat) (bs : List UInt8) : (pic n len bs).take 16 = head16 n len bs := by
  have := head16_len n len bs
  rw [pic, List.append_assoc, List.take_append_of_le_length (by omega), List.take_of_length_le (by omega)]
/-- A record's. -/
def recP (n : Nat) (bs : List UInt8) : List UInt8 := pic n bs.length bs
/-- A beginning's. -/
def begP (n : Nat) : List UInt8 := pic n 4294967295 []
theorem begP_len (n : Nat) : (begP n).length = 512 := by simp [begP, pic_len]

/-- The record that stands at a place, with this number. -/
def oneAt (s : List UInt8) (n : Nat) : Option (List UInt8) :=
  if s.length < 512 ∨ 4611686018427387904 < n ∨ num (s.take 8) ≠ n then none
  else
    let len := num ((s.take 12).drop 8)
    if s.length < len + 16 then none
    else if head16 n len ((s.take (16 + len)).drop 16) = s.take 16 then some ((s.take (16 + len)).drop 16) else none
/-- How many sectors a record of so many bytes takes. -/
def secsOf (len : Nat) : Nat := (len + 16 + 511) / 512
theorem oneAt_len {s : List UInt8} {n : Nat} {b : List UInt8} (h : oneAt s n = some b) : 512 ≤ s.length ∧ b.length + 16 ≤ s.length ∧ n ≤ 4611686018427387904 := by
  unfold oneAt at h
  split at h
  · cases h
  · rename_i h1
    simp only at h
    split at h
    · cases h
    · rename_i h2
      split at h
      · injection h with h
        subst h
        refine ⟨by omega, ?_, by omega⟩
        simp only [List.length_take, List.length_drop]
        omega
      · cases h
/-- The records from a place on, with how many sectors are used, and the next number. -/
def replayFrom : Nat → List UInt8 → Nat → Nat → List (List UInt8) → List (List UInt8) × Nat × Nat
  | 0, _, n, used, out => (out, n, used)
  | f + 1, s, n, used, out => match oneAt (s.drop (512 * used)) n with
    | none => (out, n, used)
    | some b => replayFrom f s (n + 1) (used + secsOf b.length) (out ++ [b])
/-- What a journal's sectors tell. -/
def replay (s : List UInt8) : Option (List (List UInt8) × Nat × Nat) :=
  let n := num (s.take 8)
  if n < 1 ∨ 4611686018427387904 < n ∨ head16 n 4294967295 [] ≠ s.take 16 then none
  else some (replayFrom s.length s (n + 1) 1 [])
end Go.Proofs.YtfigiofiakkbdaaDoor

/-
  Journals, as lists of bytes: what stands there is read. Nothing of the program is named here.
-/
namespace Go.Proofs.YtfigiofiakkbdaaDoor
set_option linter.all false

theorem head16_take8 (n len : Nat) (bs r : List UInt8) : (head16 n len bs ++ r).take 8 = le 8 n := by
  have h8 := le_len 8 n
  rw [head16, head12, List.append_assoc, List.append_assoc, List.append_assoc, List.take_append_of_le_length (by omega), List.take_of_length_le (by omega)]
theorem head16_len4 (n len : Nat) (bs r : List UInt8) : ((head16 n len bs ++ r).take 12).drop 8 = le 4 len := by
  have h8 := le_len 8 n
  have h4 := le_len 4 len
  rw [head16, head12, List.append_assoc, List.append_assoc, List.append_assoc, ← List.append_assoc (le 8 n), List.take_append_of_le_length (by simp [h8, h4]), List.take_of_length_le (by simp [h8, h4]), List.drop_append_of_le_length (by omega), List.drop_of_length_le (by omega), List.nil_append]
theorem head16_body (n len : Nat) (bs r : List UInt8) : ((head16 n len bs ++ (bs ++ r)).take (16 + bs.length)).drop 16 = bs := by
  have h := head16_len n len bs
  rw [← List.append_assoc, List.take_append_of_le_length (by simp [h]), List.take_of_length_le (by simp [h]), List.drop_append_of_le_length (by omega), List.drop_of_length_le (by omega), List.nil_append]
/-- A record that stands there is read. -/
theorem oneAt_rec (n : Nat) (b r : List UInt8) (hn : n ≤ 4611686018427387904) (hb : b.length < 4294967296) : oneAt (recP n b ++ r) n = some b := by
  have hl : (recP n b ++ r).length = (16 + b.length + 511) / 512 * 512 + r.length := by rw [List.length_append, recP, pic_len]
  have h16 := head16_len n b.length b
  have e : recP n b ++ r = head16 n b.length b ++ (b ++ (pad (16 + b.length) ++ r)) := by simp [recP, pic, List.append_assoc]
  have t8 : (recP n b ++ r).take 8 = le 8 n := by rw [e]; exact head16_take8 _ _ _ _
  have t4 : ((recP n b ++ r).take 12).drop 8 = le 4 b.length := by rw [e]; exact head16_len4 _ _ _ _
  have tb : ((recP n b ++ r).take (16 + b.length)).drop 16 = b := by rw [e]; exact head16_body _ _ _ _
  have t16 : (recP n b ++ r).take 16 = head16 n b.length b := by rw [e, List.take_append_of_le_length (by omega), List.take_of_length_le (by omega)]
  have n8 : num (le 8 n) = n := num_le 8 n (Nat.lt_of_le_of_lt hn (by decide))
  have n4 : num (le 4 b.length) = b.length := num_le 4 _ hb
  unfold oneAt
  rw [if_neg (by rw [t8, n8, hl]; omega)]
  simp only
  rw [t4, n4, if_neg (by rw [hl]; omega), tb, t16, if_pos rfl]
/-- Another number is none. -/
theorem oneAt_other (s : List UInt8) (n : Nat) (h : num (s.take 8) ≠ n) : oneAt s n = none := by unfold oneAt; rw [if_pos (.inr (.inr h))]
theorem oneAt_short (s : List UInt8) (n : Nat) (h : s.length < 512) : oneAt s n = none := by unfold oneAt; rw [if_pos (.inl h)]
theorem num_rep0 (k : Nat) : num (List.replicate k (0 : UInt8)) = 0 := by
  induction k with
  | zero => rfl
  | succ k ih => rw [List.replicate_succ]; simp only [num, ih]; rfl
theorem oneAt_zeros (k n : Nat) (hn : 1 ≤ n) : oneAt (List.replicate k 0) n = none := by
  apply oneAt_other
  rw [List.take_replicate, num_rep0]
  omega
theorem rec_take8 (n : Nat) (b r : List UInt8) (hn : n ≤ 4611686018427387905) : num ((recP n b ++ r).take 8) = n := by
  have e : recP n b ++ r = head16 n b.length b ++ (b ++ (pad (16 + b.length) ++ r)) := by simp [recP, pic, List.append_assoc]
  rw [e, head16_take8, num_le 8 n (Nat.lt_of_le_of_lt hn (by decide))]
theorem beg_take8 (n : Nat) (r : List UInt8) (hn : n ≤ 4611686018427387905) : num ((begP n ++ r).take 8) = n := by
  have e : begP n ++ r = head16 n 4294967295 [] ++ (pad 16 ++ r) := by simp [begP, pic, List.append_assoc]
  rw [e, head16_take8, num_le 8 n (Nat.lt_of_le_of_lt hn (by decide))]
theorem beg_take16 (n : Nat) (r : List UInt8) : (begP n ++ r).take 16 = head16 n 4294967295 [] := by
  have h16 := head16_len n 4294967295 []
  have e : begP n ++ r = head16 n 4294967295 [] ++ (pad 16 ++ r) := by simp [begP, pic, List.append_assoc]
  rw [e, List.take_append_of_le_length (by omega), List.take_of_length_le (by omega)]

/-- Records with numbers from n on, one behind the other. -/
def layR : Nat → List (List UInt8) → List UInt8
  | _, [] => []
  | n, b :: l => recP n b ++ layR (n + 1) l
/-- Their sectors. -/
def secsAll : List (List UInt8) → Nat
  | [] => 0
  | b :: l => secsOf b.length + secsAll l
theorem rec_len (n : Nat) (b : List UInt8) : (recP n b).length = 512 * secsOf b.length := by rw [recP, pic_len]; unfold secsOf; omega
theorem layR_len (n : Nat) (l : List (List UInt8)) : (layR n l).length = 512 * secsAll l := by
  induction l generalizing n with
  | nil => rfl
  | cons b l ih => simp only [layR, List.length_append, rec_len, ih, secsAll]; omega
theorem layR_app (n : Nat) (a b : List (List UInt8)) : layR n (a ++ b) = layR n a ++ layR (n + a.length) b := by
  induction a generalizing n with
  | nil => simp [layR]
  | cons x a ih =>
    simp only [List.cons_append, layR, ih, List.append_assoc, List.length_cons]
    rw [show n + 1 + a.length = n + (a.length + 1) by omega]
theorem layR_snoc (n : Nat) (l : List (List UInt8)) (b : List UInt8) : layR n (l ++ [b]) = layR n l ++ recP (n + l.length) b := by rw [layR_app]; simp [layR]
theorem secsAll_snoc (l : List (List UInt8)) (b : List UInt8) : secsAll (l ++ [b]) = secsAll l + secsOf b.length := by
  induction l with
  | nil => simp [secsAll]
  | cons x l ih => simp only [List.cons_append, secsAll, ih]; omega
theorem secsAll_len (l : List (List UInt8)) : l.length ≤ secsAll l := by
  induction l with
  | nil => exact Nat.le_refl _
  | cons b l ih =>
    simp only [List.length_cons, secsAll]
    have : 1 ≤ secsOf b.length := by unfold secsOf; omega
    omega
theorem replayFrom_lay (l : List (List UInt8)) : ∀ (f : Nat) (pre r : List UInt8) (n used : Nat) (out : List (List UInt8)), pre.length = 512 * used → l.length ≤ f → n + l.length ≤ 4611686018427387905 → (∀ b ∈ l, b.length < 4294967296) → oneAt r (n + l.length) = none →
    replayFrom f (pre ++ (layR n l ++ r)) n used out = (out ++ l, n + l.length, used + secsAll l) := by
  induction l with
  | nil =>
    intro f pre r n used out hp hf hn hb hr
    cases f with
    | zero => simp [replayFrom, secsAll]
    | succ f =>
      have hd : (pre ++ (layR n [] ++ r)).drop (512 * used) = r := by simp [layR, ← hp]
      simp only [replayFrom, hd]
      simp only [List.length_nil, Nat.add_zero] at hr
      rw [hr]
      simp [secsAll]
  | cons b l ih =>
    intro f pre r n used out hp hf hn hb hr
    simp only [List.length_cons] at hf hn hr
    obtain ⟨f, rfl⟩ : ∃ f', f = f' + 1 := ⟨f - 1, by omega⟩
    have hd : (pre ++ (layR n (b :: l) ++ r)).drop (512 * used) = recP n b ++ (layR (n + 1) l ++ r) := by simp [layR, ← hp]
    have ho := oneAt_rec n b (layR (n + 1) l ++ r) (by omega) (hb b (by simp))
    simp only [replayFrom, hd, ho]
    have e : pre ++ (layR n (b :: l) ++ r) = (pre ++ recP n b) ++ (layR (n + 1) l ++ r) := by simp [layR]
    rw [e, ih f (pre ++ recP n b) r (n + 1) (used + secsOf b.length) (out ++ [b]) (by rw [List.length_append, rec_len, hp]; omega) (by omega) (by omega) (fun x hx => hb x (by simp [hx])) (by rw [← hr]; congr 1; omega)]
    simp only [Prod.mk.injEq, List.append_assoc, List.cons_append, List.nil_append, List.length_cons, secsAll, true_and]
    exact ⟨by omega, by omega⟩
/-- A beginning, and records behind it: these are told. -/
theorem replay_lay (n : Nat) (l : List (List UInt8)) (r : List UInt8) (h1 : 1 ≤ n) (hn : n ≤ 4611686018427387904) (h2 : n + 1 + l.length ≤ 4611686018427387905) (hb : ∀ b ∈ l, b.length < 4294967296) (hr : oneAt r (n + 1 + l.length) = none) :
    replay (begP n ++ (layR (n + 1) l ++ r)) = some (l, n + 1 + l.length, 1 + secsAll l) := by
  unfold replay
  simp only
  rw [beg_take8 n _ (by omega), if_neg (by rw [beg_take16]; simp; omega)]
  rw [replayFrom_lay l _ (begP n) r (n + 1) 1 [] (by rw [begP_len]) (by
    have := secsAll_len l
    simp only [List.length_append, layR_len, begP_len]
    omega) h2 hb hr]
  rfl
end Go.Proofs.YtfigiofiakkbdaaDoor

