/-
  A journal's pictures, as lists of bytes. Nothing of the program is named here.
-/
import Derived.Test.YtfigiofiakkbdaaDoorCrcM
namespace Go.Proofs.YtfigiofiakkbdaaDoor
set_option linter.all false

/-- A number as k bytes, the lowest first. -/
def le : Nat → Nat → List UInt8
  | 0, _ => []
  | k + 1, n => UInt8.ofNat n :: le k (n / 256)
theorem le_len (k n : Nat) : (le k n).length = k := by
  induction k generalizing n with
  | zero => rfl
  | succ k ih => simp [le, ih]
theorem num_le (k n : Nat) (h : n < 256 ^ k) : num (le k n) = n := by
  induction k generalizing n with
  | zero => simp at h; simp [le, num, h]
  | succ k ih =>
    simp only [le, num, UInt8.toNat_ofNat']
    rw [ih (n / 256) (by rw [Nat.pow_succ] at h; exact Nat.div_lt_of_lt_mul (by omega))]
    omega
theorem le_num (bs : List UInt8) : le bs.length (num bs) = bs := by
  induction bs with
  | nil => rfl
  | cons b r ih =>
    have hb := u8_lt b
    simp only [List.length_cons, le, num]
    congr 1
    · apply UInt8.toNat.inj
      rw [UInt8.toNat_ofNat']
      omega
    · rw [show (b.toNat + 256 * num r) / 256 = num r by omega, ih]
theorem num_lt (bs : List UInt8) : num bs < 256 ^ bs.length := by
  induction bs with
  | nil => simp [num]
  | cons b r ih =>
    have hb := u8_lt b
    simp only [num, List.length_cons, Nat.pow_succ]
    omega

/-- Noughts up to whole sectors. -/
def pad (n : Nat) : List UInt8 := List.replicate ((512 - n % 512) % 512) 0
/-- The twelve bytes, and the sum. -/
def head12 (n len : Nat) : List UInt8 := le 8 n ++ le 4 len
def head16 (n len : Nat) (bs : List UInt8) : List UInt8 := head12 n len ++ le 4 (more 0 (head12 n len ++ bs))
/-- A picture, of a length as it is told. -/
def pic (n len : Nat) (bs : List UInt8) : List UInt8 := head16 n len bs ++ bs ++ pad (16 + bs.length)
theorem head12_len (n len : Nat) : (head12 n len).length = 12 := by simp [head12, le_len]
theorem head16_len (n len : Nat) (bs : List UInt8) : (head16 n len bs).length = 16 := by simp [head16, head12_len, le_len]
theorem pic_len (n len : Nat) (bs : List UInt8) : (pic n len bs).length = (16 + bs.length + 511) / 512 * 512 := by
  simp only [pic, List.length_append, head16_len, pad, List.length_replicate]
  omega
theorem pic_take (n len : Nat) (bs : List UInt8) : (pic n len bs).take 16 = head16 n len bs := by
  have := head16_len n len bs
  rw [pic, List.append_assoc, List.take_append_of_le_length (by omega), List.take_of_length_le (by omega)]
/-- A record's. -/
def recP (n : Nat) (bs : List UInt8) : List UInt8 := pic n bs.length bs
/-- A beginning's. -/
def begP (n : Nat) : List UInt8 := pic n 4294967295 []
theorem begP_len (n : Nat) : (begP n).length = 512 := by simp [begP, pic_len]

/-- The record that stands at a place, with this number. -/
def oneAt (s : List UInt8) (n : Nat) : Option (List UInt8) :=
  if s.length < 512 ∨ 4611686018427387904 < n ∨ num (s.take 8) ≠ n then none
  else
    let len := num ((s.take 12).drop 8)
    if s.length < len + 16 then none
    else if head16 n len ((s.take (16 + len)).drop 16) = s.take 16 then some ((s.take (16 + len)).drop 16) else none
/-- How many sectors a record of so many bytes takes. -/
def secsOf (len : Nat) : Nat := (len + 16 + 511) / 512
theorem oneAt_len {s : List UInt8} {n : Nat} {b : List UInt8} (h : oneAt s n = some b) : 512 ≤ s.length ∧ b.length + 16 ≤ s.length ∧ n ≤ 4611686018427387904 := by
  unfold oneAt at h
  split at h
  · cases h
  · rename_i h1
    simp only at h
    split at h
    · cases h
    · rename_i h2
      split at h
      · injection h with h
        subst h
        refine ⟨by omega, ?_, by omega⟩
        simp only [List.length_take, List.length_drop]
        omega
      · cases h
/-- The records from a place on, with how many sectors are used, and the next number. -/
def replayFrom : Nat → List UInt8 → Nat → Nat → List (List UInt8) → List (List UInt8) × Nat × Nat
  | 0, _, n, used, out => (out, n, used)
  | f + 1, s, n, used, out => match oneAt (s.drop (512 * used)) n with
    | none => (out, n, used)
    | some b => replayFrom f s (n + 1) (used + secsOf b.length) (out ++ [b])
/-- What a journal's sectors tell. -/
def replay (s : List UInt8) : Option (List (List UInt8) × Nat × Nat) :=
  let n := num (s.take 8)
  if n < 1 ∨ 4611686018427387904 < n ∨ head16 n 4294967295 [] ≠ s.take 16 then none
  else some (replayFrom s.length s (n + 1) 1 [])
end Go.Proofs.YtfigiofiakkbdaaDoor
