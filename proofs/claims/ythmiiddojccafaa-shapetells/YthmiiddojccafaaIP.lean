/-
  Instructions as bytes, and rows of them: nothing of the program but what a class tells (I1 to I3).
-/
import Derived.Test.YthmiiddojccafaaI3
namespace Go.Proofs.Ythmiiddojccafaa
open Go.RowKit
set_option linter.all false

def knownI (i : In) : Bool := knownO i.op i.dst i.src i.off i.imm
/-- May j stand behind the wide i? -/
def halfO (i j : In) : Bool := decide (j.op = 0 ∧ j.dst = 0 ∧ j.src = 0 ∧ j.off = 0 ∧ (i.src = 1 → j.imm = 0))
/-- May these stand one behind the other? -/
def rightO : List In → Bool
  | [] => true
  | [i] => knownI i && decide (i.op ≠ 24)
  | i :: j :: r => knownI i && (if i.op = 24 then halfO i j && rightO r else rightO (j :: r))

theorem known_op0 (i : In) (h : i.op = 0) : knownI i = false := by
  unfold knownI knownO okO
  rw [h]
  rfl
theorem known_small {i : In} (h : knownI i = true) : i.dst < 16 ∧ i.src < 16 := by
  unfold knownI knownO allO at h
  simp at h
  omega
theorem half_op0 {i j : In} (h : halfO i j = true) : j.op = 0 ∧ j.dst = 0 ∧ j.src = 0 ∧ j.off = 0 := by
  unfold halfO at h
  have := of_decide_eq_true h
  exact ⟨this.1, this.2.1, this.2.2.1, this.2.2.2.1⟩
theorem right_plain (i : In) (r : List In) (h : i.op ≠ 24) : rightO (i :: r) = (knownI i && rightO r) := by
  cases r with
  | nil => simp [rightO, h]
  | cons j r => simp [rightO, h]
theorem right_op0 (i : In) (r : List In) (h : i.op = 0) : rightO (i :: r) = false := by
  rw [right_plain i r (by omega), known_op0 i h]
  rfl
theorem right_small : ∀ l : List In, rightO l = true → ∀ i ∈ l, i.dst < 16 ∧ i.src < 16
  | [], _, i, hi => by simp at hi
  | [i], h, k, hk => by
    simp [rightO] at h
    simp at hk
    subst hk
    exact known_small h.1
  | i :: j :: r, h, k, hk => by
    by_cases ho : i.op = 24
    · simp [rightO, ho] at h
      rcases List.mem_cons.1 hk with rfl | hk
      · exact known_small h.1
      · rcases List.mem_cons.1 hk with rfl | hk
        · have := half_op0 h.2.1; omega
        · exact right_small r h.2.2 k hk
    · rw [right_plain _ _ ho] at h
      simp at h
      rcases List.mem_cons.1 hk with rfl | hk
      · exact known_small h.1
      · exact right_small (j :: r) h.2 k hk
theorem right_app : ∀ a b : List In, rightO a = true → rightO (a ++ b) = rightO b
  | [], b, _ => rfl
  | [i], b, h => by
    simp [rightO] at h
    rw [List.singleton_append, right_plain _ _ h.2, h.1]
    rfl
  | i :: j :: r, b, h => by
    by_cases ho : i.op = 24
    · simp [rightO, ho] at h
      simp only [List.cons_append, rightO, ho, if_true, h.1, h.2.1, Bool.true_and]
      exact right_app r b h.2.2
    · rw [right_plain _ _ ho] at h
      simp at h
      rw [List.cons_append, right_plain _ _ ho, h.1, right_app (j :: r) b h.2]
      rfl
theorem right_cut : ∀ (l : List In) (k : Nat) (x : In), rightO l = true → l[k]? = some x → rightO (l.take k) = decide (x.op ≠ 0) ∧ rightO (l.drop k) = decide (x.op ≠ 0)
  | [], k, x, _, hx => by simp at hx
  | [i], 0, x, h, hx => by
    simp at hx
    subst hx
    have : i.op ≠ 0 := fun e => by rw [right_op0 i [] e] at h; cases h
    simp [this, h]
    rfl
  | [i], k + 1, x, h, hx => by simp at hx
  | i :: j :: r, 0, x, h, hx => by
    simp at hx
    subst hx
    have : i.op ≠ 0 := fun e => by rw [right_op0 i _ e] at h; cases h
    simp [this, h]
    rfl
  | i :: j :: r, 1, x, h, hx => by
    simp at hx
    subst hx
    by_cases ho : i.op = 24
    · simp [rightO, ho] at h
      have h0 := (half_op0 h.2.1).1
      refine ⟨?_, ?_⟩
      · simp [rightO, ho, h0]
      · show rightO (j :: r) = _
        rw [right_op0 _ _ h0]
        simp [h0]
    · rw [right_plain _ _ ho] at h
      simp at h
      have : j.op ≠ 0 := fun e => by rw [right_op0 j _ e] at h; cases h.2
      refine ⟨?_, ?_⟩
      · simp [rightO, ho, h.1, this]
      · show rightO (j :: r) = _
        rw [h.2]
        simp [this]
  | i :: j :: r, k + 2, x, h, hx => by
    by_cases ho : i.op = 24
    · simp [rightO, ho] at h
      have := right_cut r k x h.2.2 (by simpa using hx)
      refine ⟨?_, this.2⟩
      show rightO (i :: j :: r.take k) = _
      simp only [rightO, ho, if_true, h.1, h.2.1, Bool.true_and]
      exact this.1
    · rw [right_plain _ _ ho] at h
      simp at h
      have := right_cut (j :: r) (k + 1) x h.2 (by simpa using hx)
      refine ⟨?_, this.2⟩
      show rightO (i :: (j :: r).take (k + 1)) = _
      rw [right_plain _ _ ho, h.1, this.1]
      rfl
theorem right_at (l : List In) (k : Nat) (i : In) (hi : l[k]? = some i) : rightO (l.drop k) = (knownI i && (if i.op = 24 then (match l[k + 1]? with | none => false | some j => halfO i j && rightO (l.drop (k + 2))) else rightO (l.drop (k + 1)))) := by
  obtain ⟨hk, rfl⟩ := List.getElem?_eq_some_iff.1 hi
  rw [List.drop_eq_getElem_cons hk]
  by_cases ho : l[k].op = 24
  · rw [if_pos ho]
    rcases Nat.lt_or_ge (k + 1) l.length with h1 | h1
    · rw [List.drop_eq_getElem_cons h1, List.getElem?_eq_getElem h1]
      simp only [rightO, ho, if_true]
    · rw [List.drop_eq_nil_of_le h1, List.getElem?_eq_none h1]
      simp [rightO, ho]
  · rw [if_neg ho, right_plain _ _ ho]

/-- Bytes of a number, in two's complement. -/
def byt0 (n : Int) : UInt8 := UInt8.ofNat (n % 256).toNat
def byt1 (n : Int) : UInt8 := UInt8.ofNat (n / 256 % 256).toNat
def byt2 (n : Int) : UInt8 := UInt8.ofNat (n / 65536 % 256).toNat
def byt3 (n : Int) : UInt8 := UInt8.ofNat (n / 16777216 % 256).toNat
def s16 (n : Nat) : Int := if n < 32768 then (n : Int) else (n : Int) - 65536
def s32 (n : Nat) : Int := if n < 2147483648 then (n : Int) else (n : Int) - 4294967296
/-- The eight bytes of an instruction. -/
def enc1 (i : In) : List UInt8 := [UInt8.ofNat i.op, UInt8.ofNat (i.dst + 16 * i.src), byt0 i.off, byt1 i.off, byt0 i.imm, byt1 i.imm, byt2 i.imm, byt3 i.imm]
def encL : List In → List UInt8
  | [] => []
  | i :: r => enc1 i ++ encL r
/-- The instruction of eight bytes. -/
def dec1 (b0 b1 b2 b3 b4 b5 b6 b7 : UInt8) : In := { op := b0.toNat, dst := b1.toNat % 16, src := b1.toNat / 16, off := s16 (b2.toNat + 256 * b3.toNat), imm := s32 (b4.toNat + 256 * b5.toNat + 65536 * b6.toNat + 16777216 * b7.toNat) }
def decL : List UInt8 → List In
  | b0 :: b1 :: b2 :: b3 :: b4 :: b5 :: b6 :: b7 :: r => dec1 b0 b1 b2 b3 b4 b5 b6 b7 :: decL r
  | _ => []

theorem byt0_n (n : Int) : ((byt0 n).toNat : Int) = n % 256 := by unfold byt0; rw [UInt8.toNat_ofNat']; omega
theorem byt1_n (n : Int) : ((byt1 n).toNat : Int) = n / 256 % 256 := by unfold byt1; rw [UInt8.toNat_ofNat']; omega
theorem byt2_n (n : Int) : ((byt2 n).toNat : Int) = n / 65536 % 256 := by unfold byt2; rw [UInt8.toNat_ofNat']; omega
theorem byt3_n (n : Int) : ((byt3 n).toNat : Int) = n / 16777216 % 256 := by unfold byt3; rw [UInt8.toNat_ofNat']; omega
theorem In.ext' {i j : In} (h0 : i.op = j.op) (h1 : i.dst = j.dst) (h2 : i.src = j.src) (h3 : i.off = j.off) (h4 : i.imm = j.imm) : i = j := by
  cases i; cases j; simp_all
theorem dec_enc1 {i : In} (h : i.Wf) (hs : i.dst < 16 ∧ i.src < 16) : dec1 (UInt8.ofNat i.op) (UInt8.ofNat (i.dst + 16 * i.src)) (byt0 i.off) (byt1 i.off) (byt0 i.imm) (byt1 i.imm) (byt2 i.imm) (byt3 i.imm) = i := by
  have h0 := h.op
  have h3 := h.off
  have h4 := h.imm
  have a0 := byt0_n i.off
  have a1 := byt1_n i.off
  have c0 := byt0_n i.imm
  have c1 := byt1_n i.imm
  have c2 := byt2_n i.imm
  have c3 := byt3_n i.imm
  apply In.ext'
  · show (UInt8.ofNat i.op).toNat = i.op
    rw [UInt8.toNat_ofNat']; omega
  · show (UInt8.ofNat (i.dst + 16 * i.src)).toNat % 16 = i.dst
    rw [UInt8.toNat_ofNat']; omega
  · show (UInt8.ofNat (i.dst + 16 * i.src)).toNat / 16 = i.src
    rw [UInt8.toNat_ofNat']; omega
  · show s16 _ = i.off
    unfold s16
    split <;> omega
  · show s32 _ = i.imm
    unfold s32
    split <;> omega
theorem byt_of {x : UInt8} {y : UInt8} (h : (x.toNat : Int) = (y.toNat : Int)) : x = y := UInt8.toNat_inj.1 (by omega)
theorem enc_dec1 (b0 b1 b2 b3 b4 b5 b6 b7 : UInt8) : enc1 (dec1 b0 b1 b2 b3 b4 b5 b6 b7) = [b0, b1, b2, b3, b4, b5, b6, b7] := by
  have l0 := b0.toNat_lt
  have l1 := b1.toNat_lt
  have l2 := b2.toNat_lt
  have l3 := b3.toNat_lt
  have l4 := b4.toNat_lt
  have l5 := b5.toNat_lt
  have l6 := b6.toNat_lt
  have l7 := b7.toNat_lt
  unfold enc1 dec1
  simp only [List.cons.injEq, and_true]
  refine ⟨?_, ?_, ?_, ?_, ?_, ?_, ?_, ?_⟩ <;> apply byt_of
  · rw [UInt8.toNat_ofNat']; omega
  · rw [UInt8.toNat_ofNat']; omega
  · rw [byt0_n]; unfold s16; split <;> omega
  · rw [byt1_n]; unfold s16; split <;> omega
  · rw [byt0_n]; unfold s32; split <;> omega
  · rw [byt1_n]; unfold s32; split <;> omega
  · rw [byt2_n]; unfold s32; split <;> omega
  · rw [byt3_n]; unfold s32; split <;> omega
theorem dec1_wf (b0 b1 b2 b3 b4 b5 b6 b7 : UInt8) : (dec1 b0 b1 b2 b3 b4 b5 b6 b7).Wf := by
  have l0 := b0.toNat_lt
  have l1 := b1.toNat_lt
  have l2 := b2.toNat_lt
  have l3 := b3.toNat_lt
  have l4 := b4.toNat_lt
  have l5 := b5.toNat_lt
  have l6 := b6.toNat_lt
  have l7 := b7.toNat_lt
  refine ⟨?_, ?_, ?_, ?_, ?_⟩
  · show b0.toNat < 256; omega
  · show b1.toNat % 16 < 256; omega
  · show b1.toNat / 16 < 256; omega
  · show -32768 ≤ s16 _ ∧ s16 _ < 32768
    unfold s16; split <;> omega
  · show -2147483648 ≤ s32 _ ∧ s32 _ < 2147483648
    unfold s32; split <;> omega
theorem encL_len (l : List In) : (encL l).length = 8 * l.length := by
  induction l with
  | nil => rfl
  | cons i r ih => simp [encL, enc1, ih]; omega
theorem encL_app (a b : List In) : encL (a ++ b) = encL a ++ encL b := by
  induction a with
  | nil => rfl
  | cons i r ih => simp [encL, ih]
theorem dec_enc : ∀ l : List In, (∀ i ∈ l, i.Wf) → (∀ i ∈ l, i.dst < 16 ∧ i.src < 16) → decL (encL l) = l
  | [], _, _ => rfl
  | i :: r, h1, h2 => by
    show dec1 _ _ _ _ _ _ _ _ :: decL (encL r) = _
    rw [dec_enc1 (h1 i (by simp)) (h2 i (by simp)), dec_enc r (fun j hj => h1 j (by simp [hj])) (fun j hj => h2 j (by simp [hj]))]
theorem eight {bs : List UInt8} (h : 8 ≤ bs.length) : ∃ b0 b1 b2 b3 b4 b5 b6 b7 r, bs = b0 :: b1 :: b2 :: b3 :: b4 :: b5 :: b6 :: b7 :: r := by
  match bs, h with
  | b0 :: b1 :: b2 :: b3 :: b4 :: b5 :: b6 :: b7 :: r, _ => exact ⟨b0, b1, b2, b3, b4, b5, b6, b7, r, rfl⟩
theorem decL_short {bs : List UInt8} (h : bs.length < 8) : decL bs = [] := by
  unfold decL
  split
  · simp at h; omega
  · rfl
theorem enc_dec : ∀ (n : Nat) (bs : List UInt8), bs.length = 8 * n → encL (decL bs) = bs
  | 0, bs, h => by
    have : bs = [] := List.length_eq_zero_iff.1 (by omega)
    subst this; rfl
  | n + 1, bs, h => by
    obtain ⟨b0, b1, b2, b3, b4, b5, b6, b7, r, rfl⟩ := eight (bs := bs) (by omega)
    show enc1 _ ++ encL (decL r) = _
    rw [enc_dec1, enc_dec n r (by simp at h; omega)]
    rfl
theorem decL_len : ∀ (n : Nat) (bs : List UInt8), bs.length / 8 = n → (decL bs).length = n
  | 0, bs, h => by rw [decL_short (by omega)]; rfl
  | n + 1, bs, h => by
    obtain ⟨b0, b1, b2, b3, b4, b5, b6, b7, r, rfl⟩ := eight (bs := bs) (by omega)
    show (decL r).length + 1 = _
    rw [decL_len n r (by simp at h; omega)]
theorem decL_app : ∀ (n : Nat) (a b : List UInt8), a.length = 8 * n → decL (a ++ b) = decL a ++ decL b
  | 0, a, b, h => by
    have : a = [] := List.length_eq_zero_iff.1 (by omega)
    subst this; rfl
  | n + 1, a, b, h => by
    obtain ⟨b0, b1, b2, b3, b4, b5, b6, b7, r, rfl⟩ := eight (bs := a) (by omega)
    show _ :: decL (r ++ b) = _ :: (decL r ++ decL b)
    rw [decL_app n r b (by simp at h; omega)]
theorem decL_wf : ∀ (n : Nat) (bs : List UInt8), bs.length / 8 = n → ∀ i ∈ decL bs, i.Wf
  | 0, bs, h, i, hi => by rw [decL_short (by omega)] at hi; cases hi
  | n + 1, bs, h, i, hi => by
    obtain ⟨b0, b1, b2, b3, b4, b5, b6, b7, r, rfl⟩ := eight (bs := bs) (by omega)
    rcases List.mem_cons.1 hi with rfl | hi
    · exact dec1_wf _ _ _ _ _ _ _ _
    · exact decL_wf n r (by simp at h; omega) i hi
theorem decL_at : ∀ (k : Nat) (bs : List UInt8) (h : 8 * k + 8 ≤ bs.length), (decL bs)[k]? = some (dec1 bs[8 * k] bs[8 * k + 1] bs[8 * k + 2] bs[8 * k + 3] bs[8 * k + 4] bs[8 * k + 5] bs[8 * k + 6] bs[8 * k + 7])
  | 0, bs, h => by
    obtain ⟨b0, b1, b2, b3, b4, b5, b6, b7, r, rfl⟩ := eight (bs := bs) (by omega)
    rfl
  | k + 1, bs, h => by
    obtain ⟨b0, b1, b2, b3, b4, b5, b6, b7, r, rfl⟩ := eight (bs := bs) (by omega)
    have := decL_at k r (by simp at h; omega)
    show (decL r)[k]? = _
    rw [this]
    rfl
end Go.Proofs.Ythmiiddojccafaa
