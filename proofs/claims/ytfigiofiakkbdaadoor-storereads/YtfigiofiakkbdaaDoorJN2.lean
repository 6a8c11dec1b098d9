/-
  Journals, as lists of bytes: what stands there is read. Nothing of the program is named here.
-/
import Derived.Test.YtfigiofiakkbdaaDoorJN
namespace Go.Proofs.YtfigiofiakkbdaaDoor
set_option linter.all false

theorem head16_take8 (n len : Nat) (bs r : List UInt8) : (head16 n len bs ++ r).take 8 = le 8 n := by
  have h8 := le_len 8 n
  rw [head16, head12, List.append_assoc, List.append_assoc, List.append_assoc, List.take_append_of_le_length (by omega), List.take_of_length_le (by omega)]
theorem head16_len4 (n len : Nat) (bs r : List UInt8) : ((head16 n len bs ++ r).take 12).drop 8 = le 4 len := by
  have h8 := le_len 8 n
  have h4 := le_len 4 len
  rw [head16, head12, List.append_assoc, List.append_assoc, List.append_assoc, ← List.append_assoc (le 8 n), List.take_append_of_le_length (by simp [h8, h4]), List.take_of_length_le (by simp [h8, h4]), List.drop_append_of_le_length (by omega), List.drop_of_length_le (by omega), List.nil_append]
theorem head16_body (n len : Nat) (bs r : List UInt8) : ((head16 n len bs ++ (bs ++ r)).take (16 + bs.length)).drop 16 = bs := by
  have h := head16_len n len bs
  rw [← List.append_assoc, List.take_append_of_le_length (by simp [h]), List.take_of_length_le (by simp [h]), List.drop_append_of_le_length (by omega), List.drop_of_length_le (by omega), List.nil_append]
/-- A record that stands there is read. -/
theorem oneAt_rec (n : Nat) (b r : List UInt8) (hn : n ≤ 4611686018427387904) (hb : b.length < 4294967296) : oneAt (recP n b ++ r) n = some b := by
  have hl : (recP n b ++ r).length = (16 + b.length + 511) / 512 * 512 + r.length := by rw [List.length_append, recP, pic_len]
  have h16 := head16_len n b.length b
  have e : recP n b ++ r = head16 n b.length b ++ (b ++ (pad (16 + b.length) ++ r)) := by simp [recP, pic, List.append_assoc]
  have t8 : (recP n b ++ r).take 8 = le 8 n := by rw [e]; exact head16_take8 _ _ _ _
  have t4 : ((recP n b ++ r).take 12).drop 8 = le 4 b.length := by rw [e]; exact head16_len4 _ _ _ _
  have tb : ((recP n b ++ r).take (16 + b.length)).drop 16 = b := by rw [e]; exact head16_body _ _ _ _
  have t16 : (recP n b ++ r).take 16 = head16 n b.length b := by rw [e, List.take_append_of_le_length (by omega), List.take_of_length_le (by omega)]
  have n8 : num (le 8 n) = n := num_le 8 n (Nat.lt_of_le_of_lt hn (by decide))
  have n4 : num (le 4 b.length) = b.length := num_le 4 _ hb
  unfold oneAt
  rw [if_neg (by rw [t8, n8, hl]; omega)]
  simp only
  rw [t4, n4, if_neg (by rw [hl]; omega), tb, t16, if_pos rfl]
/-- Another number is none. -/
theorem oneAt_other (s : List UInt8) (n : Nat) (h : num (s.take 8) ≠ n) : oneAt s n = none := by unfold oneAt; rw [if_pos (.inr (.inr h))]
theorem oneAt_short (s : List UInt8) (n : Nat) (h : s.length < 512) : oneAt s n = none := by unfold oneAt; rw [if_pos (.inl h)]
theorem num_rep0 (k : Nat) : num (List.replicate k (0 : UInt8)) = 0 := by
  induction k with
  | zero => rfl
  | succ k ih => rw [List.replicate_succ]; simp only [num, ih]; rfl
theorem oneAt_zeros (k n : Nat) (hn : 1 ≤ n) : oneAt (List.replicate k 0) n = none := by
  apply oneAt_other
  rw [List.take_replicate, num_rep0]
  omega
theorem rec_take8 (n : Nat) (b r : List UInt8) (hn : n ≤ 4611686018427387905) : num ((recP n b ++ r).take 8) = n := by
  have e : recP n b ++ r = head16 n b.length b ++ (b ++ (pad (16 + b.length) ++ r)) := by simp [recP, pic, List.append_assoc]
  rw [e, head16_take8, num_le 8 n (Nat.lt_of_le_of_lt hn (by decide))]
theorem beg_take8 (n : Nat) (r : List UInt8) (hn : n ≤ 4611686018427387905) : num ((begP n ++ r).take 8) = n := by
  have e : begP n ++ r = head16 n 4294967295 [] ++ (pad 16 ++ r) := by simp [begP, pic, List.append_assoc]
  rw [e, head16_take8, num_le 8 n (Nat.lt_of_le_of_lt hn (by decide))]
theorem beg_take16 (n : Nat) (r : List UInt8) : (begP n ++ r).take 16 = head16 n 4294967295 [] := by
  have h16 := head16_len n 4294967295 []
  have e : begP n ++ r = head16 n 4294967295 [] ++ (pad 16 ++ r) := by simp [begP, pic, List.append_assoc]
  rw [e, List.take_append_of_le_length (by omega), List.take_of_length_le (by omega)]

/-- Records with numbers from n on, one behind the other. -/
def layR : Nat → List (List UInt8) → List UInt8
  | _, [] => []
  | n, b :: l => recP n b ++ layR (n + 1) l
/-- Their sectors. -/
def secsAll : List (List UInt8) → Nat
  | [] => 0
  | b :: l => secsOf b.length + secsAll l
theorem rec_len (n : Nat) (b : List UInt8) : (recP n b).length = 512 * secsOf b.length := by rw [recP, pic_len]; unfold secsOf; omega
theorem layR_len (n : Nat) (l : List (List UInt8)) : (layR n l).length = 512 * secsAll l := by
  induction l generalizing n with
  | nil => rfl
  | cons b l ih => simp only [layR, List.length_append, rec_len, ih, secsAll]; omega
theorem layR_app (n : Nat) (a b : List (List UInt8)) : layR n (a ++ b) = layR n a ++ layR (n + a.length) b := by
  induction a generalizing n with
  | nil => simp [layR]
  | cons x a ih =>
    simp only [List.cons_append, layR, ih, List.append_assoc, List.length_cons]
    rw [show n + 1 + a.length = n + (a.length + 1) by omega]
theorem layR_snoc (n : Nat) (l : List (List UInt8)) (b : List UInt8) : layR n (l ++ [b]) = layR n l ++ recP (n + l.length) b := by rw [layR_app]; simp [layR]
theorem secsAll_snoc (l : List (List UInt8)) (b : List UInt8) : secsAll (l ++ [b]) = secsAll l + secsOf b.length := by
  induction l with
  | nil => simp [secsAll]
  | cons x l ih => simp only [List.cons_append, secsAll, ih]; omega
theorem secsAll_len (l : List (List UInt8)) : l.length ≤ secsAll l := by
  induction l with
  | nil => exact Nat.le_refl _
  | cons b l ih =>
    simp only [List.length_cons, secsAll]
    have : 1 ≤ secsOf b.length := by unfold secsOf; omega
    omega
theorem replayFrom_lay (l : List (List UInt8)) : ∀ (f : Nat) (pre r : List UInt8) (n used : Nat) (out : List (List UInt8)), pre.length = 512 * used → l.length ≤ f → n + l.length ≤ 4611686018427387905 → (∀ b ∈ l, b.length < 4294967296) → oneAt r (n + l.length) = none →
    replayFrom f (pre ++ (layR n l ++ r)) n used out = (out ++ l, n + l.length, used + secsAll l) := by
  induction l with
  | nil =>
    intro f pre r n used out hp hf hn hb hr
    cases f with
    | zero => simp [replayFrom, secsAll]
    | succ f =>
      have hd : (pre ++ (layR n [] ++ r)).drop (512 * used) = r := by simp [layR, ← hp]
      simp only [replayFrom, hd]
      simp only [List.length_nil, Nat.add_zero] at hr
      rw [hr]
      simp [secsAll]
  | cons b l ih =>
    intro f pre r n used out hp hf hn hb hr
    simp only [List.length_cons] at hf hn hr
    obtain ⟨f, rfl⟩ : ∃ f', f = f' + 1 := ⟨f - 1, by omega⟩
    have hd : (pre ++ (layR n (b :: l) ++ r)).drop (512 * used) = recP n b ++ (layR (n + 1) l ++ r) := by simp [layR, ← hp]
    have ho := oneAt_rec n b (layR (n + 1) l ++ r) (by omega) (hb b (by simp))
    simp only [replayFrom, hd, ho]
    have e : pre ++ (layR n (b :: l) ++ r) = (pre ++ recP n b) ++ (layR (n + 1) l ++ r) := by simp [layR]
    rw [e, ih f (pre ++ recP n b) r (n + 1) (used + secsOf b.length) (out ++ [b]) (by rw [List.length_append, rec_len, hp]; omega) (by omega) (by omega) (fun x hx => hb x (by simp [hx])) (by rw [← hr]; congr 1; omega)]
    simp only [Prod.mk.injEq, List.append_assoc, List.cons_append, List.nil_append, List.length_cons, secsAll, true_and]
    exact ⟨by omega, by omega⟩
/-- A beginning, and records behind it: these are told. -/
theorem replay_lay (n : Nat) (l : List (List UInt8)) (r : List UInt8) (h1 : 1 ≤ n) (hn : n ≤ 4611686018427387904) (h2 : n + 1 + l.length ≤ 4611686018427387905) (hb : ∀ b ∈ l, b.length < 4294967296) (hr : oneAt r (n + 1 + l.length) = none) :
    replay (begP n ++ (layR (n + 1) l ++ r)) = some (l, n + 1 + l.length, 1 + secsAll l) := by
  unfold replay
  simp only
  rw [beg_take8 n _ (by omega), if_neg (by rw [beg_take16]; simp; omega)]
  rw [replayFrom_lay l _ (begP n) r (n + 1) 1 [] (by rw [begP_len]) (by
    have := secsAll_len l
    simp only [List.length_append, layR_len, begP_len]
    omega) h2 hb hr]
  rfl
end Go.Proofs.YtfigiofiakkbdaaDoor
