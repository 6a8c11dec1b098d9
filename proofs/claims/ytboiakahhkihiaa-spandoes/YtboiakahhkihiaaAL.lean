/-
  What operations do: pure facts.
-/
import Derived.Test.YtboiakahhkihiaaB3
namespace Go.Proofs.Ytboiakahhkihiaa
open Go.RowKit
set_option linter.all false

theorem pos2 (n : Nat) : 0 < 2 ^ n := Nat.two_pow_pos n
theorem bW_lt (wide : Bool) : bW wide < 2 ^ bW wide := by cases wide <;> decide
theorem bW_pos (wide : Bool) : 0 < bW wide := by cases wide <;> decide

/-! and, or, xor, add -/
theorem bit1 : ∀ x y : Fin 2, (x.1 &&& y.1) + (x.1 ||| y.1) = x.1 + y.1 ∧ (x.1 ^^^ y.1) + 2 * (x.1 &&& y.1) = x.1 + y.1 := by decide
theorem and_or_xor : ∀ a b : Nat, (a &&& b) + (a ||| b) = a + b ∧ (a ^^^ b) + 2 * (a &&& b) = a + b := by
  intro a
  induction a using Nat.strongRecOn with
  | _ a ih =>
    intro b
    by_cases ha : a = 0
    · subst ha; simp
    · obtain ⟨i1, i2⟩ := ih (a / 2) (by omega) (b / 2)
      have b1 := bit1 ⟨a % 2, Nat.mod_lt _ (by decide)⟩ ⟨b % 2, Nat.mod_lt _ (by decide)⟩
      simp only at b1
      have d1 : (a &&& b) / 2 = a / 2 &&& b / 2 := Nat.and_div_two_pow (n := 1)
      have d2 : (a ||| b) / 2 = a / 2 ||| b / 2 := Nat.or_div_two_pow (n := 1)
      have d3 : (a ^^^ b) / 2 = a / 2 ^^^ b / 2 := Nat.xor_div_two_pow (n := 1)
      have m1 : (a &&& b) % 2 = (a % 2) &&& (b % 2) := Nat.and_mod_two_pow (n := 1)
      have m2 : (a ||| b) % 2 = (a % 2) ||| (b % 2) := Nat.or_mod_two_pow (n := 1)
      have m3 : (a ^^^ b) % 2 = (a % 2) ^^^ (b % 2) := Nat.xor_mod_two_pow (n := 1)
      rw [← d1, ← d2] at i1
      rw [← d1, ← d3] at i2
      rw [← m1, ← m2, ← m3] at b1
      omega

section
variable {wide : Bool} {a b : Nat}
theorem back_add (h : a < 2 ^ bW wide) : D (bW wide) 16 (D (bW wide) 0 a b) b = a := by
  cases wide
  · show (((a % 4294967296 + b % 4294967296) % 4294967296) % 4294967296 + (4294967296 - b % 4294967296)) % 4294967296 = a
    have h : a < 4294967296 := h
    omega
  · show (((a % 18446744073709551616 + b % 18446744073709551616) % 18446744073709551616) % 18446744073709551616 + (18446744073709551616 - b % 18446744073709551616)) % 18446744073709551616 = a
    have h : a < 18446744073709551616 := h
    omega
theorem back_xor (h : a < 2 ^ bW wide) : D (bW wide) 160 (D (bW wide) 160 a b) b = a := by
  show ((a % 2 ^ bW wide ^^^ b % 2 ^ bW wide) % 2 ^ bW wide) ^^^ b % 2 ^ bW wide = a
  rw [Nat.mod_eq_of_lt h, Nat.mod_eq_of_lt (Nat.xor_lt_two_pow h (Nat.mod_lt _ (pos2 _))), Nat.xor_assoc, Nat.xor_self, Nat.xor_zero]
theorem back_div (h : a < 2 ^ bW wide) : D (bW wide) 0 (D (bW wide) 32 (D (bW wide) 48 a b) b) (D (bW wide) 144 a b) = a := by
  show (((a % 2 ^ bW wide / (b % 2 ^ bW wide)) % 2 ^ bW wide * (b % 2 ^ bW wide) % 2 ^ bW wide) % 2 ^ bW wide + (a % 2 ^ bW wide % (b % 2 ^ bW wide)) % 2 ^ bW wide) % 2 ^ bW wide = a
  generalize b % 2 ^ bW wide = B
  rw [Nat.mod_eq_of_lt h]
  have h1 : a / B < 2 ^ bW wide := Nat.lt_of_le_of_lt (Nat.div_le_self _ _) h
  have h2 : a / B * B < 2 ^ bW wide := Nat.lt_of_le_of_lt (Nat.div_mul_le_self _ _) h
  have h3 : a % B < 2 ^ bW wide := Nat.lt_of_le_of_lt (Nat.mod_le _ _) h
  rw [Nat.mod_eq_of_lt h1, Nat.mod_eq_of_lt h2, Nat.mod_eq_of_lt h2, Nat.mod_eq_of_lt h3, Nat.mul_comm, Nat.div_add_mod, Nat.mod_eq_of_lt h]
theorem back_neg (h : a < 2 ^ bW wide) : D (bW wide) 128 (D (bW wide) 128 a 0) 0 = a := by
  cases wide
  · show (4294967296 - ((4294967296 - a % 4294967296) % 4294967296) % 4294967296) % 4294967296 = a
    have h : a < 4294967296 := h
    omega
  · show (18446744073709551616 - ((18446744073709551616 - a % 18446744073709551616) % 18446744073709551616) % 18446744073709551616) % 18446744073709551616 = a
    have h : a < 18446744073709551616 := h
    omega
theorem back_mov (h : a < 2 ^ bW wide) : D (bW wide) 176 b a = a := Nat.mod_eq_of_lt h

theorem bits_one : D (bW wide) 0 (D (bW wide) 80 a b) (D (bW wide) 64 a b) = D (bW wide) 0 a b := by
  show ((a % 2 ^ bW wide &&& b % 2 ^ bW wide) % 2 ^ bW wide + (a % 2 ^ bW wide ||| b % 2 ^ bW wide) % 2 ^ bW wide) % 2 ^ bW wide = (a % 2 ^ bW wide + b % 2 ^ bW wide) % 2 ^ bW wide
  rw [← Nat.add_mod, (and_or_xor _ _).1]
theorem bits_two : D (bW wide) 0 (D (bW wide) 80 a b) (D (bW wide) 160 a b) = D (bW wide) 64 a b := by
  show ((a % 2 ^ bW wide &&& b % 2 ^ bW wide) % 2 ^ bW wide + (a % 2 ^ bW wide ^^^ b % 2 ^ bW wide) % 2 ^ bW wide) % 2 ^ bW wide = (a % 2 ^ bW wide ||| b % 2 ^ bW wide)
  have h := and_or_xor (a % 2 ^ bW wide) (b % 2 ^ bW wide)
  have h1 : (a % 2 ^ bW wide &&& b % 2 ^ bW wide) + (a % 2 ^ bW wide ^^^ b % 2 ^ bW wide) = (a % 2 ^ bW wide ||| b % 2 ^ bW wide) := by omega
  rw [← Nat.add_mod, h1, Nat.mod_eq_of_lt (Nat.or_lt_two_pow (Nat.mod_lt _ (pos2 _)) (Nat.mod_lt _ (pos2 _)))]
theorem bits_sub : D (bW wide) 0 a (D (bW wide) 128 b 0) = D (bW wide) 16 a b := by
  show (a % 2 ^ bW wide + ((2 ^ bW wide - b % 2 ^ bW wide) % 2 ^ bW wide) % 2 ^ bW wide) % 2 ^ bW wide = (a % 2 ^ bW wide + (2 ^ bW wide - b % 2 ^ bW wide)) % 2 ^ bW wide
  rw [Nat.mod_mod, Nat.add_mod_mod]
theorem bits_set : T (bW wide) 64 a b = decide (¬ D (bW wide) 80 a b = 0) := rfl

/-! The lowest bits alone. -/
theorem low_join (a c : Nat) : ((a &&& 4294967295) ||| (c * 2 ^ 32 % 18446744073709551616)) % 4294967296 = a % 4294967296 := by
  show ((a &&& 4294967295) ||| (c * 2 ^ 32 % 18446744073709551616)) % 2 ^ 32 = a % 2 ^ 32
  rw [Nat.or_mod_two_pow]
  have e : c * 2 ^ 32 % 18446744073709551616 % 2 ^ 32 = 0 := by omega
  have e2 : (a &&& 4294967295) = a % 2 ^ 32 := Nat.and_two_pow_sub_one_eq_mod a 32
  rw [e, e2, Nat.or_zero, Nat.mod_mod]
theorem low_D {a' b' : Nat} (ha : a' % 4294967296 = a % 4294967296) (hb : b' % 4294967296 = b % 4294967296) (op : Nat) : D 32 op a' b' = D 32 op a b := by
  show dW 32 op (a' % 4294967296) (b' % 4294967296) = dW 32 op (a % 4294967296) (b % 4294967296)
  rw [ha, hb]
theorem low_T {a' b' : Nat} (ha : a' % 4294967296 = a % 4294967296) (hb : b' % 4294967296 = b % 4294967296) (op : Nat) : T 32 op a' b' = T 32 op a b := by
  show tW 32 op (a' % 4294967296) (b' % 4294967296) = tW 32 op (a % 4294967296) (b % 4294967296)
  rw [ha, hb]

/-! Tests and their opposites. -/
theorem turn1 (n a b : Nat) : T n 16 a b ≠ T n 80 a b := by show decide (a % 2 ^ n = b % 2 ^ n) ≠ decide (¬ a % 2 ^ n = b % 2 ^ n); by_cases h : a % 2 ^ n = b % 2 ^ n <;> simp [h]
theorem turn2 (n a b : Nat) : T n 32 a b ≠ T n 176 a b := by show decide (b % 2 ^ n < a % 2 ^ n) ≠ decide (a % 2 ^ n ≤ b % 2 ^ n); by_cases h : b % 2 ^ n < a % 2 ^ n <;> simp [h] <;> omega
theorem turn3 (n a b : Nat) : T n 48 a b ≠ T n 160 a b := by show decide (b % 2 ^ n ≤ a % 2 ^ n) ≠ decide (a % 2 ^ n < b % 2 ^ n); by_cases h : b % 2 ^ n ≤ a % 2 ^ n <;> simp [h] <;> omega
theorem turn4 (n a b : Nat) : T n 96 a b ≠ T n 208 a b := by show decide (sgn n (b % 2 ^ n) < sgn n (a % 2 ^ n)) ≠ decide (sgn n (a % 2 ^ n) ≤ sgn n (b % 2 ^ n)); by_cases h : sgn n (b % 2 ^ n) < sgn n (a % 2 ^ n) <;> simp [h] <;> omega
theorem turn5 (n a b : Nat) : T n 112 a b ≠ T n 192 a b := by show decide (sgn n (b % 2 ^ n) ≤ sgn n (a % 2 ^ n)) ≠ decide (sgn n (a % 2 ^ n) < sgn n (b % 2 ^ n)); by_cases h : sgn n (b % 2 ^ n) ≤ sgn n (a % 2 ^ n) <;> simp [h] <;> omega
theorem round1 (n a b : Nat) : T n 16 a b = T n 16 b a := by show decide (a % 2 ^ n = b % 2 ^ n) = decide (b % 2 ^ n = a % 2 ^ n); rw [decide_eq_decide]; exact eq_comm
theorem round2 (n a b : Nat) : T n 32 a b = T n 160 b a := rfl
theorem round3 (n a b : Nat) : T n 48 a b = T n 176 b a := rfl
theorem round4 (n a b : Nat) : T n 96 a b = T n 192 b a := rfl
theorem round5 (n a b : Nat) : T n 112 a b = T n 208 b a := rfl
theorem round6 (n a b : Nat) : T n 64 a b = T n 64 b a := by show decide (¬ a % 2 ^ n &&& b % 2 ^ n = 0) = decide (¬ b % 2 ^ n &&& a % 2 ^ n = 0); rw [Nat.and_comm]

/-! The highest bit turned. -/
theorem and_pow (x k : Nat) : x &&& 2 ^ k = 2 ^ k * (x / 2 ^ k % 2) := by
  have d : (x &&& 2 ^ k) / 2 ^ k = x / 2 ^ k &&& 2 ^ k / 2 ^ k := Nat.and_div_two_pow
  have m : (x &&& 2 ^ k) % 2 ^ k = x % 2 ^ k &&& 2 ^ k % 2 ^ k := Nat.and_mod_two_pow
  rw [Nat.div_self (pos2 k), Nat.and_one_is_mod] at d
  rw [Nat.mod_self, Nat.and_zero] at m
  have := Nat.div_add_mod (x &&& 2 ^ k) (2 ^ k)
  rw [d, m] at this
  omega
theorem flip {n x : Nat} (hn : 0 < n) (hx : x < 2 ^ n) : ((x ^^^ 2 ^ (n - 1) : Nat) : Int) = sgn n x + ((2 ^ (n - 1) : Nat) : Int) := by
  have hp := pos2 (n - 1)
  have e : 2 ^ n = 2 ^ (n - 1) + 2 ^ (n - 1) := by
    have : n = (n - 1) + 1 := by omega
    rw [this, Nat.pow_succ]
    simp
    omega
  have hk := and_or_xor x (2 ^ (n - 1))
  rw [and_pow] at hk
  unfold sgn
  by_cases h : x < 2 ^ (n - 1)
  · have a0 : x / 2 ^ (n - 1) = 0 := Nat.div_eq_of_lt h
    rw [a0] at hk
    rw [if_pos h]
    omega
  · have a0 : x / 2 ^ (n - 1) = 1 := by
      apply Nat.div_eq_of_lt_le <;> omega
    rw [a0] at hk
    rw [if_neg h]
    omega
theorem flip_T {x y : Nat} (wide : Bool) (c : Nat) (hc : c = 2 ^ (bW wide - 1)) :
    T (bW wide) 96 x y = T (bW wide) 32 (x ^^^ c) (y ^^^ c) ∧ T (bW wide) 112 x y = T (bW wide) 48 (x ^^^ c) (y ^^^ c) ∧ T (bW wide) 192 x y = T (bW wide) 160 (x ^^^ c) (y ^^^ c) ∧ T (bW wide) 208 x y = T (bW wide) 176 (x ^^^ c) (y ^^^ c) := by
  subst hc
  have hl : 2 ^ (bW wide - 1) % 2 ^ bW wide = 2 ^ (bW wide - 1) := by cases wide <;> decide
  have ex : ∀ z, (z ^^^ 2 ^ (bW wide - 1)) % 2 ^ bW wide = z % 2 ^ bW wide ^^^ 2 ^ (bW wide - 1) := fun z => by rw [Nat.xor_mod_two_pow, hl]
  have f := fun z => flip (n := bW wide) (x := z % 2 ^ bW wide) (bW_pos wide) (Nat.mod_lt _ (pos2 _))
  have fx := f x
  have fy := f y
  unfold T
  rw [ex, ex]
  refine ⟨?_, ?_, ?_, ?_⟩
  · show decide (sgn _ _ < sgn _ _) = decide (_ < _)
    rw [decide_eq_decide]; omega
  · show decide (sgn _ _ ≤ sgn _ _) = decide (_ ≤ _)
    rw [decide_eq_decide]; omega
  · show decide (sgn _ _ < sgn _ _) = decide (_ < _)
    rw [decide_eq_decide]; omega
  · show decide (sgn _ _ ≤ sgn _ _) = decide (_ ≤ _)
    rw [decide_eq_decide]; omega
end
theorem size_alloc (w : World) (o : Obj) : (w.alloc o).heap.size = w.heap.size + 1 := by simp
theorem Row.made' (w : World) (t : TypeId) (cs : Array Value) (g : Nat) (hg : g = w.heap.size) : Row (w.alloc (.cells cs t)) g t cs := by subst hg; exact Row.made w t cs

end Go.Proofs.Ytboiakahhkihiaa
