/-
  Spans: pure facts. What is done with numbers of two spans is in the span; of wider spans all that is told is wider.
-/
import Derived.Test.YtboiakahhkihiaaN4
import Derived.Test.YtboiakahhkihiaaN6
import Derived.Test.YtboiakahhkihiaaAR4
namespace Go.Proofs.Ytboiakahhkihiaa
open Go.RowKit
set_option linter.all false

/-- All of s is in t. -/
def Sp.Sub (s t : Sp) : Prop := t.lo ≤ s.lo ∧ s.hi ≤ t.hi
/-- n is in s. -/
def Sp.In (n : Nat) (s : Sp) : Prop := s.lo ≤ n ∧ n ≤ s.hi
theorem Sp.Sub.refl (s : Sp) : s.Sub s := ⟨Nat.le_refl _, Nat.le_refl _⟩
theorem Sp.Sub.trans {s t u : Sp} (h : s.Sub t) (k : t.Sub u) : s.Sub u := ⟨Nat.le_trans k.1 h.1, Nat.le_trans h.2 k.2⟩
theorem Sp.sub_all {s : Sp} (h : s.Ok) : s.Sub allS := ⟨Nat.zero_le _, Nat.le_of_lt_succ h.h⟩
theorem all_ok : allS.Ok := ⟨by decide, by decide⟩
theorem Sp.Sub.low {s t : Sp} (h : s.Sub t) : (lowS s).Sub (lowS t) := by
  obtain ⟨h1, h2⟩ := h
  unfold lowS
  by_cases a : 4294967295 < s.hi <;> by_cases b : 4294967295 < t.hi
  · rw [if_pos a, if_pos b]; exact Sp.Sub.refl _
  · omega
  · rw [if_neg a, if_pos b]; exact ⟨Nat.zero_le _, by show s.hi ≤ 4294967295; omega⟩
  · rw [if_neg a, if_neg b]; exact ⟨h1, h2⟩
theorem low_lt (s : Sp) : (lowS s).hi < 4294967296 := by
  unfold lowS
  split
  · decide
  · omega
theorem low_id {s : Sp} (h : s.hi < 4294967296) : lowS s = s := if_neg (by omega)
theorem bitLen_mono {a b : Nat} (h : a ≤ b) : bitLen a ≤ bitLen b := by
  rcases Nat.lt_or_ge (bitLen b) (bitLen a) with hl | hl
  · exfalso
    have h1 := (bitLen_spec b).1
    by_cases ha : a = 0
    · subst ha; simp [bitLen] at hl
    · have h2 := (bitLen_spec a).2 ha
      have h3 : 2 ^ bitLen b ≤ 2 ^ (bitLen a - 1) := Nat.pow_le_pow_right (by decide) (by omega)
      omega
  · exact hl
theorem onesN_mono {a b : Nat} (h : a ≤ b) : onesN a ≤ onesN b := by
  have := Nat.pow_le_pow_right (n := 2) (by decide) (bitLen_mono h)
  unfold onesN
  omega
theorem le_onesN (a : Nat) : a ≤ onesN a := by
  have := (bitLen_spec a).1
  unfold onesN
  omega
theorem lt_pow_onesN {a : Nat} (n : Nat) : onesN n < 2 ^ bitLen n := by
  have := Nat.two_pow_pos (bitLen n)
  unfold onesN
  omega
theorem ors_le {x y m : Nat} (hx : x ≤ m) (hy : y ≤ m) : x ||| y ≤ onesN m := by
  have h := (bitLen_spec m).1
  have := Nat.or_lt_two_pow (Nat.lt_of_le_of_lt hx h) (Nat.lt_of_le_of_lt hy h)
  unfold onesN
  omega
theorem xors_le {x y m : Nat} (hx : x ≤ m) (hy : y ≤ m) : x ^^^ y ≤ onesN m := by
  have h := (bitLen_spec m).1
  have := Nat.xor_lt_two_pow (Nat.lt_of_le_of_lt hx h) (Nat.lt_of_le_of_lt hy h)
  unfold onesN
  omega
theorem pow_mono {a b : Nat} (h : a ≤ b) : 2 ^ a ≤ 2 ^ b := Nat.pow_le_pow_right (by decide) h

/-! What made makes is right. -/
section
variable {s t u v : Sp}
theorem sum_ok (hs : s.Ok) (ht : t.Ok) : (sumS s t).Ok := by
  unfold sumS
  split
  · rename_i h; exact ⟨Nat.add_le_add hs.r ht.r, h⟩
  · exact all_ok
theorem diff_ok (hs : s.Ok) (ht : t.Ok) : (diffS s t).Ok := by
  have := hs.r; have := ht.r; have := hs.h
  unfold diffS
  split
  · exact ⟨by show s.lo - t.hi ≤ s.hi - t.lo; omega, by show s.hi - t.lo < _; omega⟩
  · exact all_ok
theorem prod_ok (hs : s.Ok) (ht : t.Ok) : (prodS s t).Ok := by
  unfold prodS
  split
  · rename_i h; exact ⟨Nat.mul_le_mul hs.r ht.r, h⟩
  · exact all_ok
theorem quo_ok (hs : s.Ok) (ht : t.Ok) : (quoS s t).Ok := by
  unfold quoS
  split
  · exact ⟨Nat.zero_le _, hs.h⟩
  · rename_i h
    exact ⟨Nat.div_le_div hs.r ht.r h, Nat.lt_of_le_of_lt (Nat.div_le_self _ _) hs.h⟩
theorem rem_ok (hs : s.Ok) (ht : t.Ok) : (remS s t).Ok := by
  have := hs.h
  unfold remS
  split
  · exact hs
  · split
    · exact ⟨Nat.zero_le _, hs.h⟩
    · exact ⟨Nat.zero_le _, by show min s.hi (t.hi - 1) < _; omega⟩
theorem up_ok (n : Nat) (hs : s.Ok) : (upS n s t).Ok := by
  unfold upS
  split
  · rename_i h; exact ⟨Nat.mul_le_mul_right _ hs.r, h.2⟩
  · exact all_ok
theorem down_ok (n : Nat) (hs : s.Ok) (ht : t.Ok) : (downS n s t).Ok := by
  unfold downS
  split
  · exact ⟨Nat.zero_le _, hs.h⟩
  · exact ⟨Nat.div_le_div hs.r (pow_mono ht.r) (by have := Nat.two_pow_pos t.lo; omega), Nat.lt_of_le_of_lt (Nat.div_le_self _ _) hs.h⟩
theorem made_ok (n op : Nat) (hs : s.Ok) (ht : t.Ok) : (madeS n op s t).Ok := by
  have h1 := hs.h; have h2 := ht.h; have h3 := hs.r; have h4 := ht.r
  have ho : onesN (max s.hi t.hi) < 18446744073709551616 := onesN_lt (by omega)
  have hm := le_onesN (max s.hi t.hi)
  by_cases c : op = 0; · subst c; exact sum_ok hs ht
  by_cases c : op = 16; · subst c; exact diff_ok hs ht
  by_cases c : op = 32; · subst c; exact prod_ok hs ht
  by_cases c : op = 48; · subst c; exact quo_ok hs ht
  by_cases c : op = 64; · subst c; exact ⟨by show max s.lo t.lo ≤ onesN _; omega, ho⟩
  by_cases c : op = 80; · subst c; exact ⟨Nat.zero_le _, by show min s.hi t.hi < _; omega⟩
  by_cases c : op = 96; · subst c; exact up_ok n hs
  by_cases c : op = 112; · subst c; exact down_ok n hs ht
  by_cases c : op = 144; · subst c; exact rem_ok hs ht
  by_cases c : op = 160; · subst c; exact ⟨Nat.zero_le _, ho⟩
  by_cases c : op = 176; · subst c; exact ht
  by_cases c : op = 192
  · subst c
    show (if s.hi < 2 ^ (n - 1) then downS n s t else allS).Ok
    split
    · exact down_ok n hs ht
    · exact all_ok
  · unfold madeS
    simp only [*, if_false]
    exact all_ok

/-! Of wider spans it is wider. -/
theorem sum_sub (hs : s.Ok) (ht : t.Ok) (h : s.Sub u) (k : t.Sub v) : (sumS s t).Sub (sumS u v) := by
  have := h.1; have := h.2; have := k.1; have := k.2
  by_cases hu : u.hi + v.hi < 18446744073709551616
  · unfold sumS
    rw [if_pos hu, if_pos (by omega)]
    exact ⟨by show u.lo + v.lo ≤ s.lo + t.lo; omega, by show s.hi + t.hi ≤ u.hi + v.hi; omega⟩
  · rw [show sumS u v = allS from if_neg hu]
    exact Sp.sub_all (sum_ok hs ht)
theorem diff_sub (hs : s.Ok) (ht : t.Ok) (h : s.Sub u) (k : t.Sub v) : (diffS s t).Sub (diffS u v) := by
  have := h.1; have := h.2; have := k.1; have := k.2; have := hs.r; have := ht.r
  by_cases hu : v.hi ≤ u.lo
  · unfold diffS
    rw [if_pos hu, if_pos (by omega)]
    exact ⟨by show u.lo - v.hi ≤ s.lo - t.hi; omega, by show s.hi - t.lo ≤ u.hi - v.lo; omega⟩
  · rw [show diffS u v = allS from if_neg hu]
    exact Sp.sub_all (diff_ok hs ht)
theorem prod_sub (hs : s.Ok) (ht : t.Ok) (h : s.Sub u) (k : t.Sub v) : (prodS s t).Sub (prodS u v) := by
  by_cases hu : u.hi * v.hi < 18446744073709551616
  · unfold prodS
    rw [if_pos hu, if_pos (Nat.lt_of_le_of_lt (Nat.mul_le_mul h.2 k.2) hu)]
    exact ⟨Nat.mul_le_mul h.1 k.1, Nat.mul_le_mul h.2 k.2⟩
  · rw [show prodS u v = allS from if_neg hu]
    exact Sp.sub_all (prod_ok hs ht)
theorem quo_sub (ht : t.Ok) (h : s.Sub u) (k : t.Sub v) : (quoS s t).Sub (quoS u v) := by
  have := k.1; have := ht.r
  unfold quoS
  by_cases hv : v.lo = 0
  · rw [if_pos hv]
    split
    · exact ⟨Nat.zero_le _, h.2⟩
    · exact ⟨Nat.zero_le _, Nat.le_trans (Nat.div_le_self _ _) h.2⟩
  · rw [if_neg hv, if_neg (by omega)]
    exact ⟨Nat.div_le_div h.1 k.2 (by omega), Nat.div_le_div h.2 k.1 hv⟩
theorem rem_sub (hs : s.Ok) (ht : t.Ok) (h : s.Sub u) (k : t.Sub v) : (remS s t).Sub (remS u v) := by
  have := h.1; have := h.2; have := k.1; have := k.2; have := hs.r; have := ht.r
  unfold remS
  by_cases a : u.hi < v.lo
  · rw [if_pos a, if_pos (by omega)]
    exact h
  · rw [if_neg a]
    by_cases b : v.lo = 0
    · rw [if_pos b]
      split
      · exact ⟨Nat.zero_le _, h.2⟩
      · split
        · exact ⟨Nat.zero_le _, h.2⟩
        · exact ⟨Nat.zero_le _, by show min s.hi (t.hi - 1) ≤ u.hi; omega⟩
    · rw [if_neg b]
      by_cases c : s.hi < t.lo
      · rw [if_pos c]
        exact ⟨Nat.zero_le _, by show s.hi ≤ min u.hi (v.hi - 1); omega⟩
      · rw [if_neg c, if_neg (by omega)]
        exact ⟨Nat.zero_le _, by show min s.hi (t.hi - 1) ≤ min u.hi (v.hi - 1); omega⟩
theorem down_sub (n : Nat) (ht : t.Ok) (h : s.Sub u) (k : t.Sub v) : (downS n s t).Sub (downS n u v) := by
  have := k.2; have := ht.r
  unfold downS
  by_cases a : n ≤ v.hi
  · rw [if_pos a]
    split
    · exact ⟨Nat.zero_le _, h.2⟩
    · exact ⟨Nat.zero_le _, Nat.le_trans (Nat.div_le_self _ _) h.2⟩
  · rw [if_neg a, if_neg (by omega)]
    exact ⟨Nat.div_le_div h.1 (pow_mono k.2) (by have := Nat.two_pow_pos t.hi; omega), Nat.div_le_div h.2 (pow_mono k.1) (by have := Nat.two_pow_pos v.lo; omega)⟩
theorem up_sub (n : Nat) (hs : s.Ok) (ht : t.Ok) (h : s.Sub u) (k : t.Sub v) : (upS n s t).Sub (upS n u v) := by
  have := k.1; have := k.2; have := ht.r
  by_cases a : v.lo = v.hi ∧ u.hi * 2 ^ (v.lo % n) < 18446744073709551616
  · have e : t.lo = v.lo := by omega
    have e' : t.hi = v.lo := by omega
    unfold upS
    rw [if_pos a, if_pos ⟨by omega, by rw [e]; exact Nat.lt_of_le_of_lt (Nat.mul_le_mul_right _ h.2) a.2⟩, e]
    exact ⟨Nat.mul_le_mul_right _ h.1, Nat.mul_le_mul_right _ h.2⟩
  · rw [show upS n u v = allS from if_neg a]
    exact Sp.sub_all (up_ok n hs)
theorem made_sub (n op : Nat) (hs : s.Ok) (ht : t.Ok) (h : s.Sub u) (k : t.Sub v) : (madeS n op s t).Sub (madeS n op u v) := by
  have h1 := h.1; have h2 := h.2; have h3 := k.1; have h4 := k.2
  have ho : onesN (max s.hi t.hi) ≤ onesN (max u.hi v.hi) := onesN_mono (by omega)
  by_cases c : op = 0; · subst c; exact sum_sub hs ht h k
  by_cases c : op = 16; · subst c; exact diff_sub hs ht h k
  by_cases c : op = 32; · subst c; exact prod_sub hs ht h k
  by_cases c : op = 48; · subst c; exact quo_sub ht h k
  by_cases c : op = 64; · subst c; exact ⟨by show max u.lo v.lo ≤ max s.lo t.lo; omega, ho⟩
  by_cases c : op = 80; · subst c; exact ⟨Nat.zero_le _, by show min s.hi t.hi ≤ min u.hi v.hi; omega⟩
  by_cases c : op = 96; · subst c; exact up_sub n hs ht h k
  by_cases c : op = 112; · subst c; exact down_sub n ht h k
  by_cases c : op = 144; · subst c; exact rem_sub hs ht h k
  by_cases c : op = 160; · subst c; exact ⟨Nat.zero_le _, ho⟩
  by_cases c : op = 176; · subst c; exact k
  by_cases c : op = 192
  · subst c
    show (if s.hi < 2 ^ (n - 1) then downS n s t else allS).Sub (if u.hi < 2 ^ (n - 1) then downS n u v else allS)
    by_cases a : u.hi < 2 ^ (n - 1)
    · rw [if_pos a, if_pos (by omega)]
      exact down_sub n ht h k
    · rw [if_neg a]
      split
      · exact Sp.sub_all (down_ok n hs ht)
      · exact Sp.Sub.refl _
  · unfold madeS
    simp only [*, if_false]
    exact Sp.Sub.refl _
end

/-! What alu makes of numbers of two spans. -/
section
variable {n x y : Nat} {s t : Sp}
/-- Cut to n bits. -/
def cutN (n : Nat) (s : Sp) : Sp := if 2 ^ n - 1 < s.hi then ⟨0, 2 ^ n - 1⟩ else s
theorem cutN_in {z : Nat} (h : Sp.In z s) (hz : z < 2 ^ n) : Sp.In z (cutN n s) := by
  unfold cutN
  split
  · exact ⟨Nat.zero_le _, by show z ≤ 2 ^ n - 1; omega⟩
  · exact h
theorem cutN_all {z : Nat} (hz : z < 2 ^ n) (hn : n ≤ 64) : Sp.In z (cutN n allS) := by
  apply cutN_in _ hz
  have := pow_mono hn
  have h64 : (2 : Nat) ^ 64 = 18446744073709551616 := by decide
  exact ⟨Nat.zero_le _, by show z ≤ 18446744073709551615; omega⟩
/-- What wraps lies in all of the n bits where the span is cut. -/
theorem cutN_mod {z : Nat} (h : Sp.In z s) : Sp.In (z % 2 ^ n) (cutN n s) := by
  have hp := Nat.two_pow_pos n
  unfold cutN
  split
  · exact ⟨Nat.zero_le _, by show z % 2 ^ n ≤ 2 ^ n - 1; have := Nat.mod_lt z hp; omega⟩
  · rename_i a
    rw [Nat.mod_eq_of_lt (by have := h.2; omega)]
    exact h
theorem dW_in (hn : 0 < n) (hn6 : n ≤ 64) (hx : Sp.In x s) (hy : Sp.In y t) (hs : s.hi < 2 ^ n) (ht : t.hi < 2 ^ n) (op : Nat) : Sp.In (dW n op x y) (cutN n (madeS n op s t)) := by
  have x2 : x < 2 ^ n := Nat.lt_of_le_of_lt hx.2 hs
  have y2 : y < 2 ^ n := Nat.lt_of_le_of_lt hy.2 ht
  have hl := dW_lt (op := op) x2 y2
  have hp := Nat.two_pow_pos n
  have := hx.1; have := hx.2; have := hy.1; have := hy.2
  by_cases c : op = 0
  · subst c
    show Sp.In ((x + y) % 2 ^ n) (cutN n (if s.hi + t.hi < 18446744073709551616 then ⟨s.lo + t.lo, s.hi + t.hi⟩ else allS))
    split
    · exact cutN_mod ⟨by show s.lo + t.lo ≤ x + y; omega, by show x + y ≤ s.hi + t.hi; omega⟩
    · exact cutN_all hl hn6
  by_cases c : op = 16
  · subst c
    show Sp.In ((x + (2 ^ n - y)) % 2 ^ n) (cutN n (if t.hi ≤ s.lo then ⟨s.lo - t.hi, s.hi - t.lo⟩ else allS))
    split
    · have e : x + (2 ^ n - y) = (x - y) + 2 ^ n := by omega
      rw [e, Nat.add_mod_right]
      exact cutN_mod ⟨by show s.lo - t.hi ≤ x - y; omega, by show x - y ≤ s.hi - t.lo; omega⟩
    · exact cutN_all hl hn6
  by_cases c : op = 32
  · subst c
    show Sp.In (x * y % 2 ^ n) (cutN n (if s.hi * t.hi < 18446744073709551616 then ⟨s.lo * t.lo, s.hi * t.hi⟩ else allS))
    split
    · exact cutN_mod ⟨Nat.mul_le_mul hx.1 hy.1, Nat.mul_le_mul hx.2 hy.2⟩
    · exact cutN_all hl hn6
  by_cases c : op = 48
  · subst c
    refine cutN_in ?_ hl
    show Sp.In (x / y) (if t.lo = 0 then ⟨0, s.hi⟩ else ⟨s.lo / t.hi, s.hi / t.lo⟩)
    split
    · exact ⟨Nat.zero_le _, Nat.le_trans (Nat.div_le_self _ _) hx.2⟩
    · exact ⟨Nat.div_le_div hx.1 hy.2 (by omega), Nat.div_le_div hx.2 hy.1 (by omega)⟩
  by_cases c : op = 64
  · subst c
    refine cutN_in ⟨?_, ?_⟩ hl
    · show max s.lo t.lo ≤ x ||| y
      have a : x ≤ x ||| y := Nat.left_le_or
      have b : y ≤ x ||| y := Nat.right_le_or
      omega
    · exact ors_le (by omega) (by omega)
  by_cases c : op = 80
  · subst c
    refine cutN_in ⟨Nat.zero_le _, ?_⟩ hl
    show x &&& y ≤ min s.hi t.hi
    have a : x &&& y ≤ x := Nat.and_le_left
    have b : x &&& y ≤ y := Nat.and_le_right
    omega
  by_cases c : op = 96
  · subst c
    show Sp.In (x * 2 ^ (y % n) % 2 ^ n) (cutN n (if t.lo = t.hi ∧ s.hi * 2 ^ (t.lo % n) < 18446744073709551616 then ⟨s.lo * 2 ^ (t.lo % n), s.hi * 2 ^ (t.lo % n)⟩ else allS))
    split
    · rename_i a
      have e : y = t.lo := by omega
      subst e
      exact cutN_mod ⟨Nat.mul_le_mul_right _ hx.1, Nat.mul_le_mul_right _ hx.2⟩
    · exact cutN_all hl hn6
  have dn : Sp.In (x / 2 ^ (y % n)) (downS n s t) := by
    unfold downS
    split
    · exact ⟨Nat.zero_le _, Nat.le_trans (Nat.div_le_self _ _) hx.2⟩
    · rw [Nat.mod_eq_of_lt (a := y) (by omega)]
      exact ⟨Nat.div_le_div hx.1 (pow_mono hy.2) (by have := Nat.two_pow_pos y; omega), Nat.div_le_div hx.2 (pow_mono hy.1) (by have := Nat.two_pow_pos t.lo; omega)⟩
  by_cases c : op = 112
  · subst c
    exact cutN_in dn hl
  by_cases c : op = 144
  · subst c
    refine cutN_in ?_ hl
    show Sp.In (x % y) (remS s t)
    have := Nat.mod_le x y
    unfold remS
    split
    · rw [Nat.mod_eq_of_lt (by omega)]
      exact hx
    · split
      · exact ⟨Nat.zero_le _, by show x % y ≤ s.hi; omega⟩
      · have := Nat.mod_lt x (y := y) (by omega)
        exact ⟨Nat.zero_le _, by show x % y ≤ min s.hi (t.hi - 1); omega⟩
  by_cases c : op = 160
  · subst c
    exact cutN_in ⟨Nat.zero_le _, xors_le (by omega) (by omega)⟩ hl
  by_cases c : op = 176
  · subst c
    exact cutN_in hy hl
  by_cases c : op = 192
  · subst c
    show Sp.In (arT n x (y % n)) (cutN n (if s.hi < 2 ^ (n - 1) then downS n s t else allS))
    split
    · rw [arT_pos x2 (by omega)]
      refine cutN_in dn ?_
      exact Nat.lt_of_le_of_lt (Nat.div_le_self _ _) x2
    · exact cutN_all hl hn6
  · have e : madeS n op s t = allS := by
      unfold madeS
      simp only [*, if_false]
    rw [e]
    exact cutN_all hl hn6
end

end Go.Proofs.Ytboiakahhkihiaa
