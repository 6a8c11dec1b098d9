/-
  Package span: what made is made of.
-/
import Derived.Test.YtboiakahhkihiaaN2
namespace Go.Proofs.Ytboiakahhkihiaa
open Go.RowKit
set_option linter.all false

/-- A span that is right, of numbers of 64 bits. -/
structure Sp.Ok (s : Sp) : Prop where
  r : s.lo ≤ s.hi
  h : s.hi < 18446744073709551616
theorem Sp.Ok.l {s : Sp} (h : s.Ok) : s.lo < 18446744073709551616 := Nat.lt_of_le_of_lt h.r h.h

def sumS (s t : Sp) : Sp := if s.hi + t.hi < 18446744073709551616 then ⟨s.lo + t.lo, s.hi + t.hi⟩ else allS
def diffS (s t : Sp) : Sp := if t.hi ≤ s.lo then ⟨s.lo - t.hi, s.hi - t.lo⟩ else allS
def prodS (s t : Sp) : Sp := if s.hi * t.hi < 18446744073709551616 then ⟨s.lo * t.lo, s.hi * t.hi⟩ else allS
def quoS (s t : Sp) : Sp := if t.lo = 0 then ⟨0, s.hi⟩ else ⟨s.lo / t.hi, s.hi / t.lo⟩
def remS (s t : Sp) : Sp := if s.hi < t.lo then s else if t.lo = 0 then ⟨0, s.hi⟩ else ⟨0, min s.hi (t.hi - 1)⟩
def onesN (n : Nat) : Nat := 2 ^ bitLen n - 1
def upS (n : Nat) (s t : Sp) : Sp := if t.lo = t.hi ∧ s.hi * 2 ^ (t.lo % n) < 18446744073709551616 then ⟨s.lo * 2 ^ (t.lo % n), s.hi * 2 ^ (t.lo % n)⟩ else allS
def downS (n : Nat) (s t : Sp) : Sp := if n ≤ t.hi then ⟨0, s.hi⟩ else ⟨s.lo / 2 ^ t.hi, s.hi / 2 ^ t.lo⟩

section
variable {s t : Sp} (w : World)
set_option maxHeartbeats 1000000 in
theorem psum_c (hs : s.Ok) (ht : t.Ok) : Calls Try.prog 40 #[.agg #[.int .u64 (s.lo : Int), .int .u64 (s.hi : Int)], .agg #[.int .u64 (t.lo : Int), .int .u64 (t.hi : Int)]] w fun x w' => x = .returned (.agg #[.int .u64 ((sumS s t).lo : Int), .int .u64 ((sumS s t).hi : Int)]) ∧ Calm w w' := by
  by_cases h : s.hi + t.hi < 18446744073709551616
  · have e : sumS s t = ⟨s.lo + t.lo, s.hi + t.hi⟩ := if_pos h
    obtain ⟨H, eH⟩ : ∃ H, H = s.hi + t.hi := ⟨_, rfl⟩
    obtain ⟨L, eL⟩ : ∃ L, L = s.lo + t.lo := ⟨_, rfl⟩
    rw [← eH, ← eL] at e
    have r1 := hs.r
    have r2 := ht.r
    have wl : IntKind.u64.wrap ((s.lo : Int) + (t.lo : Int)) = (L : Int) := by rw [IntKind.wrap_u64]; omega
    have K : Hid (∀ w, (callFunc 62 #[.int .u64 (s.hi : Int), .int .u64 (t.hi : Int), .int .u64 0]).run Try.prog w = .ok (.value (.tuple #[.int .u64 (H : Int), .int .u64 0])) w) := Lib.hid fun w => by
      rw [add64_run, show ((s.hi : Int) + (t.hi : Int)) % 18446744073709551616 = (H : Int) by omega, show ((s.hi : Int) + (t.hi : Int)) / 18446744073709551616 = 0 by omega]
    rw [e]
    clear hs ht h e eH eL r1 r2
    go_enter Try.func40, Try.ntmps40
    go_wp2_with (simp only [K.out])
    go_returns
    exact ⟨rfl, (by repeat' first | exact Keep.refl _ _ | exact Hid.out (by assumption) | apply Keep.alloc | apply Keep.drew | apply Keep.drewN | (refine Keep.store ?_ (fun hp => absurd hp (Nat.not_lt.2 (by dsimp only; omega))) _))⟩
  · have e : sumS s t = allS := if_neg h
    obtain ⟨L, eL⟩ : ∃ L, L = (s.hi + t.hi) % 18446744073709551616 := ⟨_, rfl⟩
    have r1 := hs.h
    have r2 := ht.h
    have K : Hid (∀ w, (callFunc 62 #[.int .u64 (s.hi : Int), .int .u64 (t.hi : Int), .int .u64 0]).run Try.prog w = .ok (.value (.tuple #[.int .u64 (L : Int), .int .u64 1])) w) := Lib.hid fun w => by
      rw [add64_run, show ((s.hi : Int) + (t.hi : Int)) % 18446744073709551616 = (L : Int) by omega, show ((s.hi : Int) + (t.hi : Int)) / 18446744073709551616 = 1 by omega]
    rw [e]
    clear hs ht h e eL r1 r2
    go_enter Try.func40, Try.ntmps40
    go_wp2_with (simp only [K.out])
    refine (pall_c _).mono ?_
    rintro x w1 ⟨rfl, rfl⟩
    go_wp2_with fail
    go_returns
    exact ⟨rfl, (by repeat' first | exact Keep.refl _ _ | exact Hid.out (by assumption) | apply Keep.alloc | apply Keep.drew | apply Keep.drewN | (refine Keep.store ?_ (fun hp => absurd hp (Nat.not_lt.2 (by dsimp only; omega))) _))⟩
theorem pdifference_c (hs : s.Ok) (ht : t.Ok) : Calls Try.prog 41 #[.agg #[.int .u64 (s.lo : Int), .int .u64 (s.hi : Int)], .agg #[.int .u64 (t.lo : Int), .int .u64 (t.hi : Int)]] w fun x w' => x = .returned (.agg #[.int .u64 ((diffS s t).lo : Int), .int .u64 ((diffS s t).hi : Int)]) ∧ Calm w w' := by
  by_cases h : t.hi ≤ s.lo
  · have e : diffS s t = ⟨s.lo - t.hi, s.hi - t.lo⟩ := if_pos h
    obtain ⟨H, eH⟩ : ∃ H, H = s.hi - t.lo := ⟨_, rfl⟩
    obtain ⟨L, eL⟩ : ∃ L, L = s.lo - t.hi := ⟨_, rfl⟩
    rw [← eH, ← eL] at e
    have r1 := hs.r
    have r2 := ht.r
    have r3 := hs.h
    have wl : IntKind.u64.wrap ((s.lo : Int) - (t.hi : Int)) = (L : Int) := by rw [IntKind.wrap_u64]; omega
    have wh : IntKind.u64.wrap ((s.hi : Int) - (t.lo : Int)) = (H : Int) := by rw [IntKind.wrap_u64]; omega
    have h' : ¬ s.lo < t.hi := by omega
    rw [e]
    clear hs ht h e eH eL r1 r2 r3
    go_enter Try.func41, Try.ntmps41
    go_wp2_with fail
    go_returns
    exact ⟨rfl, (by repeat' first | exact Keep.refl _ _ | exact Hid.out (by assumption) | apply Keep.alloc | apply Keep.drew | apply Keep.drewN | (refine Keep.store ?_ (fun hp => absurd hp (Nat.not_lt.2 (by dsimp only; omega))) _))⟩
  · have e : diffS s t = allS := if_neg h
    have h' : s.lo < t.hi := by omega
    rw [e]
    clear hs ht h e
    go_enter Try.func41, Try.ntmps41
    go_wp2_with fail
    refine (pall_c _).mono ?_
    rintro x w1 ⟨rfl, rfl⟩
    go_wp2_with fail
    go_returns
    exact ⟨rfl, (by repeat' first | exact Keep.refl _ _ | exact Hid.out (by assumption) | apply Keep.alloc | apply Keep.drew | apply Keep.drewN | (refine Keep.store ?_ (fun hp => absurd hp (Nat.not_lt.2 (by dsimp only; omega))) _))⟩
set_option maxHeartbeats 1000000 in
theorem pproduct_c (hs : s.Ok) (ht : t.Ok) : Calls Try.prog 42 #[.agg #[.int .u64 (s.lo : Int), .int .u64 (s.hi : Int)], .agg #[.int .u64 (t.lo : Int), .int .u64 (t.hi : Int)]] w fun x w' => x = .returned (.agg #[.int .u64 ((prodS s t).lo : Int), .int .u64 ((prodS s t).hi : Int)]) ∧ Calm w w' := by
  have k := fun w => mul64_c hs.h ht.h w
  by_cases h : s.hi * t.hi < 18446744073709551616
  · have e : prodS s t = ⟨s.lo * t.lo, s.hi * t.hi⟩ := if_pos h
    have hl : s.lo * t.lo < 18446744073709551616 := Nat.lt_of_le_of_lt (Nat.mul_le_mul hs.r ht.r) h
    rw [Nat.div_eq_of_lt h, Nat.mod_eq_of_lt h] at k
    obtain ⟨H, eH⟩ : ∃ H, H = s.hi * t.hi := ⟨_, rfl⟩
    obtain ⟨L, eL⟩ : ∃ L, L = s.lo * t.lo := ⟨_, rfl⟩
    rw [← eH] at k
    rw [← eH, ← eL] at e
    have wl : IntKind.u64.wrap ((s.lo : Int) * (t.lo : Int)) = (L : Int) := by rw [IntKind.wrap_u64, ← Int.natCast_mul, ← eL]; omega
    have K : Hid (∀ w, Calls Try.prog 63 #[.int .u64 (s.hi : Int), .int .u64 (t.hi : Int)] w fun e w' => e = .returned (.tuple #[.int .u64 0, .int .u64 (H : Int)]) ∧ w' = w) := Lib.hid k
    rw [e]
    clear hs ht h e eH eL hl k
    go_enter Try.func42, Try.ntmps42
    go_wp2_with fail
    refine (K.out _).mono ?_
    rintro x w1 ⟨rfl, rfl⟩
    go_wp2_with fail
    go_returns
    exact ⟨rfl, (by repeat' first | exact Keep.refl _ _ | exact Hid.out (by assumption) | apply Keep.alloc | apply Keep.drew | apply Keep.drewN | (refine Keep.store ?_ (fun hp => absurd hp (Nat.not_lt.2 (by dsimp only; omega))) _))⟩
  · have e : prodS s t = allS := if_neg h
    obtain ⟨L, eL⟩ : ∃ L, L = s.hi * t.hi % 18446744073709551616 := ⟨_, rfl⟩
    obtain ⟨q, eq⟩ : ∃ q, q = s.hi * t.hi / 18446744073709551616 := ⟨_, rfl⟩
    rw [← eL, ← eq] at k
    have hq : ((q : Int) == 0) = false := by simp; omega
    have hq' : ((q : Int) != 0) = true := by simp; omega
    have K : Hid (∀ w, Calls Try.prog 63 #[.int .u64 (s.hi : Int), .int .u64 (t.hi : Int)] w fun e w' => e = .returned (.tuple #[.int .u64 (q : Int), .int .u64 (L : Int)]) ∧ w' = w) := Lib.hid k
    rw [e]
    clear hs ht h e eL eq k
    go_enter Try.func42, Try.ntmps42
    go_wp2_with fail
    refine (K.out _).mono ?_
    rintro x w1 ⟨rfl, rfl⟩
    go_wp2_with fail
    refine (pall_c _).mono ?_
    rintro x w1 ⟨rfl, rfl⟩
    go_wp2_with fail
    go_returns
    exact ⟨rfl, (by repeat' first | exact Keep.refl _ _ | exact Hid.out (by assumption) | apply Keep.alloc | apply Keep.drew | apply Keep.drewN | (refine Keep.store ?_ (fun hp => absurd hp (Nat.not_lt.2 (by dsimp only; omega))) _))⟩
end

end Go.Proofs.Ytboiakahhkihiaa
