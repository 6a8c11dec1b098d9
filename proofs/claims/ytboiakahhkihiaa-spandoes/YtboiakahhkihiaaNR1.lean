/-
  The reference of layer 8: small functions.
-/
import Derived.Test.YtboiakahhkihiaaN7
import Derived.Test.YtboiakahhkihiaaAR4
import Derived.Deep.QuietTactic
import Derived.BigQuiet
namespace Go.Proofs.Ytboiakahhkihiaa
open Go.RowKit
set_option linter.all false

section
variable (s t : Sp) (w : World)
theorem rall_c : Calls Try.prog 49 #[] w fun x w' => x = .returned (.agg #[.int .u64 0, .int .u64 18446744073709551615]) ∧ w' = w.alloc (.cells #[.int .u64 0, .int .u64 18446744073709551615] 30) := by
  go_enter Try.func49, Try.ntmps49
  go_wp2_with fail
  go_returns
  exact ⟨rfl, rfl⟩
theorem rlow8_c : Calls Try.prog 24 #[.agg #[.int .u64 (s.lo : Int), .int .u64 (s.hi : Int)]] w fun x w' => x = .returned (.agg #[.int .u64 ((lowS s).lo : Int), .int .u64 ((lowS s).hi : Int)]) ∧ Calm w w' := by
  go_enter Try.func24, Try.ntmps24
  go_wp2_with fail
  · go_returns
    rw [show lowS s = ⟨0, 4294967295⟩ from if_pos (by omega)]
    exact ⟨rfl, (by repeat' first | exact Keep.refl _ _ | exact Hid.out (by assumption) | apply Keep.alloc | apply Keep.drew | apply Keep.drewN | (refine Keep.store ?_ (fun hp => absurd hp (Nat.not_lt.2 (by dsimp only; omega))) _))⟩
  · go_returns
    rw [show lowS s = s from if_neg (by omega)]
    exact ⟨rfl, (by repeat' first | exact Keep.refl _ _ | exact Hid.out (by assumption) | apply Keep.alloc | apply Keep.drew | apply Keep.drewN | (refine Keep.store ?_ (fun hp => absurd hp (Nat.not_lt.2 (by dsimp only; omega))) _))⟩
set_option maxHeartbeats 1600000 in
theorem rmeet_c : Calls Try.prog 19 #[.agg #[.int .u64 (s.lo : Int), .int .u64 (s.hi : Int)], .agg #[.int .u64 (t.lo : Int), .int .u64 (t.hi : Int)]] w fun x w' => x = .returned (.tuple #[.agg #[.int .u64 (((meetS s t).1).lo : Int), .int .u64 (((meetS s t).1).hi : Int)], .bool (meetS s t).2]) ∧ Calm w w' := by
  obtain ⟨l, el⟩ : ∃ l, l = max s.lo t.lo := ⟨_, rfl⟩
  obtain ⟨h, eh⟩ : ∃ h, h = min s.hi t.hi := ⟨_, rfl⟩
  have hl : max (s.lo : Int) (t.lo : Int) = (l : Int) := by omega
  have hh : min (s.hi : Int) (t.hi : Int) = (h : Int) := by omega
  by_cases hr : l ≤ h
  · have e := meet_yes (s := s) (t := t) (by omega)
    rw [← el, ← eh] at e
    have hn : ¬ h < l := by omega
    rw [e]
    clear e el eh hr
    go_enter Try.func19, Try.ntmps19
    go_wp2_with fail
    go_returns
    exact ⟨rfl, (by repeat' first | exact Keep.refl _ _ | exact Hid.out (by assumption) | apply Keep.alloc | apply Keep.drew | apply Keep.drewN | (refine Keep.store ?_ (fun hp => absurd hp (Nat.not_lt.2 (by dsimp only; omega))) _))⟩
  · have e := meet_no (s := s) (t := t) (by omega)
    have hn : h < l := by omega
    rw [e]
    clear e el eh hr
    go_enter Try.func19, Try.ntmps19
    go_wp2_with fail
    go_returns
    exact ⟨rfl, (by repeat' first | exact Keep.refl _ _ | exact Hid.out (by assumption) | apply Keep.alloc | apply Keep.drew | apply Keep.drewN | (refine Keep.store ?_ (fun hp => absurd hp (Nat.not_lt.2 (by dsimp only; omega))) _))⟩
theorem rsum_yes {a b : Nat} (h : a + b < 18446744073709551616) : Calls Try.prog 50 #[.int .u64 (a : Int), .int .u64 (b : Int)] w fun x w' => x = .returned (.tuple #[.int .u64 ((a + b : Nat) : Int), .bool true]) ∧ w' = w := by
  obtain ⟨c, ec⟩ : ∃ c, c = a + b := ⟨_, rfl⟩
  obtain ⟨m, em⟩ : ∃ m, m = 18446744073709551615 - b := ⟨_, rfl⟩
  have wc : IntKind.u64.wrap ((a : Int) + (b : Int)) = (c : Int) := by rw [IntKind.wrap_u64]; omega
  have wm : IntKind.u64.wrap (18446744073709551615 - (b : Int)) = (m : Int) := by rw [IntKind.wrap_u64]; omega
  have hm : a ≤ m := by omega
  rw [← ec]
  clear h ec em
  go_enter Try.func50, Try.ntmps50
  go_wp2_with fail
  go_returns
  exact ⟨by simp [hm], rfl⟩
theorem rsum_no {a b : Nat} (ha : a < 18446744073709551616) (hb : b < 18446744073709551616) (h : ¬ a + b < 18446744073709551616) : ∃ c : Nat, ∀ w, Calls Try.prog 50 #[.int .u64 (a : Int), .int .u64 (b : Int)] w fun x w' => x = .returned (.tuple #[.int .u64 (c : Int), .bool false]) ∧ w' = w := by
  obtain ⟨c, ec⟩ : ∃ c, c = (a + b) % 18446744073709551616 := ⟨_, rfl⟩
  refine ⟨c, fun w => ?_⟩
  obtain ⟨m, em⟩ : ∃ m, m = 18446744073709551615 - b := ⟨_, rfl⟩
  have wc : IntKind.u64.wrap ((a : Int) + (b : Int)) = (c : Int) := by rw [IntKind.wrap_u64]; omega
  have wm : IntKind.u64.wrap (18446744073709551615 - (b : Int)) = (m : Int) := by rw [IntKind.wrap_u64]; omega
  have hm : ¬ a ≤ m := by omega
  clear h ec em ha hb
  go_enter Try.func50, Try.ntmps50
  go_wp2_with fail
  go_returns
  exact ⟨by simp [hm], rfl⟩
theorem rsum_any {a b : Nat} (ha : a < 18446744073709551616) (hb : b < 18446744073709551616) : ∃ (c : Nat) (f : Bool), ∀ w, Calls Try.prog 50 #[.int .u64 (a : Int), .int .u64 (b : Int)] w fun x w' => x = .returned (.tuple #[.int .u64 (c : Int), .bool f]) ∧ w' = w := by
  by_cases h : a + b < 18446744073709551616
  · exact ⟨_, _, fun w => rsum_yes w h⟩
  · obtain ⟨c, h⟩ := rsum_no ha hb h
    exact ⟨c, _, h⟩
theorem rproduct_yes {a b : Nat} (ha : a < 18446744073709551616) (hb : b < 18446744073709551616) (h : a * b < 18446744073709551616) (w : World) : Calls Try.prog 51 #[.int .u64 (a : Int), .int .u64 (b : Int)] w fun x w' => x = .returned (.tuple #[.int .u64 ((a * b : Nat) : Int), .bool true]) ∧ Calm w w' := by
  obtain ⟨c, ec⟩ : ∃ c, c = a * b := ⟨_, rfl⟩
  have wc : IntKind.u64.wrap ((a : Int) * (b : Int)) = (c : Int) := by rw [← Int.natCast_mul, ← ec]; exact wrapU64 (by omega)
  rw [← ec]
  by_cases h0 : b = 0
  · subst h0
    have c0 : (0 : Int) = (c : Int) := by rw [ec, Nat.mul_zero]; rfl
    have C0 := Lib.hid c0
    clear ha hb h ec c0
    go_enter Try.func51, Try.ntmps51
    go_upto_region 1 with fail
    go_quiet (fail)
    go_wp2_with fail
    go_returns
    exact ⟨ret2_eq C0.out rfl, (Keep.refl _ w).drewN _⟩
  · have hq : a ≤ 18446744073709551615 / b := (Nat.le_div_iff_mul_le (by omega)).2 (by omega)
    have hi : (a : Int) ≤ 18446744073709551615 / (b : Int) := by
      rw [show (18446744073709551615 : Int) / (b : Int) = ((18446744073709551615 / b : Nat) : Int) from (Int.natCast_ediv _ _).symm]
      omega
    have HI := Lib.hid hi
    have b1 := beq_no h0
    clear ha hb h ec hq hi
    go_enter Try.func51, Try.ntmps51
    go_upto_region 1 with fail
    go_quiet (fail)
    go_wp2_with fail
    go_returns
    exact ⟨ret2_eq rfl (decide_eq_true HI.out), (Keep.refl _ w).drewN _⟩
theorem rproduct_no {a b : Nat} (h : ¬ a * b < 18446744073709551616) : ∃ c : Nat, ∀ w, Calls Try.prog 51 #[.int .u64 (a : Int), .int .u64 (b : Int)] w fun x w' => x = .returned (.tuple #[.int .u64 (c : Int), .bool false]) ∧ Calm w w' := by
  obtain ⟨c, ec⟩ : ∃ c, c = a * b % 18446744073709551616 := ⟨_, rfl⟩
  refine ⟨c, fun w => ?_⟩
  have wc : IntKind.u64.wrap ((a : Int) * (b : Int)) = (c : Int) := by rw [← Int.natCast_mul, IntKind.wrap_u64, ec]; omega
  have h0 : ¬ b = 0 := fun e => by subst e; omega
  have hq : ¬ a ≤ 18446744073709551615 / b := fun e => h (by have := (Nat.le_div_iff_mul_le (by omega)).1 e; omega)
  have hi : ¬ (a : Int) ≤ 18446744073709551615 / (b : Int) := by
    rw [show (18446744073709551615 : Int) / (b : Int) = ((18446744073709551615 / b : Nat) : Int) from (Int.natCast_ediv _ _).symm]
    omega
  have HI := Lib.hid hi
  have b1 := beq_no h0
  clear h ec hq hi
  go_enter Try.func51, Try.ntmps51
  go_upto_region 1 with fail
  go_quiet (fail)
  go_wp2_with fail
  go_returns
  exact ⟨ret2_eq rfl (decide_eq_false (by have := HI.out; omega)), (Keep.refl _ w).drewN _⟩
set_option maxHeartbeats 800000 in
theorem rones_c {n : Nat} (hn : n < 18446744073709551616) : Calls Try.prog 52 #[.int .u64 (n : Int)] w fun x w' => x = .returned (.int .u64 ((onesN n : Nat) : Int)) ∧ Calm w w' := by
  have hb := bitLen_le hn
  have sp := bitLen_spec n
  obtain ⟨L, eL⟩ : ∃ L, L = bitLen n := ⟨_, rfl⟩
  have eo : onesN n = 2 ^ L - 1 := by rw [eL]; rfl
  rw [← eL] at hb sp
  rw [eo]
  have H : Hid (L ≤ 64 ∧ n < 2 ^ L ∧ (n ≠ 0 → 2 ^ (L - 1) ≤ n) ∧ (n = 0 → L = 0)) := Lib.hid ⟨hb, sp.1, sp.2, fun e => by rw [eL, e]; rfl⟩
  clear hn hb sp eL eo
  go_enter Try.func52, Try.ntmps52
  go_wp2_with fail
  go_loopw [3] (fun k wr => ∃ (i v : Nat), i ≤ L ∧ v = 2 ^ i - 1 ∧ k = .int .u64 (v : Int) ∧ Calm w wr) (fun k _ => n - (intOf k).toNat)
  case atStart => exact ⟨0, 0, Nat.zero_le _, rfl, rfl, Keep.refl _ w⟩
  case round =>
    obtain ⟨i, v, hi, hv, rfl, hcal⟩ := hrel
    have HC := Lib.hid hcal
    have HV := Lib.hid (And.intro hi hv)
    clear hcal hi hv
    by_cases hlt : v < n
    · obtain ⟨m, hm⟩ : ∃ m, m = 2 ^ (i + 1) - 1 := ⟨_, rfl⟩
      have up : m ≤ 18446744073709551615 ∧ m = 2 * v + 1 ∧ i + 1 ≤ L := by
        obtain ⟨h1, h2⟩ := HV.out
        obtain ⟨h3, h4, h5, h6⟩ := H.out
        have p := Nat.two_pow_pos i
        have hiL : i + 1 ≤ L := by
          rcases Nat.lt_or_ge i L with c | c
          · exact c
          · have : i = L := by omega
            subst this
            omega
        have e : 2 ^ (i + 1) = 2 * 2 ^ i := by rw [Nat.pow_succ]; omega
        have e64 : 2 ^ (i + 1) ≤ 2 ^ 64 := Nat.pow_le_pow_right (by decide) (by omega)
        have : (2 : Nat) ^ 64 = 18446744073709551616 := by decide
        omega
      have wa : IntKind.u64.wrap (IntKind.u64.wrap (2 * (v : Int)) + 1) = (m : Int) := by
        obtain ⟨u1, u2, u3⟩ := up
        rw [IntKind.wrap_u64, IntKind.wrap_u64]
        omega
      have U := Lib.hid up
      have HM := Lib.hid hm
      clear up hm
      go_wp2_with fail
      go_roundw
      case rel => exact ⟨i + 1, m, U.out.2.2, HM.out, rfl, HC.out⟩
      case measure => have := U.out; simp [intOf]; omega
    · have fin : v = 2 ^ L - 1 := by
        obtain ⟨h1, h2⟩ := HV.out
        obtain ⟨h3, h4, h5, h6⟩ := H.out
        have p := Nat.two_pow_pos i
        have hiL : i = L := by
          rcases Nat.lt_or_ge i L with c | c
          · exfalso
            by_cases h0 : n = 0
            · have := h6 h0
              omega
            · have := h5 h0
              have : 2 ^ i ≤ 2 ^ (L - 1) := Nat.pow_le_pow_right (by decide) (by omega)
              omega
          · omega
        rw [h2, hiL]
      have HF := Lib.hid fin
      clear fin
      go_wp2_with fail
      go_ret
      exact ⟨ret_eq (congrArg _ HF.out), HC.out⟩
end
section
variable {s t : Sp} (w : World)
theorem rdown64_8 (hs : s.Ok) (ht : t.Ok) : Calls Try.prog 53 #[.agg #[.int .u64 (s.lo : Int), .int .u64 (s.hi : Int)], .agg #[.int .u64 (t.lo : Int), .int .u64 (t.hi : Int)], .int .u64 64] w fun x w' => x = .returned (.agg #[.int .u64 ((downS 64 s t).lo : Int), .int .u64 ((downS 64 s t).hi : Int)]) ∧ Calm w w' := by
  by_cases h : 64 ≤ t.hi
  · have e : downS 64 s t = ⟨0, s.hi⟩ := if_pos h
    rw [e]
    clear hs ht e
    go_enter Try.func53, Try.ntmps53
    go_wp2_with fail
    go_returns
    exact ⟨rfl, (by repeat' first | exact Keep.refl _ _ | exact Hid.out (by assumption) | apply Keep.alloc | apply Keep.drew | apply Keep.drewN | (refine Keep.store ?_ (fun hp => absurd hp (Nat.not_lt.2 (by dsimp only; omega))) _))⟩
  · have e : downS 64 s t = ⟨s.lo / 2 ^ t.hi, s.hi / 2 ^ t.lo⟩ := if_neg h
    have r2 := ht.r
    have h1 : ¬ 64 ≤ t.hi := h
    rw [e]
    clear hs ht e h
    go_enter Try.func53, Try.ntmps53
    go_wp2_with fail
    go_returns
    exact ⟨rfl, (by repeat' first | exact Keep.refl _ _ | exact Hid.out (by assumption) | apply Keep.alloc | apply Keep.drew | apply Keep.drewN | (refine Keep.store ?_ (fun hp => absurd hp (Nat.not_lt.2 (by dsimp only; omega))) _))⟩
end
section
variable {s t : Sp} (w : World)
theorem rdown32_8 (hs : s.Ok) (ht : t.Ok) : Calls Try.prog 53 #[.agg #[.int .u64 (s.lo : Int), .int .u64 (s.hi : Int)], .agg #[.int .u64 (t.lo : Int), .int .u64 (t.hi : Int)], .int .u64 32] w fun x w' => x = .returned (.agg #[.int .u64 ((downS 32 s t).lo : Int), .int .u64 ((downS 32 s t).hi : Int)]) ∧ Calm w w' := by
  by_cases h : 32 ≤ t.hi
  · have e : downS 32 s t = ⟨0, s.hi⟩ := if_pos h
    rw [e]
    clear hs ht e
    go_enter Try.func53, Try.ntmps53
    go_wp2_with fail
    go_returns
    exact ⟨rfl, (by repeat' first | exact Keep.refl _ _ | exact Hid.out (by assumption) | apply Keep.alloc | apply Keep.drew | apply Keep.drewN | (refine Keep.store ?_ (fun hp => absurd hp (Nat.not_lt.2 (by dsimp only; omega))) _))⟩
  · have e : downS 32 s t = ⟨s.lo / 2 ^ t.hi, s.hi / 2 ^ t.lo⟩ := if_neg h
    have r2 := ht.r
    have h1 : ¬ 32 ≤ t.hi := h
    rw [e]
    clear hs ht e h
    go_enter Try.func53, Try.ntmps53
    go_wp2_with fail
    go_returns
    exact ⟨rfl, (by repeat' first | exact Keep.refl _ _ | exact Hid.out (by assumption) | apply Keep.alloc | apply Keep.drew | apply Keep.drewN | (refine Keep.store ?_ (fun hp => absurd hp (Nat.not_lt.2 (by dsimp only; omega))) _))⟩
end

end Go.Proofs.Ytboiakahhkihiaa
