/-
  Tables: which maps there may be.
-/
import Derived.Test.YtnlojohjhfpbgaaTP
import Derived.Test.YtnlojohjhfpbgaaLRd
namespace Go.Proofs.Ytnlojohjhfpbgaa
open Go.RowKit
set_option linter.all false
attribute [local go_sem] Oper.semAt_some

theorem within_c (n m : Int) (w : World) : Calls Try.prog 73 #[.int .i64 n, .int .i64 m] w fun e w' => e = .returned (.bool (wi n m)) ∧ w = w' := by
  go_enter Try.func73, Try.ntmps73
  go_wp2
  all_goals
    go_ret
    refine ⟨congrArg (fun b => Ending.returned (Value.bool b)) ?_, rfl⟩
    rw [Bool.eq_iff_iff]
    simp [wi]
    try omega
theorem known_c (n : Int) (w : World) : Calls Try.prog 60 #[.int .i64 n] w fun e w' => e = .returned (.bool (decide (0 ≤ n ∧ n ≤ 2))) ∧ w = w' := by
  go_enter Try.func60, Try.ntmps60
  go_wp2
  all_goals
    go_ret
    refine ⟨congrArg (fun b => Ending.returned (Value.bool b)) ?_, rfl⟩
    rw [Bool.eq_iff_iff]
    simp []
    try omega
theorem inNames_c (x : UInt8) (w : World) : Calls Try.prog 79 #[.int .u8 (x.toNat : Int)] w fun e w' => e = .returned (.bool (inNm x)) ∧ w = w' := by
  go_enter Try.func79, Try.ntmps79
  go_wp2
  all_goals
    go_ret
    refine ⟨congrArg (fun b => Ending.returned (Value.bool b)) ?_, rfl⟩
    rw [Bool.eq_iff_iff]
    simp [inNm]
    try omega
theorem rightKind_c (n m : Int) (w : World) : Calls Try.prog 72 #[.int .i64 n, .int .i64 m] w fun e w' => e = .returned (.bool (kdOk n m)) ∧ w = w' := by
  go_enter Try.func72, Try.ntmps72
  go_wp2
  all_goals
    go_ret
    refine ⟨congrArg (fun b => Ending.returned (Value.bool b)) ?_, rfl⟩
    rw [Bool.eq_iff_iff]
    simp [kdOk]
    try omega

theorem nm_step {s : List UInt8} {i : Nat} {x : UInt8} (h : s[i]? = some x) : nmIn (s.take (i + 1)) = (nmIn (s.take i) && inNm x) := by
  rw [List.take_add_one, h]
  simp [nmIn]
theorem nm_no {s : List UInt8} {i : Nat} {x : UInt8} (h : s[i]? = some x) (hx : inNm x = false) : nmOk s = false := by
  have hm := List.mem_of_getElem? h
  have : nmIn s = false := by
    unfold nmIn
    rw [List.all_eq_false]
    exact ⟨x, hm, by simp [hx]⟩
  simp [nmOk, this]
theorem nm_all {s : List UInt8} (h : nmIn (s.take s.length) = true) : nmOk s = decide (1 ≤ s.length ∧ s.length ≤ 16) := by
  rw [List.take_length] at h
  simp [nmOk, h]
theorem wi_nat (n : Nat) : wi (n : Int) 16 = decide (1 ≤ n ∧ n ≤ 16) := by
  unfold wi
  rw [decide_eq_decide]
  omega
theorem str_index (s : List UInt8) (i : Nat) (x : UInt8) (h : s[i]? = some x) : (str s).data[i]? = some x := by simpa [str] using h

set_option maxHeartbeats 1000000 in
theorem rightName_c (s : List UInt8) (hs : s.length ≤ maxLen) (w : World) : Calls Try.prog 71 #[.string (str s)] w fun e w' => e = .returned (.bool (nmOk s)) ∧ w = w' := by
  unfold maxLen at hs
  have hz := str_size s
  go_enter Try.func71, Try.ntmps71
  go_wp2
  go_loopw [6] (fun i wr => ∃ j : Nat, j ≤ s.length ∧ i = .int .i64 (j : Int) ∧ nmIn (s.take j) = true ∧ w = wr) (fun i _ => s.length - (intOf i).toNat)
  case atStart => exact ⟨0, Nat.zero_le _, rfl, rfl, rfl⟩
  case round =>
    obtain ⟨j, hj, rfl, hn, rfl⟩ := hrel
    by_cases hl : j < s.length
    · obtain ⟨x, hx⟩ : ∃ x, s[j]? = some x := ⟨_, List.getElem?_eq_getElem hl⟩
      go_wp2_with fail
      refine (inNames_c (s[j]'hl) _).mono ?_
      rw [show s[j]'hl = x from (List.getElem?_eq_some_iff.1 hx).2]
      rintro e w1 ⟨rfl, rfl⟩
      by_cases hb : inNm x = true
      · rw [hb]
        go_wp2
        go_roundw
        case rel => exact ⟨j + 1, by omega, by go_num, by rw [nm_step hx, hn, hb]; rfl, trivial⟩
        case measure => simp [intOf]; omega
      · have hb' : inNm x = false := by simpa using hb
        rw [hb']
        go_wp2
        go_ret
        exact ⟨by rw [nm_no hx hb']; rfl, rfl⟩
    · obtain rfl : j = s.length := by omega
      have hh := within_c (s.length : Int) 16 w
      go_wp2_with fail
      refine hh.mono ?_
      rintro e w1 ⟨rfl, rfl⟩
      go_wp2
      go_ret
      refine ⟨?_, rfl⟩
      rw [nm_all hn, wi_nat]
      rfl
set_option maxHeartbeats 1000000 in
theorem tRight_c (m : MP) (hs : m.name.length ≤ maxLen) (w : World) : Calls Try.prog 54 #[m.agg] w fun e w' => e = .returned (.bool m.right) ∧ Calm w w' := by
  obtain ⟨nm, kd, ky, vl, mx⟩ := m
  show Calls Try.prog 54 #[.agg #[.string (str nm), .int .i64 kd, .int .i64 ky, .int .i64 vl, .int .i64 mx]] w _
  have h1 := fun W => rightName_c nm hs W
  have H1 := Lib.hid h1
  clear h1
  go_enter Try.func54, Try.ntmps54
  go_wp2_with fail
  refine (H1.out _).mono ?_
  rintro e w1 ⟨rfl, rfl⟩
  have h2 := fun W => rightKind_c kd ky W
  have h3 := fun W => within_c ky 64 W
  have h4 := fun W => within_c vl 256 W
  have h5 := fun W => within_c mx 1024 W
  have H2 := Lib.hid h2
  have H3 := Lib.hid h3
  have H4 := Lib.hid h4
  have H5 := Lib.hid h5
  clear h2 h3 h4 h5
  by_cases g0 : nmOk nm = true
  · rw [g0]
    go_wp2_with fail
    refine (H2.out _).mono ?_
    rintro e w1 ⟨rfl, rfl⟩
    by_cases g1 : kdOk kd ky = true
    · rw [g1]
      go_wp2_with fail
      refine (H3.out _).mono ?_
      rintro e w1 ⟨rfl, rfl⟩
      by_cases g2 : wi ky 64 = true
      · rw [g2]
        go_wp2_with fail
        refine (H4.out _).mono ?_
        rintro e w1 ⟨rfl, rfl⟩
        by_cases g3 : wi vl 256 = true
        · rw [g3]
          go_wp2_with fail
          refine (H5.out _).mono ?_
          rintro e w1 ⟨rfl, rfl⟩
          go_wp2
          go_ret
          exact ⟨by simp [MP.right, g0, g1, g2, g3], (Keep.refl _ w).alloc _⟩
        · have g3' : wi vl 256 = false := by simpa using g3
          rw [g3']
          go_wp2
          go_ret
          exact ⟨by simp [MP.right, g0, g1, g2, g3'], (Keep.refl _ w).alloc _⟩
      · have g2' : wi ky 64 = false := by simpa using g2
        rw [g2']
        go_wp2
        go_ret
        exact ⟨by simp [MP.right, g0, g1, g2'], (Keep.refl _ w).alloc _⟩
    · have g1' : kdOk kd ky = false := by simpa using g1
      rw [g1']
      go_wp2
      go_ret
      exact ⟨by simp [MP.right, g0, g1'], (Keep.refl _ w).alloc _⟩
  · have g0' : nmOk nm = false := by simpa using g0
    rw [g0']
    go_wp2
    go_ret
    exact ⟨by simp [MP.right, g0'], (Keep.refl _ w).alloc _⟩
end Go.Proofs.Ytnlojohjhfpbgaa
