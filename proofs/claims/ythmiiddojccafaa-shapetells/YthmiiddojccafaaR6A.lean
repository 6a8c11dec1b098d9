/-
  The reference of layer 6: Half, Jump, helper.
-/
import Derived.Test.YthmiiddojccafaaHP
namespace Go.Proofs.Ythmiiddojccafaa
open Go.RowKit
set_option linter.all false

/-- Does a second half stand at a place, counted from the first one on? -/
def hfR (l : List In) : Nat → Bool
  | 0 => false
  | k + 1 => !hfR l k && decide (opAt l k = 24)
/-- Of what is right both ways to tell a half are one. -/
theorem hfR_right {l : List In} (h : rightO l = true) : ∀ k, k ≤ l.length → hfR l k = isHalfO l k
  | 0, _ => rfl
  | k + 1, hk => by
    have ih := hfR_right h k (by omega)
    rw [half_at]
    unfold hfR
    rcases hh : hfR l k with _ | _
    · rfl
    · rw [ih] at hh
      obtain ⟨y, hy, h0, _⟩ := half_zero h hh
      rw [opAt_some hy, h0]
      rfl
set_option maxHeartbeats 3200000 in
theorem rhalf_c {w : World} {v : Value} {l : List In} (h : Ins w v l) (k : Nat) (hk : k ≤ l.length) : Calls Try.prog 18 #[v, .int .i64 (k : Int)] w fun y w' => y = .returned (.bool (hfR l k)) ∧ Calm w w' := by
  obtain ⟨A, cap, rfl, hcap, hmax⟩ := h.form
  unfold maxLen at hmax
  have HI := Lib.hid h
  obtain ⟨n, hn⟩ : ∃ n, n = l.length := ⟨_, rfl⟩
  have HN := Lib.hid hn
  rw [← hn] at HI hk ⊢
  have i9 : (n : Int) ≤ 9223372036854775807 := by omega
  have i8 : (k : Int) ≤ (n : Int) := by omega
  have HK := Lib.hid hk
  clear h hn hcap hmax hk
  go_enter Try.func18, Try.ntmps18
  go_wp2_with fail
  go_loopw [5, 6] (fun b i wr => ∃ j : Nat, j ≤ k ∧ i = .int .i64 j ∧ b = .bool (hfR l j) ∧ Calm w wr) (fun _ i _ => k - (intOf i).toNat)
  case atStart => exact ⟨0, by omega, rfl, rfl, Keep.refl _ w⟩
  case round =>
    obtain ⟨j, hj, rfl, rfl, hcal⟩ := hrel
    have HC := Lib.hid hcal
    clear hcal
    by_cases hlt : j < k
    · have i3 : (j : Int) < (k : Int) := by omega
      have i4 : (j : Int) < (n : Int) := by omega
      obtain ⟨ad, x, rfl, hx, hat⟩ := HI.out.at_ HC.out j (by rw [← HN.out]; have := HK.out; omega)
      have e0 := hat.c0
      have HB : Hid (hfR l (j + 1) = (!hfR l j && decide (x.op = 24))) := Lib.hid (by show (!hfR l j && decide (opAt l j = 24)) = _; rw [opAt_some hx])
      generalize hfR l j = B at HB ⊢
      clear hx hat
      cases B
      · have d1 : ((x.op : Int) == 24) = decide (x.op = 24) := by
          by_cases h : x.op = 24
          · rw [h]; rfl
          · rw [decide_eq_false h, beq_eq_false_iff_ne]; omega
        generalize decide (x.op = 24) = D at d1 HB
        go_wp2_with fail
        go_roundw
        case rel => exact ⟨j + 1, by omega, by go_num, by rw [HB.out]; rfl, HC.out⟩
        case measure => simp [intOf]; omega
      · go_wp2_with fail
        go_roundw
        case rel => exact ⟨j + 1, by omega, by go_num, by rw [HB.out]; rfl, HC.out⟩
        case measure => simp [intOf]; omega
    · obtain rfl : j = k := by omega
      go_wp2_with fail
      go_ret
      exact ⟨rfl, HC.out⟩
section
variable {op : Nat} (b c : Nat) (d e : Int) (w : World)
set_option maxHeartbeats 1600000 in
theorem rjump_c (ho : op < 256) : Calls Try.prog 21 #[.agg #[.int .u8 (op : Int), .int .u8 (b : Int), .int .u8 (c : Int), .int .i16 d, .int .i32 e]] w fun x w' => x = .returned (.bool (jumpsO op)) ∧ Calm w w' := by
  obtain ⟨x, hx⟩ : ∃ x : Int, x = ((op % 8 : Nat) : Int) := ⟨_, rfl⟩
  have q1 : (op : Int).tmod 8 = x := by rw [Int.tmod_eq_emod_of_nonneg (by omega)]; omega
  have q2 : (op : Int) % 8 = x := by omega
  by_cases y6 : x = 6
  · have hR : jumpsO op = true := decide_eq_true (by omega)
    rw [hR]
    clear hR hx ho
    subst y6
    go_enter Try.func21, Try.ntmps21
    go_wp2_with fail
    go_ret
    exact ⟨rfl, (Keep.refl _ w).alloc _⟩
  have i6 : (x == 6) = false := by rw [beq_eq_false_iff_ne]; exact y6
  by_cases y5 : x = 5
  · by_cases h133 : op = 133
    · have hR : jumpsO op = false := decide_eq_false (fun h => h.2.1 h133)
      rw [hR]
      have i1 : ((op : Int) != 133) = false := by subst h133; rfl
      clear hR hx h133 ho y6 i6
      subst y5
      go_enter Try.func21, Try.ntmps21
      go_wp2_with fail
      go_ret
      exact ⟨rfl, (Keep.refl _ w).alloc _⟩
    · have i1 : ((op : Int) != 133) = true := by rw [bne_iff_ne]; omega
      by_cases h149 : op = 149
      · have hR : jumpsO op = false := decide_eq_false (fun h => h.2.2 h149)
        rw [hR]
        have i2 : ((op : Int) != 149) = false := by subst h149; rfl
        clear hR hx h133 h149 ho y6 i6
        subst y5
        go_enter Try.func21, Try.ntmps21
        go_wp2_with fail
        go_ret
        exact ⟨rfl, (Keep.refl _ w).alloc _⟩
      · have hR : jumpsO op = true := decide_eq_true (by omega)
        rw [hR]
        have i2 : ((op : Int) != 149) = true := by rw [bne_iff_ne]; omega
        clear hR hx h133 h149 ho y6 i6
        subst y5
        go_enter Try.func21, Try.ntmps21
        go_wp2_with fail
        go_ret
        exact ⟨rfl, (Keep.refl _ w).alloc _⟩
  · have hR : jumpsO op = false := decide_eq_false (by omega)
    rw [hR]
    have i5 : (x == 5) = false := by rw [beq_eq_false_iff_ne]; exact y5
    clear hR hx ho y5 y6
    go_enter Try.func21, Try.ntmps21
    go_wp2_with fail
    go_ret
    exact ⟨rfl, (Keep.refl _ w).alloc _⟩
set_option maxHeartbeats 1600000 in
theorem rhelper_c (m : Int) : Calls Try.prog 47 #[.int .i32 m] w fun x w' => x = .returned (.bool (helpO m)) ∧ Calm w w' := by
  by_cases y1 : m = 1
  · subst y1
    have hR : helpO 1 = true := by decide
    rw [hR]
    clear hR
    go_enter Try.func47, Try.ntmps47
    go_wp2_with fail
    go_ret
    exact ⟨rfl, Keep.refl _ w⟩
  by_cases y2 : m = 2
  · subst y2
    have hR : helpO 2 = true := by decide
    rw [hR]
    clear hR
    go_enter Try.func47, Try.ntmps47
    go_wp2_with fail
    go_ret
    exact ⟨rfl, Keep.refl _ w⟩
  by_cases y3 : m = 3
  · subst y3
    have hR : helpO 3 = true := by decide
    rw [hR]
    clear hR
    go_enter Try.func47, Try.ntmps47
    go_wp2_with fail
    go_ret
    exact ⟨rfl, Keep.refl _ w⟩
  by_cases y5 : m = 5
  · subst y5
    have hR : helpO 5 = true := by decide
    rw [hR]
    clear hR
    go_enter Try.func47, Try.ntmps47
    go_wp2_with fail
    go_ret
    exact ⟨rfl, Keep.refl _ w⟩
  by_cases y7 : m = 7
  · subst y7
    have hR : helpO 7 = true := by decide
    rw [hR]
    clear hR
    go_enter Try.func47, Try.ntmps47
    go_wp2_with fail
    go_ret
    exact ⟨rfl, Keep.refl _ w⟩
  by_cases y9 : m = 9
  · subst y9
    have hR : helpO 9 = true := by decide
    rw [hR]
    clear hR
    go_enter Try.func47, Try.ntmps47
    go_wp2_with fail
    go_ret
    exact ⟨rfl, Keep.refl _ w⟩
  have hR : helpO m = false := decide_eq_false (by omega)
  rw [hR]
  have i1 : (m == 1) = false := by rw [beq_eq_false_iff_ne]; exact y1
  have i2 : (m == 2) = false := by rw [beq_eq_false_iff_ne]; exact y2
  have i3 : (m == 3) = false := by rw [beq_eq_false_iff_ne]; exact y3
  have i5 : (m == 5) = false := by rw [beq_eq_false_iff_ne]; exact y5
  have i7 : (m == 7) = false := by rw [beq_eq_false_iff_ne]; exact y7
  have i9 : (m == 9) = false := by rw [beq_eq_false_iff_ne]; exact y9
  clear hR y1 y2 y3 y5 y7 y9
  go_enter Try.func47, Try.ntmps47
  go_wp2_with fail
  go_ret
  exact ⟨rfl, Keep.refl _ w⟩
end
end Go.Proofs.Ythmiiddojccafaa
