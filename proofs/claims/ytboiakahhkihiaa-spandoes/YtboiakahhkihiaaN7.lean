/-
  Package span: otherThan, Where.
-/
import Derived.Test.YtboiakahhkihiaaN4
namespace Go.Proofs.Ytboiakahhkihiaa
open Go.RowKit
set_option linter.all false

def otherS (s t : Sp) : Sp × Bool :=
  if ¬ t.lo = t.hi then (s, true) else if s.lo = t.lo ∧ s.hi = t.hi then (⟨0, 0⟩, false) else if s.lo = t.lo then (⟨s.lo + 1, s.hi⟩, true) else if s.hi = t.lo then (⟨s.lo, s.hi - 1⟩, true) else (s, true)
def whereS (op : Nat) (s t : Sp) : Sp × Bool :=
  if op = 16 then meetS s t else if op = 80 then otherS s t
  else if op = 32 then (if t.lo = 18446744073709551615 then (⟨0, 0⟩, false) else meetS s ⟨t.lo + 1, 18446744073709551615⟩) else if op = 48 then meetS s ⟨t.lo, 18446744073709551615⟩
  else if op = 160 then (if t.hi = 0 then (⟨0, 0⟩, false) else meetS s ⟨0, t.hi - 1⟩) else if op = 176 then meetS s ⟨0, t.hi⟩ else (s, true)

section
variable {s t : Sp} (w : World)
set_option maxHeartbeats 1000000 in
theorem pother_c (hs : s.Ok) (ht : t.Ok) : Calls Try.prog 35 #[.agg #[.int .u64 (s.lo : Int), .int .u64 (s.hi : Int)], .agg #[.int .u64 (t.lo : Int), .int .u64 (t.hi : Int)]] w fun x w' => x = .returned (.tuple #[.agg #[.int .u64 (((otherS s t).1).lo : Int), .int .u64 (((otherS s t).1).hi : Int)], .bool (otherS s t).2]) ∧ Calm w w' := by
  by_cases h : t.lo = t.hi
  · obtain ⟨c, th⟩ := t
    simp only at h
    subst h
    have K : Hid (∀ w, Calls Try.prog 32 #[.agg #[.int .u64 (c : Int), .int .u64 (c : Int)]] w fun x w' => x = .returned (.bool true) ∧ w' = w.alloc (.cells #[.int .u64 (c : Int), .int .u64 (c : Int)] 27)) := Lib.hid fun w => by
      have k := pisone_c c c w
      rw [decide_eq_true rfl] at k
      exact k
    by_cases h1 : s.lo = c
    · obtain ⟨sl, sh⟩ := s
      simp only at h1
      subst h1
      by_cases h2 : sh = sl
      · subst h2
        have e : otherS ⟨sh, sh⟩ ⟨sh, sh⟩ = (⟨0, 0⟩, false) := by unfold otherS; simp
        rw [e]
        clear hs ht e
        go_enter Try.func35, Try.ntmps35
        go_wp2_with fail
        refine (K.out _).mono ?_
        rintro x w1 ⟨rfl, rfl⟩
        go_wp2_with fail
        go_returns
        exact ⟨rfl, (by repeat' first | exact Keep.refl _ _ | exact Hid.out (by assumption) | apply Keep.alloc | apply Keep.drew | apply Keep.drewN | (refine Keep.store ?_ (fun hp => absurd hp (Nat.not_lt.2 (by dsimp only; omega))) _))⟩
      · have e : otherS ⟨sl, sh⟩ ⟨sl, sl⟩ = (⟨sl + 1, sh⟩, true) := by unfold otherS; simp [h2]
        have n : ((sh : Int) == (sl : Int)) = false := by simp; omega
        have r1 := hs.r
        have r2 := hs.h
        simp only at r1 r2
        obtain ⟨m, hm⟩ : ∃ m, m = sl + 1 := ⟨_, rfl⟩
        have wm : IntKind.u64.wrap ((sl : Int) + 1) = (m : Int) := by rw [IntKind.wrap_u64]; omega
        rw [e, ← hm]
        clear hs ht e h2 r1 r2 hm
        go_enter Try.func35, Try.ntmps35
        go_wp2_with fail
        refine (K.out _).mono ?_
        rintro x w1 ⟨rfl, rfl⟩
        go_wp2_with fail
        go_returns
        exact ⟨rfl, (by repeat' first | exact Keep.refl _ _ | exact Hid.out (by assumption) | apply Keep.alloc | apply Keep.drew | apply Keep.drewN | (refine Keep.store ?_ (fun hp => absurd hp (Nat.not_lt.2 (by dsimp only; omega))) _))⟩
    · have n1 : ((s.lo : Int) == (c : Int)) = false := by simp; omega
      by_cases h2 : s.hi = c
      · have e : otherS s ⟨c, c⟩ = (⟨s.lo, s.hi - 1⟩, true) := by unfold otherS; simp [h1, h2]
        have r1 := hs.r
        have r2 := hs.h
        obtain ⟨m, hm⟩ : ∃ m, m = s.hi - 1 := ⟨_, rfl⟩
        have wm : IntKind.u64.wrap ((s.hi : Int) - 1) = (m : Int) := by rw [IntKind.wrap_u64]; omega
        rw [e, ← hm]
        obtain ⟨sl, sh⟩ := s
        simp only at h2 n1 wm
        subst h2
        clear hs ht e h1 r1 r2 hm
        go_enter Try.func35, Try.ntmps35
        go_wp2_with fail
        refine (K.out _).mono ?_
        rintro x w1 ⟨rfl, rfl⟩
        go_wp2_with fail
        go_returns
        exact ⟨rfl, (by repeat' first | exact Keep.refl _ _ | exact Hid.out (by assumption) | apply Keep.alloc | apply Keep.drew | apply Keep.drewN | (refine Keep.store ?_ (fun hp => absurd hp (Nat.not_lt.2 (by dsimp only; omega))) _))⟩
      · have e : otherS s ⟨c, c⟩ = (s, true) := by unfold otherS; simp [h1, h2]
        have n2 : ((s.hi : Int) == (c : Int)) = false := by simp; omega
        rw [e]
        clear hs ht e h1 h2
        go_enter Try.func35, Try.ntmps35
        go_wp2_with fail
        refine (K.out _).mono ?_
        rintro x w1 ⟨rfl, rfl⟩
        go_wp2_with fail
        go_returns
        exact ⟨rfl, (by repeat' first | exact Keep.refl _ _ | exact Hid.out (by assumption) | apply Keep.alloc | apply Keep.drew | apply Keep.drewN | (refine Keep.store ?_ (fun hp => absurd hp (Nat.not_lt.2 (by dsimp only; omega))) _))⟩
  · have K : Hid (∀ w, Calls Try.prog 32 #[.agg #[.int .u64 (t.lo : Int), .int .u64 (t.hi : Int)]] w fun x w' => x = .returned (.bool false) ∧ w' = w.alloc (.cells #[.int .u64 (t.lo : Int), .int .u64 (t.hi : Int)] 27)) := Lib.hid fun w => by
      have k := pisone_c t.lo t.hi w
      rw [decide_eq_false h] at k
      exact k
    have e : otherS s t = (s, true) := if_pos h
    rw [e]
    clear hs ht e h
    go_enter Try.func35, Try.ntmps35
    go_wp2_with fail
    refine (K.out _).mono ?_
    rintro x w1 ⟨rfl, rfl⟩
    go_wp2_with fail
    go_returns
    exact ⟨rfl, (by repeat' first | exact Keep.refl _ _ | exact Hid.out (by assumption) | apply Keep.alloc | apply Keep.drew | apply Keep.drewN | (refine Keep.store ?_ (fun hp => absurd hp (Nat.not_lt.2 (by dsimp only; omega))) _))⟩
set_option maxHeartbeats 1000000 in
theorem pwhere_16 (hs : s.Ok) (ht : t.Ok) : Calls Try.prog 16 #[.int .u8 16, .agg #[.int .u64 (s.lo : Int), .int .u64 (s.hi : Int)], .agg #[.int .u64 (t.lo : Int), .int .u64 (t.hi : Int)]] w fun x w' => x = .returned (.tuple #[.agg #[.int .u64 (((meetS s t).1).lo : Int), .int .u64 (((meetS s t).1).hi : Int)], .bool (meetS s t).2]) ∧ Calm w w' := by
  obtain ⟨m, em⟩ : ∃ m, m = meetS s t := ⟨_, rfl⟩
  rw [← em]
  have K : Hid (∀ w, Calls Try.prog 18 #[.agg #[.int .u64 (s.lo : Int), .int .u64 (s.hi : Int)], .agg #[.int .u64 (t.lo : Int), .int .u64 (t.hi : Int)]] w fun x w' => x = .returned (.tuple #[.agg #[.int .u64 (m.1.lo : Int), .int .u64 (m.1.hi : Int)], .bool m.2]) ∧ Calm w w') := Lib.hid fun w => by rw [em]; exact pmeet_c s _ w
  clear hs ht em
  go_enter Try.func16, Try.ntmps16
  go_wp2_with fail
  refine (K.out _).mono ?_
  rintro x w1 ⟨rfl, hc⟩
  obtain ⟨-, -, r⟩ := frame3 hc
  obtain ⟨q1, q2, q3, q4⟩ := r.two
  have C1 := Lib.hid (show Calm w w1 from Keep.trans (by repeat' first | exact Keep.refl _ _ | exact Hid.out (by assumption) | apply Keep.alloc | apply Keep.drew | apply Keep.drewN | (refine Keep.store ?_ (fun hp => absurd hp (Nat.not_lt.2 (by dsimp only; omega))) _)) hc)
  clear hc
  go_wp2_with fail
  have hR := (r.store 0 (.int .u64 (m.1.lo : Int))).store 1 (.int .u64 (m.1.hi : Int))
  have CC := Lib.hid (show Calm w ((w1.setCell ⟨w.heap.size + 1 + 1, 0, none⟩ (.int .u64 (m.1.lo : Int))).setCell ⟨w.heap.size + 1 + 1, 1, none⟩ (.int .u64 (m.1.hi : Int))) from (by repeat' first | exact Keep.refl _ _ | exact Hid.out (by assumption) | apply Keep.alloc | apply Keep.drew | apply Keep.drewN | (refine Keep.store ?_ (fun hp => absurd hp (Nat.not_lt.2 (by dsimp only; omega))) _)))
  obtain ⟨w5, h5⟩ : ∃ w5, w5 = (w1.setCell ⟨w.heap.size + 1 + 1, 0, none⟩ (.int .u64 (m.1.lo : Int))).setCell ⟨w.heap.size + 1 + 1, 1, none⟩ (.int .u64 (m.1.hi : Int)) := ⟨_, rfl⟩
  rw [← h5] at hR CC ⊢
  have q := Row.two (w := w5) (a := .int .u64 (m.1.lo : Int)) (b := .int .u64 (m.1.hi : Int)) hR
  clear h5 hR
  refine bodyPost_ret (by simp [results, Try.results16, go_sem, q.1, q.2.1]; try rfl) rfl ?_
  exact ⟨rfl, CC.out⟩
set_option maxHeartbeats 1000000 in
theorem pwhere_80 (hs : s.Ok) (ht : t.Ok) : Calls Try.prog 16 #[.int .u8 80, .agg #[.int .u64 (s.lo : Int), .int .u64 (s.hi : Int)], .agg #[.int .u64 (t.lo : Int), .int .u64 (t.hi : Int)]] w fun x w' => x = .returned (.tuple #[.agg #[.int .u64 (((otherS s t).1).lo : Int), .int .u64 (((otherS s t).1).hi : Int)], .bool (otherS s t).2]) ∧ Calm w w' := by
  obtain ⟨m, em⟩ : ∃ m, m = otherS s t := ⟨_, rfl⟩
  rw [← em]
  have K : Hid (∀ w, Calls Try.prog 35 #[.agg #[.int .u64 (s.lo : Int), .int .u64 (s.hi : Int)], .agg #[.int .u64 (t.lo : Int), .int .u64 (t.hi : Int)]] w fun x w' => x = .returned (.tuple #[.agg #[.int .u64 (m.1.lo : Int), .int .u64 (m.1.hi : Int)], .bool m.2]) ∧ Calm w w') := Lib.hid fun w => by rw [em]; exact pother_c w hs ht
  clear hs ht em
  go_enter Try.func16, Try.ntmps16
  go_wp2_with fail
  refine (K.out _).mono ?_
  rintro x w1 ⟨rfl, hc⟩
  obtain ⟨-, -, r⟩ := frame3 hc
  obtain ⟨q1, q2, q3, q4⟩ := r.two
  have C1 := Lib.hid (show Calm w w1 from Keep.trans (by repeat' first | exact Keep.refl _ _ | exact Hid.out (by assumption) | apply Keep.alloc | apply Keep.drew | apply Keep.drewN | (refine Keep.store ?_ (fun hp => absurd hp (Nat.not_lt.2 (by dsimp only; omega))) _)) hc)
  clear hc
  go_wp2_with fail
  have hR := (r.store 0 (.int .u64 (m.1.lo : Int))).store 1 (.int .u64 (m.1.hi : Int))
  have CC := Lib.hid (show Calm w ((w1.setCell ⟨w.heap.size + 1 + 1, 0, none⟩ (.int .u64 (m.1.lo : Int))).setCell ⟨w.heap.size + 1 + 1, 1, none⟩ (.int .u64 (m.1.hi : Int))) from (by repeat' first | exact Keep.refl _ _ | exact Hid.out (by assumption) | apply Keep.alloc | apply Keep.drew | apply Keep.drewN | (refine Keep.store ?_ (fun hp => absurd hp (Nat.not_lt.2 (by dsimp only; omega))) _)))
  obtain ⟨w5, h5⟩ : ∃ w5, w5 = (w1.setCell ⟨w.heap.size + 1 + 1, 0, none⟩ (.int .u64 (m.1.lo : Int))).setCell ⟨w.heap.size + 1 + 1, 1, none⟩ (.int .u64 (m.1.hi : Int)) := ⟨_, rfl⟩
  rw [← h5] at hR CC ⊢
  have q := Row.two (w := w5) (a := .int .u64 (m.1.lo : Int)) (b := .int .u64 (m.1.hi : Int)) hR
  clear h5 hR
  refine bodyPost_ret (by simp [results, Try.results16, go_sem, q.1, q.2.1]; try rfl) rfl ?_
  exact ⟨rfl, CC.out⟩
set_option maxHeartbeats 1000000 in
theorem pwhere_48 (hs : s.Ok) (ht : t.Ok) : Calls Try.prog 16 #[.int .u8 48, .agg #[.int .u64 (s.lo : Int), .int .u64 (s.hi : Int)], .agg #[.int .u64 (t.lo : Int), .int .u64 (t.hi : Int)]] w fun x w' => x = .returned (.tuple #[.agg #[.int .u64 (((meetS s ⟨t.lo, 18446744073709551615⟩).1).lo : Int), .int .u64 (((meetS s ⟨t.lo, 18446744073709551615⟩).1).hi : Int)], .bool (meetS s ⟨t.lo, 18446744073709551615⟩).2]) ∧ Calm w w' := by
  obtain ⟨m, em⟩ : ∃ m, m = meetS s ⟨t.lo, 18446744073709551615⟩ := ⟨_, rfl⟩
  rw [← em]
  have K : Hid (∀ w, Calls Try.prog 18 #[.agg #[.int .u64 (s.lo : Int), .int .u64 (s.hi : Int)], .agg #[.int .u64 (t.lo : Int), .int .u64 18446744073709551615]] w fun x w' => x = .returned (.tuple #[.agg #[.int .u64 (m.1.lo : Int), .int .u64 (m.1.hi : Int)], .bool m.2]) ∧ Calm w w') := Lib.hid fun w => by rw [em]; exact pmeet_c s _ w
  clear hs ht em
  go_enter Try.func16, Try.ntmps16
  go_wp2_with fail
  refine (K.out _).mono ?_
  rintro x w1 ⟨rfl, hc⟩
  obtain ⟨-, -, r⟩ := frame3 hc
  obtain ⟨q1, q2, q3, q4⟩ := r.two
  have C1 := Lib.hid (show Calm w w1 from Keep.trans (by repeat' first | exact Keep.refl _ _ | exact Hid.out (by assumption) | apply Keep.alloc | apply Keep.drew | apply Keep.drewN | (refine Keep.store ?_ (fun hp => absurd hp (Nat.not_lt.2 (by dsimp only; omega))) _)) hc)
  clear hc
  go_wp2_with fail
  have hR := (r.store 0 (.int .u64 (m.1.lo : Int))).store 1 (.int .u64 (m.1.hi : Int))
  have CC := Lib.hid (show Calm w ((w1.setCell ⟨w.heap.size + 1 + 1, 0, none⟩ (.int .u64 (m.1.lo : Int))).setCell ⟨w.heap.size + 1 + 1, 1, none⟩ (.int .u64 (m.1.hi : Int))) from (by repeat' first | exact Keep.refl _ _ | exact Hid.out (by assumption) | apply Keep.alloc | apply Keep.drew | apply Keep.drewN | (refine Keep.store ?_ (fun hp => absurd hp (Nat.not_lt.2 (by dsimp only; omega))) _)))
  obtain ⟨w5, h5⟩ : ∃ w5, w5 = (w1.setCell ⟨w.heap.size + 1 + 1, 0, none⟩ (.int .u64 (m.1.lo : Int))).setCell ⟨w.heap.size + 1 + 1, 1, none⟩ (.int .u64 (m.1.hi : Int)) := ⟨_, rfl⟩
  rw [← h5] at hR CC ⊢
  have q := Row.two (w := w5) (a := .int .u64 (m.1.lo : Int)) (b := .int .u64 (m.1.hi : Int)) hR
  clear h5 hR
  refine bodyPost_ret (by simp [results, Try.results16, go_sem, q.1, q.2.1]; try rfl) rfl ?_
  exact ⟨rfl, CC.out⟩
set_option maxHeartbeats 1000000 in
theorem pwhere_176 (hs : s.Ok) (ht : t.Ok) : Calls Try.prog 16 #[.int .u8 176, .agg #[.int .u64 (s.lo : Int), .int .u64 (s.hi : Int)], .agg #[.int .u64 (t.lo : Int), .int .u64 (t.hi : Int)]] w fun x w' => x = .returned (.tuple #[.agg #[.int .u64 (((meetS s ⟨0, t.hi⟩).1).lo : Int), .int .u64 (((meetS s ⟨0, t.hi⟩).1).hi : Int)], .bool (meetS s ⟨0, t.hi⟩).2]) ∧ Calm w w' := by
  obtain ⟨m, em⟩ : ∃ m, m = meetS s ⟨0, t.hi⟩ := ⟨_, rfl⟩
  rw [← em]
  have K : Hid (∀ w, Calls Try.prog 18 #[.agg #[.int .u64 (s.lo : Int), .int .u64 (s.hi : Int)], .agg #[.int .u64 0, .int .u64 (t.hi : Int)]] w fun x w' => x = .returned (.tuple #[.agg #[.int .u64 (m.1.lo : Int), .int .u64 (m.1.hi : Int)], .bool m.2]) ∧ Calm w w') := Lib.hid fun w => by rw [em]; exact pmeet_c s _ w
  clear hs ht em
  go_enter Try.func16, Try.ntmps16
  go_wp2_with fail
  refine (K.out _).mono ?_
  rintro x w1 ⟨rfl, hc⟩
  obtain ⟨-, -, r⟩ := frame3 hc
  obtain ⟨q1, q2, q3, q4⟩ := r.two
  have C1 := Lib.hid (show Calm w w1 from Keep.trans (by repeat' first | exact Keep.refl _ _ | exact Hid.out (by assumption) | apply Keep.alloc | apply Keep.drew | apply Keep.drewN | (refine Keep.store ?_ (fun hp => absurd hp (Nat.not_lt.2 (by dsimp only; omega))) _)) hc)
  clear hc
  go_wp2_with fail
  have hR := (r.store 0 (.int .u64 (m.1.lo : Int))).store 1 (.int .u64 (m.1.hi : Int))
  have CC := Lib.hid (show Calm w ((w1.setCell ⟨w.heap.size + 1 + 1, 0, none⟩ (.int .u64 (m.1.lo : Int))).setCell ⟨w.heap.size + 1 + 1, 1, none⟩ (.int .u64 (m.1.hi : Int))) from (by repeat' first | exact Keep.refl _ _ | exact Hid.out (by assumption) | apply Keep.alloc | apply Keep.drew | apply Keep.drewN | (refine Keep.store ?_ (fun hp => absurd hp (Nat.not_lt.2 (by dsimp only; omega))) _)))
  obtain ⟨w5, h5⟩ : ∃ w5, w5 = (w1.setCell ⟨w.heap.size + 1 + 1, 0, none⟩ (.int .u64 (m.1.lo : Int))).setCell ⟨w.heap.size + 1 + 1, 1, none⟩ (.int .u64 (m.1.hi : Int)) := ⟨_, rfl⟩
  rw [← h5] at hR CC ⊢
  have q := Row.two (w := w5) (a := .int .u64 (m.1.lo : Int)) (b := .int .u64 (m.1.hi : Int)) hR
  clear h5 hR
  refine bodyPost_ret (by simp [results, Try.results16, go_sem, q.1, q.2.1]; try rfl) rfl ?_
  exact ⟨rfl, CC.out⟩
set_option maxHeartbeats 1000000 in
theorem pwhere_32 (hs : s.Ok) (ht : t.Ok) : Calls Try.prog 16 #[.int .u8 32, .agg #[.int .u64 (s.lo : Int), .int .u64 (s.hi : Int)], .agg #[.int .u64 (t.lo : Int), .int .u64 (t.hi : Int)]] w fun x w' => x = .returned (.tuple #[.agg #[.int .u64 (((if t.lo = 18446744073709551615 then ((⟨0, 0⟩, false) : Sp × Bool) else meetS s ⟨t.lo + 1, 18446744073709551615⟩).1).lo : Int), .int .u64 (((if t.lo = 18446744073709551615 then ((⟨0, 0⟩, false) : Sp × Bool) else meetS s ⟨t.lo + 1, 18446744073709551615⟩).1).hi : Int)], .bool (if t.lo = 18446744073709551615 then ((⟨0, 0⟩, false) : Sp × Bool) else meetS s ⟨t.lo + 1, 18446744073709551615⟩).2]) ∧ Calm w w' := by
  by_cases h : t.lo = 18446744073709551615
  · rw [if_pos h]
    have e : (t.lo : Int) = 18446744073709551615 := by omega
    obtain ⟨tl, th⟩ := t
    simp only at h
    subst h
    clear hs ht e
    go_enter Try.func16, Try.ntmps16
    go_wp2_with fail
    go_returns
    exact ⟨rfl, (by repeat' first | exact Keep.refl _ _ | exact Hid.out (by assumption) | apply Keep.alloc | apply Keep.drew | apply Keep.drewN | (refine Keep.store ?_ (fun hp => absurd hp (Nat.not_lt.2 (by dsimp only; omega))) _))⟩
  · rw [if_neg h]
    have r1 := ht.r
    have r2 := ht.h
    obtain ⟨z, hz⟩ : ∃ z, z = t.lo + 1 := ⟨_, rfl⟩
    have wz : IntKind.u64.wrap ((t.lo : Int) + 1) = (z : Int) := by rw [IntKind.wrap_u64]; omega
    have ne : ((t.lo : Int) == 18446744073709551615) = false := by simp; omega
    rw [← hz]
    obtain ⟨m, em⟩ : ∃ m, m = meetS s ⟨z, 18446744073709551615⟩ := ⟨_, rfl⟩
    rw [← em]
    have K : Hid (∀ w, Calls Try.prog 18 #[.agg #[.int .u64 (s.lo : Int), .int .u64 (s.hi : Int)], .agg #[.int .u64 (z : Int), .int .u64 18446744073709551615]] w fun x w' => x = .returned (.tuple #[.agg #[.int .u64 (m.1.lo : Int), .int .u64 (m.1.hi : Int)], .bool m.2]) ∧ Calm w w') := Lib.hid fun w => by rw [em]; exact pmeet_c s _ w
    clear h hz r1 r2
    clear hs ht em
    go_enter Try.func16, Try.ntmps16
    go_wp2_with fail
    refine (K.out _).mono ?_
    rintro x w1 ⟨rfl, hc⟩
    obtain ⟨-, -, r⟩ := frame3 hc
    obtain ⟨q1, q2, q3, q4⟩ := r.two
    have C1 := Lib.hid (show Calm w w1 from Keep.trans (by repeat' first | exact Keep.refl _ _ | exact Hid.out (by assumption) | apply Keep.alloc | apply Keep.drew | apply Keep.drewN | (refine Keep.store ?_ (fun hp => absurd hp (Nat.not_lt.2 (by dsimp only; omega))) _)) hc)
    clear hc
    go_wp2_with fail
    have hR := (r.store 0 (.int .u64 (m.1.lo : Int))).store 1 (.int .u64 (m.1.hi : Int))
    have CC := Lib.hid (show Calm w ((w1.setCell ⟨w.heap.size + 1 + 1, 0, none⟩ (.int .u64 (m.1.lo : Int))).setCell ⟨w.heap.size + 1 + 1, 1, none⟩ (.int .u64 (m.1.hi : Int))) from (by repeat' first | exact Keep.refl _ _ | exact Hid.out (by assumption) | apply Keep.alloc | apply Keep.drew | apply Keep.drewN | (refine Keep.store ?_ (fun hp => absurd hp (Nat.not_lt.2 (by dsimp only; omega))) _)))
    obtain ⟨w5, h5⟩ : ∃ w5, w5 = (w1.setCell ⟨w.heap.size + 1 + 1, 0, none⟩ (.int .u64 (m.1.lo : Int))).setCell ⟨w.heap.size + 1 + 1, 1, none⟩ (.int .u64 (m.1.hi : Int)) := ⟨_, rfl⟩
    rw [← h5] at hR CC ⊢
    have q := Row.two (w := w5) (a := .int .u64 (m.1.lo : Int)) (b := .int .u64 (m.1.hi : Int)) hR
    clear h5 hR
    refine bodyPost_ret (by simp [results, Try.results16, go_sem, q.1, q.2.1]; try rfl) rfl ?_
    exact ⟨rfl, CC.out⟩
set_option maxHeartbeats 1000000 in
theorem pwhere_160 (hs : s.Ok) (ht : t.Ok) : Calls Try.prog 16 #[.int .u8 160, .agg #[.int .u64 (s.lo : Int), .int .u64 (s.hi : Int)], .agg #[.int .u64 (t.lo : Int), .int .u64 (t.hi : Int)]] w fun x w' => x = .returned (.tuple #[.agg #[.int .u64 (((if t.hi = 0 then ((⟨0, 0⟩, false) : Sp × Bool) else meetS s ⟨0, t.hi - 1⟩).1).lo : Int), .int .u64 (((if t.hi = 0 then ((⟨0, 0⟩, false) : Sp × Bool) else meetS s ⟨0, t.hi - 1⟩).1).hi : Int)], .bool (if t.hi = 0 then ((⟨0, 0⟩, false) : Sp × Bool) else meetS s ⟨0, t.hi - 1⟩).2]) ∧ Calm w w' := by
  by_cases h : t.hi = 0
  · rw [if_pos h]
    obtain ⟨tl, th⟩ := t
    simp only at h
    subst h
    clear hs ht
    go_enter Try.func16, Try.ntmps16
    go_wp2_with fail
    go_returns
    exact ⟨rfl, (by repeat' first | exact Keep.refl _ _ | exact Hid.out (by assumption) | apply Keep.alloc | apply Keep.drew | apply Keep.drewN | (refine Keep.store ?_ (fun hp => absurd hp (Nat.not_lt.2 (by dsimp only; omega))) _))⟩
  · rw [if_neg h]
    have r2 := ht.h
    obtain ⟨z, hz⟩ : ∃ z, z = t.hi - 1 := ⟨_, rfl⟩
    have wz : IntKind.u64.wrap ((t.hi : Int) - 1) = (z : Int) := by rw [IntKind.wrap_u64]; omega
    have ne : ((t.hi : Int) == 0) = false := by simp; omega
    rw [← hz]
    obtain ⟨m, em⟩ : ∃ m, m = meetS s ⟨0, z⟩ := ⟨_, rfl⟩
    rw [← em]
    have K : Hid (∀ w, Calls Try.prog 18 #[.agg #[.int .u64 (s.lo : Int), .int .u64 (s.hi : Int)], .agg #[.int .u64 0, .int .u64 (z : Int)]] w fun x w' => x = .returned (.tuple #[.agg #[.int .u64 (m.1.lo : Int), .int .u64 (m.1.hi : Int)], .bool m.2]) ∧ Calm w w') := Lib.hid fun w => by rw [em]; exact pmeet_c s _ w
    clear h hz r2
    clear hs ht em
    go_enter Try.func16, Try.ntmps16
    go_wp2_with fail
    refine (K.out _).mono ?_
    rintro x w1 ⟨rfl, hc⟩
    obtain ⟨-, -, r⟩ := frame3 hc
    obtain ⟨q1, q2, q3, q4⟩ := r.two
    have C1 := Lib.hid (show Calm w w1 from Keep.trans (by repeat' first | exact Keep.refl _ _ | exact Hid.out (by assumption) | apply Keep.alloc | apply Keep.drew | apply Keep.drewN | (refine Keep.store ?_ (fun hp => absurd hp (Nat.not_lt.2 (by dsimp only; omega))) _)) hc)
    clear hc
    go_wp2_with fail
    have hR := (r.store 0 (.int .u64 (m.1.lo : Int))).store 1 (.int .u64 (m.1.hi : Int))
    have CC := Lib.hid (show Calm w ((w1.setCell ⟨w.heap.size + 1 + 1, 0, none⟩ (.int .u64 (m.1.lo : Int))).setCell ⟨w.heap.size + 1 + 1, 1, none⟩ (.int .u64 (m.1.hi : Int))) from (by repeat' first | exact Keep.refl _ _ | exact Hid.out (by assumption) | apply Keep.alloc | apply Keep.drew | apply Keep.drewN | (refine Keep.store ?_ (fun hp => absurd hp (Nat.not_lt.2 (by dsimp only; omega))) _)))
    obtain ⟨w5, h5⟩ : ∃ w5, w5 = (w1.setCell ⟨w.heap.size + 1 + 1, 0, none⟩ (.int .u64 (m.1.lo : Int))).setCell ⟨w.heap.size + 1 + 1, 1, none⟩ (.int .u64 (m.1.hi : Int)) := ⟨_, rfl⟩
    rw [← h5] at hR CC ⊢
    have q := Row.two (w := w5) (a := .int .u64 (m.1.lo : Int)) (b := .int .u64 (m.1.hi : Int)) hR
    clear h5 hR
    refine bodyPost_ret (by simp [results, Try.results16, go_sem, q.1, q.2.1]; try rfl) rfl ?_
    exact ⟨rfl, CC.out⟩
set_option maxHeartbeats 1000000 in
theorem pwhere_no {op : Nat} (h16 : ¬ op = 16) (h80 : ¬ op = 80) (h32 : ¬ op = 32) (h48 : ¬ op = 48) (h160 : ¬ op = 160) (h176 : ¬ op = 176) : Calls Try.prog 16 #[.int .u8 (op : Int), .agg #[.int .u64 (s.lo : Int), .int .u64 (s.hi : Int)], .agg #[.int .u64 (t.lo : Int), .int .u64 (t.hi : Int)]] w fun x w' => x = .returned (.tuple #[.agg #[.int .u64 (s.lo : Int), .int .u64 (s.hi : Int)], .bool true]) ∧ Calm w w' := by
  have i16 : ((op : Int) == 16) = false := by simp; omega
  have i80 : ((op : Int) == 80) = false := by simp; omega
  have i32 : ((op : Int) == 32) = false := by simp; omega
  have i48 : ((op : Int) == 48) = false := by simp; omega
  have i160 : ((op : Int) == 160) = false := by simp; omega
  have i176 : ((op : Int) == 176) = false := by simp; omega
  clear h16 h80 h32 h48 h160 h176
  go_enter Try.func16, Try.ntmps16
  go_wp2_with fail
  go_returns
  exact ⟨rfl, (by repeat' first | exact Keep.refl _ _ | exact Hid.out (by assumption) | apply Keep.alloc | apply Keep.drew | apply Keep.drewN | (refine Keep.store ?_ (fun hp => absurd hp (Nat.not_lt.2 (by dsimp only; omega))) _))⟩
theorem pwhere_c {op : Nat} (hs : s.Ok) (ht : t.Ok) : Calls Try.prog 16 #[.int .u8 (op : Int), .agg #[.int .u64 (s.lo : Int), .int .u64 (s.hi : Int)], .agg #[.int .u64 (t.lo : Int), .int .u64 (t.hi : Int)]] w fun x w' => x = .returned (.tuple #[.agg #[.int .u64 (((whereS op s t).1).lo : Int), .int .u64 (((whereS op s t).1).hi : Int)], .bool (whereS op s t).2]) ∧ Calm w w' := by
  unfold whereS
  by_cases h16 : op = 16
  · subst h16; exact pwhere_16 w hs ht
  rw [if_neg h16]
  by_cases h80 : op = 80
  · subst h80; exact pwhere_80 w hs ht
  rw [if_neg h80]
  by_cases h32 : op = 32
  · subst h32; exact pwhere_32 w hs ht
  rw [if_neg h32]
  by_cases h48 : op = 48
  · subst h48; exact pwhere_48 w hs ht
  rw [if_neg h48]
  by_cases h160 : op = 160
  · subst h160; exact pwhere_160 w hs ht
  rw [if_neg h160]
  by_cases h176 : op = 176
  · subst h176; exact pwhere_176 w hs ht
  rw [if_neg h176]
  exact pwhere_no w h16 h80 h32 h48 h160 h176
end

end Go.Proofs.Ytboiakahhkihiaa
