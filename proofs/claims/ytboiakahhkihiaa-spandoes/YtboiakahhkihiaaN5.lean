/-
  Package span: made.
-/
import Derived.Test.YtboiakahhkihiaaN4
namespace Go.Proofs.Ytboiakahhkihiaa
open Go.RowKit
set_option linter.all false

def madeS (n op : Nat) (s t : Sp) : Sp :=
  if op = 0 then sumS s t else if op = 16 then diffS s t else if op = 32 then prodS s t else if op = 48 then quoS s t
  else if op = 64 then ⟨max s.lo t.lo, onesN (max s.hi t.hi)⟩ else if op = 80 then ⟨0, min s.hi t.hi⟩ else if op = 96 then upS n s t else if op = 112 then downS n s t
  else if op = 144 then remS s t else if op = 160 then ⟨0, onesN (max s.hi t.hi)⟩ else if op = 176 then t
  else if op = 192 then (if s.hi < 2 ^ (n - 1) then downS n s t else allS) else allS

section
variable {s t : Sp} (w : World)
set_option maxHeartbeats 1000000 in
theorem pmade64_0 (hs : s.Ok) (ht : t.Ok) : Calls Try.prog 33 #[.int .u8 0, .int .u64 64, .agg #[.int .u64 (s.lo : Int), .int .u64 (s.hi : Int)], .agg #[.int .u64 (t.lo : Int), .int .u64 (t.hi : Int)]] w fun x w' => x = .returned (.agg #[.int .u64 ((sumS s t).lo : Int), .int .u64 ((sumS s t).hi : Int)]) ∧ Calm w w' := by
  have K := Lib.hid (fun w => psum_c w hs ht)
  clear hs ht
  go_enter Try.func33, Try.ntmps33
  go_wp2_with fail
  refine (K.out _).mono ?_
  rintro x w1 ⟨rfl, hc⟩
  obtain ⟨-, -, r⟩ := frame3 hc
  obtain ⟨q1, q2, q3, q4⟩ := r.two
  have C1 := Lib.hid (show Calm w w1 from Keep.trans (by repeat' first | exact Keep.refl _ _ | exact Hid.out (by assumption) | apply Keep.alloc | apply Keep.drew | apply Keep.drewN | (refine Keep.store ?_ (fun hp => absurd hp (Nat.not_lt.2 (by dsimp only; omega))) _)) hc)
  clear hc
  go_wp2_with fail
  have hR := (r.store 0 (.int .u64 ((sumS s t).lo : Int))).store 1 (.int .u64 ((sumS s t).hi : Int))
  have CC := Lib.hid (show Calm w ((w1.setCell ⟨w.heap.size + 1 + 1, 0, none⟩ (.int .u64 ((sumS s t).lo : Int))).setCell ⟨w.heap.size + 1 + 1, 1, none⟩ (.int .u64 ((sumS s t).hi : Int))) from (by repeat' first | exact Keep.refl _ _ | exact Hid.out (by assumption) | apply Keep.alloc | apply Keep.drew | apply Keep.drewN | (refine Keep.store ?_ (fun hp => absurd hp (Nat.not_lt.2 (by dsimp only; omega))) _)))
  obtain ⟨w5, h5⟩ : ∃ w5, w5 = (w1.setCell ⟨w.heap.size + 1 + 1, 0, none⟩ (.int .u64 ((sumS s t).lo : Int))).setCell ⟨w.heap.size + 1 + 1, 1, none⟩ (.int .u64 ((sumS s t).hi : Int)) := ⟨_, rfl⟩
  rw [← h5] at hR CC ⊢
  have q := Row.two (w := w5) (a := .int .u64 ((sumS s t).lo : Int)) (b := .int .u64 ((sumS s t).hi : Int)) hR
  clear h5 hR
  refine bodyPost_ret (by simp [results, Try.results33, go_sem, q.1, q.2.1]; try rfl) rfl ?_
  exact ⟨rfl, CC.out⟩
set_option maxHeartbeats 1000000 in
theorem pmade64_16 (hs : s.Ok) (ht : t.Ok) : Calls Try.prog 33 #[.int .u8 16, .int .u64 64, .agg #[.int .u64 (s.lo : Int), .int .u64 (s.hi : Int)], .agg #[.int .u64 (t.lo : Int), .int .u64 (t.hi : Int)]] w fun x w' => x = .returned (.agg #[.int .u64 ((diffS s t).lo : Int), .int .u64 ((diffS s t).hi : Int)]) ∧ Calm w w' := by
  have K := Lib.hid (fun w => pdifference_c w hs ht)
  clear hs ht
  go_enter Try.func33, Try.ntmps33
  go_wp2_with fail
  refine (K.out _).mono ?_
  rintro x w1 ⟨rfl, hc⟩
  obtain ⟨-, -, r⟩ := frame3 hc
  obtain ⟨q1, q2, q3, q4⟩ := r.two
  have C1 := Lib.hid (show Calm w w1 from Keep.trans (by repeat' first | exact Keep.refl _ _ | exact Hid.out (by assumption) | apply Keep.alloc | apply Keep.drew | apply Keep.drewN | (refine Keep.store ?_ (fun hp => absurd hp (Nat.not_lt.2 (by dsimp only; omega))) _)) hc)
  clear hc
  go_wp2_with fail
  have hR := (r.store 0 (.int .u64 ((diffS s t).lo : Int))).store 1 (.int .u64 ((diffS s t).hi : Int))
  have CC := Lib.hid (show Calm w ((w1.setCell ⟨w.heap.size + 1 + 1, 0, none⟩ (.int .u64 ((diffS s t).lo : Int))).setCell ⟨w.heap.size + 1 + 1, 1, none⟩ (.int .u64 ((diffS s t).hi : Int))) from (by repeat' first | exact Keep.refl _ _ | exact Hid.out (by assumption) | apply Keep.alloc | apply Keep.drew | apply Keep.drewN | (refine Keep.store ?_ (fun hp => absurd hp (Nat.not_lt.2 (by dsimp only; omega))) _)))
  obtain ⟨w5, h5⟩ : ∃ w5, w5 = (w1.setCell ⟨w.heap.size + 1 + 1, 0, none⟩ (.int .u64 ((diffS s t).lo : Int))).setCell ⟨w.heap.size + 1 + 1, 1, none⟩ (.int .u64 ((diffS s t).hi : Int)) := ⟨_, rfl⟩
  rw [← h5] at hR CC ⊢
  have q := Row.two (w := w5) (a := .int .u64 ((diffS s t).lo : Int)) (b := .int .u64 ((diffS s t).hi : Int)) hR
  clear h5 hR
  refine bodyPost_ret (by simp [results, Try.results33, go_sem, q.1, q.2.1]; try rfl) rfl ?_
  exact ⟨rfl, CC.out⟩
set_option maxHeartbeats 1000000 in
theorem pmade64_32 (hs : s.Ok) (ht : t.Ok) : Calls Try.prog 33 #[.int .u8 32, .int .u64 64, .agg #[.int .u64 (s.lo : Int), .int .u64 (s.hi : Int)], .agg #[.int .u64 (t.lo : Int), .int .u64 (t.hi : Int)]] w fun x w' => x = .returned (.agg #[.int .u64 ((prodS s t).lo : Int), .int .u64 ((prodS s t).hi : Int)]) ∧ Calm w w' := by
  have K := Lib.hid (fun w => pproduct_c w hs ht)
  clear hs ht
  go_enter Try.func33, Try.ntmps33
  go_wp2_with fail
  refine (K.out _).mono ?_
  rintro x w1 ⟨rfl, hc⟩
  obtain ⟨-, -, r⟩ := frame3 hc
  obtain ⟨q1, q2, q3, q4⟩ := r.two
  have C1 := Lib.hid (show Calm w w1 from Keep.trans (by repeat' first | exact Keep.refl _ _ | exact Hid.out (by assumption) | apply Keep.alloc | apply Keep.drew | apply Keep.drewN | (refine Keep.store ?_ (fun hp => absurd hp (Nat.not_lt.2 (by dsimp only; omega))) _)) hc)
  clear hc
  go_wp2_with fail
  have hR := (r.store 0 (.int .u64 ((prodS s t).lo : Int))).store 1 (.int .u64 ((prodS s t).hi : Int))
  have CC := Lib.hid (show Calm w ((w1.setCell ⟨w.heap.size + 1 + 1, 0, none⟩ (.int .u64 ((prodS s t).lo : Int))).setCell ⟨w.heap.size + 1 + 1, 1, none⟩ (.int .u64 ((prodS s t).hi : Int))) from (by repeat' first | exact Keep.refl _ _ | exact Hid.out (by assumption) | apply Keep.alloc | apply Keep.drew | apply Keep.drewN | (refine Keep.store ?_ (fun hp => absurd hp (Nat.not_lt.2 (by dsimp only; omega))) _)))
  obtain ⟨w5, h5⟩ : ∃ w5, w5 = (w1.setCell ⟨w.heap.size + 1 + 1, 0, none⟩ (.int .u64 ((prodS s t).lo : Int))).setCell ⟨w.heap.size + 1 + 1, 1, none⟩ (.int .u64 ((prodS s t).hi : Int)) := ⟨_, rfl⟩
  rw [← h5] at hR CC ⊢
  have q := Row.two (w := w5) (a := .int .u64 ((prodS s t).lo : Int)) (b := .int .u64 ((prodS s t).hi : Int)) hR
  clear h5 hR
  refine bodyPost_ret (by simp [results, Try.results33, go_sem, q.1, q.2.1]; try rfl) rfl ?_
  exact ⟨rfl, CC.out⟩
set_option maxHeartbeats 1000000 in
theorem pmade64_48 (hs : s.Ok) (ht : t.Ok) : Calls Try.prog 33 #[.int .u8 48, .int .u64 64, .agg #[.int .u64 (s.lo : Int), .int .u64 (s.hi : Int)], .agg #[.int .u64 (t.lo : Int), .int .u64 (t.hi : Int)]] w fun x w' => x = .returned (.agg #[.int .u64 ((quoS s t).lo : Int), .int .u64 ((quoS s t).hi : Int)]) ∧ Calm w w' := by
  have K := Lib.hid (fun w => pquotient_c w hs ht)
  clear hs ht
  go_enter Try.func33, Try.ntmps33
  go_wp2_with fail
  refine (K.out _).mono ?_
  rintro x w1 ⟨rfl, hc⟩
  obtain ⟨-, -, r⟩ := frame3 hc
  obtain ⟨q1, q2, q3, q4⟩ := r.two
  have C1 := Lib.hid (show Calm w w1 from Keep.trans (by repeat' first | exact Keep.refl _ _ | exact Hid.out (by assumption) | apply Keep.alloc | apply Keep.drew | apply Keep.drewN | (refine Keep.store ?_ (fun hp => absurd hp (Nat.not_lt.2 (by dsimp only; omega))) _)) hc)
  clear hc
  go_wp2_with fail
  have hR := (r.store 0 (.int .u64 ((quoS s t).lo : Int))).store 1 (.int .u64 ((quoS s t).hi : Int))
  have CC := Lib.hid (show Calm w ((w1.setCell ⟨w.heap.size + 1 + 1, 0, none⟩ (.int .u64 ((quoS s t).lo : Int))).setCell ⟨w.heap.size + 1 + 1, 1, none⟩ (.int .u64 ((quoS s t).hi : Int))) from (by repeat' first | exact Keep.refl _ _ | exact Hid.out (by assumption) | apply Keep.alloc | apply Keep.drew | apply Keep.drewN | (refine Keep.store ?_ (fun hp => absurd hp (Nat.not_lt.2 (by dsimp only; omega))) _)))
  obtain ⟨w5, h5⟩ : ∃ w5, w5 = (w1.setCell ⟨w.heap.size + 1 + 1, 0, none⟩ (.int .u64 ((quoS s t).lo : Int))).setCell ⟨w.heap.size + 1 + 1, 1, none⟩ (.int .u64 ((quoS s t).hi : Int)) := ⟨_, rfl⟩
  rw [← h5] at hR CC ⊢
  have q := Row.two (w := w5) (a := .int .u64 ((quoS s t).lo : Int)) (b := .int .u64 ((quoS s t).hi : Int)) hR
  clear h5 hR
  refine bodyPost_ret (by simp [results, Try.results33, go_sem, q.1, q.2.1]; try rfl) rfl ?_
  exact ⟨rfl, CC.out⟩
set_option maxHeartbeats 1000000 in
theorem pmade64_144 (hs : s.Ok) (ht : t.Ok) : Calls Try.prog 33 #[.int .u8 144, .int .u64 64, .agg #[.int .u64 (s.lo : Int), .int .u64 (s.hi : Int)], .agg #[.int .u64 (t.lo : Int), .int .u64 (t.hi : Int)]] w fun x w' => x = .returned (.agg #[.int .u64 ((remS s t).lo : Int), .int .u64 ((remS s t).hi : Int)]) ∧ Calm w w' := by
  have K := Lib.hid (fun w => premainder_c w hs ht)
  clear hs ht
  go_enter Try.func33, Try.ntmps33
  go_wp2_with fail
  refine (K.out _).mono ?_
  rintro x w1 ⟨rfl, hc⟩
  obtain ⟨-, -, r⟩ := frame3 hc
  obtain ⟨q1, q2, q3, q4⟩ := r.two
  have C1 := Lib.hid (show Calm w w1 from Keep.trans (by repeat' first | exact Keep.refl _ _ | exact Hid.out (by assumption) | apply Keep.alloc | apply Keep.drew | apply Keep.drewN | (refine Keep.store ?_ (fun hp => absurd hp (Nat.not_lt.2 (by dsimp only; omega))) _)) hc)
  clear hc
  go_wp2_with fail
  have hR := (r.store 0 (.int .u64 ((remS s t).lo : Int))).store 1 (.int .u64 ((remS s t).hi : Int))
  have CC := Lib.hid (show Calm w ((w1.setCell ⟨w.heap.size + 1 + 1, 0, none⟩ (.int .u64 ((remS s t).lo : Int))).setCell ⟨w.heap.size + 1 + 1, 1, none⟩ (.int .u64 ((remS s t).hi : Int))) from (by repeat' first | exact Keep.refl _ _ | exact Hid.out (by assumption) | apply Keep.alloc | apply Keep.drew | apply Keep.drewN | (refine Keep.store ?_ (fun hp => absurd hp (Nat.not_lt.2 (by dsimp only; omega))) _)))
  obtain ⟨w5, h5⟩ : ∃ w5, w5 = (w1.setCell ⟨w.heap.size + 1 + 1, 0, none⟩ (.int .u64 ((remS s t).lo : Int))).setCell ⟨w.heap.size + 1 + 1, 1, none⟩ (.int .u64 ((remS s t).hi : Int)) := ⟨_, rfl⟩
  rw [← h5] at hR CC ⊢
  have q := Row.two (w := w5) (a := .int .u64 ((remS s t).lo : Int)) (b := .int .u64 ((remS s t).hi : Int)) hR
  clear h5 hR
  refine bodyPost_ret (by simp [results, Try.results33, go_sem, q.1, q.2.1]; try rfl) rfl ?_
  exact ⟨rfl, CC.out⟩
set_option maxHeartbeats 1000000 in
theorem pmade64_96 (hs : s.Ok) (ht : t.Ok) : Calls Try.prog 33 #[.int .u8 96, .int .u64 64, .agg #[.int .u64 (s.lo : Int), .int .u64 (s.hi : Int)], .agg #[.int .u64 (t.lo : Int), .int .u64 (t.hi : Int)]] w fun x w' => x = .returned (.agg #[.int .u64 ((upS 64 s t).lo : Int), .int .u64 ((upS 64 s t).hi : Int)]) ∧ Calm w w' := by
  have K := Lib.hid (fun w => pup64_c w hs ht)
  clear hs ht
  go_enter Try.func33, Try.ntmps33
  go_wp2_with fail
  refine (K.out _).mono ?_
  rintro x w1 ⟨rfl, hc⟩
  obtain ⟨-, -, r⟩ := frame3 hc
  obtain ⟨q1, q2, q3, q4⟩ := r.two
  have C1 := Lib.hid (show Calm w w1 from Keep.trans (by repeat' first | exact Keep.refl _ _ | exact Hid.out (by assumption) | apply Keep.alloc | apply Keep.drew | apply Keep.drewN | (refine Keep.store ?_ (fun hp => absurd hp (Nat.not_lt.2 (by dsimp only; omega))) _)) hc)
  clear hc
  go_wp2_with fail
  have hR := (r.store 0 (.int .u64 ((upS 64 s t).lo : Int))).store 1 (.int .u64 ((upS 64 s t).hi : Int))
  have CC := Lib.hid (show Calm w ((w1.setCell ⟨w.heap.size + 1 + 1, 0, none⟩ (.int .u64 ((upS 64 s t).lo : Int))).setCell ⟨w.heap.size + 1 + 1, 1, none⟩ (.int .u64 ((upS 64 s t).hi : Int))) from (by repeat' first | exact Keep.refl _ _ | exact Hid.out (by assumption) | apply Keep.alloc | apply Keep.drew | apply Keep.drewN | (refine Keep.store ?_ (fun hp => absurd hp (Nat.not_lt.2 (by dsimp only; omega))) _)))
  obtain ⟨w5, h5⟩ : ∃ w5, w5 = (w1.setCell ⟨w.heap.size + 1 + 1, 0, none⟩ (.int .u64 ((upS 64 s t).lo : Int))).setCell ⟨w.heap.size + 1 + 1, 1, none⟩ (.int .u64 ((upS 64 s t).hi : Int)) := ⟨_, rfl⟩
  rw [← h5] at hR CC ⊢
  have q := Row.two (w := w5) (a := .int .u64 ((upS 64 s t).lo : Int)) (b := .int .u64 ((upS 64 s t).hi : Int)) hR
  clear h5 hR
  refine bodyPost_ret (by simp [results, Try.results33, go_sem, q.1, q.2.1]; try rfl) rfl ?_
  exact ⟨rfl, CC.out⟩
set_option maxHeartbeats 1000000 in
theorem pmade64_112 (hs : s.Ok) (ht : t.Ok) : Calls Try.prog 33 #[.int .u8 112, .int .u64 64, .agg #[.int .u64 (s.lo : Int), .int .u64 (s.hi : Int)], .agg #[.int .u64 (t.lo : Int), .int .u64 (t.hi : Int)]] w fun x w' => x = .returned (.agg #[.int .u64 ((downS 64 s t).lo : Int), .int .u64 ((downS 64 s t).hi : Int)]) ∧ Calm w w' := by
  have K := Lib.hid (fun w => pdown64_c w hs ht)
  clear hs ht
  go_enter Try.func33, Try.ntmps33
  go_wp2_with fail
  refine (K.out _).mono ?_
  rintro x w1 ⟨rfl, hc⟩
  obtain ⟨-, -, r⟩ := frame3 hc
  obtain ⟨q1, q2, q3, q4⟩ := r.two
  have C1 := Lib.hid (show Calm w w1 from Keep.trans (by repeat' first | exact Keep.refl _ _ | exact Hid.out (by assumption) | apply Keep.alloc | apply Keep.drew | apply Keep.drewN | (refine Keep.store ?_ (fun hp => absurd hp (Nat.not_lt.2 (by dsimp only; omega))) _)) hc)
  clear hc
  go_wp2_with fail
  have hR := (r.store 0 (.int .u64 ((downS 64 s t).lo : Int))).store 1 (.int .u64 ((downS 64 s t).hi : Int))
  have CC := Lib.hid (show Calm w ((w1.setCell ⟨w.heap.size + 1 + 1, 0, none⟩ (.int .u64 ((downS 64 s t).lo : Int))).setCell ⟨w.heap.size + 1 + 1, 1, none⟩ (.int .u64 ((downS 64 s t).hi : Int))) from (by repeat' first | exact Keep.refl _ _ | exact Hid.out (by assumption) | apply Keep.alloc | apply Keep.drew | apply Keep.drewN | (refine Keep.store ?_ (fun hp => absurd hp (Nat.not_lt.2 (by dsimp only; omega))) _)))
  obtain ⟨w5, h5⟩ : ∃ w5, w5 = (w1.setCell ⟨w.heap.size + 1 + 1, 0, none⟩ (.int .u64 ((downS 64 s t).lo : Int))).setCell ⟨w.heap.size + 1 + 1, 1, none⟩ (.int .u64 ((downS 64 s t).hi : Int)) := ⟨_, rfl⟩
  rw [← h5] at hR CC ⊢
  have q := Row.two (w := w5) (a := .int .u64 ((downS 64 s t).lo : Int)) (b := .int .u64 ((downS 64 s t).hi : Int)) hR
  clear h5 hR
  refine bodyPost_ret (by simp [results, Try.results33, go_sem, q.1, q.2.1]; try rfl) rfl ?_
  exact ⟨rfl, CC.out⟩
set_option maxHeartbeats 1000000 in
theorem pmade64_80 (hs : s.Ok) (ht : t.Ok) : Calls Try.prog 33 #[.int .u8 80, .int .u64 64, .agg #[.int .u64 (s.lo : Int), .int .u64 (s.hi : Int)], .agg #[.int .u64 (t.lo : Int), .int .u64 (t.hi : Int)]] w fun x w' => x = .returned (.agg #[.int .u64 (((⟨0, min s.hi t.hi⟩ : Sp)).lo : Int), .int .u64 (((⟨0, min s.hi t.hi⟩ : Sp)).hi : Int)]) ∧ Calm w w' := by
  clear hs ht
  go_enter Try.func33, Try.ntmps33
  go_wp2_with fail
  all_goals (go_returns; exact ⟨retA rfl (by show _ = ((min s.hi t.hi : Nat) : Int); omega), (by repeat' first | exact Keep.refl _ _ | exact Hid.out (by assumption) | apply Keep.alloc | apply Keep.drew | apply Keep.drewN | (refine Keep.store ?_ (fun hp => absurd hp (Nat.not_lt.2 (by dsimp only; omega))) _))⟩)
set_option maxHeartbeats 1000000 in
theorem pmade64_160 (hs : s.Ok) (ht : t.Ok) : Calls Try.prog 33 #[.int .u8 160, .int .u64 64, .agg #[.int .u64 (s.lo : Int), .int .u64 (s.hi : Int)], .agg #[.int .u64 (t.lo : Int), .int .u64 (t.hi : Int)]] w fun x w' => x = .returned (.agg #[.int .u64 (((⟨0, onesN (max s.hi t.hi)⟩ : Sp)).lo : Int), .int .u64 (((⟨0, onesN (max s.hi t.hi)⟩ : Sp)).hi : Int)]) ∧ Calm w w' := by
  have h1 := hs.h
  have h2 := ht.h
  obtain ⟨M, eM⟩ : ∃ M, M = max s.hi t.hi := ⟨_, rfl⟩
  have hM : max (s.hi : Int) (t.hi : Int) = (M : Int) := by omega
  have KO := Lib.hid (fun w => pones_c (x := M) (by omega) w)
  obtain ⟨O, eO⟩ : ∃ O, O = onesN M := ⟨_, rfl⟩
  rw [← eO] at KO
  rw [← eM, ← eO]
  clear hs ht h1 h2 eM eO
  go_enter Try.func33, Try.ntmps33
  go_wp2_with fail
  refine (KO.out _).mono ?_
  rintro x w1 ⟨rfl, rfl⟩
  go_wp2_with fail
  go_returns
  exact ⟨rfl, (by repeat' first | exact Keep.refl _ _ | exact Hid.out (by assumption) | apply Keep.alloc | apply Keep.drew | apply Keep.drewN | (refine Keep.store ?_ (fun hp => absurd hp (Nat.not_lt.2 (by dsimp only; omega))) _))⟩
set_option maxHeartbeats 1000000 in
theorem pmade64_64 (hs : s.Ok) (ht : t.Ok) : Calls Try.prog 33 #[.int .u8 64, .int .u64 64, .agg #[.int .u64 (s.lo : Int), .int .u64 (s.hi : Int)], .agg #[.int .u64 (t.lo : Int), .int .u64 (t.hi : Int)]] w fun x w' => x = .returned (.agg #[.int .u64 (((⟨max s.lo t.lo, onesN (max s.hi t.hi)⟩ : Sp)).lo : Int), .int .u64 (((⟨max s.lo t.lo, onesN (max s.hi t.hi)⟩ : Sp)).hi : Int)]) ∧ Calm w w' := by
  have h1 := hs.h
  have h2 := ht.h
  obtain ⟨M, eM⟩ : ∃ M, M = max s.hi t.hi := ⟨_, rfl⟩
  have hM : max (s.hi : Int) (t.hi : Int) = (M : Int) := by omega
  have KO := Lib.hid (fun w => pones_c (x := M) (by omega) w)
  obtain ⟨O, eO⟩ : ∃ O, O = onesN M := ⟨_, rfl⟩
  rw [← eO] at KO
  rw [← eM, ← eO]
  obtain ⟨L, eL⟩ : ∃ L, L = max s.lo t.lo := ⟨_, rfl⟩
  have hL : max (s.lo : Int) (t.lo : Int) = (L : Int) := by omega
  rw [← eL]
  clear hs ht h1 h2 eM eO eL
  go_enter Try.func33, Try.ntmps33
  go_upto_region 20 with fail
  have F := Lib.hid (F3.made w s t (.int .u64 0) (.int .u64 0))
  obtain ⟨w1, hw1⟩ : ∃ w1, w1 = ((w.alloc (.cells #[.int .u64 (s.lo : Int), .int .u64 (s.hi : Int)] 27)).alloc (.cells #[.int .u64 (t.lo : Int), .int .u64 (t.hi : Int)] 27)).alloc (.cells #[.int .u64 0, .int .u64 0] 27) := ⟨_, rfl⟩
  rw [← hw1] at F ⊢
  clear hw1
  obtain ⟨g0, h0⟩ : ∃ g, g = w.heap.size := ⟨_, rfl⟩
  rw [← h0] at F ⊢
  obtain ⟨g1, h1⟩ : ∃ g, g = g0 + 1 := ⟨_, rfl⟩
  rw [← h1] at F ⊢
  obtain ⟨g2, h2⟩ : ∃ g, g = g1 + 1 := ⟨_, rfl⟩
  rw [← h2] at F ⊢
  clear h0 h1 h2
  refine wp_region_noPanic ?_
  refine wp_region_held_drew (S := fun w' => F3 w w' g0 g1 g2 s t) (by kernel_rfl) F.out.drew (fun hHeld => ?_)
  refine take_at 0 55 (.pointer (some ⟨g0, 0, none⟩)) rfl rfl (by kernel_rfl) (by kernel_rfl) (by kernel_rfl) (fun _ _ _ h => h) (Or.inl ⟨by rfl, ?_⟩) hHeld ?_
  · intro w hSw; go_simp
  simp only [List.setIfInBounds_toArray, List.set_cons_zero, List.set_cons_succ]
  refine take_at 1 56 (.int .u64 (s.lo : Int)) rfl rfl (by kernel_rfl) (by kernel_rfl) (by kernel_rfl) (fun _ _ _ h => h) (Or.inl ⟨by rfl, ?_⟩) hHeld ?_
  · intro w hSw; have c := hSw.s.two; go_simp
  simp only [List.setIfInBounds_toArray, List.set_cons_zero, List.set_cons_succ]
  refine take_at 2 57 (.pointer (some ⟨g1, 0, none⟩)) rfl rfl (by kernel_rfl) (by kernel_rfl) (by kernel_rfl) (fun _ _ _ h => h) (Or.inl ⟨by rfl, ?_⟩) hHeld ?_
  · intro w hSw; go_simp
  simp only [List.setIfInBounds_toArray, List.set_cons_zero, List.set_cons_succ]
  refine take_at 3 58 (.int .u64 (t.lo : Int)) rfl rfl (by kernel_rfl) (by kernel_rfl) (by kernel_rfl) (fun _ _ _ h => h) (Or.inl ⟨by rfl, ?_⟩) hHeld ?_
  · intro w hSw; have c := hSw.t.two; go_simp
  simp only [List.setIfInBounds_toArray, List.set_cons_zero, List.set_cons_succ]
  refine take_at 4 59 (.int .u64 (L : Int)) rfl rfl (by kernel_rfl) (by kernel_rfl) (by kernel_rfl) (fun _ _ _ h => h) (Or.inl ⟨by rfl, ?_⟩) hHeld ?_
  · intro w hSw; go_simp
  simp only [List.setIfInBounds_toArray, List.set_cons_zero, List.set_cons_succ]
  refine take_at 5 60 (.pointer (some ⟨g0, 1, none⟩)) rfl rfl (by kernel_rfl) (by kernel_rfl) (by kernel_rfl) (fun _ _ _ h => h) (Or.inl ⟨by rfl, ?_⟩) hHeld ?_
  · intro w hSw; go_simp
  simp only [List.setIfInBounds_toArray, List.set_cons_zero, List.set_cons_succ]
  refine take_at 6 61 (.int .u64 (s.hi : Int)) rfl rfl (by kernel_rfl) (by kernel_rfl) (by kernel_rfl) (fun _ _ _ h => h) (Or.inl ⟨by rfl, ?_⟩) hHeld ?_
  · intro w hSw; have c := hSw.s.two; go_simp
  simp only [List.setIfInBounds_toArray, List.set_cons_zero, List.set_cons_succ]
  refine take_at 7 62 (.pointer (some ⟨g1, 1, none⟩)) rfl rfl (by kernel_rfl) (by kernel_rfl) (by kernel_rfl) (fun _ _ _ h => h) (Or.inl ⟨by rfl, ?_⟩) hHeld ?_
  · intro w hSw; go_simp
  simp only [List.setIfInBounds_toArray, List.set_cons_zero, List.set_cons_succ]
  refine take_at 8 63 (.int .u64 (t.hi : Int)) rfl rfl (by kernel_rfl) (by kernel_rfl) (by kernel_rfl) (fun _ _ _ h => h) (Or.inl ⟨by rfl, ?_⟩) hHeld ?_
  · intro w hSw; have c := hSw.t.two; go_simp
  simp only [List.setIfInBounds_toArray, List.set_cons_zero, List.set_cons_succ]
  refine take_at 9 64 (.int .u64 (M : Int)) rfl rfl (by kernel_rfl) (by kernel_rfl) (by kernel_rfl) (fun _ _ _ h => h) (Or.inl ⟨by rfl, ?_⟩) hHeld ?_
  · intro w hSw; go_simp
  simp only [List.setIfInBounds_toArray, List.set_cons_zero, List.set_cons_succ]
  refine wpAnyH_ready (rs := [10]) (by kernel_rfl) (by simp) ?_
  refine AllReadyH.cons rfl (fun K hK => ?_) AllReadyH.nil
  go_simp
  refine (KO.out _).mono ?_
  rintro e w3 ⟨rfl, rfl⟩
  refine hK.out _ _ hHeld (fun hHeld => ?_)
  clear hK K
  try simp only [List.setIfInBounds_toArray, List.set_cons_zero, List.set_cons_succ]
  refine take_at 11 66 (.agg #[.int .u64 (L : Int), .int .u64 (O : Int)]) rfl rfl (by kernel_rfl) (by kernel_rfl) (by kernel_rfl) (fun _ _ _ h => h) (Or.inl ⟨by rfl, ?_⟩) hHeld ?_
  · intro w hSw; go_simp
  simp only [List.setIfInBounds_toArray, List.set_cons_zero, List.set_cons_succ]
  obtain ⟨x, y, hrow⟩ := hHeld.o
  obtain ⟨w2, hw2⟩ : ∃ w2, w2 = w1.drew := ⟨_, rfl⟩
  rw [← hw2] at hrow hHeld ⊢
  clear hw2
  have d := hrow.two
  refine wpAnyH_ready (rs := [12]) (by kernel_rfl) (by simp) ?_
  refine AllReadyH.cons rfl (fun K hK => ?_) AllReadyH.nil
  go_simp
  refine hK.out _ _ (hHeld.put _ _) (fun hHeld => ?_)
  clear hK K
  try simp only [List.setIfInBounds_toArray, List.set_cons_zero, List.set_cons_succ]
  refine wpAnyH_done (by kernel_rfl) (NoPanic.normal ?_) _
  have hR := hrow.both (x := .int .u64 (L : Int)) (y := .int .u64 (O : Int))
  obtain ⟨w5, h5⟩ : ∃ w5, w5 = (w2.setCell ⟨g2, 0, none⟩ (.int .u64 (L : Int))).setCell ⟨g2, 1, none⟩ (.int .u64 (O : Int)) := ⟨_, rfl⟩
  rw [← h5] at hR hHeld ⊢
  have q := hR.two
  clear h5 hR hrow d
  have C := Lib.hid hHeld.cal
  clear hHeld
  obtain ⟨q1, q2, q3, q4⟩ := q
  go_wp2_with fail
  refine bodyPost_ret (by simp [results, Try.results33, go_sem, q1, q2]; try rfl) rfl ?_
  exact ⟨rfl, C.out⟩
set_option maxHeartbeats 1000000 in
theorem pmade64_192 (hs : s.Ok) (ht : t.Ok) : Calls Try.prog 33 #[.int .u8 192, .int .u64 64, .agg #[.int .u64 (s.lo : Int), .int .u64 (s.hi : Int)], .agg #[.int .u64 (t.lo : Int), .int .u64 (t.hi : Int)]] w fun x w' => x = .returned (.agg #[.int .u64 (((if s.hi < 2 ^ 63 then downS 64 s t else allS)).lo : Int), .int .u64 (((if s.hi < 2 ^ 63 then downS 64 s t else allS)).hi : Int)]) ∧ Calm w w' := by
  have K := Lib.hid (fun w => pdown64_c w hs ht)
  by_cases h : s.hi < 9223372036854775808
  · rw [if_pos (show s.hi < 2 ^ 63 from h)]
    have e : (s.hi : Int) / 9223372036854775808 = 0 := by omega
    clear hs ht h
    go_enter Try.func33, Try.ntmps33
    go_wp2_with fail
    refine (K.out _).mono ?_
    rintro x w1 ⟨rfl, hc⟩
    obtain ⟨-, -, r⟩ := frame3 hc
    obtain ⟨q1, q2, q3, q4⟩ := r.two
    have C1 := Lib.hid (show Calm w w1 from Keep.trans (by repeat' first | exact Keep.refl _ _ | exact Hid.out (by assumption) | apply Keep.alloc | apply Keep.drew | apply Keep.drewN | (refine Keep.store ?_ (fun hp => absurd hp (Nat.not_lt.2 (by dsimp only; omega))) _)) hc)
    clear hc
    go_wp2_with fail
    have hR := (r.store 0 (.int .u64 ((downS 64 s t).lo : Int))).store 1 (.int .u64 ((downS 64 s t).hi : Int))
    have CC := Lib.hid (show Calm w ((w1.setCell ⟨w.heap.size + 1 + 1, 0, none⟩ (.int .u64 ((downS 64 s t).lo : Int))).setCell ⟨w.heap.size + 1 + 1, 1, none⟩ (.int .u64 ((downS 64 s t).hi : Int))) from (by repeat' first | exact Keep.refl _ _ | exact Hid.out (by assumption) | apply Keep.alloc | apply Keep.drew | apply Keep.drewN | (refine Keep.store ?_ (fun hp => absurd hp (Nat.not_lt.2 (by dsimp only; omega))) _)))
    obtain ⟨w5, h5⟩ : ∃ w5, w5 = (w1.setCell ⟨w.heap.size + 1 + 1, 0, none⟩ (.int .u64 ((downS 64 s t).lo : Int))).setCell ⟨w.heap.size + 1 + 1, 1, none⟩ (.int .u64 ((downS 64 s t).hi : Int)) := ⟨_, rfl⟩
    rw [← h5] at hR CC ⊢
    have q := Row.two (w := w5) (a := .int .u64 ((downS 64 s t).lo : Int)) (b := .int .u64 ((downS 64 s t).hi : Int)) hR
    clear h5 hR
    refine bodyPost_ret (by simp [results, Try.results33, go_sem, q.1, q.2.1]; try rfl) rfl ?_
    exact ⟨rfl, CC.out⟩
  · rw [if_neg (show ¬ s.hi < 2 ^ 63 from h)]
    obtain ⟨q, hq⟩ : ∃ q, q = s.hi / 9223372036854775808 := ⟨_, rfl⟩
    have e : (s.hi : Int) / 9223372036854775808 = (q : Int) := by omega
    have n : ((q : Int) != 0) = true := by simp; omega
    clear hs ht h hq
    go_enter Try.func33, Try.ntmps33
    go_wp2_with fail
    refine (pall_c _).mono ?_
    rintro x w1 ⟨rfl, rfl⟩
    go_wp2_with fail
    go_returns
    exact ⟨rfl, (by repeat' first | exact Keep.refl _ _ | exact Hid.out (by assumption) | apply Keep.alloc | apply Keep.drew | apply Keep.drewN | (refine Keep.store ?_ (fun hp => absurd hp (Nat.not_lt.2 (by dsimp only; omega))) _))⟩
set_option maxHeartbeats 1000000 in
theorem pmade64_176 (hs : s.Ok) (ht : t.Ok) : Calls Try.prog 33 #[.int .u8 176, .int .u64 64, .agg #[.int .u64 (s.lo : Int), .int .u64 (s.hi : Int)], .agg #[.int .u64 (t.lo : Int), .int .u64 (t.hi : Int)]] w fun x w' => x = .returned (.agg #[.int .u64 (t.lo : Int), .int .u64 (t.hi : Int)]) ∧ Calm w w' := by
  clear hs ht
  go_enter Try.func33, Try.ntmps33
  go_wp2_with fail
  go_returns
  exact ⟨rfl, (by repeat' first | exact Keep.refl _ _ | exact Hid.out (by assumption) | apply Keep.alloc | apply Keep.drew | apply Keep.drewN | (refine Keep.store ?_ (fun hp => absurd hp (Nat.not_lt.2 (by dsimp only; omega))) _))⟩
set_option maxHeartbeats 1000000 in
theorem pmade64_no {op : Nat} (h0 : ¬ op = 0) (h16 : ¬ op = 16) (h32 : ¬ op = 32) (h48 : ¬ op = 48) (h144 : ¬ op = 144) (h80 : ¬ op = 80) (h64 : ¬ op = 64) (h160 : ¬ op = 160) (h96 : ¬ op = 96) (h192 : ¬ op = 192) (h112 : ¬ op = 112) (h176 : ¬ op = 176) : Calls Try.prog 33 #[.int .u8 (op : Int), .int .u64 64, .agg #[.int .u64 (s.lo : Int), .int .u64 (s.hi : Int)], .agg #[.int .u64 (t.lo : Int), .int .u64 (t.hi : Int)]] w fun x w' => x = .returned (.agg #[.int .u64 (allS.lo : Int), .int .u64 (allS.hi : Int)]) ∧ Calm w w' := by
  have i0 : ((op : Int) == 0) = false := by simp; omega
  have i16 : ((op : Int) == 16) = false := by simp; omega
  have i32 : ((op : Int) == 32) = false := by simp; omega
  have i48 : ((op : Int) == 48) = false := by simp; omega
  have i144 : ((op : Int) == 144) = false := by simp; omega
  have i80 : ((op : Int) == 80) = false := by simp; omega
  have i64 : ((op : Int) == 64) = false := by simp; omega
  have i160 : ((op : Int) == 160) = false := by simp; omega
  have i96 : ((op : Int) == 96) = false := by simp; omega
  have i192 : ((op : Int) == 192) = false := by simp; omega
  have i112 : ((op : Int) == 112) = false := by simp; omega
  have i176 : ((op : Int) == 176) = false := by simp; omega
  clear h0 h16 h32 h48 h144 h80 h64 h160 h96 h192 h112 h176
  go_enter Try.func33, Try.ntmps33
  go_wp2_with fail
  refine (pall_c _).mono ?_
  rintro x w1 ⟨rfl, rfl⟩
  go_wp2_with fail
  go_returns
  exact ⟨rfl, (by repeat' first | exact Keep.refl _ _ | exact Hid.out (by assumption) | apply Keep.alloc | apply Keep.drew | apply Keep.drewN | (refine Keep.store ?_ (fun hp => absurd hp (Nat.not_lt.2 (by dsimp only; omega))) _))⟩
theorem pmade64_c {op : Nat} (hs : s.Ok) (ht : t.Ok) : Calls Try.prog 33 #[.int .u8 (op : Int), .int .u64 64, .agg #[.int .u64 (s.lo : Int), .int .u64 (s.hi : Int)], .agg #[.int .u64 (t.lo : Int), .int .u64 (t.hi : Int)]] w fun x w' => x = .returned (.agg #[.int .u64 ((madeS 64 op s t).lo : Int), .int .u64 ((madeS 64 op s t).hi : Int)]) ∧ Calm w w' := by
  unfold madeS
  by_cases h0 : op = 0
  · subst h0; exact pmade64_0 w hs ht
  rw [if_neg h0]
  by_cases h16 : op = 16
  · subst h16; exact pmade64_16 w hs ht
  rw [if_neg h16]
  by_cases h32 : op = 32
  · subst h32; exact pmade64_32 w hs ht
  rw [if_neg h32]
  by_cases h48 : op = 48
  · subst h48; exact pmade64_48 w hs ht
  rw [if_neg h48]
  by_cases h64 : op = 64
  · subst h64; exact pmade64_64 w hs ht
  rw [if_neg h64]
  by_cases h80 : op = 80
  · subst h80; exact pmade64_80 w hs ht
  rw [if_neg h80]
  by_cases h96 : op = 96
  · subst h96; exact pmade64_96 w hs ht
  rw [if_neg h96]
  by_cases h112 : op = 112
  · subst h112; exact pmade64_112 w hs ht
  rw [if_neg h112]
  by_cases h144 : op = 144
  · subst h144; exact pmade64_144 w hs ht
  rw [if_neg h144]
  by_cases h160 : op = 160
  · subst h160; exact pmade64_160 w hs ht
  rw [if_neg h160]
  by_cases h176 : op = 176
  · subst h176; exact pmade64_176 w hs ht
  rw [if_neg h176]
  by_cases h192 : op = 192
  · subst h192; exact pmade64_192 w hs ht
  rw [if_neg h192]
  exact pmade64_no w h0 h16 h32 h48 h144 h80 h64 h160 h96 h192 h112 h176
end

end Go.Proofs.Ytboiakahhkihiaa
