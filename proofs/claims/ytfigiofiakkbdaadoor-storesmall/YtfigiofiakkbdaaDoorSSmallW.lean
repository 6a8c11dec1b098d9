/-
  StoreSmall, walked.
-/
import Derived.Test.YtfigiofiakkbdaaDoorS11
namespace Go.Proofs.YtfigiofiakkbdaaDoor
open Go.RowKit
set_option linter.all false

theorem zeros_not_beg (n : Nat) : replay (List.replicate n 0) = none := by
  apply replay_none
  unfold isBeg
  rw [List.take_replicate, num_rep0]
  simp
set_option maxRecDepth 100000 in
set_option maxHeartbeats 8000000 in
theorem ssmall_w (w : World) (hT : Tab w) (a0 : Int) :
    Calls Tryd.prog 6 #[.int .i64 a0] w fun e w' => e = .returned (.bool true) ∧ Calm w w' := by
  obtain ⟨r0, b0, m0⟩ := mask_nat a0 16 65535 (by omega) (by decide)
  have SH := Lib.hid (shown4_c w hT)
  have HT := Lib.hid hT
  obtain ⟨n, hn⟩ : ∃ n : Nat, n = 1 + r0 % 10 := ⟨_, rfl⟩
  have hn1 : 1 ≤ n ∧ n ≤ 10 := by omega
  have hn' : (1 : Int) + (r0 : Int) % 10 = (n : Int) := by omega
  clear hT hn
  go_enter Tryd.func6, Tryd.ntmps6
  go_wp2_with fail
  refine SH.out.mono ?_
  rintro e w1 ⟨rfl, c1⟩
  have C1 := Lib.hid c1
  have T1 := Lib.hid (HT.out.calm c1)
  have N := Lib.hid (new_up w1 n (by omega) (by omega))
  clear c1 SH
  go_wp2_with fail
  try rw [hn']
  clear m0 hn'
  refine N.out.mono ?_
  rintro e w2 ⟨R2, d, S2, rfl, h2, u2, s2, e2, o2, -⟩
  have H2 := Lib.hid h2
  have U2 := Lib.hid (And.intro u2 (And.intro s2 (And.intro e2 o2)))
  clear N h2 u2 s2 e2 o2
  by_cases h4 : n < 4
  · have i4 : decide ((n : Int) < 4) = true := decide_eq_true (by omega)
    have OS := Lib.hid (sopen_small H2.out U2.out.2.1.1 h4)
    go_wp2_with fail
    refine OS.out.mono ?_
    rintro e w3 ⟨rfl, c3⟩
    have FS := Lib.hid (sformat_small (H2.out.rest c3) U2.out.2.1.1 h4)
    have C3 := Lib.hid c3
    clear c3 OS
    go_wp2_with fail
    refine FS.out.mono ?_
    rintro e w4 ⟨rfl, c4⟩
    have C4 := Lib.hid c4
    clear c4 FS
    go_wp2_with fail
    go_ret
    exact ⟨rfl, C1.out.trans (H2.out.st.calm.trans (C3.out.trans C4.out))⟩
  have i4 : decide ((n : Int) < 4) = false := decide_eq_false (by omega)
  have OP := Lib.hid (sopen_c T1.out H2.out U2.out.2.1.1 (by omega) rfl (by unfold DS.fine; rw [U2.out.2.2.1, U2.out.2.2.2]; simp; omega))
  go_wp2_with fail
  refine OP.out.mono ?_
  rintro e w3 ⟨R3, S3, hx3, hk3, hs3, hcase⟩
  have hA0 : replay (areaB S2 (0 * (n / 2)) (n / 2)) = none := by rw [Nat.zero_mul, U2.out.2.1.area 0 (n / 2) (by omega), areaC_zeros]; exact zeros_not_beg _
  obtain ⟨q, rfl, rfl, hq⟩ : ∃ q, S3 = S2.more q ∧ e = .returned (.tuple #[.pointer none, .int .i64 2]) ∧ q ≤ n := by
    rcases hcase with ⟨cc, ⟨k, hk2, ⟨a1, _⟩ | ⟨a1, a2, rfl⟩⟩, rfl⟩ | ⟨Sa, J, out, cc, ⟨k, n', used, b1, b2, b3, b4, b5⟩, -⟩ | ⟨Sa, J0, out0, J1, out1, sb, ja, jb, T, ⟨k0, n0', used0, b1, b2, b3, b4⟩, -⟩
    · rw [U2.out.1.rds] at a1; cases a1
    · rw [U2.out.1.rds] at a1
      injection a1 with _ a1
      exact ⟨k, a1.symm, rfl, by omega⟩
    · rw [hA0] at b3; cases b3
    · rw [hA0] at b3; cases b3
  have H3 := Lib.hid hs3
  have FM := Lib.hid (su_format T1.out hs3 (U2.out.1.more q) (U2.out.2.1.more q) U2.out.2.2.1 (by show S2.ops + q ≤ _; rw [U2.out.2.2.2]; omega) (by omega))
  have O3 : Hid ((S2.more q).ops ≤ 10) := Lib.hid (by show S2.ops + q ≤ _; rw [U2.out.2.2.2]; omega)
  clear hx3 hk3 hs3 hcase hA0 OP
  go_wp2_with fail
  refine FM.out.mono ?_
  rintro e w4 ⟨R4, T4, S4, sb, σ4, rfl, -, -, -, h4s, o4, l1, l2, k4⟩
  have O4 : Hid (S4.ops ≤ 14) := Lib.hid (by have := O3.out; omega)
  have OP := Lib.hid (su_open T1.out h4s.sto.sd h4s.up h4s.sh h4s.wait h4s.n4 (by omega) h4s.a.hf h4s.b.hf (by omega) (by omega) (by have := O4.out; omega))
  clear FM h4s o4 l1 l2 k4
  go_wp2_with fail
  refine OP.out.mono ?_
  rintro e w5 ⟨R5, T5, sb5, σ5, q5, l0, u0, l1, u1, rfl, hq5, -, -, -, h5, -, a1, a2, -, a3, a4⟩
  have k5 : σ5.kept = none := by rw [h5.kept]; rfl
  have RM := Lib.hid (sroom_c h5.sto.sm (by rw [h5.hh]; omega) (by rw [h5.hh]; omega))
  have H5 := Lib.hid h5
  have P5 : Hid (σ5.kept = none ∧ (S4.more q5).ops ≤ 30 ∧ σ5.A.last ≤ 100 ∧ σ5.h = n / 2) := Lib.hid ⟨k5, by show S4.ops + q5 ≤ _; have := O4.out; omega, by omega, h5.hh⟩
  obtain ⟨m, hm⟩ : ∃ m : Nat, m = (n / 2 - 1) * 512 - 24 := ⟨_, rfl⟩
  have hm' : ((σ5.h : Int) - 1) * 512 - 24 = (m : Int) := by rw [h5.hh, hm]; omega
  have hm2 : m ≤ 3000 := by omega
  have hmi : (m : Int) ≤ 3000 := by omega
  have HM := Lib.hid hm'
  rw [hm'] at RM
  clear OP h5 a1 a2 a3 a4 k5 hm hm'
  have q6 := run_make8 w5 m (by omega)
  have C6 : Calm w5 (w5.alloc (.cells (zeros8 m) 5)) := (Keep.refl _ w5).alloc _
  have R6 := (Own.zeros w5 m (by omega)).rd ⟨_, _, _, rfl⟩
  have z5 := other0 P5.out.1
  have y5 := count0 P5.out.1
  have SV := Lib.hid (su_save T1.out (H5.out.rest C6) (by omega) _ (List.replicate m 0) R6 (by rw [HM.out]; simp) (by rw [y5]; omega) (by rw [z5, J_zero]; have := P5.out.2.2.1; omega) (by have := P5.out.2.1; simp [secsOf]; omega))
  clear R6 z5 y5 C6
  go_wp2_with (go_at_call 21; refine RM.out.mono ?_; rintro e w6 ⟨rfl, rfl⟩)
  refine SV.out.mono ?_
  rintro e w7 ⟨R7, T7, S7, rfl, -, -, -, o7, h7⟩
  obtain ⟨c7, ka7, oa7, kb7, ob7, h7⟩ : ∃ c ka oa kb ob, Su w1 w7 R7 T7 d sb5 S7 (σ5.saved (List.replicate m 0)) n c ka oa kb ob := by
    rcases h7 with ⟨-, h7⟩ | ⟨-, h7⟩
    · exact ⟨_, _, _, _, _, h7⟩
    · exact ⟨_, _, _, _, _, h7⟩
  have H7 := Lib.hid h7
  clear SV o7 h7 q6
  have q8 := run_make8 w7 (m + 1) (by omega)
  rw [show ((m + 1 : Nat) : Int) = (m : Int) + 1 by omega] at q8
  have C8 : Calm w7 (w7.alloc (.cells (zeros8 (m + 1)) 5)) := (Keep.refl _ w7).alloc _
  have h8 := H7.out.rest C8
  have hh8 : (σ5.saved (List.replicate m 0)).h = n / 2 := h8.hh
  have FU := Lib.hid (ssave_full h8.sto.sm (by rw [hh8]; omega) (by rw [hh8]; omega) (some ⟨w7.heap.size, 0, none⟩) (m + 1) (m + 1) (by rw [hh8, ← P5.out.2.2.2, HM.out]; omega))
  have LD := Lib.hid (sload_some h8.sto.sm (saved_kept σ5 (List.replicate m 0)) (by simp; omega))
  have H8 := Lib.hid h8
  clear C8 h8 hh8
  go_wp2_with fail
  refine FU.out.mono ?_
  rintro e w9 ⟨rfl, rfl⟩
  clear FU q8
  go_wp2_with fail
  refine LD.out.mono ?_
  rintro e w10 ⟨A, cap, rfl, -, c10⟩
  have C10 := Lib.hid (H8.out.calm.trans c10)
  clear c10 LD
  rw [List.length_replicate]
  go_wp2_with fail
  go_ret
  exact ⟨rfl, C1.out.trans C10.out⟩
end Go.Proofs.YtfigiofiakkbdaaDoor
