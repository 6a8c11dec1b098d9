/-
  The walk of IsaKnows.
-/
import Derived.Test.YtohnemcdldpgaaaIS
import Derived.Test.YtohnemcdldpgaaaR5K
namespace Go.Proofs.Ytohnemcdldpgaaa
open Go.RowKit
set_option linter.all false

theorem Row.box {w : World} {g op b c : Nat} {d e : Int} (h : Row w g 24 #[.int .u8 (op : Int), .int .u8 (b : Int), .int .u8 (c : Int), .int .i16 d, .int .i32 e]) : Box w g op b c d e := ⟨h.cell 0, h.cell 1, h.cell 2, h.cell 3, h.cell 4⟩
set_option maxHeartbeats 6400000 in
theorem isaKnows_c (op b c : Nat) (d e : Int) (ho : op < 256) (w : World) : Calls Try.prog 3 #[.agg #[.int .u8 (op : Int), .int .u8 (b : Int), .int .u8 (c : Int), .int .i16 d, .int .i32 e]] w fun x w' => x = .returned (.bool true) ∧ Calm w w' := by
  have KC := Lib.hid (fun w => known_c (op := op) b c d e w ho)
  have RC := Lib.hid (fun w => rknown_c (op := op) b c d e w ho)
  have WC := Lib.hid (fun w => wide_c (op := op) b c d e w)
  obtain ⟨K, hK⟩ : ∃ K, K = knownO op b c d e := ⟨_, rfl⟩
  rw [← hK] at KC RC
  clear hK
  obtain ⟨X, hX⟩ : ∃ X, X = decide (op = 24) := ⟨_, rfl⟩
  have h24 : ((op : Int) == 24) = X := by rw [hX]; by_cases h : op = 24 <;> simp [h] <;> omega
  rw [← hX] at WC
  clear hX
  have R0 : Hid (Row (w.alloc (.cells #[.int .u8 (op : Int), .int .u8 (b : Int), .int .u8 (c : Int), .int .i16 d, .int .i32 e] 24)) w.heap.size 24 #[.int .u8 (op : Int), .int .u8 (b : Int), .int .u8 (c : Int), .int .i16 d, .int .i32 e]) := Lib.hid (Row.made w _ _)
  have C0 : Hid (Calm w (w.alloc (.cells #[.int .u8 (op : Int), .int .u8 (b : Int), .int .u8 (c : Int), .int .i16 d, .int .i32 e] 24))) := Lib.hid ((Keep.refl _ w).alloc _)
  clear ho
  go_enter Try.func3, Try.ntmps3
  go_wp2_with fail
  refine (shown5_c _).mono ?_
  rintro e' w1 ⟨rfl, hc1⟩
  have C1 := Lib.hid (C0.out.trans hc1)
  have R1 := Lib.hid (R0.out.keep hc1 (fun e => e))
  obtain ⟨g, hg⟩ : ∃ g, g = w.heap.size := ⟨_, rfl⟩
  have HG := Lib.hid hg
  rw [← hg] at R1 ⊢
  clear hc1 hg R0 C0
  go_upto_region 2 with fail
  refine wp_region_noPanic ?_
  refine wp_region_held_drew (S := fun w' => Calm w w' ∧ Row w' g 24 #[.int .u8 (op : Int), .int .u8 (b : Int), .int .u8 (c : Int), .int .i16 d, .int .i32 e]) (by kernel_rfl) ⟨C1.out.drew, R1.out.drew⟩ (fun hHeld => ?_)
  refine take_at 0 6 (.agg #[.int .u8 (op : Int), .int .u8 (b : Int), .int .u8 (c : Int), .int .i16 d, .int .i32 e]) rfl rfl (by kernel_rfl) (by kernel_rfl) (by kernel_rfl) (fun _ _ _ h => h) (Or.inl ⟨by rfl, ?_⟩) hHeld ?_
  · intro w hSw; have hb := hSw.2.box; obtain ⟨c0, c1, c2, c3, c4⟩ := hb; go_simp
  simp only [List.setIfInBounds_toArray, List.set_cons_zero, List.set_cons_succ]
  refine take_at 2 8 (.agg #[.int .u8 (op : Int), .int .u8 (b : Int), .int .u8 (c : Int), .int .i16 d, .int .i32 e]) rfl rfl (by kernel_rfl) (by kernel_rfl) (by kernel_rfl) (fun _ _ _ h => h) (Or.inl ⟨by rfl, ?_⟩) hHeld ?_
  · intro w hSw; have hb := hSw.2.box; obtain ⟨c0, c1, c2, c3, c4⟩ := hb; go_simp
  simp only [List.setIfInBounds_toArray, List.set_cons_zero, List.set_cons_succ]
  refine wpAnyH_ready (rs := [1]) (by kernel_rfl) (by simp) ?_
  refine AllReadyH.cons rfl (fun K hK => ?_) AllReadyH.nil
  go_simp
  refine (KC.out _).mono ?_
  rintro e' wa ⟨rfl, hc⟩
  refine hK.out _ _ ⟨hHeld.1.trans hc, hHeld.2.keep hc (fun e => e)⟩ (fun hHeld => ?_)
  clear hK K
  try simp only [List.setIfInBounds_toArray, List.set_cons_zero, List.set_cons_succ]
  refine wpAnyH_ready (rs := [3]) (by kernel_rfl) (by simp) ?_
  refine AllReadyH.cons rfl (fun K hK => ?_) AllReadyH.nil
  go_simp
  refine (RC.out _).mono ?_
  rintro e' wb ⟨rfl, hc⟩
  refine hK.out _ _ ⟨hHeld.1.trans hc, hHeld.2.keep hc (fun e => e)⟩ (fun hHeld => ?_)
  clear hK K
  try simp only [List.setIfInBounds_toArray, List.set_cons_zero, List.set_cons_succ]
  refine take_at 4 10 (.bool false) rfl rfl (by kernel_rfl) (by kernel_rfl) (by kernel_rfl) (fun _ _ _ h => h) (Or.inl ⟨by rfl, ?_⟩) hHeld ?_
  · intro w hSw; go_simp
  simp only [List.setIfInBounds_toArray, List.set_cons_zero, List.set_cons_succ]
  refine take_at 5 11 (.bool false) rfl rfl (by kernel_rfl) (by kernel_rfl) (by kernel_rfl) (fun _ _ _ h => h) (Or.inl ⟨by rfl, ?_⟩) hHeld ?_
  · intro w hSw; go_simp
  simp only [List.setIfInBounds_toArray, List.set_cons_zero, List.set_cons_succ]
  refine take_at 6 12 (.agg #[.int .u8 (op : Int), .int .u8 (b : Int), .int .u8 (c : Int), .int .i16 d, .int .i32 e]) rfl rfl (by kernel_rfl) (by kernel_rfl) (by kernel_rfl) (fun _ _ _ h => h) (Or.inl ⟨by rfl, ?_⟩) hHeld ?_
  · intro w hSw; have hb := hSw.2.box; obtain ⟨c0, c1, c2, c3, c4⟩ := hb; go_simp
  simp only [List.setIfInBounds_toArray, List.set_cons_zero, List.set_cons_succ]
  refine take_at 8 14 (.pointer (some ⟨g, 0, none⟩)) rfl rfl (by kernel_rfl) (by kernel_rfl) (by kernel_rfl) (fun _ _ _ h => h) (Or.inl ⟨by rfl, ?_⟩) hHeld ?_
  · intro w hSw; go_simp
  simp only [List.setIfInBounds_toArray, List.set_cons_zero, List.set_cons_succ]
  refine take_at 9 15 (.int .u8 (op : Int)) rfl rfl (by kernel_rfl) (by kernel_rfl) (by kernel_rfl) (fun _ _ _ h => h) (Or.inl ⟨by rfl, ?_⟩) hHeld ?_
  · intro w hSw; have hb := hSw.2.box; obtain ⟨c0, c1, c2, c3, c4⟩ := hb; go_simp
  simp only [List.setIfInBounds_toArray, List.set_cons_zero, List.set_cons_succ]
  refine take_at 10 16 (.bool X) rfl rfl (by kernel_rfl) (by kernel_rfl) (by kernel_rfl) (fun _ _ _ h => h) (Or.inl ⟨by rfl, ?_⟩) hHeld ?_
  · intro w hSw; go_simp
  simp only [List.setIfInBounds_toArray, List.set_cons_zero, List.set_cons_succ]
  refine wpAnyH_ready (rs := [7]) (by kernel_rfl) (by simp) ?_
  refine AllReadyH.cons rfl (fun K hK => ?_) AllReadyH.nil
  go_simp
  refine (WC.out _).mono ?_
  rintro e' wc ⟨rfl, hc⟩
  refine hK.out _ _ ⟨hHeld.1.trans hc, hHeld.2.keep hc (fun e => e)⟩ (fun hHeld => ?_)
  clear hK K
  try simp only [List.setIfInBounds_toArray, List.set_cons_zero, List.set_cons_succ]
  refine take_at 11 17 (.bool false) rfl rfl (by kernel_rfl) (by kernel_rfl) (by kernel_rfl) (fun _ _ _ h => h) (Or.inl ⟨by rfl, ?_⟩) hHeld ?_
  · intro w hSw; go_simp
  simp only [List.setIfInBounds_toArray, List.set_cons_zero, List.set_cons_succ]
  refine take_at 12 18 (.bool false) rfl rfl (by kernel_rfl) (by kernel_rfl) (by kernel_rfl) (fun _ _ _ h => h) (Or.inl ⟨by rfl, ?_⟩) hHeld ?_
  · intro w hSw; go_simp
  simp only [List.setIfInBounds_toArray, List.set_cons_zero, List.set_cons_succ]
  refine wpAnyH_done (by kernel_rfl) (NoPanic.normal ?_) _
  have C3 := Lib.hid hHeld.1
  have R3 := Lib.hid hHeld.2
  clear hHeld KC RC WC h24
  go_wp2_with fail
  go_loopw [4] (fun i wr => ∃ k : Nat, k ≤ 256 ∧ i = .int .i64 k ∧ Calm w wr ∧ ∃ op' : Nat, Row wr g 24 #[.int .u8 (op' : Int), .int .u8 (b : Int), .int .u8 (c : Int), .int .i16 d, .int .i32 e]) (fun i _ => 256 - (intOf i).toNat)
  case atStart => exact ⟨0, by omega, rfl, C3.out, op, R3.out⟩
  case round =>
    obtain ⟨k, hk, rfl, hcal, op', hrow⟩ := hrel
    have HC := Lib.hid hcal
    have HR := Lib.hid hrow
    clear hcal
    by_cases hlt : k < 256
    · have i1 : (k : Int) < 256 := by omega
      have c0 : wr.cell? ⟨g, 0, none⟩ = some (.int .u8 (op' : Int)) := hrow.cell 0
      have f0 : ∀ i, wr.frozen? ⟨g, i, none⟩ = false := fun i => hrow.soft i
      have KC := Lib.hid (fun w => known_c (op := k) b c d e w hlt)
      have RC := Lib.hid (fun w => rknown_c (op := k) b c d e w hlt)
      obtain ⟨K2, hK2⟩ : ∃ K, K = knownO k b c d e := ⟨_, rfl⟩
      rw [← hK2] at KC RC
      have hst : Row (wr.setCell ⟨g, 0, none⟩ (.int .u8 (k : Int))) g 24 #[.int .u8 (k : Int), .int .u8 (b : Int), .int .u8 (c : Int), .int .i16 d, .int .i32 e] := hrow.store 0 (.int .u8 (k : Int))
      have HS := Lib.hid hst
      have HC2 : Hid (Calm w (wr.setCell ⟨g, 0, none⟩ (.int .u8 (k : Int)))) := Lib.hid (HC.out.store (p := ⟨g, 0, none⟩) (fun e => absurd e (by show ¬ g < _; rw [HG.out]; exact Nat.lt_irrefl _)) _)
      clear hK2 hrow hst
      go_upto_region 8 with fail
      clear c0 f0
      obtain ⟨w5, hw5⟩ : ∃ w5, w5 = wr.setCell ⟨g, 0, none⟩ (.int .u8 (k : Int)) := ⟨_, rfl⟩
      rw [← hw5] at HS HC2 ⊢
      clear hw5
      refine wp_region_noPanic ?_
      refine wp_region_held_drew (S := fun w' => Calm w w' ∧ Row w' g 24 #[.int .u8 (k : Int), .int .u8 (b : Int), .int .u8 (c : Int), .int .i16 d, .int .i32 e]) (by kernel_rfl) ⟨HC2.out.drew, HS.out.drew⟩ (fun hHeld => ?_)
      refine take_at 0 26 (.agg #[.int .u8 (k : Int), .int .u8 (b : Int), .int .u8 (c : Int), .int .i16 d, .int .i32 e]) rfl rfl (by kernel_rfl) (by kernel_rfl) (by kernel_rfl) (fun _ _ _ h => h) (Or.inl ⟨by rfl, ?_⟩) hHeld ?_
      · intro w hSw; have hb := hSw.2.box; obtain ⟨c0, c1, c2, c3, c4⟩ := hb; go_simp
      simp only [List.setIfInBounds_toArray, List.set_cons_zero, List.set_cons_succ]
      refine take_at 2 28 (.agg #[.int .u8 (k : Int), .int .u8 (b : Int), .int .u8 (c : Int), .int .i16 d, .int .i32 e]) rfl rfl (by kernel_rfl) (by kernel_rfl) (by kernel_rfl) (fun _ _ _ h => h) (Or.inl ⟨by rfl, ?_⟩) hHeld ?_
      · intro w hSw; have hb := hSw.2.box; obtain ⟨c0, c1, c2, c3, c4⟩ := hb; go_simp
      simp only [List.setIfInBounds_toArray, List.set_cons_zero, List.set_cons_succ]
      refine wpAnyH_ready (rs := [1]) (by kernel_rfl) (by simp) ?_
      refine AllReadyH.cons rfl (fun K hK => ?_) AllReadyH.nil
      go_simp
      refine (KC.out _).mono ?_
      rintro e' wa ⟨rfl, hc⟩
      refine hK.out _ _ ⟨hHeld.1.trans hc, hHeld.2.keep hc (fun e => e)⟩ (fun hHeld => ?_)
      clear hK K
      try simp only [List.setIfInBounds_toArray, List.set_cons_zero, List.set_cons_succ]
      refine wpAnyH_ready (rs := [3]) (by kernel_rfl) (by simp) ?_
      refine AllReadyH.cons rfl (fun K hK => ?_) AllReadyH.nil
      go_simp
      refine (RC.out _).mono ?_
      rintro e' wb ⟨rfl, hc⟩
      refine hK.out _ _ ⟨hHeld.1.trans hc, hHeld.2.keep hc (fun e => e)⟩ (fun hHeld => ?_)
      clear hK K
      try simp only [List.setIfInBounds_toArray, List.set_cons_zero, List.set_cons_succ]
      refine take_at 4 30 (.bool false) rfl rfl (by kernel_rfl) (by kernel_rfl) (by kernel_rfl) (fun _ _ _ h => h) (Or.inl ⟨by rfl, ?_⟩) hHeld ?_
      · intro w hSw; go_simp
      simp only [List.setIfInBounds_toArray, List.set_cons_zero, List.set_cons_succ]
      refine wpAnyH_done (by kernel_rfl) (NoPanic.normal ?_) _
      have C6 := Lib.hid hHeld.1
      have R6 := Lib.hid hHeld.2
      clear hHeld KC RC
      go_wp2_with fail
      go_roundw
      case rel => exact ⟨k + 1, by omega, by go_num, C6.out, k, R6.out⟩
      case measure => simp [intOf]; omega
    · obtain rfl : k = 256 := by omega
      clear hrow
      go_wp2_with fail
      go_ret
      exact ⟨rfl, HC.out⟩
end Go.Proofs.Ytohnemcdldpgaaa
