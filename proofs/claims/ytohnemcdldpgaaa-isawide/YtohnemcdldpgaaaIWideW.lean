/-
  The walk of IsaWide.
-/
import Derived.Test.YtohnemcdldpgaaaIS
namespace Go.Proofs.Ytohnemcdldpgaaa
open Go.RowKit
set_option linter.all false

theorem wide_known (d s : Nat) (a : Int) (hd : d < 16) (hs : s ≤ 1) : knownI ⟨24, d, s, 0, a⟩ = true := by
  unfold knownI knownO
  have h1 : okO 24 s = true := by unfold okO; simp [hs]
  have h2 : partO 24 = 11 := rfl
  simp only [h1, h2]
  unfold allO
  simp
  omega
/-- A row of two that was just made. -/
theorem Ins.made2 (w : World) (x y : In) : Ins (w.alloc (.cells #[.int .u8 (x.op : Int), .int .u8 (x.dst : Int), .int .u8 (x.src : Int), .int .i16 x.off, .int .i32 x.imm, .int .u8 (y.op : Int), .int .u8 (y.dst : Int), .int .u8 (y.src : Int), .int .i16 y.off, .int .i32 y.imm] 24)) (.slice (some ⟨w.heap.size, 0, none⟩) 2 2) [x, y] := by
  have h := Row.made w 24 #[.int .u8 (x.op : Int), .int .u8 (x.dst : Int), .int .u8 (x.src : Int), .int .i16 x.off, .int .i32 x.imm, .int .u8 (y.op : Int), .int .u8 (y.dst : Int), .int .u8 (y.src : Int), .int .i16 y.off, .int .i32 y.imm]
  refine .inr ⟨⟨w.heap.size, 0, none⟩, 2, rfl, Nat.le_refl _, by unfold maxLen; decide, fun k i hk => ?_⟩
  match k, hk with
  | 0, hk => cases hk; exact ⟨h.cell 0, h.cell 1, h.cell 2, h.cell 3, h.cell 4⟩
  | 1, hk => cases hk; exact ⟨h.cell 5, h.cell 6, h.cell 7, h.cell 8, h.cell 9⟩
theorem wide_n {d : Nat} {a b : Int} (hd : d < 16) : encO [(⟨24, d, 0, 0, a⟩ : In), (⟨0, 0, 0, 0, b⟩ : In)] = true := by
  have h := wide_known d 0 a hd (by decide)
  simp [encO, rightO, h, halfO]
theorem wide_m {d : Nat} {a b : Int} (hd : d < 16) : encO [(⟨24, d, 1, 0, a⟩ : In), (⟨0, 0, 0, 0, b⟩ : In)] = decide (b = 0) := by
  have h := wide_known d 1 a hd (by decide)
  simp [encO, rightO, h, halfO]
theorem wide_1 {d : Nat} {a : Int} (hd : d < 16) : encO [(⟨24, d, 0, 0, a⟩ : In)] = false := by
  simp [encO, rightO]
theorem wide_o {d : Nat} {a : Int} (hd : d < 16) (o : In) : encO [(⟨24, d, 0, 0, a⟩ : In), o] = decide (o.op = 0 ∧ o.dst = 0 ∧ o.src = 0 ∧ o.off = 0) := by
  have h := wide_known d 0 a hd (by decide)
  simp [encO, rightO, h, halfO]
theorem wide_wf {d : Nat} {a b : Int} (hd : d < 16) (ha : -2147483648 ≤ a ∧ a < 2147483648) (hb : -2147483648 ≤ b ∧ b < 2147483648) : (⟨24, d, 0, 0, a⟩ : In).Wf ∧ (⟨24, d, 1, 0, a⟩ : In).Wf ∧ (⟨0, 0, 0, 0, b⟩ : In).Wf :=
  ⟨⟨by show (24 : Nat) < _; decide, by show d < 256; omega, by show (0 : Nat) < _; decide, by show -32768 ≤ (0 : Int) ∧ (0 : Int) < 32768; decide, ha⟩, ⟨by show (24 : Nat) < _; decide, by show d < 256; omega, by show (1 : Nat) < _; decide, by show -32768 ≤ (0 : Int) ∧ (0 : Int) < 32768; decide, ha⟩, ⟨by show (0 : Nat) < _; decide, by show (0 : Nat) < _; decide, by show (0 : Nat) < _; decide, by show -32768 ≤ (0 : Int) ∧ (0 : Int) < 32768; decide, hb⟩⟩
theorem wide_back {d : Nat} {a b : Int} (hd : d < 16) (ha : -2147483648 ≤ a ∧ a < 2147483648) (hb : -2147483648 ≤ b ∧ b < 2147483648) : decL (encL [(⟨24, d, 0, 0, a⟩ : In), (⟨0, 0, 0, 0, b⟩ : In)]) = [(⟨24, d, 0, 0, a⟩ : In), (⟨0, 0, 0, 0, b⟩ : In)] ∧ decO (encL [(⟨24, d, 0, 0, a⟩ : In), (⟨0, 0, 0, 0, b⟩ : In)]) = true := by
  have hw := wide_wf (d := d) (a := a) (b := b) hd ha hb
  have he : decL (encL [(⟨24, d, 0, 0, a⟩ : In), (⟨0, 0, 0, 0, b⟩ : In)]) = [(⟨24, d, 0, 0, a⟩ : In), (⟨0, 0, 0, 0, b⟩ : In)] := dec_enc _ (fun i hi => by simp at hi; rcases hi with rfl | rfl; exact hw.1; exact hw.2.2) (fun i hi => by simp at hi; rcases hi with rfl | rfl; exact ⟨hd, Nat.zero_lt_succ _⟩; exact ⟨Nat.zero_lt_succ _, Nat.zero_lt_succ _⟩)
  refine ⟨he, ?_⟩
  unfold decO
  rw [he, encL_len]
  have h := wide_n (d := d) (a := a) (b := b) hd
  unfold encO at h
  simp at h
  simp [h]

set_option maxRecDepth 100000 in
set_option maxHeartbeats 6400000 in
theorem isaWide_c (a b : Int) (dst : Nat) (o : In) (ha : -2147483648 ≤ a ∧ a < 2147483648) (hb : -2147483648 ≤ b ∧ b < 2147483648) (hdst : dst < 256) (ho : o.Wf) (w : World) : Calls Try.prog 9 #[.int .i32 a, .int .i32 b, .int .u8 (dst : Int), o.v] w fun e w' => e = .returned (.bool true) ∧ Calm w w' := by
  have hm := (op_bits ⟨dst, hdst⟩).2.2.2.2
  simp only at hm
  obtain ⟨d, hd⟩ : ∃ d : Nat, d = dst % 16 := ⟨_, rfl⟩
  have hd16 : d < 16 := by omega
  rw [← hd] at hm
  have HD := Lib.hid hd16
  have HAB := Lib.hid (And.intro ha (And.intro hb ho))
  have HW := Lib.hid (wide_wf (d := d) (a := a) (b := b) hd16 ha hb)
  clear hd hd16 ha hb ho hdst
  unfold In.v
  have B0 : Hid (Box (w.alloc (.cells #[.int .u8 (o.op : Int), .int .u8 (o.dst : Int), .int .u8 (o.src : Int), .int .i16 o.off, .int .i32 o.imm] 24)) w.heap.size o.op o.dst o.src o.off o.imm) := Lib.hid (Box.made w _ _ _ _ _)
  have C0 : Hid (Calm w (w.alloc (.cells #[.int .u8 (o.op : Int), .int .u8 (o.dst : Int), .int .u8 (o.src : Int), .int .i16 o.off, .int .i32 o.imm] 24))) := Lib.hid ((Keep.refl _ w).alloc _)
  go_enter Try.func9, Try.ntmps9
  go_wp2_with fail
  refine (shown5_c _).mono ?_
  rintro e w1 ⟨rfl, hc1⟩
  have C1 := Lib.hid (C0.out.trans hc1)
  have B1 := Lib.hid (B0.out.calm hc1)
  clear hc1 B0 C0
  obtain ⟨go, hgo⟩ : ∃ g, g = w.heap.size := ⟨_, rfl⟩
  rw [← hgo] at B1 ⊢
  clear hgo
  have I2 : Hid (Ins (w1.alloc (.cells #[.int .u8 24, .int .u8 (d : Int), .int .u8 0, .int .i16 0, .int .i32 a, .int .u8 0, .int .u8 0, .int .u8 0, .int .i16 0, .int .i32 b] 24)) (.slice (some ⟨w1.heap.size, 0, none⟩) 2 2) [(⟨24, d, 0, 0, a⟩ : In), (⟨0, 0, 0, 0, b⟩ : In)]) := Lib.hid (Ins.made2 w1 (⟨24, d, 0, 0, a⟩ : In) (⟨0, 0, 0, 0, b⟩ : In))
  have C2 : Hid (Calm w1 (w1.alloc (.cells #[.int .u8 24, .int .u8 (d : Int), .int .u8 0, .int .i16 0, .int .i32 a, .int .u8 0, .int .u8 0, .int .u8 0, .int .i16 0, .int .i32 b] 24))) := Lib.hid ((Keep.refl _ w1).alloc _)
  have I3 : Hid (Ins ((w1.alloc (.cells #[.int .u8 24, .int .u8 (d : Int), .int .u8 0, .int .i16 0, .int .i32 a, .int .u8 0, .int .u8 0, .int .u8 0, .int .i16 0, .int .i32 b] 24)).alloc (.cells #[.int .u8 24, .int .u8 (d : Int), .int .u8 1, .int .i16 0, .int .i32 a, .int .u8 0, .int .u8 0, .int .u8 0, .int .i16 0, .int .i32 b] 24)) (.slice (some ⟨w1.heap.size + 1, 0, none⟩) 2 2) [(⟨24, d, 1, 0, a⟩ : In), (⟨0, 0, 0, 0, b⟩ : In)]) := Lib.hid (by
    have := Ins.made2 (w1.alloc (.cells #[.int .u8 24, .int .u8 (d : Int), .int .u8 0, .int .i16 0, .int .i32 a, .int .u8 0, .int .u8 0, .int .u8 0, .int .i16 0, .int .i32 b] 24)) (⟨24, d, 1, 0, a⟩ : In) (⟨0, 0, 0, 0, b⟩ : In)
    rwa [World.size_alloc] at this)
  have C3 : Hid (Calm (w1.alloc (.cells #[.int .u8 24, .int .u8 (d : Int), .int .u8 0, .int .i16 0, .int .i32 a, .int .u8 0, .int .u8 0, .int .u8 0, .int .i16 0, .int .i32 b] 24)) ((w1.alloc (.cells #[.int .u8 24, .int .u8 (d : Int), .int .u8 0, .int .i16 0, .int .i32 a, .int .u8 0, .int .u8 0, .int .u8 0, .int .i16 0, .int .i32 b] 24)).alloc (.cells #[.int .u8 24, .int .u8 (d : Int), .int .u8 1, .int .i16 0, .int .i32 a, .int .u8 0, .int .u8 0, .int .u8 0, .int .i16 0, .int .i32 b] 24))) := Lib.hid ((Keep.refl _ _).alloc _)
  go_wp2_with fail
  have E1 := Lib.hid (encode_c (I2.out.calm C3.out) (fun i hi => by simp at hi; rcases hi with rfl | rfl; exact HW.out.1; exact HW.out.2.2))
  refine E1.out.mono ?_
  rintro e w4 ⟨hc4, hcase⟩
  rcases hcase with ⟨-, vx, rfl, hrd⟩ | ⟨hno, -⟩
  rotate_left
  · rw [wide_n HD.out] at hno; cases hno
  obtain ⟨AX, capX, rfl, hcapX, -⟩ := hrd.form
  have hl16 : (encL [(⟨24, d, 0, 0, a⟩ : In), (⟨0, 0, 0, 0, b⟩ : In)]).length = 16 := by rw [encL_len]; rfl
  rw [hl16] at hrd ⊢
  have HRD := Lib.hid hrd
  have C4 := Lib.hid (C1.out.trans ((C2.out.trans C3.out).trans hc4))
  have B4 := Lib.hid (B1.out.calm ((C2.out.trans C3.out).trans hc4))
  have I4 := Lib.hid (I2.out.calm (C3.out.trans hc4))
  have J4 := Lib.hid (I3.out.calm hc4)
  obtain ⟨gn, hgn⟩ : ∃ g, g = w1.heap.size := ⟨_, rfl⟩
  rw [← hgn] at I4 J4 ⊢
  clear hrd hc4 hl16 hcapX E1 I2 I3 C2 C3 B1 C1 hgn
  have E2 := Lib.hid (encode_c J4.out (fun i hi => by simp at hi; rcases hi with rfl | rfl; exact HW.out.2.1; exact HW.out.2.2))
  go_wp2_with fail
  refine E2.out.mono ?_
  rintro e w5 ⟨hc5, hcase⟩
  have HM : Hid (∃ vm, ∃ r : Int, e = .returned (.tuple #[vm, .int .i64 r]) ∧ (r == 0) = (b == 0)) := Lib.hid (by
    rw [wide_m HD.out] at hcase
    rcases hcase with ⟨hy, vm, rfl, -⟩ | ⟨hn, rfl⟩
    · exact ⟨vm, 0, rfl, by have := of_decide_eq_true hy; subst this; rfl⟩
    · exact ⟨_, 1, rfl, by have := of_decide_eq_false hn; rw [beq_eq_false_iff_ne.2 this]; rfl⟩)
  obtain ⟨vm, r5, rfl, hr5⟩ := HM.out
  have C5 := Lib.hid (C4.out.trans hc5)
  have B5 := Lib.hid (B4.out.calm hc5)
  have I5 := Lib.hid (I4.out.calm hc5)
  have HRD5 := Lib.hid (HRD.out.calm hc5)
  clear hcase hc5 C4 B4 I4 J4 E2 HRD HM
  have E3 := Lib.hid (encode_c (Ins.cut (l := [(⟨24, d, 0, 0, a⟩ : In), (⟨0, 0, 0, 0, b⟩ : In)]) I5.out 1 (Nat.le_succ 1)) (fun i hi => by simp at hi; subst hi; exact HW.out.1))
  go_wp2_with fail
  refine E3.out.mono ?_
  rintro e w6 ⟨hc6, hcase⟩
  rcases hcase with ⟨hyes, -⟩ | ⟨-, rfl⟩
  · rw [show List.take 1 [(⟨24, d, 0, 0, a⟩ : In), (⟨0, 0, 0, 0, b⟩ : In)] = [(⟨24, d, 0, 0, a⟩ : In)] from rfl, wide_1 HD.out] at hyes; cases hyes
  have C6 := Lib.hid (C5.out.trans hc6)
  have B6 := Lib.hid (B5.out.calm hc6)
  have I6 := Lib.hid (I5.out.calm hc6)
  have HRD6 := Lib.hid (HRD5.out.calm hc6)
  clear hc6 C5 B5 I5 HRD5 E3
  go_upto_region 8 with fail
  have hI6 : Box w6 gn 24 d 0 0 a := by
    obtain ⟨ad, cap, e1, -, h1, -⟩ := I6.out.two
    injection e1 with e1
    injection e1 with e1
    subst e1
    exact ⟨h1.c0, h1.c1, h1.c2, h1.c3, h1.c4⟩
  have BX := Lib.hid hI6
  clear hI6
  refine wp_region_noPanic ?_
  refine wp_region_held_drew (S := fun w' => Calm w6 w' ∧ Box w' gn 24 d 0 0 a ∧ Box w' go o.op o.dst o.src o.off o.imm) (by kernel_rfl) ⟨(Keep.refl _ w6).drew, BX.out.drew, B6.out.drew⟩ (fun hHeld => ?_)
  refine take_at 0 55 (.slice (some ⟨gn, 0, none⟩) 2 2) rfl rfl (by kernel_rfl) (by kernel_rfl) (by kernel_rfl) (fun _ _ _ h => h) (Or.inl ⟨by rfl, ?_⟩) hHeld ?_
  · intro w hSw; go_simp
  simp only [List.setIfInBounds_toArray, List.set_cons_zero, List.set_cons_succ]
  refine take_at 1 56 (.pointer (some ⟨gn, 0, none⟩)) rfl rfl (by kernel_rfl) (by kernel_rfl) (by kernel_rfl) (fun _ _ _ h => h) (Or.inl ⟨by rfl, ?_⟩) hHeld ?_
  · intro w hSw; go_simp
  simp only [List.setIfInBounds_toArray, List.set_cons_zero, List.set_cons_succ]
  refine take_at 2 57 (.agg #[.int .u8 24, .int .u8 (d : Int), .int .u8 0, .int .i16 0, .int .i32 a]) rfl rfl (by kernel_rfl) (by kernel_rfl) (by kernel_rfl) (fun _ _ _ h => h) (Or.inl ⟨by rfl, ?_⟩) hHeld ?_
  · intro w hSw; obtain ⟨-, ⟨c0, c1, c2, c3, c4⟩, -⟩ := hSw; go_simp
  simp only [List.setIfInBounds_toArray, List.set_cons_zero, List.set_cons_succ]
  refine take_at 3 58 (.agg #[.int .u8 (o.op : Int), .int .u8 (o.dst : Int), .int .u8 (o.src : Int), .int .i16 o.off, .int .i32 o.imm]) rfl rfl (by kernel_rfl) (by kernel_rfl) (by kernel_rfl) (fun _ _ _ h => h) (Or.inl ⟨by rfl, ?_⟩) hHeld ?_
  · intro w hSw; obtain ⟨-, -, ⟨c0, c1, c2, c3, c4⟩⟩ := hSw; go_simp
  simp only [List.setIfInBounds_toArray, List.set_cons_zero, List.set_cons_succ]
  refine wpAnyH_ready (rs := [4]) (by kernel_rfl) (by simp) ?_
  refine AllReadyH.cons rfl (fun K hK => ?_) AllReadyH.nil
  go_simp
  refine hK.out _ _ ⟨hHeld.1.trans ((Keep.refl _ _).alloc _), hHeld.2.1.calm ((Keep.refl _ _).alloc _), hHeld.2.2.calm ((Keep.refl _ _).alloc _)⟩ (fun hHeld => ?_)
  clear hK K
  try simp only [List.setIfInBounds_toArray, List.set_cons_zero, List.set_cons_succ]
  refine wpAnyH_ready (rs := [5]) (by kernel_rfl) (by simp) ?_
  refine AllReadyH.cons rfl (fun K hK => ?_) AllReadyH.nil
  go_simp
  refine (encode_c ((Ins.made2 w6 (⟨24, d, 0, 0, a⟩ : In) o).calm (Keep.refl _ _).drew) (fun i hi => by simp at hi; rcases hi with rfl | rfl; exact HW.out.1; exact HAB.out.2.2)).mono ?_
  rintro e w8 ⟨hc8, hcase⟩
  have HM : ∃ vo, ∃ r : Int, e = .returned (.tuple #[vo, .int .i64 r]) ∧ (r == 0) = decide (o.op = 0 ∧ o.dst = 0 ∧ o.src = 0 ∧ o.off = 0) := by
    rw [wide_o HD.out] at hcase
    rcases hcase with ⟨hy, vm', rfl, -⟩ | ⟨hn, rfl⟩
    · exact ⟨vm', 0, rfl, by rw [hy]; rfl⟩
    · exact ⟨_, 1, rfl, by rw [hn]; rfl⟩
  obtain ⟨vo, r8, rfl, hr8⟩ := HM
  have HR := Lib.hid hr8
  have HR8 := Lib.hid (HRD6.out.calm (hHeld.1.trans hc8))
  clear hcase hr8
  refine hK.out _ _ ⟨hHeld.1.trans hc8, hHeld.2.1.calm hc8, hHeld.2.2.calm hc8⟩ (fun hHeld => ?_)
  clear hK K
  try simp only [List.setIfInBounds_toArray, List.set_cons_zero, List.set_cons_succ]
  refine take_at 6 54 (.tuple #[vo, .int .i64 r8]) rfl rfl (by kernel_rfl) (by kernel_rfl) (by kernel_rfl) (fun _ _ _ h => h) (Or.inl ⟨by rfl, ?_⟩) hHeld ?_
  · intro w hSw; go_simp
  simp only [List.setIfInBounds_toArray, List.set_cons_zero, List.set_cons_succ]
  refine take_at 7 61 (vo) rfl rfl (by kernel_rfl) (by kernel_rfl) (by kernel_rfl) (fun _ _ _ h => h) (Or.inl ⟨by rfl, ?_⟩) hHeld ?_
  · intro w hSw; go_simp
  simp only [List.setIfInBounds_toArray, List.set_cons_zero, List.set_cons_succ]
  refine take_at 8 62 (.int .i64 r8) rfl rfl (by kernel_rfl) (by kernel_rfl) (by kernel_rfl) (fun _ _ _ h => h) (Or.inl ⟨by rfl, ?_⟩) hHeld ?_
  · intro w hSw; go_simp
  simp only [List.setIfInBounds_toArray, List.set_cons_zero, List.set_cons_succ]
  refine wpAnyH_ready (rs := [9]) (by kernel_rfl) (by simp) ?_
  refine AllReadyH.cons rfl (fun K hK => ?_) AllReadyH.nil
  go_simp
  refine hK.out _ _ hHeld (fun hHeld => ?_)
  clear hK K
  try simp only [List.setIfInBounds_toArray, List.set_cons_zero, List.set_cons_succ]
  refine wpAnyH_ready (rs := [10]) (by kernel_rfl) (by simp) ?_
  refine AllReadyH.cons rfl (fun K hK => ?_) AllReadyH.nil
  go_simp
  refine hK.out _ _ hHeld (fun hHeld => ?_)
  clear hK K
  try simp only [List.setIfInBounds_toArray, List.set_cons_zero, List.set_cons_succ]
  refine wpAnyH_done (by kernel_rfl) (NoPanic.normal ?_) _
  obtain ⟨C8, -, B8⟩ := hHeld
  have C8 := Lib.hid (C6.out.trans C8)
  have B8 := Lib.hid B8
  have D8 := Lib.hid (decode_c HR8.out)
  have i3 := HR.out
  clear HR
  go_wp2_with fail
  refine D8.out.mono ?_
  rintro e w9 ⟨hc9, hcase⟩
  rcases hcase with ⟨-, vl, rfl, hil⟩ | ⟨hno, -⟩
  rotate_left
  · rw [(wide_back HD.out HAB.out.1 HAB.out.2.1).2] at hno; cases hno
  rw [(wide_back HD.out HAB.out.1 HAB.out.2.1).1] at hil
  obtain ⟨ad, cap, rfl, hcap, hx, hy⟩ := hil.two
  have C9 := Lib.hid (C8.out.trans hc9)
  have B9 := B8.out.calm hc9
  have o0 := B9.c0
  have o1 := B9.c1
  have o2 := B9.c2
  have o3 := B9.c3
  have a0 := hx.c0
  have a1 := hx.c1
  have a2 := hx.c2
  have a3 := hx.c3
  have a4 := hx.c4
  have b0 := hy.c0
  have b1 := hy.c1
  have b2 := hy.c2
  have b3 := hy.c3
  have b4 := hy.c4
  have KC := Lib.hid (fun w => known_c (op := 0) 0 0 0 b w (by decide))
  rw [show knownO 0 0 0 0 b = false from known_op0 ⟨0, 0, 0, 0, b⟩ rfl] at KC
  have WC := Lib.hid (fun w => wide_c (op := 24) d 0 0 a w)
  have j1 : (2 : Int) ≤ (cap : Int) := by omega
  clear B9 hx hy hil hc9 hcap
  by_cases h0 : o.op = 0
  · have k0 : ((o.op : Int) == 0) = true := by rw [beq_iff_eq]; omega
    by_cases h1 : o.dst = 0
    · have k1 : ((o.dst : Int) == 0) = true := by rw [beq_iff_eq]; omega
      by_cases h2 : o.src = 0
      · have k2 : ((o.src : Int) == 0) = true := by rw [beq_iff_eq]; omega
        by_cases h3 : o.off = 0
        · have k3 : (o.off == 0) = true := by rw [beq_iff_eq]; exact h3
          rw [decide_eq_true ⟨h0, h1, h2, h3⟩] at i3
          clear h0 h1 h2 h3
          go_wp2_with fail
          refine (WC.out _).mono ?_
          rintro e wa ⟨rfl, hca⟩
          have Ca := Lib.hid (C9.out.trans hca)
          have hya : InAt wa ⟨ad.block, ad.off + 5, none⟩ (⟨0, 0, 0, 0, b⟩ : In) := InAt.calm ⟨b0, b1, b2, b3, b4⟩ hca
          clear a0 a1 a2 a3 a4 b0 b1 b2 b3 b4 o0 o1 o2 o3 hca
          have b0 := hya.c0
          have b1 := hya.c1
          have b2 := hya.c2
          have b3 := hya.c3
          have b4 := hya.c4
          clear hya
          go_wp2_with fail
          refine (KC.out _).mono ?_
          rintro e wb ⟨rfl, hcb⟩
          have Cb := Lib.hid (Ca.out.trans hcb)
          clear hcb
          go_wp2_with fail
          go_ret
          exact ⟨rfl, Cb.out⟩
        · have k3 : (o.off == 0) = false := by rw [beq_eq_false_iff_ne]; exact h3
          rw [decide_eq_false (fun h => h3 h.2.2.2)] at i3
          clear h0 h1 h2 h3
          go_wp2_with fail
          refine (WC.out _).mono ?_
          rintro e wa ⟨rfl, hca⟩
          have Ca := Lib.hid (C9.out.trans hca)
          have hya : InAt wa ⟨ad.block, ad.off + 5, none⟩ (⟨0, 0, 0, 0, b⟩ : In) := InAt.calm ⟨b0, b1, b2, b3, b4⟩ hca
          clear a0 a1 a2 a3 a4 b0 b1 b2 b3 b4 o0 o1 o2 o3 hca
          have b0 := hya.c0
          have b1 := hya.c1
          have b2 := hya.c2
          have b3 := hya.c3
          have b4 := hya.c4
          clear hya
          go_wp2_with fail
          refine (KC.out _).mono ?_
          rintro e wb ⟨rfl, hcb⟩
          have Cb := Lib.hid (Ca.out.trans hcb)
          clear hcb
          go_wp2_with fail
          go_ret
          exact ⟨rfl, Cb.out⟩
      · have k2 : ((o.src : Int) == 0) = false := by rw [beq_eq_false_iff_ne]; omega
        rw [decide_eq_false (fun h => h2 h.2.2.1)] at i3
        clear h0 h1 h2
        go_wp2_with fail
        refine (WC.out _).mono ?_
        rintro e wa ⟨rfl, hca⟩
        have Ca := Lib.hid (C9.out.trans hca)
        have hya : InAt wa ⟨ad.block, ad.off + 5, none⟩ (⟨0, 0, 0, 0, b⟩ : In) := InAt.calm ⟨b0, b1, b2, b3, b4⟩ hca
        clear a0 a1 a2 a3 a4 b0 b1 b2 b3 b4 o0 o1 o2 o3 hca
        have b0 := hya.c0
        have b1 := hya.c1
        have b2 := hya.c2
        have b3 := hya.c3
        have b4 := hya.c4
        clear hya
        go_wp2_with fail
        refine (KC.out _).mono ?_
        rintro e wb ⟨rfl, hcb⟩
        have Cb := Lib.hid (Ca.out.trans hcb)
        clear hcb
        go_wp2_with fail
        go_ret
        exact ⟨rfl, Cb.out⟩
    · have k1 : ((o.dst : Int) == 0) = false := by rw [beq_eq_false_iff_ne]; omega
      rw [decide_eq_false (fun h => h1 h.2.1)] at i3
      clear h0 h1
      go_wp2_with fail
      refine (WC.out _).mono ?_
      rintro e wa ⟨rfl, hca⟩
      have Ca := Lib.hid (C9.out.trans hca)
      have hya : InAt wa ⟨ad.block, ad.off + 5, none⟩ (⟨0, 0, 0, 0, b⟩ : In) := InAt.calm ⟨b0, b1, b2, b3, b4⟩ hca
      clear a0 a1 a2 a3 a4 b0 b1 b2 b3 b4 o0 o1 o2 o3 hca
      have b0 := hya.c0
      have b1 := hya.c1
      have b2 := hya.c2
      have b3 := hya.c3
      have b4 := hya.c4
      clear hya
      go_wp2_with fail
      refine (KC.out _).mono ?_
      rintro e wb ⟨rfl, hcb⟩
      have Cb := Lib.hid (Ca.out.trans hcb)
      clear hcb
      go_wp2_with fail
      go_ret
      exact ⟨rfl, Cb.out⟩
  · have k0 : ((o.op : Int) == 0) = false := by rw [beq_eq_false_iff_ne]; omega
    rw [decide_eq_false (fun h => h0 h.1)] at i3
    clear h0
    go_wp2_with fail
    refine (WC.out _).mono ?_
    rintro e wa ⟨rfl, hca⟩
    have Ca := Lib.hid (C9.out.trans hca)
    have hya : InAt wa ⟨ad.block, ad.off + 5, none⟩ (⟨0, 0, 0, 0, b⟩ : In) := InAt.calm ⟨b0, b1, b2, b3, b4⟩ hca
    clear a0 a1 a2 a3 a4 b0 b1 b2 b3 b4 o0 o1 o2 o3 hca
    have b0 := hya.c0
    have b1 := hya.c1
    have b2 := hya.c2
    have b3 := hya.c3
    have b4 := hya.c4
    clear hya
    go_wp2_with fail
    refine (KC.out _).mono ?_
    rintro e wb ⟨rfl, hcb⟩
    have Cb := Lib.hid (Ca.out.trans hcb)
    clear hcb
    go_wp2_with fail
    go_ret
    exact ⟨rfl, Cb.out⟩
end Go.Proofs.Ytohnemcdldpgaaa
