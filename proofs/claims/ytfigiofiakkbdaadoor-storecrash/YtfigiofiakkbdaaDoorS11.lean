/-
  The statements of layer 4: shown.
-/
import Derived.Test.YtfigiofiakkbdaaDoorS10
namespace Go.Proofs.YtfigiofiakkbdaaDoor
open Go.RowKit
set_option linter.all false

theorem other0 {σ : SS} (h : σ.kept = none) : σ.other = 0 := by unfold SS.other; rw [h]
theorem other1 {σ : SS} {y n : Nat} {bs : List UInt8} (h : σ.kept = some (y, n, bs)) : σ.other = 1 - y := by unfold SS.other; rw [h]
theorem count0 {σ : SS} (h : σ.kept = none) : σ.count = 0 := by unfold SS.count; rw [h]
theorem count1 {σ : SS} {y n : Nat} {bs : List UInt8} (h : σ.kept = some (y, n, bs)) : σ.count = n := by unfold SS.count; rw [h]
theorem saved_kept (σ : SS) (bs : List UInt8) : (σ.saved bs).kept = some (σ.other, σ.count + 1, bs) := rfl
theorem saved_A0 {σ : SS} (bs : List UInt8) (h : σ.other = 0) : (σ.saved bs).A.last = σ.A.last + 2 ∧ (σ.saved bs).B = σ.B ∧ (σ.saved bs).h = σ.h := by unfold SS.saved SS.put SS.J; rw [h]; exact ⟨rfl, rfl, rfl⟩
theorem saved_B1 {σ : SS} (bs : List UInt8) (h : σ.other = 1) : (σ.saved bs).B.last = σ.B.last + 2 ∧ (σ.saved bs).A = σ.A ∧ (σ.saved bs).h = σ.h := by unfold SS.saved SS.put SS.J; rw [h]; exact ⟨rfl, rfl, rfl⟩
theorem J_zero (σ : SS) : σ.J 0 = σ.A := rfl
theorem J_one (σ : SS) : σ.J 1 = σ.B := rfl

set_option maxRecDepth 100000 in
set_option maxHeartbeats 8000000 in
theorem shown4_c (w : World) (hT : Tab w) : Calls Tryd.prog 10 #[] w fun e w' => e = .returned (.bool true) ∧ Calm w w' := by
  have N := Lib.hid (new_up w 8 (by omega) (by omega))
  have HT := Lib.hid hT
  clear hT
  go_enter Tryd.func10, Tryd.ntmps10
  go_wp2_with fail
  refine N.out.mono ?_
  rintro e w1 ⟨R1, d, S1, rfl, h1, u1, s1, e1, o1, -⟩
  have F := Lib.hid (su_format HT.out h1 u1 s1 e1 (by omega) (by omega))
  have HO := Lib.hid o1
  clear N h1 u1 s1 e1 o1
  go_wp2_with fail
  refine F.out.mono ?_
  rintro e w2 ⟨R2, T2, S2, sb, σ2, rfl, -, -, -, h2, o2, l1, l2, k2⟩
  have LD := Lib.hid (sload_none h2.sto.sm k2)
  have H2 := Lib.hid h2
  have P2 := Lib.hid (And.intro o2 (And.intro l1 (And.intro l2 k2)))
  clear F h2 o2 l1 l2 k2
  go_wp2_with fail
  refine LD.out.mono ?_
  rintro e w2' ⟨rfl, rfl⟩
  clear LD
  have r2 := Rd.marked w2 [120] 1 #[.int .u8 120] (1, 2) rfl rfl (by omega)
  have c2 : Calm w2 (w2.alloc (.cells #[.int .u8 120] 5 (1, 2))) := (Keep.refl _ w2).alloc _
  have q2 := conv_const w2 #[.int .u8 120] 1
  simp only [List.size_toArray, List.length_cons, List.length_nil, Nat.reduceAdd] at q2
  have z2 := other0 P2.out.2.2.2
  have y2 := count0 P2.out.2.2.2
  have hh2 : σ2.h = 4 := H2.out.hh
  have SV := Lib.hid (su_save HT.out (H2.out.rest c2) (by omega) _ [120] r2 (by rw [hh2]; simp) (by rw [y2]; omega) (by rw [z2, J_zero, P2.out.2.1]; omega) (by rw [P2.out.1, HO.out]; simp [secsOf]))
  clear r2 c2 hh2 z2 y2
  go_wp2_with fail
  refine SV.out.mono ?_
  rintro e w3 ⟨R3, T3, S3, rfl, -, -, -, o3, ⟨x3, h3⟩ | ⟨x3, h3⟩⟩
  rotate_left
  · rw [other0 P2.out.2.2.2] at x3; cases x3
  have y2 := count0 P2.out.2.2.2
  rw [y2] at h3
  have k3 := saved_kept σ2 [120]
  rw [x3, y2] at k3
  have a3 := saved_A0 [120] x3
  have H3 := Lib.hid h3
  have P3 := Lib.hid (And.intro o3 (And.intro k3 a3))
  clear SV q2 h3 o3 k3 a3 x3 y2
  have r3 := Rd.marked w3 [121] 1 #[.int .u8 121] (1, 2) rfl rfl (by omega)
  have c3 : Calm w3 (w3.alloc (.cells #[.int .u8 121] 5 (1, 2))) := (Keep.refl _ w3).alloc _
  have q3 := conv_const w3 #[.int .u8 121] 1
  simp only [List.size_toArray, List.length_cons, List.length_nil, Nat.reduceAdd] at q3
  have z3 := other1 P3.out.2.1
  have y3 := count1 P3.out.2.1
  have hh3 : (σ2.saved [120]).h = 4 := H3.out.hh
  have SV := Lib.hid (su_save HT.out (H3.out.rest c3) (by omega) _ [121] r3 (by rw [hh3]; simp) (by rw [y3]; omega) (by rw [z3]; show ((σ2.saved [120]).J 1).last + 1 < _; rw [J_one, P3.out.2.2.2.1, P2.out.2.2.1]; omega) (by have := P3.out.1; rw [P2.out.1, HO.out] at this; simp [secsOf] at this ⊢; omega))
  clear r3 c3 hh3 z3 y3
  go_wp2_with fail
  refine SV.out.mono ?_
  rintro e w4 ⟨R4, T4, S4, rfl, -, -, -, o4, ⟨x4, h4⟩ | ⟨x4, h4⟩⟩
  · rw [other1 P3.out.2.1] at x4; cases x4
  have y3 := count1 P3.out.2.1
  rw [y3] at h4
  have P4 := P3.out.1
  rw [P2.out.1, HO.out] at P4
  simp [secsOf] at P4 o4
  have HO4 : Hid (S4.ops ≤ 100) := Lib.hid (by omega)
  have H4 := Lib.hid h4
  have CR := Lib.hid (sd_crash0 h4.sto.sd (by rw [h4.wait]; simp))
  clear SV q3 h4 o4 P4 x4 y3
  go_wp2_with fail
  refine CR.out.mono ?_
  rintro e w7 ⟨R7, rfl, h7, -, -⟩
  have ST := Lib.hid (sd_start h7 rfl)
  clear h7 CR
  go_wp2_with fail
  refine ST.out.mono ?_
  rintro e w8 ⟨R8, rfl, h8, -, -⟩
  have SH := DS.Shows.lost H4.out.secs H4.out.sh.1
  have OP := su_open HT.out h8 ⟨rfl, rfl⟩ SH rfl (by omega) (by omega) H4.out.a.hf H4.out.b.hf (by rw [P2.out.2.1]; omega) (by rw [P3.out.2.2.2.1, P2.out.2.2.1]; omega) (by show S4.ops + 8 ≤ _; have := HO4.out; omega)
  have HOP := Lib.hid OP
  clear OP SH h8 ST
  go_wp2_with fail
  refine HOP.out.mono ?_
  rintro e w9 ⟨R9, T9, sb9, σ9, q9, l0, u0, l1, u1, rfl, -, -, -, -, h9, -⟩
  have k9 : σ9.kept = some (1, 2, [121]) := by rw [h9.kept, thing1_rec 0 _ _ (by omega), thing1_rec 1 _ _ (by omega)]; rfl
  have LD := Lib.hid (sload_some h9.sto.sm k9 (by simp))
  have H9 := Lib.hid h9
  clear HOP h9 k9
  go_wp2_with fail
  refine LD.out.mono ?_
  rintro e w10 ⟨A, cap, rfl, o10, c10⟩
  obtain ⟨-, -, -, rd⟩ := o10.any
  have q10 := conv_rd rd
  rw [show str [121] = ⟨#[121]⟩ from rfl] at q10
  have h10 := H9.out.rest c10
  have RM := sroom_c h10.sto.sm (by rw [h10.hh]; omega) (by rw [h10.hh]; omega)
  rw [h10.hh] at RM
  have HRM := Lib.hid RM
  have C10 := Lib.hid h10.calm
  clear LD o10 c10 rd h10 RM
  simp only [List.length_cons, List.length_nil, Nat.reduceAdd] at q10 ⊢
  go_wp2_with (go_at_call 21; refine HRM.out.mono ?_; rintro e w11 ⟨rfl, rfl⟩)
  go_ret
  exact ⟨rfl, C10.out⟩
end Go.Proofs.YtfigiofiakkbdaaDoor
