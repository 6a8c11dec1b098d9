/-
  StoreOwn, walked.
-/
import Derived.Test.YtfigiofiakkbdaaDoorS11
import Derived.Deep.DeepCutAuto
namespace Go.Proofs.YtfigiofiakkbdaaDoor
open Go.RowKit
set_option linter.all false

theorem u8_plus (x : UInt8) : (((UInt8.ofNat (x.toNat + 1)).toNat : Nat) : Int) = ((x.toNat : Int) + 1) % 256 := by rw [UInt8.toNat_ofNat']; omega

set_option maxRecDepth 100000 in
set_option maxHeartbeats 16000000 in
theorem sown_w (w : World) (hT : Tab w) (v : Value) (bs0 : List UInt8) (hv : Rd w v bs0) :
    Calls Tryd.prog 8 #[v] w fun e w' => e = .returned (.bool true) ∧ Calm w w' := by
  have SH := Lib.hid (shown4_c w hT)
  have HT := Lib.hid hT
  obtain ⟨A0, cap0, rfl, hc0, hm0⟩ := hv.form
  unfold maxLen at hm0
  obtain ⟨q, hq, hq1, hq2, hq3⟩ := cut_len bs0.length 500
  have hq' : (if (500 : Int) < (bs0.length : Int) then (500 : Int) else (bs0.length : Int)) = (q : Int) := hq
  have hcut := hv.cut q hq2
  obtain ⟨bs, hbs⟩ : ∃ bs, bs = bs0.take q := ⟨_, rfl⟩
  have hbl : bs.length = q := by rw [hbs]; simp; omega
  rw [← hbs] at hcut
  have HV := Lib.hid hcut
  have HB := Lib.hid hbl
  have iq : (q : Int) ≤ 500 := by omega
  have iq2 : (q : Int) ≤ (bs0.length : Int) := by omega
  have iq3 : (bs0.length : Int) ≤ (cap0 : Int) := by omega
  clear hT hv hcut hbs hq hq3 hbl
  go_enter Tryd.func8, Tryd.ntmps8
  go_wp2_with fail
  refine SH.out.mono ?_
  rintro e w1 ⟨rfl, c1⟩
  have C1 := Lib.hid c1
  have T1 := Lib.hid (HT.out.calm c1)
  have N := Lib.hid (new_up w1 8 (by omega) (by omega))
  clear c1 SH
  go_wp2_with fail
  refine N.out.mono ?_
  rintro e w2 ⟨R2, d, S2, rfl, h2, u2, s2, e2, o2, -⟩
  have FM := Lib.hid (su_format T1.out h2 u2 s2 e2 (by omega) (by omega))
  have HO2 := Lib.hid o2
  clear N h2 u2 s2 e2 o2
  go_wp2_with fail
  refine FM.out.mono ?_
  rintro e w3 ⟨R3, T3, S3, sb, σ3, rfl, -, -, -, h3, o3, l1, l2, k3⟩
  have H3 := Lib.hid h3
  have P3 := Lib.hid (And.intro o3 (And.intro l1 (And.intro l2 k3)))
  clear FM h3 o3 l1 l2 k3
  have CA : Hid (Calm w3 (w3.alloc (.cells #[] 5))) := Lib.hid ((Keep.refl _ w3).alloc _)
  have V3 : Hid (Rd (w3.alloc (.cells #[] 5)) (.slice A0 q cap0) bs) := Lib.hid (HV.out.calm (C1.out.trans (H3.out.calm.trans CA.out)))
  go_upto_region 10 with (at_builtin; go_loud (refine append_own rfl (.tmp 44) (.tmp 45) rfl w3.heap.size w3.heap.size 0 0 [] rfl (Own.made w3) (.slice A0 q cap0) bs rfl V3.out (by simp; have := HB.out; omega) (by simp) ?_); rintro g c4 w4 ho hg; rw [show ([] : List UInt8).length + bs.length = q by simp [HB.out]] at ho ⊢)
  have C4 : Hid (Calm w3 w4) := Lib.hid (CA.out.grown hg (fun k e hk => by simp at e; omega))
  have hgl : w3.heap.size ≤ g ∧ g < w4.heap.size := by
    obtain ⟨cur, -, h1, h2, -⟩ := ho.form
    exact ⟨h1, h2.lt⟩
  have O4 : Hid (Own w4 w3.heap.size (.slice (some ⟨g, 0, none⟩) q c4) bs) := Lib.hid (by simpa using ho)
  have nR : ¬ R3 g := H3.out.sto.sd.st.fresh hgl.1
  have nT : ¬ T3 g := fun e => absurd (H3.out.sto.sm.lt g e) (by omega)
  have h4 := H3.out.rest C4.out
  have z3 := other0 P3.out.2.2.2
  have y3 := count0 P3.out.2.2.2
  have hh3 : σ3.h = 4 := H3.out.hh
  have SV := Lib.hid (su_save T1.out h4 (by omega) _ bs (O4.out.rd ⟨_, _, _, rfl⟩) (by rw [hh3, HB.out]; omega) (by rw [y3]; omega) (by rw [z3, J_zero, P3.out.2.1]; omega) (by rw [P3.out.1, HO2.out]; simp [secsOf, HB.out]; omega))
  have G4 := Lib.hid (And.intro hgl (And.intro nR nT))
  have CC3 := Lib.hid H3.out.calm
  clear ho hg CA V3 hgl nR nT h4 z3 y3 hh3 H3 hq'
  go_wp2_with fail
  refine SV.out.mono ?_
  rintro e w5 ⟨R5, T5, S5, rfl, x5, t5, k5, o5, ⟨y5, h5⟩ | ⟨y5, h5⟩⟩
  rotate_left
  · rw [other0 P3.out.2.2.2] at y5; cases y5
  have e5 := count0 P3.out.2.2.2
  rw [e5] at h5
  have k5' := saved_kept σ3 bs
  rw [y5, e5] at k5'
  have P5 : Hid ((σ3.saved bs).kept = some (0, 1, bs) ∧ S5.ops ≤ 100 ∧ (σ3.A.last + 1) ≤ 10) := Lib.hid ⟨k5', by rw [P3.out.1, HO2.out] at o5; simp [secsOf, HB.out] at o5; omega, by rw [P3.out.2.1]; omega⟩
  have O5 : Hid (Own w5 w3.heap.size (.slice (some ⟨g, 0, none⟩) q c4) bs) := Lib.hid (by
    refine own_move O4.out (fun g' cur hg' hrow => ?_)
    have : g' = g := by simpa [Value.ownBlock] using hg'.symm
    subst this
    exact hrow.keep k5 (fun e => e.elim G4.out.2.1 G4.out.2.2))
  have G5 : Hid (¬ R5 g ∧ ¬ T5 g ∧ w1.heap.size ≤ g) := Lib.hid ⟨x5.not G4.out.2.1 G4.out.1.2, t5.not G4.out.2.2 G4.out.1.2, Nat.le_trans CC3.out.size G4.out.1.1⟩
  have H5 := Lib.hid h5
  clear SV h5 o5 k5 k5' e5 y5 x5 t5 O4 G4 C4
  go_wp2_with fail
  go_loopw [10] (fun i wr => ∃ j : Nat, j ≤ q ∧ i = .int .i64 (j : Int) ∧ Keep (· = g) w5 wr ∧ ∃ xs, xs.length = q ∧ Own wr w3.heap.size (.slice (some ⟨g, 0, none⟩) q c4) xs) (fun i _ => q - (intOf i).toNat)
  case atStart => exact ⟨0, by omega, rfl, Keep.refl _ _, bs, HB.out, O5.out⟩
  case round =>
    obtain ⟨j, hj, rfl, hkw, xs, hxl, how⟩ := hrel
    have ij : (j : Int) ≤ 500 := by omega
    by_cases hlt : j < q
    · have i0 : (j : Int) < (q : Int) := by omega
      obtain ⟨f1, f0⟩ := how.at_ j (by omega)
      have hst := how.set j (by omega) (UInt8.ofNat ((xs[j]'(by omega)).toNat + 1))
      have hp := u8_plus (xs[j]'(by omega))
      generalize (xs[j]'(by omega)) = x at f1 hst hp
      generalize UInt8.ofNat (x.toNat + 1) = x' at hst hp
      have HK := Lib.hid hkw
      have HS := Lib.hid hst
      have HP := Lib.hid hp
      have HX := Lib.hid hxl
      clear hkw hst hp how hxl
      go_wp2_with fail
      go_roundw
      case rel =>
        refine ⟨j + 1, by omega, by go_num, HK.out.store (p := ⟨g, j, none⟩) (fun _ => rfl) _, xs.set j x', by simp [HX.out], ?_⟩
        rw [← HP.out]; exact HS.out
      case measure => simp [intOf]; omega
    obtain rfl : j = q := by omega
    have h6 := H5.out.apart hkw (fun i e => by subst e; exact G5.out)
    have LD := Lib.hid (sload_some h6.sto.sm P5.out.1 (by rw [HB.out]; omega))
    have H6 := Lib.hid h6
    have V6 : Hid (Rd wr (.slice A0 j cap0) bs) := Lib.hid (HV.out.calm (C1.out.trans h6.calm))
    clear h6 hkw how hxl
    rw [HB.out] at LD
    go_wp2_with fail
    refine LD.out.mono ?_
    rintro e w7 ⟨A7, c7, rfl, o7, k7⟩
    have q7 := conv_rd (o7.any).choose_spec.choose_spec.2
    have v7 := conv_rd (V6.out.calm k7)
    have H7 := Lib.hid (H6.out.rest k7)
    have O7 := Lib.hid o7
    have K7 := Lib.hid k7
    have Z7 : Hid (∀ k, A7 = some ⟨k, 0, none⟩ → wr.heap.size ≤ k ∧ k < w7.heap.size) := Lib.hid (fun k e => by
      subst e
      obtain ⟨cur, -, h1, h2, -⟩ := o7.form
      exact ⟨h1, h2.lt⟩)
    clear LD o7 k7
    go_wp2_with fail
    clear q7 v7
    go_loopw [14] (fun i w8 => ∃ j2 : Nat, j2 ≤ j ∧ i = .int .i64 (j2 : Int) ∧ Keep (fun k => A7 = some ⟨k, 0, none⟩) w7 w8 ∧ ∃ xs, xs.length = j ∧ Own w8 wr.heap.size (.slice A7 j c7) xs) (fun i _ => j - (intOf i).toNat)
    case atStart => exact ⟨0, by omega, rfl, Keep.refl _ _, bs, HB.out, O7.out⟩
    case round =>
      obtain ⟨j2, hj2, rfl, hkw, xs, hxl, how⟩ := hrel
      have ij2 : (j2 : Int) ≤ 500 := by omega
      by_cases hlt : j2 < j
      · have i0 : (j2 : Int) < (j : Int) := by omega
        obtain ⟨g7, rfl⟩ : ∃ g7, A7 = some ⟨g7, 0, none⟩ := by
          rcases how.2 with ⟨e, h0⟩ | ⟨g', cap, cur, e, _⟩
          · omega
          · injection e with e; exact ⟨g', e⟩
        obtain ⟨f1, f0⟩ := how.at_ j2 (by omega)
        have hst := how.set j2 (by omega) (UInt8.ofNat ((xs[j2]'(by omega)).toNat + 1))
        have hp := u8_plus (xs[j2]'(by omega))
        generalize (xs[j2]'(by omega)) = x at f1 hst hp
        generalize UInt8.ofNat (x.toNat + 1) = x' at hst hp
        have HK := Lib.hid hkw
        have HS := Lib.hid hst
        have HP := Lib.hid hp
        have HX := Lib.hid hxl
        clear hkw hst hp how hxl
        go_wp2_with fail
        go_roundw
        case rel =>
          refine ⟨j2 + 1, by omega, by go_num, HK.out.store (p := ⟨g7, j2, none⟩) (fun _ => rfl) _, xs.set j2 x', by simp [HX.out], ?_⟩
          rw [← HP.out]; exact HS.out
        case measure => simp [intOf]; omega
      obtain rfl : j2 = j := by omega
      rename World => w8
      have h8 := H7.out.apart hkw (fun i e => by
        have hz := Z7.out i e
        exact ⟨H6.out.sto.sd.st.fresh hz.1, fun e => absurd (H6.out.sto.sm.lt i e) (by omega), Nat.le_trans H6.out.calm.size hz.1⟩)
      have V8 : Hid (Rd w8 (.slice A0 j2 cap0) bs) := Lib.hid (HV.out.calm (C1.out.trans h8.calm))
      have LD := Lib.hid (sload_some h8.sto.sm P5.out.1 (by rw [HB.out]; omega))
      have H8 := Lib.hid h8
      clear h8 hkw how hxl
      rw [HB.out] at LD
      go_wp2_with fail
      refine LD.out.mono ?_
      rintro e w9 ⟨A9, c9, rfl, o9, k9⟩
      have h9 := H8.out.rest k9
      have OP := su_open T1.out h9.sto.sd h9.up h9.sh h9.wait h9.n4 (by omega) h9.a.hf h9.b.hf (by have := P5.out.2.2; omega) (by omega) (by have := P5.out.2.1; omega)
      have I9 : Hid (InT w9 (fun k => w8.heap.size ≤ k ∧ k < w9.heap.size) (.slice A9 j2 c9) bs) := Lib.hid (InT.of_own o9)
      have HOP := Lib.hid OP
      have V9 := Lib.hid (V8.out.calm k9)
      have FR : Hid (∀ k, w8.heap.size ≤ k → ¬ R5 k) := Lib.hid (fun k hk => H8.out.sto.sd.st.fresh hk)
      clear LD OP h9 o9 k9 V8
      go_wp2_with fail
      refine HOP.out.mono ?_
      rintro e w10 ⟨R10, T10, sb10, σ10, q10, l0, u0, l1, u1, rfl, -, -, -, kk, h10, -⟩
      have k10 : σ10.kept = some (0, 1, bs) := by rw [h10.kept, thing1_rec 0 _ _ (by omega)]; rfl
      have I10 := Lib.hid (I9.out.keep kk (fun g hg => FR.out g hg.1))
      have V10 : Hid (Rd w10 (.slice A0 j2 cap0) bs) := Lib.hid (HV.out.calm (C1.out.trans h10.calm))
      have LD := Lib.hid (sload_some h10.sto.sm k10 (by rw [HB.out]; omega))
      have H10 := Lib.hid h10.calm
      clear HOP h10 k10 kk
      rw [HB.out] at LD
      go_wp2_with fail
      refine LD.out.mono ?_
      rintro e w11 ⟨A11, c11, rfl, o11, k11⟩
      have q1 := conv_rd (I10.out.rd.calm k11)
      have q2 := conv_rd (o11.any).choose_spec.choose_spec.2
      have q3 := conv_rd (V10.out.calm k11)
      have C11 := Lib.hid (H10.out.trans k11)
      clear LD o11 k11
      go_wp2_with fail
      go_ret
      exact ⟨rfl, C1.out.trans C11.out⟩
end Go.Proofs.YtfigiofiakkbdaaDoor
