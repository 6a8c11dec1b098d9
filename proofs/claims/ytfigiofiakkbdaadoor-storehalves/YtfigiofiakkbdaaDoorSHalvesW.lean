/-
  StoreHalves, walked.
-/
import Derived.Test.YtfigiofiakkbdaaDoorS12
import Derived.BigQuiet
namespace Go.Proofs.YtfigiofiakkbdaaDoor
open Go.RowKit
set_option linter.all false

/-- The store behind i Saves. -/
def HvI (w1 wr : World) (d sb n i : Nat) : Prop := ∃ R T S σ c ka oa kb ob, Su w1 wr R T d sb S σ n c ka oa kb ob ∧ S.ops ≤ 10 + 100 * i ∧ σ.A.last ≤ 1 + 2 * i ∧ σ.B.last ≤ 1 + 2 * i ∧ σ.count ≤ i ∧ σ.other = i % 2
theorem HvI.step {w1 w' : World} {R' T' : Nat → Prop} {d sb n i : Nat} {S1 : DS} {σ : SS} {c' : Nat → List UInt8} {ka kb : Nat} {oa ob : Option (List UInt8)} {bs : List UInt8} (hs : Su w1 w' R' T' d sb S1 (σ.saved bs) n c' ka oa kb ob) (ho : S1.ops ≤ 10 + 100 * (i + 1)) (ha : σ.A.last ≤ 1 + 2 * i) (hb : σ.B.last ≤ 1 + 2 * i) (hc : σ.count ≤ i) (hx : σ.other = i % 2) : HvI w1 w' d sb n (i + 1) := by
  have k := saved_kept σ bs
  have h1 := other1 k
  have h2 := count1 k
  refine ⟨R', T', S1, _, c', ka, oa, kb, ob, hs, ho, ?_, ?_, by omega, by omega⟩
  · rcases Nat.mod_two_eq_zero_or_one i with e | e
    · have := saved_A0 bs (hx.trans e); omega
    · have := saved_B1 bs (hx.trans e); rw [this.2.1]; omega
  · rcases Nat.mod_two_eq_zero_or_one i with e | e
    · have := saved_A0 bs (hx.trans e); rw [this.2.1]; omega
    · have := saved_B1 bs (hx.trans e); omega

set_option maxRecDepth 100000 in
set_option maxHeartbeats 16000000 in
theorem shalves_w (w : World) (hT : Tab w) (a0 : Int) (v : Value) (zs : List Int) (hv : Nums .i64 w v zs) (hfi : Fits v) :
    Calls Tryd.prog 7 #[.int .i64 a0, v] w fun e w' => e = .returned (.bool true) ∧ Calm w w' := by
  obtain ⟨r0, b0, m0⟩ := mask_nat a0 3 7 (by omega) (by decide)
  have SH := Lib.hid (shown4_c w hT)
  have HT := Lib.hid hT
  obtain ⟨A, cap, rfl⟩ := hv.form
  have hzl := hfi.len
  have HV := Lib.hid hv
  obtain ⟨n, hn⟩ : ∃ n : Nat, n = 6 + r0 := ⟨_, rfl⟩
  have hn1 : 6 ≤ n ∧ n ≤ 13 := by omega
  have hn' : (6 : Int) + (r0 : Int) = (n : Int) := by omega
  have b0' : (r0 : Int) < 8 := by omega
  obtain ⟨hf, hhf⟩ : ∃ hf : Nat, hf = n / 2 := ⟨_, rfl⟩
  obtain ⟨H, hH⟩ : ∃ H : Nat, H = 512 * (n / 2) := ⟨_, rfl⟩
  have HH := Lib.hid hH
  have hnq : (n : Int) / 2 = (hf : Int) := by omega
  have hnq2 : (512 : Int) * (hf : Int) = (H : Int) := by omega
  have in13 : (n : Int) ≤ 13 := by omega
  have ih6 : (hf : Int) ≤ 6 := by omega
  have iH : (H : Int) ≤ 4096 := by omega
  have iHn : 2 * (H : Int) ≤ 512 * (n : Int) := by omega
  clear hH hhf
  clear hT hn hv hfi
  go_enter Tryd.func7, Tryd.ntmps7
  go_wp2_with fail
  refine SH.out.mono ?_
  rintro e w1 ⟨rfl, c1⟩
  have C1 := Lib.hid c1
  have T1 := Lib.hid (HT.out.calm c1)
  have N := Lib.hid (new_up w1 n (by omega) (by omega))
  clear c1 SH
  go_wp2_with fail
  try rw [hn']
  clear m0 hn' b0'
  refine N.out.mono ?_
  rintro e w2 ⟨R2, d, S2, rfl, h2, u2, s2, e2, o2, -⟩
  have FM := Lib.hid (su_format T1.out h2 u2 s2 e2 (by omega) (by omega))
  have HO2 := Lib.hid o2
  clear N h2 u2 s2 e2 o2
  go_wp2_with fail
  refine FM.out.mono ?_
  rintro e w3 ⟨R3, T3, S3, sb, σ3, rfl, -, -, -, h3, o3, l1, l2, k3⟩
  have I0 : Hid (HvI w1 w3 d sb n 0) := Lib.hid ⟨R3, T3, S3, σ3, _, _, _, _, _, h3, by rw [o3, HO2.out]; omega, by omega, by omega, by rw [count0 k3]; omega, other0 k3⟩
  clear FM h3 o3 l1 l2 k3
  go_wp2_with fail
  try rw [hnq2]
  clear hnq hnq2
  go_loopw [11] (fun v11 wr => ∃ i : Nat, i ≤ 10 ∧ i ≤ zs.length ∧ v11 = .int .i64 (i : Int) ∧ HvI w1 wr d sb n i) (fun v11 _ => 10 - (intOf v11).toNat)
  case atStart => exact ⟨0, by omega, by omega, rfl, I0.out⟩
  case round =>
    obtain ⟨i, hi10, hil, rfl, R, T, S, σ, c, ka, oa, kb, ob, hsu, hops, hla, hlb, hcn, hot⟩ := hrel
    have ii : (i : Int) ≤ 10 := by omega
    by_cases hgo : i < zs.length ∧ i < 10
    rotate_left
    · have HC := Lib.hid hsu.calm
      have hcase : (¬ i < zs.length) ∨ (i < zs.length ∧ ¬ i < 10) := by omega
      clear hsu hgo
      rcases hcase with hge | ⟨hlt, hge⟩
      all_goals
        go_wp2_with fail
        go_ret
        exact ⟨rfl, C1.out.trans HC.out⟩
    obtain ⟨hlt, hlt10⟩ := hgo
    have i0 : (i : Int) < (zs.length : Int) := by omega
    have i1 : (i : Int) < 10 := by omega
    have AR := Lib.hid (su_area hsu (by omega) (by omega))
    have HP := Lib.hid (And.intro hops (And.intro hla (And.intro hlb (And.intro hcn hot))))
    have hlen := hsu.len
    have n4 := hsu.n4
    have hfA := hsu.a.hf
    have hfB := hsu.b.hf
    have haL := hsu.a.lo
    have hbL := hsu.b.lo
    have HF := Lib.hid (And.intro hfA (And.intro hfB (And.intro haL hbL)))
    have HLn := Lib.hid hlen
    obtain ⟨P0, P1, P2, eX, x0, x1, x2, l0, l1, lX⟩ := areaC_parts c n (n / 2) (by omega) hlen
    have ex := str_parts (H := H) (N := 512 * n) eX (by rw [HH.out]; exact l0) (by rw [HH.out]; exact l1) lX
    have hXs := str_size (areaC c 0 n)
    rw [lX] at hXs
    have HXP := Lib.hid (And.intro x0 (And.intro x1 x2))
    generalize hX : areaC c 0 n = X at *
    clear hsu hops hla hlb hcn hot hlen hfA hfB haL hbL eX x0 x1 x2 l0 l1 lX hX
    go_wp2_with fail
    refine AR.out.mono ?_
    rintro e w4 ⟨R4, rfl, h4, -, -, -⟩
    obtain ⟨ad, z, rfl, hz, hcell⟩ := HV.out.at_ (C1.out.trans h4.calm) i hlt
    obtain ⟨r, hr1, hr⟩ := mask_nat z 16 65535 (by omega) (by decide)
    obtain ⟨m, hm, hm'⟩ : ∃ m : Nat, m ≤ 499 ∧ (r : Int) % 500 = (m : Int) := ⟨r % 500, by omega, by omega⟩
    obtain ⟨cc, hcc⟩ : ∃ cc : UInt8, (cc.toNat : Int) = (i : Int) := ⟨UInt8.ofNat i, by rw [UInt8.toNat_ofNat']; omega⟩
    have TX := text4_c m cc w4 (by omega)
    rw [hcc] at TX
    have HTX := Lib.hid TX
    have H4 := Lib.hid h4
    clear AR h4 TX hz hcc
    go_wp2_with fail
    try rw [hm']
    clear hr hm' hr1
    refine HTX.out.mono ?_
    rintro e w5 ⟨rfl, c5⟩
    obtain ⟨c6, w6, q6, r6, k6, z6⟩ := conv_bytes w5 (List.replicate m cc) (by simp; unfold maxLen; omega)
    rw [List.length_replicate] at q6 r6
    have h6 := H4.out.rest (c5.trans k6)
    have SV := Lib.hid (su_save T1.out h6 (by omega) _ (List.replicate m cc) r6 (by rw [h6.hh]; simp; omega) (by have := HP.out; omega) (by
      have h0 := J_zero σ
      have h1 := J_one σ
      have := HP.out
      have : σ.other = 0 ∨ σ.other = 1 := by omega
      rcases this with e | e
      · rw [e, h0]; omega
      · rw [e, h1]; omega) (by show S.ops + n + _ + 4 ≤ _; have := HP.out; simp [secsOf]; omega))
    clear HTX r6 k6 z6 h6 c5 hcell
    go_wp2_with fail
    refine SV.out.mono ?_
    rintro e w7 ⟨R7, T7, S7, rfl, -, -, -, o7, h7⟩
    clear SV q6
    have o7' : Hid (S7.ops ≤ 10 + 100 * i + 50) := Lib.hid (by
      have : (S.more n).ops = S.ops + n := rfl
      have := HP.out
      simp [secsOf] at o7
      omega)
    clear o7
    obtain ⟨c7, ka7, oa7, kb7, ob7, h7, hcs⟩ : ∃ c7 ka7 oa7 kb7 ob7, Su w1 w7 R7 T7 d sb S7 (σ.saved (List.replicate m cc)) n c7 ka7 oa7 kb7 ob7 ∧
        ((i % 2 = 0 ∧ areaC c 0 (n / 2) ≠ areaC c7 0 (n / 2) ∧ areaC c (n / 2) (n / 2) = areaC c7 (n / 2) (n / 2)) ∨ (i % 2 = 1 ∧ areaC c 0 (n / 2) = areaC c7 0 (n / 2) ∧ areaC c (n / 2) (n / 2) ≠ areaC c7 (n / 2) (n / 2))) ∧ areaC c (n / 2 + n / 2) (n - 2 * (n / 2)) = areaC c7 (n / 2 + n / 2) (n - 2 * (n / 2)) := by
      have hq : secsOf (recB (σ.count + 1) (List.replicate m cc)).length < n / 2 := by rw [recB_len]; simp [secsOf]; omega
      have := HP.out
      have hF := HF.out
      rcases h7 with ⟨e, h7⟩ | ⟨e, h7⟩
      · exact ⟨_, _, _, _, _, h7, .inl ⟨by omega, halves_ne hF.1 h7.a.hf (by omega) (by omega) (by omega) (by omega), areaC_congr (fun x h1 h2 => (savC_out (.inr (by omega))).symm)⟩, areaC_congr (fun x h1 h2 => (savC_out (.inr (by omega))).symm)⟩
      · exact ⟨_, _, _, _, _, h7, .inr ⟨by omega, areaC_congr (fun x h1 h2 => (savC_out (.inl (by omega))).symm), halves_ne hF.2.1 h7.b.hf (by omega) (by omega) (by omega) (by omega)⟩, areaC_congr (fun x h1 h2 => (savC_out (.inr (by omega))).symm)⟩
    have AR2 := Lib.hid (su_area h7 (by omega) (by have := o7'.out; omega))
    obtain ⟨Q0, Q1, Q2, eY, y0, y1, y2, m0, m1, mY⟩ := areaC_parts c7 n (n / 2) (by omega) h7.len
    have ey := str_parts (H := H) (N := 512 * n) eY (by rw [HH.out]; exact m0) (by rw [HH.out]; exact m1) mY
    have hYs := str_size (areaC c7 0 n)
    rw [mY] at hYs
    have hX := HXP.out
    rw [← hX.1, ← hX.2.1, ← hX.2.2, ← y0, ← y1, ← y2] at hcs
    generalize areaC c7 0 n = Y at *
    clear h7 eY y0 y1 y2 m0 m1 mY hX HXP
    go_wp2_with fail
    refine AR2.out.mono ?_
    rintro e w8 ⟨R8, rfl, h8, -, -, -⟩
    have H8 := Lib.hid h8
    clear AR2 h8
    obtain ⟨ex1, ex2, ex3⟩ := ex
    obtain ⟨ey1, ey2, ey3⟩ := ey
    obtain ⟨hcs, e2⟩ := hcs
    have t3 := str_beq_yes e2
    have i2H : (2 : Int) * (H : Int) ≤ 512 * (n : Int) := iHn
    have iHH : (H : Int) ≤ 2 * (H : Int) := by omega
    have iH3 : (H : Int) ≤ 512 * (n : Int) := by omega
    have STEP : Hid (∀ wz, Calm w8 wz → HvI w1 wz d sb n (i + 1)) := Lib.hid (fun wz hz => HvI.step (H8.out.rest hz) (by show S7.ops + n ≤ _; have := o7'.out; omega) HP.out.2.1 HP.out.2.2.1 HP.out.2.2.2.1 HP.out.2.2.2.2)
    clear e2 iHn HF HLn
    rcases hcs with ⟨hev, ne0, e1⟩ | ⟨hod, e0, ne1⟩
    · have t1 := str_beq_no ne0
      have t2 := str_beq_yes e1
      have p1 : ((i : Int) % 2 == 1) = false := by rw [beq_eq_false_iff_ne]; omega
      have p2 : ((i : Int) % 2 == 0) = true := by rw [beq_iff_eq]; omega
      clear ne0 e1 hev
      go_wp2_with fail
      go_quiet (fail)
      go_wp2_with fail
      go_quiet (fail)
      go_wp2_with fail
      go_quiet (fail)
      go_wp2_with fail
      go_roundw
      case rel => exact ⟨i + 1, by omega, by omega, by go_num, STEP.out _ ((Keep.refl _ w8).drewN _)⟩
      case measure => simp [intOf]; omega
    · have t1 := str_beq_yes e0
      have t2 := str_beq_no ne1
      have p1 : ((i : Int) % 2 == 1) = true := by rw [beq_iff_eq]; omega
      have p2 : ((i : Int) % 2 == 0) = false := by rw [beq_eq_false_iff_ne]; omega
      clear ne1 e0 hod
      go_wp2_with fail
      go_quiet (fail)
      go_wp2_with fail
      go_quiet (fail)
      go_wp2_with fail
      go_quiet (fail)
      go_wp2_with fail
      go_roundw
      case rel => exact ⟨i + 1, by omega, by omega, by go_num, STEP.out _ ((Keep.refl _ w8).drewN _)⟩
      case measure => simp [intOf]; omega
end Go.Proofs.YtfigiofiakkbdaaDoor
