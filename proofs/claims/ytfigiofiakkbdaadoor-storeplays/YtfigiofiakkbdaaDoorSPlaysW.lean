/-
  StorePlays, walked.
-/
import Derived.Test.YtfigiofiakkbdaaDoorS15
import Derived.BigQuiet
namespace Go.Proofs.YtfigiofiakkbdaaDoor
open Go.RowKit
set_option linter.all false

set_option maxRecDepth 100000 in
set_option maxHeartbeats 32000000 in
theorem splays_w (w : World) (hT : Tab w) (a0 : Int) (v : Value) (zs : List Int) (hv : Nums .i64 w v zs) (hfi : Fits v) :
    Calls Tryd.prog 3 #[.int .i64 a0, v] w fun e w' => e = .returned (.bool true) ∧ Calm w w' := by
  obtain ⟨r0, b0, m0⟩ := mask_nat a0 16 65535 (by omega) (by decide)
  have SH := Lib.hid (shown4_c w hT)
  have HT := Lib.hid hT
  obtain ⟨A, cap, rfl⟩ := hv.form
  have hzl := hfi.len
  have HV := Lib.hid hv
  obtain ⟨n, hn⟩ : ∃ n : Nat, n = 4 + r0 % 10 := ⟨_, rfl⟩
  have hn1 : 4 ≤ n ∧ n ≤ 13 := by omega
  have hn' : (4 : Int) + (r0 : Int) % 10 = (n : Int) := by omega
  have b0' : (r0 : Int) < 65536 := by omega
  obtain ⟨hf, hhf⟩ : ∃ hf : Nat, hf = n / 2 := ⟨_, rfl⟩
  have hhb : 2 ≤ hf ∧ hf ≤ 6 := by omega
  have hnq : (n : Int) / 2 = (hf : Int) := by omega
  have in13 : (n : Int) ≤ 13 := by omega
  have ih6 : (hf : Int) ≤ 6 := by omega
  have ih2 : (2 : Int) ≤ (hf : Int) := by omega
  have in2h : 2 * (hf : Int) ≤ (n : Int) := by omega
  obtain ⟨zl, hzl1⟩ : ∃ zl : Nat, zl = 512 * (hf - 1) := ⟨_, rfl⟩
  obtain ⟨rl, hrl1⟩ : ∃ rl : Nat, rl = 512 * (n - 2 * hf) := ⟨_, rfl⟩
  have hzl' : (512 : Int) * ((hf : Int) - 1) = (zl : Int) := by omega
  have hrl' : (512 : Int) * ((n : Int) - 2 * (hf : Int)) = (rl : Int) := by omega
  have HHf := Lib.hid hhf
  have HLn := Lib.hid (And.intro hzl1 hrl1)
  have hzb : zl ≤ 3000 ∧ rl ≤ 512 := by omega
  clear hT hn hv hfi hhf hzl1 hrl1
  go_enter Tryd.func3, Tryd.ntmps3
  go_wp2_with fail
  refine SH.out.mono ?_
  rintro e w1 ⟨rfl, c1⟩
  have C1 := Lib.hid c1
  have T1 := Lib.hid (HT.out.calm c1)
  have N := Lib.hid (new_up w1 n (by omega) (by omega))
  clear c1 SH
  go_wp2_with fail
  try rw [hn']
  clear m0 hn' b0'
  refine N.out.mono ?_
  rintro e w2 ⟨R2, d, S2, rfl, h2, u2, s2, e2, o2, -⟩
  have FM := Lib.hid (su_format T1.out h2 u2 s2 e2 (by omega) (by omega))
  have HO2 := Lib.hid o2
  clear N h2 u2 s2 e2 o2
  go_wp2_with fail
  refine FM.out.mono ?_
  rintro e w3 ⟨R3, T3, S3, sb, σ3, rfl, -, -, -, h3, o3, l1, l2, k3⟩
  have H3 := Lib.hid (And.intro h3 (And.intro o3 (And.intro l1 (And.intro l2 k3))))
  clear FM h3 o3 l1 l2 k3
  have qz := run_make8 w3 zl (by omega)
  have cz := conv_rd ((Own.zeros w3 zl (by omega)).rd ⟨_, _, _, rfl⟩)
  have C4 : Hid (Calm w3 (w3.alloc (.cells (zeros8 zl) 5))) := Lib.hid ((Keep.refl _ w3).alloc _)
  go_upto_region 11 with fail
  clear qz cz
  obtain ⟨w4, hw4⟩ : ∃ w4, w4 = w3.alloc (.cells (zeros8 zl) 5) := ⟨_, rfl⟩
  rw [← hw4] at C4 ⊢
  clear hw4
  have sa := str_app
  have ss := str_size
  have bl1 := begP_len 1
  have BG := fun wx => Lib.hid (begin_c 1 wx (by omega))
  have zll : (List.replicate zl (0 : UInt8)).length = zl := List.length_replicate
  generalize hB : begP 1 = B at BG bl1 ⊢
  generalize hZz : List.replicate zl (0 : UInt8) = ZZ at zll ⊢
  go_wp2_with fail
  refine (BG _).out.mono ?_
  rintro e w5 ⟨rfl, c5⟩
  have C5 := Lib.hid c5
  clear c5
  go_wp2_with fail
  refine (BG _).out.mono ?_
  rintro e w6 ⟨rfl, c6⟩
  have C6 := Lib.hid (C4.out.trans (C5.out.trans c6))
  clear c6 BG
  have C7 : Hid (Calm w6 (w6.alloc (.cells #[.string (str (B ++ ZZ)), .string (str (B ++ ZZ))] 34))) := Lib.hid ((Keep.refl _ w6).alloc _)
  have R7 : Hid (Row (w6.alloc (.cells #[.string (str (B ++ ZZ)), .string (str (B ++ ZZ))] 34)) w6.heap.size 34 #[.string (str (B ++ ZZ)), .string (str (B ++ ZZ))]) := Lib.hid (Row.made _ _ _)
  go_upto_region 12 with fail
  generalize World.alloc w6 _ = w7 at C7 R7 ⊢
  clear sa ss bl1 zll
  have qr := run_make8 w7 rl (by omega)
  have cr := conv_rd ((Own.zeros w7 rl (by omega)).rd ⟨_, _, _, rfl⟩)
  have C8 : Hid (Calm w7 (w7.alloc (.cells (zeros8 rl) 5))) := Lib.hid ((Keep.refl _ w7).alloc _)
  go_upto_region 13 with fail
  generalize World.alloc w7 _ = w8 at C8 ⊢
  clear qr cr
  have C9 : Hid (Calm w8 (w8.alloc (.cells #[.int .u64 2, .int .u64 2] 35))) := Lib.hid ((Keep.refl _ w8).alloc _)
  have R9 : Hid (Row (w8.alloc (.cells #[.int .u64 2, .int .u64 2] 35)) w8.heap.size 35 #[.int .u64 2, .int .u64 2]) := Lib.hid (Row.made _ _ _)
  go_upto_region 14 with fail
  generalize World.alloc w8 _ = w9 at C9 R9 ⊢
  obtain ⟨hb, hhb⟩ : ∃ hb, hb = w6.heap.size := ⟨_, rfl⟩
  obtain ⟨nb, hnb⟩ : ∃ nb, nb = w8.heap.size := ⟨_, rfl⟩
  rw [← hhb] at R7 ⊢
  rw [← hnb] at R9 ⊢
  have I0 : Hid (Py w1 w9 d sb hb nb n 0 R3 T3 S3 σ3 (upd (upd (fun _ => full 0) 0 (begP 1)) (n / 2) (begP 1)) 1 none 1 none [] ∧ S3.ops ≤ 10 ∧ σ3.kept = none) := Lib.hid (by
    obtain ⟨h3, o3, l1, l2, k3⟩ := H3.out
    have hc9 := C6.out.trans (C7.out.trans (C8.out.trans C9.out))
    have hz6 := C6.out.size
    have hz8 := Nat.le_trans hz6 (Nat.le_trans C7.out.size C8.out.size)
    have fr : ∀ k, w3.heap.size ≤ k → ¬ R3 k ∧ ¬ T3 k ∧ w1.heap.size ≤ k := fun k hk => ⟨h3.sto.sd.st.fresh hk, fun e => absurd (h3.sto.sm.lt k e) (by omega), Nat.le_trans h3.calm.size hk⟩
    have hh := HHf.out
    have hl := HLn.out
    have e0 : areaC (upd (upd (fun _ => full 0) 0 (begP 1)) (n / 2) (begP 1)) 0 (n / 2) = B ++ ZZ := by
      rw [areaC_congr (c' := upd (fun _ => full 0) 0 (begP 1)) (fun i _ h2 => by unfold upd; rw [if_neg (by omega)]), areaC_first _ _ _ _ (by omega), areaC_zeros, ← hB, ← hZz, hl.1, hh]
    have e1 : areaC (upd (upd (fun _ => full 0) 0 (begP 1)) (n / 2) (begP 1)) (n / 2) (n / 2) = B ++ ZZ := by
      rw [areaC_first _ _ _ _ (by omega), areaC_congr (c' := fun _ => full 0) (fun i h1 _ => by unfold upd; rw [if_neg (by omega)]), areaC_zeros, ← hB, ← hZz, hl.1, hh]
    refine ⟨⟨h3.rest hc9, ?_, ?_, fr hb (by omega), fr nb (by omega), ?_, by omega, by omega, by rw [count0 k3]; omega, .inl ⟨k3, rfl⟩, by simp⟩, by rw [o3, HO2.out]; omega, k3⟩
    · rw [e0, e1]; exact (R7.out.keep C8.out (fun e => e)).keep C9.out (fun e => e)
    · rw [l1, l2]; exact R9.out
    · rw [areaC_congr (c' := fun _ => full 0) (fun i h1 _ => by unfold upd; rw [if_neg (by omega), if_neg (by omega)]), areaC_zeros])
  clear C6 C7 C8 C9 R7 R9 H3 hhb hnb C5 C4 hB hZz
  obtain ⟨Z, hZ⟩ : ∃ Z, Z = List.replicate (512 * (n - 2 * (n / 2))) (0 : UInt8) := ⟨_, rfl⟩
  have hZ' : List.replicate rl (0 : UInt8) = Z := by rw [hZ, HLn.out.2, HHf.out]
  rw [hZ']
  have HZd := Lib.hid hZ
  clear hZ hZ' hnq hrl' hzl'
  go_wp2_with fail
  go_loopw [15, 16, 17, 18] (fun v15 v16 v17 v18 wr => ∃ (i : Nat) (R T : Nat → Prop) (S : DS) (σ : SS) (c : Nat → List UInt8) (ka : Nat) (oa : Option (List UInt8)) (kb : Nat) (ob : Option (List UInt8)) (lst : List UInt8), i ≤ 15 ∧ i ≤ zs.length ∧ v18 = .int .i64 (i : Int) ∧ v15 = .int .i64 (1 - (σ.other : Int)) ∧ v16 = .int .u64 (σ.count : Int) ∧ v17 = .string (str lst) ∧ Py w1 wr d sb hb nb n i R T S σ c ka oa kb ob lst ∧ S.ops ≤ 10 + 200 * i) (fun _ _ _ v18 _ => 15 - (intOf v18).toNat)
  case atStart => exact ⟨0, R3, T3, S3, σ3, _, _, _, _, _, [], by omega, by omega, rfl, by rw [other0 I0.out.2.2]; rfl, by rw [count0 I0.out.2.2]; rfl, rfl, I0.out.1, by have := I0.out.2.1; omega⟩
  case round =>
    obtain ⟨i, R, T, S, σ, c, ka, oa, kb, ob, lst, hi15, hil, rfl, rfl, rfl, rfl, hpy, hops⟩ := hrel
    have ii : (i : Int) ≤ 15 := by omega
    have io : (σ.other : Int) ≤ 1 := by unfold SS.other; split <;> omega
    have ic : (σ.count : Int) ≤ 15 := by have := hpy.cn; omega
    by_cases hgo : i < zs.length ∧ i < 15
    rotate_left
    · have HC := Lib.hid hpy.calm
      have hcase : (¬ i < zs.length) ∨ (i < zs.length ∧ ¬ i < 15) := by omega
      clear hpy hgo
      rcases hcase with hge | ⟨hlt, hge⟩
      all_goals
        go_wp2_with fail
        go_ret
        exact ⟨rfl, C1.out.trans HC.out⟩
    obtain ⟨hlt, hlt15⟩ := hgo
    have i0 : (i : Int) < (zs.length : Int) := by omega
    have i1 : (i : Int) < 15 := by omega
    obtain ⟨ad, z, rfl, hz, hcell⟩ := HV.out.at_ (C1.out.trans hpy.calm) i hlt
    obtain ⟨r, hr1, hr⟩ := mask_nat z 16 65535 (by omega) (by decide)
    obtain ⟨m, hm, hm'⟩ : ∃ m : Nat, m ≤ 2999 ∧ (r : Int) % 3000 = (m : Int) := ⟨r % 3000, by omega, by omega⟩
    obtain ⟨cc, hcc⟩ : ∃ cc : UInt8, (cc.toNat : Int) = (i : Int) := ⟨UInt8.ofNat i, by rw [UInt8.toNat_ofNat']; omega⟩
    have TX := text4_c m cc wr (by omega)
    rw [hcc] at TX
    have HTX := Lib.hid TX
    have HPY := Lib.hid hpy
    have HOP := Lib.hid hops
    clear TX hz hcc hpy hops
    go_wp2_with fail
    try rw [hm']
    clear hr hm' hr1
    refine HTX.out.mono ?_
    rintro e w5 ⟨rfl, c5⟩
    obtain ⟨bs, hbs⟩ : ∃ bs, bs = List.replicate m cc := ⟨_, rfl⟩
    have hbl : bs.length = m := by rw [hbs, List.length_replicate]
    rw [← hbs]
    obtain ⟨c6, w6, q6, r6, k6, z6⟩ := conv_bytes w5 bs (by rw [hbl]; unfold maxLen; omega)
    rw [hbl] at q6 r6
    have PY6 := Lib.hid (HPY.out.rest' (c5.trans k6))
    have RD6 := Lib.hid r6
    have HBL := Lib.hid hbl
    have HH6 : Hid (σ.h = n / 2) := Lib.hid HPY.out.su.hh
    have ss1 := str_size bs
    rw [hbl] at ss1
    clear HTX c5 k6 z6 r6 hcell hbs HPY hbl
    by_cases hfit : (m : Int) ≤ 512 * ((hf : Int) - 1) - 24
    rotate_left
    · have tF : decide (512 * ((hf : Int) - 1) - 24 < (m : Int)) = true := decide_eq_true (by omega)
      have FU := Lib.hid (ssave_full PY6.out.su.sto.sm (by rw [HH6.out]; omega) (by rw [HH6.out]; omega) (some ⟨w5.heap.size, 0, none⟩) m c6 (by rw [HH6.out, ← HHf.out]; omega))
      go_wp2_with fail
      refine FU.out.mono ?_
      rintro e w6' ⟨rfl, rfl⟩
      have OB : Hid (S.ops ≤ 10 + 200 * i + 60) := Lib.hid (by have := HOP.out; omega)
      have PY := Lib.hid PY6.out.step
      clear FU q6 hfit
      rcases PY6.out.kp with ⟨kn, hln⟩ | ⟨hcq, yk, ks⟩
      · have KQ := Lib.hid kn
        clear kn hln
        go_upto_region 33 with fail
        clear tF ss1
        have LD := Lib.hid (sload_none PY.out.su.sto.sm KQ.out)
        go_wp2_with fail
        refine LD.out.mono ?_
        rintro e wa ⟨rfl, rfl⟩
        have pya := PY.out
        have OP := Lib.hid (su_open T1.out (pya.su.sto.sd) pya.su.up pya.su.sh pya.su.wait pya.su.n4 (by omega) pya.su.a.hf pya.su.b.hf (by have := pya.su.a.lo; have := pya.al; omega) (by have := pya.su.b.lo; have := pya.bl; omega) (by have := OB.out; omega))
        have PYA := Lib.hid pya
        clear LD pya
        go_wp2_with fail
        refine OP.out.mono ?_
        rintro e wb ⟨Rb, Tb, sb2, σb, qb, -, -, -, -, rfl, hqb, htb, hxb, hkb, hsub, -⟩
        have pyb := (PYA.out.moved qb hsub.sto.sd hxb hkb).rest' ((Keep.refl _ wb).drew)
        skip
        obtain ⟨P0, P1, P2, eX, x0, x1, x2, l0, l1, lX⟩ := areaC_parts c n (n / 2) (by omega) pyb.len
        rw [x2.trans pyb.rest] at eX
        have AR := su_area pyb.su (by omega) (by show S.ops + qb ≤ _; have := OB.out; omega)
        rw [eX, ← List.append_assoc] at AR
        have hA0 : wb.cell? ⟨hb, 0, none⟩ = some (.string (str P0)) := (pyb.hr.cell 0).trans (by rw [x0]; rfl)
        have hA1 : wb.cell? ⟨hb, 1, none⟩ = some (.string (str P1)) := (pyb.hr.cell 1).trans (by rw [x1]; rfl)
        have lZ : (List.replicate (512 * (n - 2 * (n / 2))) (0 : UInt8)).length ≤ 512 := by rw [List.length_replicate]; omega
        have l0' : P0.length ≤ 3072 := by omega
        have l1' : P1.length ≤ 3072 := by omega
        have HAR := Lib.hid AR
        have PYB := Lib.hid pyb
        have SUB := Lib.hid (hsub.rest ((Keep.refl _ wb).drew))
        have KB : Hid (σb.kept = σ.kept) := Lib.hid (hsub.kept.trans PYA.out.su.kept.symm)
        have LB : Hid (hb < wb.heap.size ∧ ¬ Rb hb) := Lib.hid ⟨pyb.hr.lt, pyb.hx.1⟩
        rw [← HZd.out] at HAR lZ
        clear OP AR eX x0 x1 x2 l0 l1 lX pyb hsub hxb hkb htb
        have sa := str_app
        have ss := str_size
        have tne := str_bne_no (a := P0 ++ P1 ++ Z) (b := P0 ++ P1 ++ Z) rfl
        go_wp2_with fail
        refine wp_region_noPanic ?_
        refine wp_region_held_drew (S := fun wx => wx.cell? ⟨hb, 0, none⟩ = some (.string (str P0)) ∧ wx.cell? ⟨hb, 1, none⟩ = some (.string (str P1))) (by kernel_rfl) ⟨hA0, hA1⟩ (fun hHeld => ?_)
        refine take_at 0 152 (.pointer (some ⟨sb2, 0, none⟩)) rfl rfl (by kernel_rfl) (by kernel_rfl) (by kernel_rfl) (fun _ _ _ h => h) (Or.inl ⟨by rfl, ?_⟩) hHeld ?_
        · intro w hSw; go_simp
        simp only [List.setIfInBounds_toArray, List.set_cons_zero, List.set_cons_succ]
        refine take_at 1 153 (.bool false) rfl rfl (by kernel_rfl) (by kernel_rfl) (by kernel_rfl) (fun _ _ _ h => h) (Or.inl ⟨by rfl, ?_⟩) hHeld ?_
        · intro w hSw; go_simp
        simp only [List.setIfInBounds_toArray, List.set_cons_zero, List.set_cons_succ]
        refine take_at 2 154 (.bool false) rfl rfl (by kernel_rfl) (by kernel_rfl) (by kernel_rfl) (fun _ _ _ h => h) (Or.inl ⟨by rfl, ?_⟩) hHeld ?_
        · intro w hSw; go_simp
        simp only [List.setIfInBounds_toArray, List.set_cons_zero, List.set_cons_succ]
        refine take_at 3 155 (.int .i64 0) rfl rfl (by kernel_rfl) (by kernel_rfl) (by kernel_rfl) (fun _ _ _ h => h) (Or.inl ⟨by rfl, ?_⟩) hHeld ?_
        · intro w hSw; go_simp
        simp only [List.setIfInBounds_toArray, List.set_cons_zero, List.set_cons_succ]
        refine take_at 4 156 (.bool false) rfl rfl (by kernel_rfl) (by kernel_rfl) (by kernel_rfl) (fun _ _ _ h => h) (Or.inl ⟨by rfl, ?_⟩) hHeld ?_
        · intro w hSw; go_simp
        simp only [List.setIfInBounds_toArray, List.set_cons_zero, List.set_cons_succ]
        refine take_at 5 157 (.bool false) rfl rfl (by kernel_rfl) (by kernel_rfl) (by kernel_rfl) (fun _ _ _ h => h) (Or.inl ⟨by rfl, ?_⟩) hHeld ?_
        · intro w hSw; go_simp
        simp only [List.setIfInBounds_toArray, List.set_cons_zero, List.set_cons_succ]
        refine take_at 6 158 (.bool false) rfl rfl (by kernel_rfl) (by kernel_rfl) (by kernel_rfl) (fun _ _ _ h => h) (Or.inl ⟨by rfl, ?_⟩) hHeld ?_
        · intro w hSw; go_simp
        simp only [List.setIfInBounds_toArray, List.set_cons_zero, List.set_cons_succ]
        refine take_at 7 159 (.pointer (some ⟨d, 0, none⟩)) rfl rfl (by kernel_rfl) (by kernel_rfl) (by kernel_rfl) (fun _ _ _ h => h) (Or.inl ⟨by rfl, ?_⟩) hHeld ?_
        · intro w hSw; go_simp
        simp only [List.setIfInBounds_toArray, List.set_cons_zero, List.set_cons_succ]
        refine take_at 9 161 (.pointer (some ⟨hb, 0, none⟩)) rfl rfl (by kernel_rfl) (by kernel_rfl) (by kernel_rfl) (fun _ _ _ h => h) (Or.inl ⟨by rfl, ?_⟩) hHeld ?_
        · intro w hSw; go_simp
        simp only [List.setIfInBounds_toArray, List.set_cons_zero, List.set_cons_succ]
        refine take_at 10 162 (.string (str P0)) rfl rfl (by kernel_rfl) (by kernel_rfl) (by kernel_rfl) (fun _ _ _ h => h) (Or.inl ⟨by rfl, ?_⟩) hHeld ?_
        · intro w hSw; obtain ⟨s1, s2⟩ := hSw; go_simp
        simp only [List.setIfInBounds_toArray, List.set_cons_zero, List.set_cons_succ]
        refine take_at 11 163 (.pointer (some ⟨hb, 1, none⟩)) rfl rfl (by kernel_rfl) (by kernel_rfl) (by kernel_rfl) (fun _ _ _ h => h) (Or.inl ⟨by rfl, ?_⟩) hHeld ?_
        · intro w hSw; go_simp
        simp only [List.setIfInBounds_toArray, List.set_cons_zero, List.set_cons_succ]
        refine take_at 12 164 (.string (str P1)) rfl rfl (by kernel_rfl) (by kernel_rfl) (by kernel_rfl) (fun _ _ _ h => h) (Or.inl ⟨by rfl, ?_⟩) hHeld ?_
        · intro w hSw; obtain ⟨s1, s2⟩ := hSw; go_simp
        simp only [List.setIfInBounds_toArray, List.set_cons_zero, List.set_cons_succ]
        refine take_at 13 165 (.string (str (P0 ++ P1))) rfl rfl (by kernel_rfl) (by kernel_rfl) (by kernel_rfl) (fun _ _ _ h => h) (Or.inl ⟨by rfl, ?_⟩) hHeld ?_
        · intro w hSw; go_simp; omega
        simp only [List.setIfInBounds_toArray, List.set_cons_zero, List.set_cons_succ]
        refine take_at 14 166 (.string (str Z)) rfl rfl (by kernel_rfl) (by kernel_rfl) (by kernel_rfl) (fun _ _ _ h => h) (Or.inl ⟨by rfl, ?_⟩) hHeld ?_
        · intro w hSw; go_simp
        simp only [List.setIfInBounds_toArray, List.set_cons_zero, List.set_cons_succ]
        refine take_at 15 167 (.string (str (P0 ++ P1 ++ Z))) rfl rfl (by kernel_rfl) (by kernel_rfl) (by kernel_rfl) (fun _ _ _ h => h) (Or.inl ⟨by rfl, ?_⟩) hHeld ?_
        · intro w hSw; go_simp; omega
        simp only [List.setIfInBounds_toArray, List.set_cons_zero, List.set_cons_succ]
        refine wpAnyH_ready (rs := [8]) (by kernel_rfl) (by simp) ?_
        refine AllReadyH.cons rfl (fun K hK => ?_) AllReadyH.nil
        go_simp
        refine HAR.out.mono ?_
        rintro e wc ⟨Rc, rfl, hsc, hxc, hkc, -⟩
        have f0 : wc.cell? ⟨hb, 0, none⟩ = some (.string (str P0)) := (hkc.cell (p := ⟨hb, 0, none⟩) LB.out.1 LB.out.2).trans hA0
        have f1 : wc.cell? ⟨hb, 1, none⟩ = some (.string (str P1)) := (hkc.cell (p := ⟨hb, 1, none⟩) LB.out.1 LB.out.2).trans hA1
        have PYC := Lib.hid (PYB.out.moved n hsc.sto.sd hxc hkc)
        have SUC := Lib.hid (SUB.out.moved n hsc.sto.sd hxc hkc)
        have RM := sroom_c PYC.out.su.sto.sm (by rw [PYC.out.su.hh]; omega) (by rw [PYC.out.su.hh]; omega)
        have hrm : ((σ.h : Int) - 1) * 512 - 24 = 512 * ((hf : Int) - 1) - 24 := by rw [PYC.out.su.hh, ← HHf.out]; omega
        rw [hrm] at RM
        have HRM := Lib.hid RM
        clear hsc hxc hkc RM hrm HAR
        refine hK.out _ _ ⟨f0, f1⟩ (fun hHeld => ?_)
        clear hK K
        try simp only [List.setIfInBounds_toArray, List.set_cons_zero, List.set_cons_succ]
        refine take_at 16 168 (.bool false) rfl rfl (by kernel_rfl) (by kernel_rfl) (by kernel_rfl) (fun _ _ _ h => h) (Or.inl ⟨by rfl, ?_⟩) hHeld ?_
        · intro w hSw; go_simp
        simp only [List.setIfInBounds_toArray, List.set_cons_zero, List.set_cons_succ]
        refine take_at 17 169 (.bool false) rfl rfl (by kernel_rfl) (by kernel_rfl) (by kernel_rfl) (fun _ _ _ h => h) (Or.inl ⟨by rfl, ?_⟩) hHeld ?_
        · intro w hSw; go_simp
        simp only [List.setIfInBounds_toArray, List.set_cons_zero, List.set_cons_succ]
        refine take_at 18 170 (.bool false) rfl rfl (by kernel_rfl) (by kernel_rfl) (by kernel_rfl) (fun _ _ _ h => h) (Or.inl ⟨by rfl, ?_⟩) hHeld ?_
        · intro w hSw; go_simp
        simp only [List.setIfInBounds_toArray, List.set_cons_zero, List.set_cons_succ]
        refine take_at 19 171 (.pointer (some ⟨sb, 0, none⟩)) rfl rfl (by kernel_rfl) (by kernel_rfl) (by kernel_rfl) (fun _ _ _ h => h) (Or.inl ⟨by rfl, ?_⟩) hHeld ?_
        · intro w hSw; go_simp
        simp only [List.setIfInBounds_toArray, List.set_cons_zero, List.set_cons_succ]
        refine take_at 21 173 (.int .i64 (hf : Int)) rfl rfl (by kernel_rfl) (by kernel_rfl) (by kernel_rfl) (fun _ _ _ h => h) (Or.inl ⟨by rfl, ?_⟩) hHeld ?_
        · intro w hSw; go_simp
        simp only [List.setIfInBounds_toArray, List.set_cons_zero, List.set_cons_succ]
        refine take_at 22 174 (.int .i64 ((hf : Int) - 1)) rfl rfl (by kernel_rfl) (by kernel_rfl) (by kernel_rfl) (fun _ _ _ h => h) (Or.inl ⟨by rfl, ?_⟩) hHeld ?_
        · intro w hSw; go_simp; rw [IntKind.wrap_i64]; omega
        simp only [List.setIfInBounds_toArray, List.set_cons_zero, List.set_cons_succ]
        refine take_at 23 175 (.int .i64 (512 * ((hf : Int) - 1))) rfl rfl (by kernel_rfl) (by kernel_rfl) (by kernel_rfl) (fun _ _ _ h => h) (Or.inl ⟨by rfl, ?_⟩) hHeld ?_
        · intro w hSw; go_simp; rw [IntKind.wrap_i64]; omega
        simp only [List.setIfInBounds_toArray, List.set_cons_zero, List.set_cons_succ]
        refine take_at 24 176 (.int .i64 (512 * ((hf : Int) - 1) - 24)) rfl rfl (by kernel_rfl) (by kernel_rfl) (by kernel_rfl) (fun _ _ _ h => h) (Or.inl ⟨by rfl, ?_⟩) hHeld ?_
        · intro w hSw; go_simp; rw [IntKind.wrap_i64]; omega
        simp only [List.setIfInBounds_toArray, List.set_cons_zero, List.set_cons_succ]
        refine wpAnyH_ready (rs := [20]) (by kernel_rfl) (by simp) ?_
        refine AllReadyH.cons rfl (fun K hK => ?_) AllReadyH.nil
        go_simp
        refine HRM.out.mono ?_
        rintro e wd ⟨rfl, rfl⟩
        refine hK.out _ _ ⟨f0, f1⟩ (fun hHeld => ?_)
        clear hK K
        try simp only [List.setIfInBounds_toArray, List.set_cons_zero, List.set_cons_succ]
        refine take_at 25 177 (.bool false) rfl rfl (by kernel_rfl) (by kernel_rfl) (by kernel_rfl) (fun _ _ _ h => h) (Or.inl ⟨by rfl, ?_⟩) hHeld ?_
        · intro w hSw; go_simp
        simp only [List.setIfInBounds_toArray, List.set_cons_zero, List.set_cons_succ]
        refine take_at 26 178 (.bool false) rfl rfl (by kernel_rfl) (by kernel_rfl) (by kernel_rfl) (fun _ _ _ h => h) (Or.inl ⟨by rfl, ?_⟩) hHeld ?_
        · intro w hSw; go_simp
        simp only [List.setIfInBounds_toArray, List.set_cons_zero, List.set_cons_succ]
        refine wpAnyH_done (by kernel_rfl) (NoPanic.normal ?_) _
        clear hHeld hA0 hA1 sa tne
        have LD2 := Lib.hid (sload_none SUC.out.sto.sm (KB.out.trans KQ.out))
        have c0 : ((σ.count : Int) == 0) = true := by rw [count0 KQ.out]; rfl
        have c1 : decide (0 < (σ.count : Int)) = false := by rw [count0 KQ.out]; rfl
        have c2 : decide (0 < σ.count) = false := by rw [count0 KQ.out]; rfl
        go_wp2_with fail
        refine LD2.out.mono ?_
        rintro e we ⟨rfl, rfl⟩
        clear LD2
        go_wp2_with fail
        go_roundw
        case rel => exact ⟨i + 1, _, _, _, _, _, _, _, _, _, _, by omega, by omega, by go_num, by rfl, rfl, rfl, PYC.out, by show S.ops + qb + n ≤ _; have := OB.out; omega⟩
        case measure => simp [intOf]; omega
      · have KQ := Lib.hid ks
        have CQ := Lib.hid hcq
        clear ks hcq
        go_upto_region 33 with fail
        clear tF ss1
        have LD := Lib.hid (sload_some PY.out.su.sto.sm KQ.out (by have := PY.out.ll; omega))
        go_wp2_with fail
        refine LD.out.mono ?_
        rintro e wa ⟨A, cp, rfl, owa, cca⟩
        have pya := PY.out.rest' cca
        have IA : Hid (InT wa (fun k => w6.heap.size ≤ k ∧ k < wa.heap.size) (.slice A lst.length cp) lst) := Lib.hid (InT.of_own owa)
        clear owa cca
        have OP := Lib.hid (su_open T1.out (pya.su.sto.sd) pya.su.up pya.su.sh pya.su.wait pya.su.n4 (by omega) pya.su.a.hf pya.su.b.hf (by have := pya.su.a.lo; have := pya.al; omega) (by have := pya.su.b.lo; have := pya.bl; omega) (by have := OB.out; omega))
        have PYA := Lib.hid pya
        clear LD pya
        go_wp2_with fail
        refine OP.out.mono ?_
        rintro e wb ⟨Rb, Tb, sb2, σb, qb, -, -, -, -, rfl, hqb, htb, hxb, hkb, hsub, -⟩
        have pyb := (PYA.out.moved qb hsub.sto.sd hxb hkb).rest' ((Keep.refl _ wb).drew)
        have IB := Lib.hid ((IA.out.keep hkb (fun k hk => PY.out.su.sto.sd.st.fresh hk.1)).keep ((Keep.refl (fun _ => False) wb).drew) (fun _ _ e => e))
        have FB : Hid (∀ k, w6.heap.size ≤ k ∧ k < wa.heap.size → ¬ Rb k) := Lib.hid (fun k hk e => (hxb k e).elim (fun e => PY.out.su.sto.sd.st.fresh hk.1 e) (fun e => by omega))
        obtain ⟨P0, P1, P2, eX, x0, x1, x2, l0, l1, lX⟩ := areaC_parts c n (n / 2) (by omega) pyb.len
        rw [x2.trans pyb.rest] at eX
        have AR := su_area pyb.su (by omega) (by show S.ops + qb ≤ _; have := OB.out; omega)
        rw [eX, ← List.append_assoc] at AR
        have hA0 : wb.cell? ⟨hb, 0, none⟩ = some (.string (str P0)) := (pyb.hr.cell 0).trans (by rw [x0]; rfl)
        have hA1 : wb.cell? ⟨hb, 1, none⟩ = some (.string (str P1)) := (pyb.hr.cell 1).trans (by rw [x1]; rfl)
        have lZ : (List.replicate (512 * (n - 2 * (n / 2))) (0 : UInt8)).length ≤ 512 := by rw [List.length_replicate]; omega
        have l0' : P0.length ≤ 3072 := by omega
        have l1' : P1.length ≤ 3072 := by omega
        have HAR := Lib.hid AR
        have PYB := Lib.hid pyb
        have SUB := Lib.hid (hsub.rest ((Keep.refl _ wb).drew))
        have KB : Hid (σb.kept = σ.kept) := Lib.hid (hsub.kept.trans PYA.out.su.kept.symm)
        have LB : Hid (hb < wb.heap.size ∧ ¬ Rb hb) := Lib.hid ⟨pyb.hr.lt, pyb.hx.1⟩
        rw [← HZd.out] at HAR lZ
        clear OP AR eX x0 x1 x2 l0 l1 lX pyb hsub hxb hkb htb
        have sa := str_app
        have ss := str_size
        have tne := str_bne_no (a := P0 ++ P1 ++ Z) (b := P0 ++ P1 ++ Z) rfl
        go_wp2_with fail
        refine wp_region_noPanic ?_
        refine wp_region_held_drew (S := fun wx => wx.cell? ⟨hb, 0, none⟩ = some (.string (str P0)) ∧ wx.cell? ⟨hb, 1, none⟩ = some (.string (str P1))) (by kernel_rfl) ⟨hA0, hA1⟩ (fun hHeld => ?_)
        refine take_at 0 152 (.pointer (some ⟨sb2, 0, none⟩)) rfl rfl (by kernel_rfl) (by kernel_rfl) (by kernel_rfl) (fun _ _ _ h => h) (Or.inl ⟨by rfl, ?_⟩) hHeld ?_
        · intro w hSw; go_simp
        simp only [List.setIfInBounds_toArray, List.set_cons_zero, List.set_cons_succ]
        refine take_at 1 153 (.bool false) rfl rfl (by kernel_rfl) (by kernel_rfl) (by kernel_rfl) (fun _ _ _ h => h) (Or.inl ⟨by rfl, ?_⟩) hHeld ?_
        · intro w hSw; go_simp
        simp only [List.setIfInBounds_toArray, List.set_cons_zero, List.set_cons_succ]
        refine take_at 2 154 (.bool false) rfl rfl (by kernel_rfl) (by kernel_rfl) (by kernel_rfl) (fun _ _ _ h => h) (Or.inl ⟨by rfl, ?_⟩) hHeld ?_
        · intro w hSw; go_simp
        simp only [List.setIfInBounds_toArray, List.set_cons_zero, List.set_cons_succ]
        refine take_at 3 155 (.int .i64 0) rfl rfl (by kernel_rfl) (by kernel_rfl) (by kernel_rfl) (fun _ _ _ h => h) (Or.inl ⟨by rfl, ?_⟩) hHeld ?_
        · intro w hSw; go_simp
        simp only [List.setIfInBounds_toArray, List.set_cons_zero, List.set_cons_succ]
        refine take_at 4 156 (.bool false) rfl rfl (by kernel_rfl) (by kernel_rfl) (by kernel_rfl) (fun _ _ _ h => h) (Or.inl ⟨by rfl, ?_⟩) hHeld ?_
        · intro w hSw; go_simp
        simp only [List.setIfInBounds_toArray, List.set_cons_zero, List.set_cons_succ]
        refine take_at 5 157 (.bool false) rfl rfl (by kernel_rfl) (by kernel_rfl) (by kernel_rfl) (fun _ _ _ h => h) (Or.inl ⟨by rfl, ?_⟩) hHeld ?_
        · intro w hSw; go_simp
        simp only [List.setIfInBounds_toArray, List.set_cons_zero, List.set_cons_succ]
        refine take_at 6 158 (.bool false) rfl rfl (by kernel_rfl) (by kernel_rfl) (by kernel_rfl) (fun _ _ _ h => h) (Or.inl ⟨by rfl, ?_⟩) hHeld ?_
        · intro w hSw; go_simp
        simp only [List.setIfInBounds_toArray, List.set_cons_zero, List.set_cons_succ]
        refine take_at 7 159 (.pointer (some ⟨d, 0, none⟩)) rfl rfl (by kernel_rfl) (by kernel_rfl) (by kernel_rfl) (fun _ _ _ h => h) (Or.inl ⟨by rfl, ?_⟩) hHeld ?_
        · intro w hSw; go_simp
        simp only [List.setIfInBounds_toArray, List.set_cons_zero, List.set_cons_succ]
        refine take_at 9 161 (.pointer (some ⟨hb, 0, none⟩)) rfl rfl (by kernel_rfl) (by kernel_rfl) (by kernel_rfl) (fun _ _ _ h => h) (Or.inl ⟨by rfl, ?_⟩) hHeld ?_
        · intro w hSw; go_simp
        simp only [List.setIfInBounds_toArray, List.set_cons_zero, List.set_cons_succ]
        refine take_at 10 162 (.string (str P0)) rfl rfl (by kernel_rfl) (by kernel_rfl) (by kernel_rfl) (fun _ _ _ h => h) (Or.inl ⟨by rfl, ?_⟩) hHeld ?_
        · intro w hSw; obtain ⟨s1, s2⟩ := hSw; go_simp
        simp only [List.setIfInBounds_toArray, List.set_cons_zero, List.set_cons_succ]
        refine take_at 11 163 (.pointer (some ⟨hb, 1, none⟩)) rfl rfl (by kernel_rfl) (by kernel_rfl) (by kernel_rfl) (fun _ _ _ h => h) (Or.inl ⟨by rfl, ?_⟩) hHeld ?_
        · intro w hSw; go_simp
        simp only [List.setIfInBounds_toArray, List.set_cons_zero, List.set_cons_succ]
        refine take_at 12 164 (.string (str P1)) rfl rfl (by kernel_rfl) (by kernel_rfl) (by kernel_rfl) (fun _ _ _ h => h) (Or.inl ⟨by rfl, ?_⟩) hHeld ?_
        · intro w hSw; obtain ⟨s1, s2⟩ := hSw; go_simp
        simp only [List.setIfInBounds_toArray, List.set_cons_zero, List.set_cons_succ]
        refine take_at 13 165 (.string (str (P0 ++ P1))) rfl rfl (by kernel_rfl) (by kernel_rfl) (by kernel_rfl) (fun _ _ _ h => h) (Or.inl ⟨by rfl, ?_⟩) hHeld ?_
        · intro w hSw; go_simp; omega
        simp only [List.setIfInBounds_toArray, List.set_cons_zero, List.set_cons_succ]
        refine take_at 14 166 (.string (str Z)) rfl rfl (by kernel_rfl) (by kernel_rfl) (by kernel_rfl) (fun _ _ _ h => h) (Or.inl ⟨by rfl, ?_⟩) hHeld ?_
        · intro w hSw; go_simp
        simp only [List.setIfInBounds_toArray, List.set_cons_zero, List.set_cons_succ]
        refine take_at 15 167 (.string (str (P0 ++ P1 ++ Z))) rfl rfl (by kernel_rfl) (by kernel_rfl) (by kernel_rfl) (fun _ _ _ h => h) (Or.inl ⟨by rfl, ?_⟩) hHeld ?_
        · intro w hSw; go_simp; omega
        simp only [List.setIfInBounds_toArray, List.set_cons_zero, List.set_cons_succ]
        refine wpAnyH_ready (rs := [8]) (by kernel_rfl) (by simp) ?_
        refine AllReadyH.cons rfl (fun K hK => ?_) AllReadyH.nil
        go_simp
        refine HAR.out.mono ?_
        rintro e wc ⟨Rc, rfl, hsc, hxc, hkc, -⟩
        have f0 : wc.cell? ⟨hb, 0, none⟩ = some (.string (str P0)) := (hkc.cell (p := ⟨hb, 0, none⟩) LB.out.1 LB.out.2).trans hA0
        have f1 : wc.cell? ⟨hb, 1, none⟩ = some (.string (str P1)) := (hkc.cell (p := ⟨hb, 1, none⟩) LB.out.1 LB.out.2).trans hA1
        have PYC := Lib.hid (PYB.out.moved n hsc.sto.sd hxc hkc)
        have SUC := Lib.hid (SUB.out.moved n hsc.sto.sd hxc hkc)
        have IC := Lib.hid (IB.out.keep hkc (fun k hk => FB.out k hk))
        have RM := sroom_c PYC.out.su.sto.sm (by rw [PYC.out.su.hh]; omega) (by rw [PYC.out.su.hh]; omega)
        have hrm : ((σ.h : Int) - 1) * 512 - 24 = 512 * ((hf : Int) - 1) - 24 := by rw [PYC.out.su.hh, ← HHf.out]; omega
        rw [hrm] at RM
        have HRM := Lib.hid RM
        clear hsc hxc hkc RM hrm HAR
        refine hK.out _ _ ⟨f0, f1⟩ (fun hHeld => ?_)
        clear hK K
        try simp only [List.setIfInBounds_toArray, List.set_cons_zero, List.set_cons_succ]
        refine take_at 16 168 (.bool false) rfl rfl (by kernel_rfl) (by kernel_rfl) (by kernel_rfl) (fun _ _ _ h => h) (Or.inl ⟨by rfl, ?_⟩) hHeld ?_
        · intro w hSw; go_simp
        simp only [List.setIfInBounds_toArray, List.set_cons_zero, List.set_cons_succ]
        refine take_at 17 169 (.bool false) rfl rfl (by kernel_rfl) (by kernel_rfl) (by kernel_rfl) (fun _ _ _ h => h) (Or.inl ⟨by rfl, ?_⟩) hHeld ?_
        · intro w hSw; go_simp
        simp only [List.setIfInBounds_toArray, List.set_cons_zero, List.set_cons_succ]
        refine take_at 18 170 (.bool false) rfl rfl (by kernel_rfl) (by kernel_rfl) (by kernel_rfl) (fun _ _ _ h => h) (Or.inl ⟨by rfl, ?_⟩) hHeld ?_
        · intro w hSw; go_simp
        simp only [List.setIfInBounds_toArray, List.set_cons_zero, List.set_cons_succ]
        refine take_at 19 171 (.pointer (some ⟨sb, 0, none⟩)) rfl rfl (by kernel_rfl) (by kernel_rfl) (by kernel_rfl) (fun _ _ _ h => h) (Or.inl ⟨by rfl, ?_⟩) hHeld ?_
        · intro w hSw; go_simp
        simp only [List.setIfInBounds_toArray, List.set_cons_zero, List.set_cons_succ]
        refine take_at 21 173 (.int .i64 (hf : Int)) rfl rfl (by kernel_rfl) (by kernel_rfl) (by kernel_rfl) (fun _ _ _ h => h) (Or.inl ⟨by rfl, ?_⟩) hHeld ?_
        · intro w hSw; go_simp
        simp only [List.setIfInBounds_toArray, List.set_cons_zero, List.set_cons_succ]
        refine take_at 22 174 (.int .i64 ((hf : Int) - 1)) rfl rfl (by kernel_rfl) (by kernel_rfl) (by kernel_rfl) (fun _ _ _ h => h) (Or.inl ⟨by rfl, ?_⟩) hHeld ?_
        · intro w hSw; go_simp; rw [IntKind.wrap_i64]; omega
        simp only [List.setIfInBounds_toArray, List.set_cons_zero, List.set_cons_succ]
        refine take_at 23 175 (.int .i64 (512 * ((hf : Int) - 1))) rfl rfl (by kernel_rfl) (by kernel_rfl) (by kernel_rfl) (fun _ _ _ h => h) (Or.inl ⟨by rfl, ?_⟩) hHeld ?_
        · intro w hSw; go_simp; rw [IntKind.wrap_i64]; omega
        simp only [List.setIfInBounds_toArray, List.set_cons_zero, List.set_cons_succ]
        refine take_at 24 176 (.int .i64 (512 * ((hf : Int) - 1) - 24)) rfl rfl (by kernel_rfl) (by kernel_rfl) (by kernel_rfl) (fun _ _ _ h => h) (Or.inl ⟨by rfl, ?_⟩) hHeld ?_
        · intro w hSw; go_simp; rw [IntKind.wrap_i64]; omega
        simp only [List.setIfInBounds_toArray, List.set_cons_zero, List.set_cons_succ]
        refine wpAnyH_ready (rs := [20]) (by kernel_rfl) (by simp) ?_
        refine AllReadyH.cons rfl (fun K hK => ?_) AllReadyH.nil
        go_simp
        refine HRM.out.mono ?_
        rintro e wd ⟨rfl, rfl⟩
        refine hK.out _ _ ⟨f0, f1⟩ (fun hHeld => ?_)
        clear hK K
        try simp only [List.setIfInBounds_toArray, List.set_cons_zero, List.set_cons_succ]
        refine take_at 25 177 (.bool false) rfl rfl (by kernel_rfl) (by kernel_rfl) (by kernel_rfl) (fun _ _ _ h => h) (Or.inl ⟨by rfl, ?_⟩) hHeld ?_
        · intro w hSw; go_simp
        simp only [List.setIfInBounds_toArray, List.set_cons_zero, List.set_cons_succ]
        refine take_at 26 178 (.bool false) rfl rfl (by kernel_rfl) (by kernel_rfl) (by kernel_rfl) (fun _ _ _ h => h) (Or.inl ⟨by rfl, ?_⟩) hHeld ?_
        · intro w hSw; go_simp
        simp only [List.setIfInBounds_toArray, List.set_cons_zero, List.set_cons_succ]
        refine wpAnyH_done (by kernel_rfl) (NoPanic.normal ?_) _
        clear hHeld hA0 hA1 sa tne
        have LD2 := Lib.hid (sload_some SUC.out.sto.sm (KB.out.trans KQ.out) (by have := PY.out.ll; omega))
        go_wp2_with fail
        refine LD2.out.mono ?_
        rintro e we ⟨A2, cp2, rfl, owe, cce⟩
        have q1 := conv_rd (IC.out.rd.calm cce)
        have q2 := conv_rd (owe.any).choose_spec.choose_spec.2
        have PYE := Lib.hid (PYC.out.rest' cce)
        clear LD2 owe cce
        have c0 : ((σ.count : Int) == 0) = false := by rw [beq_eq_false_iff_ne]; have := CQ.out; omega
        have c1 : decide (0 < (σ.count : Int)) = true := decide_eq_true (by have := CQ.out; omega)
        have c2 : decide (0 < σ.count) = true := decide_eq_true (by have := CQ.out; omega)
        have tnl := str_bne_no (a := lst) (b := lst) rfl
        go_wp2_with fail
        go_roundw
        case rel => exact ⟨i + 1, _, _, _, _, _, _, _, _, _, _, by omega, by omega, by go_num, by rfl, rfl, rfl, PYE.out, by show S.ops + qb + n ≤ _; have := OB.out; omega⟩
        case measure => simp [intOf]; omega
    have tF : decide (512 * ((hf : Int) - 1) - 24 < (m : Int)) = false := decide_eq_false (by omega)
    have hJl : (σ.J σ.other).last + 1 < 4611686018427387904 := by
      have h0 := J_zero σ
      have h1 := J_one σ
      have := PY6.out.al
      have := PY6.out.bl
      have : σ.other = 0 ∨ σ.other = 1 := by omega
      rcases this with e | e
      · rw [e, h0]; omega
      · rw [e, h1]; omega
    have hsec : secsOf (8 + bs.length) + 1 ≤ n / 2 := by rw [HBL.out, ← HHf.out]; unfold secsOf; omega
    have SV := Lib.hid (su_save T1.out PY6.out.su (by omega) _ bs RD6.out (by rw [HH6.out, HBL.out, ← HHf.out]; omega) (by have := PY6.out.cn; omega) hJl (by have := HOP.out; omega))
    have HSEC := Lib.hid hsec
    clear hJl hsec hfit
    go_wp2_with fail
    refine SV.out.mono ?_
    rintro e w7 ⟨R7, T7, S7, rfl, x7, t7, k7, o7, hcs7⟩
    have OB : Hid (S7.ops ≤ 10 + 200 * i + 60) := Lib.hid (by have := HOP.out; have := HSEC.out; omega)
    have X7 := Lib.hid (And.intro x7 (And.intro t7 k7))
    have HCS := Lib.hid hcs7
    clear SV q6 o7 x7 t7 k7
    obtain ⟨cnt, hcnt⟩ : ∃ cnt, cnt = σ.count := ⟨_, rfl⟩
    rw [← hcnt] at ic ⊢
    have HCN := Lib.hid hcnt
    clear hcnt
    have hyy : σ.other = 0 ∨ σ.other = 1 := by rcases hcs7 with ⟨e, _⟩ | ⟨e, _⟩ <;> omega
    clear hcs7
    rcases hyy with hoth | hoth
    · have e15 : (1 : Int) - (σ.other : Int) = 1 := by rw [hoth]; rfl
      rw [e15]
      have HOT := Lib.hid hoth
      clear e15 hoth io
      obtain ⟨N, hN⟩ : ∃ N, N = σ.A.last + 1 := ⟨_, rfl⟩
      have HN := Lib.hid hN
      have hN100 : N ≤ 100 := by have := PY6.out.al; have := PY6.out.bl; omega
      have nbz : nb < w7.heap.size := Nat.lt_of_lt_of_le PY6.out.nr.lt X7.out.2.2.size
      have nbc : w7.cell? ⟨nb, 0, none⟩ = some (.int .u64 (N : Int)) := (X7.out.2.2.cell (p := ⟨nb, 0, none⟩) PY6.out.nr.lt (fun e => e.elim PY6.out.nx.1 PY6.out.nx.2.1)).trans (by rw [PY6.out.nr.cell, hN]; rfl)
      obtain ⟨X0, hX0⟩ : ∃ X0, X0 = areaC c (0 * (n / 2)) (n / 2) := ⟨_, rfl⟩
      have hbc : w7.cell? ⟨hb, 0, none⟩ = some (.string (str X0)) := (X7.out.2.2.cell (p := ⟨hb, 0, none⟩) PY6.out.hr.lt (fun e => e.elim PY6.out.hx.1 PY6.out.hx.2.1)).trans (by rw [PY6.out.hr.cell, hX0, Nat.zero_mul]; rfl)
      have hXl : X0.length = 512 * (n / 2) := by rw [hX0]; exact areaC_len (fun j _ h2 => PY6.out.len j (by omega))
      obtain ⟨B8, hB8⟩ : ∃ B8, B8 = le 8 (cnt + 1) := ⟨_, rfl⟩
      obtain ⟨B1, hB1⟩ : ∃ B1, B1 = begP N := ⟨_, rfl⟩
      obtain ⟨B2, hB2⟩ : ∃ B2, B2 = recP (N + 1) (B8 ++ bs) := ⟨_, rfl⟩
      have l8 : B8.length = 8 := by rw [hB8, le_len]
      have l1 : B1.length = 512 := by rw [hB1, begP_len]
      have l2 : B2.length = 512 * secsOf (8 + bs.length) := by rw [hB2, rec_len, List.length_append, l8]
      have BG := fun wx => begin_c N wx (by omega)
      have BY := fun wx => r4bytes_c (cnt + 1) wx (by omega)
      have RC := fun wx => record_c (N + 1) (B8 ++ bs) wx (by omega) (by rw [List.length_append, l8, HBL.out]; omega)
      simp only [← hB1, ← hB8, ← hB2, show ((cnt + 1 : Nat) : Int) = (cnt : Int) + 1 by omega, show ((N + 1 : Nat) : Int) = (N : Int) + 1 by omega] at BG BY RC
      have BG := fun wx => Lib.hid (BG wx)
      have BY := fun wx => Lib.hid (BY wx)
      have RC := fun wx => Lib.hid (RC wx)
      have HBB := Lib.hid (And.intro hB8 (And.intro hB1 (And.intro hB2 hX0)))
      have iN : (N : Int) ≤ 100 := by omega
      have l2' : B2.length ≤ 3584 := by rw [l2]; have := HSEC.out; omega
      have lbs : bs.length ≤ 2999 := by rw [HBL.out]; exact hm
      have HL2 := Lib.hid (And.intro l1 (And.intro l2 hXl))
      have hbz : hb < w7.heap.size := Nat.lt_of_lt_of_le PY6.out.hr.lt X7.out.2.2.size
      clear hB8 hB1 hB2 hX0 hN l2 hXl
      go_upto_region 27 with fail
      obtain ⟨wX, hwX⟩ : ∃ wX, wX = w7 := ⟨_, rfl⟩
      rw [← hwX] at nbz nbc hbc hbz ⊢
      have HWX := Lib.hid hwX
      clear hwX
      go_cut [21] from 73 to 217 (fun s21 wc => s21 = .string (str (B1 ++ B2)) ∧ Calm wX wc)
      case first =>
          have sa := str_app
          have ss := str_size
          refine wp_region_noPanic ?_
          refine wp_region_held_drew (S := fun wx => wx.cell? ⟨nb, 0, none⟩ = some (.int .u64 (N : Int))) (by kernel_rfl) nbc (fun hHeld => ?_)
          refine take_at 0 109 (.int .i64 0) rfl rfl (by kernel_rfl) (by kernel_rfl) (by kernel_rfl) (fun _ _ _ h => h) (Or.inl ⟨by rfl, ?_⟩) hHeld ?_
          · intro w hSw; go_simp
          simp only [List.setIfInBounds_toArray, List.set_cons_zero, List.set_cons_succ]
          refine take_at 1 110 (.pointer (some ⟨nb, 0, none⟩)) rfl rfl (by kernel_rfl) (by kernel_rfl) (by kernel_rfl) (fun _ _ _ h => h) (Or.inl ⟨by rfl, ?_⟩) hHeld ?_
          · intro w hSw; go_simp
          simp only [List.setIfInBounds_toArray, List.set_cons_zero, List.set_cons_succ]
          refine take_at 2 111 (.int .u64 (N : Int)) rfl rfl (by kernel_rfl) (by kernel_rfl) (by kernel_rfl) (fun _ _ _ h => h) (Or.inl ⟨by rfl, ?_⟩) hHeld ?_
          · intro w hSw; go_simp
          simp only [List.setIfInBounds_toArray, List.set_cons_zero, List.set_cons_succ]
          refine take_at 4 113 (.int .i64 0) rfl rfl (by kernel_rfl) (by kernel_rfl) (by kernel_rfl) (fun _ _ _ h => h) (Or.inl ⟨by rfl, ?_⟩) hHeld ?_
          · intro w hSw; go_simp
          simp only [List.setIfInBounds_toArray, List.set_cons_zero, List.set_cons_succ]
          refine take_at 5 114 (.pointer (some ⟨nb, 0, none⟩)) rfl rfl (by kernel_rfl) (by kernel_rfl) (by kernel_rfl) (fun _ _ _ h => h) (Or.inl ⟨by rfl, ?_⟩) hHeld ?_
          · intro w hSw; go_simp
          simp only [List.setIfInBounds_toArray, List.set_cons_zero, List.set_cons_succ]
          refine take_at 6 115 (.int .u64 (N : Int)) rfl rfl (by kernel_rfl) (by kernel_rfl) (by kernel_rfl) (fun _ _ _ h => h) (Or.inl ⟨by rfl, ?_⟩) hHeld ?_
          · intro w hSw; go_simp
          simp only [List.setIfInBounds_toArray, List.set_cons_zero, List.set_cons_succ]
          refine take_at 7 116 (.int .u64 ((N : Int) + 1)) rfl rfl (by kernel_rfl) (by kernel_rfl) (by kernel_rfl) (fun _ _ _ h => h) (Or.inl ⟨by rfl, ?_⟩) hHeld ?_
          · intro w hSw; go_simp; rw [IntKind.wrap_u64]; omega
          simp only [List.setIfInBounds_toArray, List.set_cons_zero, List.set_cons_succ]
          refine take_at 8 117 (.int .u64 ((cnt : Int) + 1)) rfl rfl (by kernel_rfl) (by kernel_rfl) (by kernel_rfl) (fun _ _ _ h => h) (Or.inl ⟨by rfl, ?_⟩) hHeld ?_
          · intro w hSw; go_simp
          simp only [List.setIfInBounds_toArray, List.set_cons_zero, List.set_cons_succ]
          refine take_at 10 119 (.string (str bs)) rfl rfl (by kernel_rfl) (by kernel_rfl) (by kernel_rfl) (fun _ _ _ h => h) (Or.inl ⟨by rfl, ?_⟩) hHeld ?_
          · intro w hSw; go_simp
          simp only [List.setIfInBounds_toArray, List.set_cons_zero, List.set_cons_succ]
          refine wpAnyH_ready (rs := [3]) (by kernel_rfl) (by simp) ?_
          refine AllReadyH.cons rfl (fun K hK => ?_) AllReadyH.nil
          go_simp
          refine (BG _).out.mono ?_
          rintro e wA ⟨rfl, ccwA⟩
          have gwA : wA.cell? ⟨nb, 0, none⟩ = some (.int .u64 (N : Int)) := (ccwA.cell (p := ⟨nb, 0, none⟩) (by have := nbz; simpa using this) (fun e => e)).trans nbc
          have zwA := Nat.lt_of_lt_of_le nbz ccwA.size
          have CwA := Lib.hid ((Keep.refl _ wX).drew.trans ccwA)
          clear ccwA
          refine hK.out _ _ gwA (fun hHeld => ?_)
          clear hK K
          try simp only [List.setIfInBounds_toArray, List.set_cons_zero, List.set_cons_succ]
          refine wpAnyH_ready (rs := [9]) (by kernel_rfl) (by simp) ?_
          refine AllReadyH.cons rfl (fun K hK => ?_) AllReadyH.nil
          go_simp
          refine (BY _).out.mono ?_
          rintro e wB ⟨rfl, ccwB⟩
          have gwB : wB.cell? ⟨nb, 0, none⟩ = some (.int .u64 (N : Int)) := (ccwB.cell (p := ⟨nb, 0, none⟩) (by have := zwA; simpa using this) (fun e => e)).trans gwA
          have zwB := Nat.lt_of_lt_of_le zwA ccwB.size
          have CwB := Lib.hid (CwA.out.trans ccwB)
          clear ccwB
          refine hK.out _ _ gwB (fun hHeld => ?_)
          clear hK K
          try simp only [List.setIfInBounds_toArray, List.set_cons_zero, List.set_cons_succ]
          refine take_at 11 120 (.string (str (B8 ++ bs))) rfl rfl (by kernel_rfl) (by kernel_rfl) (by kernel_rfl) (fun _ _ _ h => h) (Or.inl ⟨by rfl, ?_⟩) hHeld ?_
          · intro w hSw; go_simp; omega
          simp only [List.setIfInBounds_toArray, List.set_cons_zero, List.set_cons_succ]
          refine wpAnyH_ready (rs := [12]) (by kernel_rfl) (by simp) ?_
          refine AllReadyH.cons rfl (fun K hK => ?_) AllReadyH.nil
          go_simp
          refine (RC _).out.mono ?_
          rintro e wC ⟨rfl, ccwC⟩
          have gwC : wC.cell? ⟨nb, 0, none⟩ = some (.int .u64 (N : Int)) := (ccwC.cell (p := ⟨nb, 0, none⟩) (by have := zwB; simpa using this) (fun e => e)).trans gwB
          have zwC := Nat.lt_of_lt_of_le zwB ccwC.size
          have CwC := Lib.hid (CwB.out.trans ccwC)
          clear ccwC
          refine hK.out _ _ gwC (fun hHeld => ?_)
          clear hK K
          try simp only [List.setIfInBounds_toArray, List.set_cons_zero, List.set_cons_succ]
          refine take_at 13 122 (.string (str (B1 ++ B2))) rfl rfl (by kernel_rfl) (by kernel_rfl) (by kernel_rfl) (fun _ _ _ h => h) (Or.inl ⟨by rfl, ?_⟩) hHeld ?_
          · intro w hSw; go_simp; omega
          simp only [List.setIfInBounds_toArray, List.set_cons_zero, List.set_cons_succ]
          refine take_at 14 21 (.string (str (B1 ++ B2))) rfl rfl (by kernel_rfl) (by kernel_rfl) (by kernel_rfl) (fun _ _ _ h => h) (Or.inl ⟨by rfl, ?_⟩) hHeld ?_
          · intro w hSw; go_simp
          simp only [List.setIfInBounds_toArray, List.set_cons_zero, List.set_cons_succ]
          refine wpAnyH_done (by kernel_rfl) (NoPanic.normal ?_) _
          go_wp2_with fail
          go_meet
          case rel => exact ⟨rfl, CwC.out⟩
      case rest =>
          obtain ⟨rfl, hc8⟩ := hcut
          clear BG BY RC
          clear nbc hbc
          have RN8 : Row wc nb 35 #[.int .u64 ((σ.A.last + 1 : Nat) : Int), .int .u64 ((σ.B.last + 1 : Nat) : Int)] := Row.keep (Row.keep PY6.out.nr X7.out.2.2 (fun e => e.elim PY6.out.nx.1 PY6.out.nx.2.1)) (by rw [← HWX.out]; exact hc8) (fun e => e)
          have RH8 : Row wc hb 34 #[.string (str (areaC c 0 (n / 2))), .string (str (areaC c (n / 2) (n / 2)))] := Row.keep (Row.keep PY6.out.hr X7.out.2.2 (fun e => e.elim PY6.out.hx.1 PY6.out.hx.2.1)) (by rw [← HWX.out]; exact hc8) (fun e => e)
          have n1 : wc.cell? ⟨nb, 0, none⟩ = some (.int .u64 (N : Int)) := by rw [RN8.cell, HN.out]; rfl
          have n2 : wc.frozen? ⟨nb, 0, none⟩ = false := RN8.soft 0
          have h1 : wc.cell? ⟨hb, 0, none⟩ = some (.string (str X0)) := by rw [RH8.cell, HBB.out.2.2.2, Nat.zero_mul]; rfl
          have h2 : wc.frozen? ⟨hb, 0, none⟩ = false := RH8.soft 0
          have nhn : ¬ nb = hb := fun e => (RN8.ne RH8 (by decide)) e
          obtain ⟨P, hP⟩ : ∃ P, P = B1 ++ B2 := ⟨_, rfl⟩
          rw [← hP]
          obtain ⟨pl, hpl⟩ : ∃ pl, pl = 512 * (1 + secsOf (8 + bs.length)) := ⟨_, rfl⟩
          obtain ⟨xl, hxl⟩ : ∃ xl, xl = 512 * (n / 2) := ⟨_, rfl⟩
          have hl3 := HL2.out
          have lP : P.length = pl := by rw [hP, List.length_append, hl3.1, hl3.2.1, hpl]; omega
          have lX : X0.length = xl := by rw [hl3.2.2, hxl]
          have sP := str_size P
          have sX := str_size X0
          rw [lP] at sP
          rw [lX] at sX
          have hpx : pl ≤ xl := by rw [hpl, hxl]; have := HSEC.out; omega
          have hpx' : (pl : Int) ≤ (xl : Int) := by omega
          have hx4 : (xl : Int) ≤ 4096 := by omega
          obtain ⟨D, hD⟩ : ∃ D, D = X0.drop pl := ⟨_, rfl⟩
          have exf : (str X0).extract pl xl = str D := by rw [str_extract, ← lX, List.take_length, hD]
          have sD := str_size D
          have lD : D.length ≤ 4096 := by rw [hD, List.length_drop]; omega
          have sPD := str_app P D
          have HPD := Lib.hid (And.intro hP (And.intro hD hpl))
          have HC8 := Lib.hid hc8
          clear hc8 RN8 RH8 hP hD hpl hxl hl3 lX
          go_upto_region 33 with fail
          generalize hwq : World.setCell (World.setCell _ _ _) _ _ = wq
          obtain ⟨cq, kaq, oaq, kbq, obq, pyq⟩ := py_saved (w'' := wq) (lst := lst) (by omega) PY6.out X7.out.1 X7.out.2.1 X7.out.2.2 (by rw [HBL.out]; omega) HSEC.out (by rw [← HWX.out]; exact HC8.out) HCS.out 0 σ.A.last HOT.out.symm (by rfl) (by
            rw [← hwq, ← HBB.out.2.2.2, ← HPD.out.2.2, ← HPD.out.2.1]
            have e1 : ((σ.A.last + 3 : Nat) : Int) = (N : Int) + 2 := by rw [HN.out]; omega
            have e2 : begP (σ.A.last + 1) ++ recP (σ.A.last + 2) (recB (σ.count + 1) bs) = P := by
              rw [HPD.out.1, HBB.out.2.1, HBB.out.2.2.1, HBB.out.1, HN.out, ← HCN.out]
              rfl
            rw [e1, e2])
          have PY := Lib.hid pyq
          have KQ : Hid ((σ.saved bs).kept = some (0, cnt + 1, bs)) := Lib.hid (by rw [saved_kept, HOT.out, HCN.out])
          have CNT : Hid (((σ.saved bs).count : Int) = (cnt : Int) + 1) := Lib.hid (by rw [count1 KQ.out]; rfl)
          have OTH : Hid (((σ.saved bs).other : Int) = 1) := Lib.hid (by rw [other1 KQ.out]; rfl)
          have CQ : Hid (1 ≤ cnt + 1) := Lib.hid (by omega)
          clear pyq hwq n1 n2 h1 h2 nhn sP sX exf sD sPD lP lD hpx hpx' hx4 HPD HC8 X7 HCS PY6 HBB HL2 tF ss1
          have LD := Lib.hid (sload_some PY.out.su.sto.sm KQ.out (by have := PY.out.ll; omega))
          go_wp2_with fail
          refine LD.out.mono ?_
          rintro e wa ⟨A, cp, rfl, owa, cca⟩
          have pya := PY.out.rest' cca
          have IA : Hid (InT wa (fun k => wq.heap.size ≤ k ∧ k < wa.heap.size) (.slice A bs.length cp) bs) := Lib.hid (InT.of_own owa)
          clear owa cca
          have OP := Lib.hid (su_open T1.out (pya.su.sto.sd) pya.su.up pya.su.sh pya.su.wait pya.su.n4 (by omega) pya.su.a.hf pya.su.b.hf (by have := pya.su.a.lo; have := pya.al; omega) (by have := pya.su.b.lo; have := pya.bl; omega) (by have := OB.out; omega))
          have PYA := Lib.hid pya
          clear LD pya
          go_wp2_with fail
          refine OP.out.mono ?_
          rintro e wb ⟨Rb, Tb, sb2, σb, qb, -, -, -, -, rfl, hqb, htb, hxb, hkb, hsub, -⟩
          have pyb := (PYA.out.moved qb hsub.sto.sd hxb hkb).rest' ((Keep.refl _ wb).drew)
          have IB := Lib.hid ((IA.out.keep hkb (fun k hk => PY.out.su.sto.sd.st.fresh hk.1)).keep ((Keep.refl (fun _ => False) wb).drew) (fun _ _ e => e))
          have FB : Hid (∀ k, wq.heap.size ≤ k ∧ k < wa.heap.size → ¬ Rb k) := Lib.hid (fun k hk e => (hxb k e).elim (fun e => PY.out.su.sto.sd.st.fresh hk.1 e) (fun e => by omega))
          obtain ⟨P0, P1, P2, eX, x0, x1, x2, l0, l1, lX⟩ := areaC_parts cq n (n / 2) (by omega) pyb.len
          rw [x2.trans pyb.rest] at eX
          have AR := su_area pyb.su (by omega) (by show S7.ops + qb ≤ _; have := OB.out; omega)
          rw [eX, ← List.append_assoc] at AR
          have hA0 : wb.cell? ⟨hb, 0, none⟩ = some (.string (str P0)) := (pyb.hr.cell 0).trans (by rw [x0]; rfl)
          have hA1 : wb.cell? ⟨hb, 1, none⟩ = some (.string (str P1)) := (pyb.hr.cell 1).trans (by rw [x1]; rfl)
          have lZ : (List.replicate (512 * (n - 2 * (n / 2))) (0 : UInt8)).length ≤ 512 := by rw [List.length_replicate]; omega
          have l0' : P0.length ≤ 3072 := by omega
          have l1' : P1.length ≤ 3072 := by omega
          have HAR := Lib.hid AR
          have PYB := Lib.hid pyb
          have SUB := Lib.hid (hsub.rest ((Keep.refl _ wb).drew))
          have KB : Hid (σb.kept = (σ.saved bs).kept) := Lib.hid (hsub.kept.trans PYA.out.su.kept.symm)
          have LB : Hid (hb < wb.heap.size ∧ ¬ Rb hb) := Lib.hid ⟨pyb.hr.lt, pyb.hx.1⟩
          rw [← HZd.out] at HAR lZ
          clear OP AR eX x0 x1 x2 l0 l1 lX pyb hsub hxb hkb htb
          have sa := str_app
          have ss := str_size
          have tne := str_bne_no (a := P0 ++ P1 ++ Z) (b := P0 ++ P1 ++ Z) rfl
          go_wp2_with fail
          refine wp_region_noPanic ?_
          refine wp_region_held_drew (S := fun wx => wx.cell? ⟨hb, 0, none⟩ = some (.string (str P0)) ∧ wx.cell? ⟨hb, 1, none⟩ = some (.string (str P1))) (by kernel_rfl) ⟨hA0, hA1⟩ (fun hHeld => ?_)
          refine take_at 0 152 (.pointer (some ⟨sb2, 0, none⟩)) rfl rfl (by kernel_rfl) (by kernel_rfl) (by kernel_rfl) (fun _ _ _ h => h) (Or.inl ⟨by rfl, ?_⟩) hHeld ?_
          · intro w hSw; go_simp
          simp only [List.setIfInBounds_toArray, List.set_cons_zero, List.set_cons_succ]
          refine take_at 1 153 (.bool false) rfl rfl (by kernel_rfl) (by kernel_rfl) (by kernel_rfl) (fun _ _ _ h => h) (Or.inl ⟨by rfl, ?_⟩) hHeld ?_
          · intro w hSw; go_simp
          simp only [List.setIfInBounds_toArray, List.set_cons_zero, List.set_cons_succ]
          refine take_at 2 154 (.bool false) rfl rfl (by kernel_rfl) (by kernel_rfl) (by kernel_rfl) (fun _ _ _ h => h) (Or.inl ⟨by rfl, ?_⟩) hHeld ?_
          · intro w hSw; go_simp
          simp only [List.setIfInBounds_toArray, List.set_cons_zero, List.set_cons_succ]
          refine take_at 3 155 (.int .i64 0) rfl rfl (by kernel_rfl) (by kernel_rfl) (by kernel_rfl) (fun _ _ _ h => h) (Or.inl ⟨by rfl, ?_⟩) hHeld ?_
          · intro w hSw; go_simp
          simp only [List.setIfInBounds_toArray, List.set_cons_zero, List.set_cons_succ]
          refine take_at 4 156 (.bool false) rfl rfl (by kernel_rfl) (by kernel_rfl) (by kernel_rfl) (fun _ _ _ h => h) (Or.inl ⟨by rfl, ?_⟩) hHeld ?_
          · intro w hSw; go_simp
          simp only [List.setIfInBounds_toArray, List.set_cons_zero, List.set_cons_succ]
          refine take_at 5 157 (.bool false) rfl rfl (by kernel_rfl) (by kernel_rfl) (by kernel_rfl) (fun _ _ _ h => h) (Or.inl ⟨by rfl, ?_⟩) hHeld ?_
          · intro w hSw; go_simp
          simp only [List.setIfInBounds_toArray, List.set_cons_zero, List.set_cons_succ]
          refine take_at 6 158 (.bool false) rfl rfl (by kernel_rfl) (by kernel_rfl) (by kernel_rfl) (fun _ _ _ h => h) (Or.inl ⟨by rfl, ?_⟩) hHeld ?_
          · intro w hSw; go_simp
          simp only [List.setIfInBounds_toArray, List.set_cons_zero, List.set_cons_succ]
          refine take_at 7 159 (.pointer (some ⟨d, 0, none⟩)) rfl rfl (by kernel_rfl) (by kernel_rfl) (by kernel_rfl) (fun _ _ _ h => h) (Or.inl ⟨by rfl, ?_⟩) hHeld ?_
          · intro w hSw; go_simp
          simp only [List.setIfInBounds_toArray, List.set_cons_zero, List.set_cons_succ]
          refine take_at 9 161 (.pointer (some ⟨hb, 0, none⟩)) rfl rfl (by kernel_rfl) (by kernel_rfl) (by kernel_rfl) (fun _ _ _ h => h) (Or.inl ⟨by rfl, ?_⟩) hHeld ?_
          · intro w hSw; go_simp
          simp only [List.setIfInBounds_toArray, List.set_cons_zero, List.set_cons_succ]
          refine take_at 10 162 (.string (str P0)) rfl rfl (by kernel_rfl) (by kernel_rfl) (by kernel_rfl) (fun _ _ _ h => h) (Or.inl ⟨by rfl, ?_⟩) hHeld ?_
          · intro w hSw; obtain ⟨s1, s2⟩ := hSw; go_simp
          simp only [List.setIfInBounds_toArray, List.set_cons_zero, List.set_cons_succ]
          refine take_at 11 163 (.pointer (some ⟨hb, 1, none⟩)) rfl rfl (by kernel_rfl) (by kernel_rfl) (by kernel_rfl) (fun _ _ _ h => h) (Or.inl ⟨by rfl, ?_⟩) hHeld ?_
          · intro w hSw; go_simp
          simp only [List.setIfInBounds_toArray, List.set_cons_zero, List.set_cons_succ]
          refine take_at 12 164 (.string (str P1)) rfl rfl (by kernel_rfl) (by kernel_rfl) (by kernel_rfl) (fun _ _ _ h => h) (Or.inl ⟨by rfl, ?_⟩) hHeld ?_
          · intro w hSw; obtain ⟨s1, s2⟩ := hSw; go_simp
          simp only [List.setIfInBounds_toArray, List.set_cons_zero, List.set_cons_succ]
          refine take_at 13 165 (.string (str (P0 ++ P1))) rfl rfl (by kernel_rfl) (by kernel_rfl) (by kernel_rfl) (fun _ _ _ h => h) (Or.inl ⟨by rfl, ?_⟩) hHeld ?_
          · intro w hSw; go_simp; omega
          simp only [List.setIfInBounds_toArray, List.set_cons_zero, List.set_cons_succ]
          refine take_at 14 166 (.string (str Z)) rfl rfl (by kernel_rfl) (by kernel_rfl) (by kernel_rfl) (fun _ _ _ h => h) (Or.inl ⟨by rfl, ?_⟩) hHeld ?_
          · intro w hSw; go_simp
          simp only [List.setIfInBounds_toArray, List.set_cons_zero, List.set_cons_succ]
          refine take_at 15 167 (.string (str (P0 ++ P1 ++ Z))) rfl rfl (by kernel_rfl) (by kernel_rfl) (by kernel_rfl) (fun _ _ _ h => h) (Or.inl ⟨by rfl, ?_⟩) hHeld ?_
          · intro w hSw; go_simp; omega
          simp only [List.setIfInBounds_toArray, List.set_cons_zero, List.set_cons_succ]
          refine wpAnyH_ready (rs := [8]) (by kernel_rfl) (by simp) ?_
          refine AllReadyH.cons rfl (fun K hK => ?_) AllReadyH.nil
          go_simp
          refine HAR.out.mono ?_
          rintro e wc ⟨Rc, rfl, hsc, hxc, hkc, -⟩
          have f0 : wc.cell? ⟨hb, 0, none⟩ = some (.string (str P0)) := (hkc.cell (p := ⟨hb, 0, none⟩) LB.out.1 LB.out.2).trans hA0
          have f1 : wc.cell? ⟨hb, 1, none⟩ = some (.string (str P1)) := (hkc.cell (p := ⟨hb, 1, none⟩) LB.out.1 LB.out.2).trans hA1
          have PYC := Lib.hid (PYB.out.moved n hsc.sto.sd hxc hkc)
          have SUC := Lib.hid (SUB.out.moved n hsc.sto.sd hxc hkc)
          have IC := Lib.hid (IB.out.keep hkc (fun k hk => FB.out k hk))
          have RM := sroom_c PYC.out.su.sto.sm (by rw [PYC.out.su.hh]; omega) (by rw [PYC.out.su.hh]; omega)
          have hrm : (((σ.saved bs).h : Int) - 1) * 512 - 24 = 512 * ((hf : Int) - 1) - 24 := by rw [PYC.out.su.hh, ← HHf.out]; omega
          rw [hrm] at RM
          have HRM := Lib.hid RM
          clear hsc hxc hkc RM hrm HAR
          refine hK.out _ _ ⟨f0, f1⟩ (fun hHeld => ?_)
          clear hK K
          try simp only [List.setIfInBounds_toArray, List.set_cons_zero, List.set_cons_succ]
          refine take_at 16 168 (.bool false) rfl rfl (by kernel_rfl) (by kernel_rfl) (by kernel_rfl) (fun _ _ _ h => h) (Or.inl ⟨by rfl, ?_⟩) hHeld ?_
          · intro w hSw; go_simp
          simp only [List.setIfInBounds_toArray, List.set_cons_zero, List.set_cons_succ]
          refine take_at 17 169 (.bool false) rfl rfl (by kernel_rfl) (by kernel_rfl) (by kernel_rfl) (fun _ _ _ h => h) (Or.inl ⟨by rfl, ?_⟩) hHeld ?_
          · intro w hSw; go_simp
          simp only [List.setIfInBounds_toArray, List.set_cons_zero, List.set_cons_succ]
          refine take_at 18 170 (.bool false) rfl rfl (by kernel_rfl) (by kernel_rfl) (by kernel_rfl) (fun _ _ _ h => h) (Or.inl ⟨by rfl, ?_⟩) hHeld ?_
          · intro w hSw; go_simp
          simp only [List.setIfInBounds_toArray, List.set_cons_zero, List.set_cons_succ]
          refine take_at 19 171 (.pointer (some ⟨sb, 0, none⟩)) rfl rfl (by kernel_rfl) (by kernel_rfl) (by kernel_rfl) (fun _ _ _ h => h) (Or.inl ⟨by rfl, ?_⟩) hHeld ?_
          · intro w hSw; go_simp
          simp only [List.setIfInBounds_toArray, List.set_cons_zero, List.set_cons_succ]
          refine take_at 21 173 (.int .i64 (hf : Int)) rfl rfl (by kernel_rfl) (by kernel_rfl) (by kernel_rfl) (fun _ _ _ h => h) (Or.inl ⟨by rfl, ?_⟩) hHeld ?_
          · intro w hSw; go_simp
          simp only [List.setIfInBounds_toArray, List.set_cons_zero, List.set_cons_succ]
          refine take_at 22 174 (.int .i64 ((hf : Int) - 1)) rfl rfl (by kernel_rfl) (by kernel_rfl) (by kernel_rfl) (fun _ _ _ h => h) (Or.inl ⟨by rfl, ?_⟩) hHeld ?_
          · intro w hSw; go_simp; rw [IntKind.wrap_i64]; omega
          simp only [List.setIfInBounds_toArray, List.set_cons_zero, List.set_cons_succ]
          refine take_at 23 175 (.int .i64 (512 * ((hf : Int) - 1))) rfl rfl (by kernel_rfl) (by kernel_rfl) (by kernel_rfl) (fun _ _ _ h => h) (Or.inl ⟨by rfl, ?_⟩) hHeld ?_
          · intro w hSw; go_simp; rw [IntKind.wrap_i64]; omega
          simp only [List.setIfInBounds_toArray, List.set_cons_zero, List.set_cons_succ]
          refine take_at 24 176 (.int .i64 (512 * ((hf : Int) - 1) - 24)) rfl rfl (by kernel_rfl) (by kernel_rfl) (by kernel_rfl) (fun _ _ _ h => h) (Or.inl ⟨by rfl, ?_⟩) hHeld ?_
          · intro w hSw; go_simp; rw [IntKind.wrap_i64]; omega
          simp only [List.setIfInBounds_toArray, List.set_cons_zero, List.set_cons_succ]
          refine wpAnyH_ready (rs := [20]) (by kernel_rfl) (by simp) ?_
          refine AllReadyH.cons rfl (fun K hK => ?_) AllReadyH.nil
          go_simp
          refine HRM.out.mono ?_
          rintro e wd ⟨rfl, rfl⟩
          refine hK.out _ _ ⟨f0, f1⟩ (fun hHeld => ?_)
          clear hK K
          try simp only [List.setIfInBounds_toArray, List.set_cons_zero, List.set_cons_succ]
          refine take_at 25 177 (.bool false) rfl rfl (by kernel_rfl) (by kernel_rfl) (by kernel_rfl) (fun _ _ _ h => h) (Or.inl ⟨by rfl, ?_⟩) hHeld ?_
          · intro w hSw; go_simp
          simp only [List.setIfInBounds_toArray, List.set_cons_zero, List.set_cons_succ]
          refine take_at 26 178 (.bool false) rfl rfl (by kernel_rfl) (by kernel_rfl) (by kernel_rfl) (fun _ _ _ h => h) (Or.inl ⟨by rfl, ?_⟩) hHeld ?_
          · intro w hSw; go_simp
          simp only [List.setIfInBounds_toArray, List.set_cons_zero, List.set_cons_succ]
          refine wpAnyH_done (by kernel_rfl) (NoPanic.normal ?_) _
          clear hHeld hA0 hA1 sa tne
          have LD2 := Lib.hid (sload_some SUC.out.sto.sm (KB.out.trans KQ.out) (by have := PY.out.ll; omega))
          go_wp2_with fail
          refine LD2.out.mono ?_
          rintro e we ⟨A2, cp2, rfl, owe, cce⟩
          have q1 := conv_rd (IC.out.rd.calm cce)
          have q2 := conv_rd (owe.any).choose_spec.choose_spec.2
          have PYE := Lib.hid (PYC.out.rest' cce)
          clear LD2 owe cce
          have c0 : (((cnt : Int) + 1) == 0) = false := by rw [beq_eq_false_iff_ne]; have := CQ.out; omega
          have c1 : decide (0 < ((cnt : Int) + 1)) = true := decide_eq_true (by have := CQ.out; omega)
          skip
          have tnl := str_bne_no (a := bs) (b := bs) rfl
          go_wp2_with fail
          go_roundw
          case rel => exact ⟨i + 1, _, _, _, _, _, _, _, _, _, _, by omega, by omega, by go_num, by rw [OTH.out]; rfl, by rw [CNT.out], rfl, PYE.out, by show S7.ops + qb + n ≤ _; have := OB.out; omega⟩
          case measure => simp [intOf]; omega
    · have e15 : (1 : Int) - (σ.other : Int) = 0 := by rw [hoth]; rfl
      rw [e15]
      have HOT := Lib.hid hoth
      clear e15 hoth io
      obtain ⟨N, hN⟩ : ∃ N, N = σ.B.last + 1 := ⟨_, rfl⟩
      have HN := Lib.hid hN
      have hN100 : N ≤ 100 := by have := PY6.out.al; have := PY6.out.bl; omega
      have nbz : nb < w7.heap.size := Nat.lt_of_lt_of_le PY6.out.nr.lt X7.out.2.2.size
      have nbc : w7.cell? ⟨nb, 1, none⟩ = some (.int .u64 (N : Int)) := (X7.out.2.2.cell (p := ⟨nb, 1, none⟩) PY6.out.nr.lt (fun e => e.elim PY6.out.nx.1 PY6.out.nx.2.1)).trans (by rw [PY6.out.nr.cell, hN]; rfl)
      obtain ⟨X0, hX0⟩ : ∃ X0, X0 = areaC c (1 * (n / 2)) (n / 2) := ⟨_, rfl⟩
      have hbc : w7.cell? ⟨hb, 1, none⟩ = some (.string (str X0)) := (X7.out.2.2.cell (p := ⟨hb, 1, none⟩) PY6.out.hr.lt (fun e => e.elim PY6.out.hx.1 PY6.out.hx.2.1)).trans (by rw [PY6.out.hr.cell, hX0, Nat.one_mul]; rfl)
      have hXl : X0.length = 512 * (n / 2) := by rw [hX0]; exact areaC_len (fun j _ h2 => PY6.out.len j (by omega))
      obtain ⟨B8, hB8⟩ : ∃ B8, B8 = le 8 (cnt + 1) := ⟨_, rfl⟩
      obtain ⟨B1, hB1⟩ : ∃ B1, B1 = begP N := ⟨_, rfl⟩
      obtain ⟨B2, hB2⟩ : ∃ B2, B2 = recP (N + 1) (B8 ++ bs) := ⟨_, rfl⟩
      have l8 : B8.length = 8 := by rw [hB8, le_len]
      have l1 : B1.length = 512 := by rw [hB1, begP_len]
      have l2 : B2.length = 512 * secsOf (8 + bs.length) := by rw [hB2, rec_len, List.length_append, l8]
      have BG := fun wx => begin_c N wx (by omega)
      have BY := fun wx => r4bytes_c (cnt + 1) wx (by omega)
      have RC := fun wx => record_c (N + 1) (B8 ++ bs) wx (by omega) (by rw [List.length_append, l8, HBL.out]; omega)
      simp only [← hB1, ← hB8, ← hB2, show ((cnt + 1 : Nat) : Int) = (cnt : Int) + 1 by omega, show ((N + 1 : Nat) : Int) = (N : Int) + 1 by omega] at BG BY RC
      have BG := fun wx => Lib.hid (BG wx)
      have BY := fun wx => Lib.hid (BY wx)
      have RC := fun wx => Lib.hid (RC wx)
      have HBB := Lib.hid (And.intro hB8 (And.intro hB1 (And.intro hB2 hX0)))
      have iN : (N : Int) ≤ 100 := by omega
      have l2' : B2.length ≤ 3584 := by rw [l2]; have := HSEC.out; omega
      have lbs : bs.length ≤ 2999 := by rw [HBL.out]; exact hm
      have HL2 := Lib.hid (And.intro l1 (And.intro l2 hXl))
      have hbz : hb < w7.heap.size := Nat.lt_of_lt_of_le PY6.out.hr.lt X7.out.2.2.size
      clear hB8 hB1 hB2 hX0 hN l2 hXl
      go_upto_region 27 with fail
      obtain ⟨wX, hwX⟩ : ∃ wX, wX = w7 := ⟨_, rfl⟩
      rw [← hwX] at nbz nbc hbc hbz ⊢
      have HWX := Lib.hid hwX
      clear hwX
      go_cut [21] from 73 to 217 (fun s21 wc => s21 = .string (str (B1 ++ B2)) ∧ Calm wX wc)
      case first =>
          have sa := str_app
          have ss := str_size
          refine wp_region_noPanic ?_
          refine wp_region_held_drew (S := fun wx => wx.cell? ⟨nb, 1, none⟩ = some (.int .u64 (N : Int))) (by kernel_rfl) nbc (fun hHeld => ?_)
          refine take_at 0 109 (.int .i64 1) rfl rfl (by kernel_rfl) (by kernel_rfl) (by kernel_rfl) (fun _ _ _ h => h) (Or.inl ⟨by rfl, ?_⟩) hHeld ?_
          · intro w hSw; go_simp
          simp only [List.setIfInBounds_toArray, List.set_cons_zero, List.set_cons_succ]
          refine take_at 1 110 (.pointer (some ⟨nb, 1, none⟩)) rfl rfl (by kernel_rfl) (by kernel_rfl) (by kernel_rfl) (fun _ _ _ h => h) (Or.inl ⟨by rfl, ?_⟩) hHeld ?_
          · intro w hSw; go_simp
          simp only [List.setIfInBounds_toArray, List.set_cons_zero, List.set_cons_succ]
          refine take_at 2 111 (.int .u64 (N : Int)) rfl rfl (by kernel_rfl) (by kernel_rfl) (by kernel_rfl) (fun _ _ _ h => h) (Or.inl ⟨by rfl, ?_⟩) hHeld ?_
          · intro w hSw; go_simp
          simp only [List.setIfInBounds_toArray, List.set_cons_zero, List.set_cons_succ]
          refine take_at 4 113 (.int .i64 1) rfl rfl (by kernel_rfl) (by kernel_rfl) (by kernel_rfl) (fun _ _ _ h => h) (Or.inl ⟨by rfl, ?_⟩) hHeld ?_
          · intro w hSw; go_simp
          simp only [List.setIfInBounds_toArray, List.set_cons_zero, List.set_cons_succ]
          refine take_at 5 114 (.pointer (some ⟨nb, 1, none⟩)) rfl rfl (by kernel_rfl) (by kernel_rfl) (by kernel_rfl) (fun _ _ _ h => h) (Or.inl ⟨by rfl, ?_⟩) hHeld ?_
          · intro w hSw; go_simp
          simp only [List.setIfInBounds_toArray, List.set_cons_zero, List.set_cons_succ]
          refine take_at 6 115 (.int .u64 (N : Int)) rfl rfl (by kernel_rfl) (by kernel_rfl) (by kernel_rfl) (fun _ _ _ h => h) (Or.inl ⟨by rfl, ?_⟩) hHeld ?_
          · intro w hSw; go_simp
          simp only [List.setIfInBounds_toArray, List.set_cons_zero, List.set_cons_succ]
          refine take_at 7 116 (.int .u64 ((N : Int) + 1)) rfl rfl (by kernel_rfl) (by kernel_rfl) (by kernel_rfl) (fun _ _ _ h => h) (Or.inl ⟨by rfl, ?_⟩) hHeld ?_
          · intro w hSw; go_simp; rw [IntKind.wrap_u64]; omega
          simp only [List.setIfInBounds_toArray, List.set_cons_zero, List.set_cons_succ]
          refine take_at 8 117 (.int .u64 ((cnt : Int) + 1)) rfl rfl (by kernel_rfl) (by kernel_rfl) (by kernel_rfl) (fun _ _ _ h => h) (Or.inl ⟨by rfl, ?_⟩) hHeld ?_
          · intro w hSw; go_simp
          simp only [List.setIfInBounds_toArray, List.set_cons_zero, List.set_cons_succ]
          refine take_at 10 119 (.string (str bs)) rfl rfl (by kernel_rfl) (by kernel_rfl) (by kernel_rfl) (fun _ _ _ h => h) (Or.inl ⟨by rfl, ?_⟩) hHeld ?_
          · intro w hSw; go_simp
          simp only [List.setIfInBounds_toArray, List.set_cons_zero, List.set_cons_succ]
          refine wpAnyH_ready (rs := [3]) (by kernel_rfl) (by simp) ?_
          refine AllReadyH.cons rfl (fun K hK => ?_) AllReadyH.nil
          go_simp
          refine (BG _).out.mono ?_
          rintro e wA ⟨rfl, ccwA⟩
          have gwA : wA.cell? ⟨nb, 1, none⟩ = some (.int .u64 (N : Int)) := (ccwA.cell (p := ⟨nb, 1, none⟩) (by have := nbz; simpa using this) (fun e => e)).trans nbc
          have zwA := Nat.lt_of_lt_of_le nbz ccwA.size
          have CwA := Lib.hid ((Keep.refl _ wX).drew.trans ccwA)
          clear ccwA
          refine hK.out _ _ gwA (fun hHeld => ?_)
          clear hK K
          try simp only [List.setIfInBounds_toArray, List.set_cons_zero, List.set_cons_succ]
          refine wpAnyH_ready (rs := [9]) (by kernel_rfl) (by simp) ?_
          refine AllReadyH.cons rfl (fun K hK => ?_) AllReadyH.nil
          go_simp
          refine (BY _).out.mono ?_
          rintro e wB ⟨rfl, ccwB⟩
          have gwB : wB.cell? ⟨nb, 1, none⟩ = some (.int .u64 (N : Int)) := (ccwB.cell (p := ⟨nb, 1, none⟩) (by have := zwA; simpa using this) (fun e => e)).trans gwA
          have zwB := Nat.lt_of_lt_of_le zwA ccwB.size
          have CwB := Lib.hid (CwA.out.trans ccwB)
          clear ccwB
          refine hK.out _ _ gwB (fun hHeld => ?_)
          clear hK K
          try simp only [List.setIfInBounds_toArray, List.set_cons_zero, List.set_cons_succ]
          refine take_at 11 120 (.string (str (B8 ++ bs))) rfl rfl (by kernel_rfl) (by kernel_rfl) (by kernel_rfl) (fun _ _ _ h => h) (Or.inl ⟨by rfl, ?_⟩) hHeld ?_
          · intro w hSw; go_simp; omega
          simp only [List.setIfInBounds_toArray, List.set_cons_zero, List.set_cons_succ]
          refine wpAnyH_ready (rs := [12]) (by kernel_rfl) (by simp) ?_
          refine AllReadyH.cons rfl (fun K hK => ?_) AllReadyH.nil
          go_simp
          refine (RC _).out.mono ?_
          rintro e wC ⟨rfl, ccwC⟩
          have gwC : wC.cell? ⟨nb, 1, none⟩ = some (.int .u64 (N : Int)) := (ccwC.cell (p := ⟨nb, 1, none⟩) (by have := zwB; simpa using this) (fun e => e)).trans gwB
          have zwC := Nat.lt_of_lt_of_le zwB ccwC.size
          have CwC := Lib.hid (CwB.out.trans ccwC)
          clear ccwC
          refine hK.out _ _ gwC (fun hHeld => ?_)
          clear hK K
          try simp only [List.setIfInBounds_toArray, List.set_cons_zero, List.set_cons_succ]
          refine take_at 13 122 (.string (str (B1 ++ B2))) rfl rfl (by kernel_rfl) (by kernel_rfl) (by kernel_rfl) (fun _ _ _ h => h) (Or.inl ⟨by rfl, ?_⟩) hHeld ?_
          · intro w hSw; go_simp; omega
          simp only [List.setIfInBounds_toArray, List.set_cons_zero, List.set_cons_succ]
          refine take_at 14 21 (.string (str (B1 ++ B2))) rfl rfl (by kernel_rfl) (by kernel_rfl) (by kernel_rfl) (fun _ _ _ h => h) (Or.inl ⟨by rfl, ?_⟩) hHeld ?_
          · intro w hSw; go_simp
          simp only [List.setIfInBounds_toArray, List.set_cons_zero, List.set_cons_succ]
          refine wpAnyH_done (by kernel_rfl) (NoPanic.normal ?_) _
          go_wp2_with fail
          go_meet
          case rel => exact ⟨rfl, CwC.out⟩
      case rest =>
          obtain ⟨rfl, hc8⟩ := hcut
          clear BG BY RC
          clear nbc hbc
          have RN8 : Row wc nb 35 #[.int .u64 ((σ.A.last + 1 : Nat) : Int), .int .u64 ((σ.B.last + 1 : Nat) : Int)] := Row.keep (Row.keep PY6.out.nr X7.out.2.2 (fun e => e.elim PY6.out.nx.1 PY6.out.nx.2.1)) (by rw [← HWX.out]; exact hc8) (fun e => e)
          have RH8 : Row wc hb 34 #[.string (str (areaC c 0 (n / 2))), .string (str (areaC c (n / 2) (n / 2)))] := Row.keep (Row.keep PY6.out.hr X7.out.2.2 (fun e => e.elim PY6.out.hx.1 PY6.out.hx.2.1)) (by rw [← HWX.out]; exact hc8) (fun e => e)
          have n1 : wc.cell? ⟨nb, 1, none⟩ = some (.int .u64 (N : Int)) := by rw [RN8.cell, HN.out]; rfl
          have n2 : wc.frozen? ⟨nb, 1, none⟩ = false := RN8.soft 1
          have h1 : wc.cell? ⟨hb, 1, none⟩ = some (.string (str X0)) := by rw [RH8.cell, HBB.out.2.2.2, Nat.one_mul]; rfl
          have h2 : wc.frozen? ⟨hb, 1, none⟩ = false := RH8.soft 1
          have nhn : ¬ nb = hb := fun e => (RN8.ne RH8 (by decide)) e
          obtain ⟨P, hP⟩ : ∃ P, P = B1 ++ B2 := ⟨_, rfl⟩
          rw [← hP]
          obtain ⟨pl, hpl⟩ : ∃ pl, pl = 512 * (1 + secsOf (8 + bs.length)) := ⟨_, rfl⟩
          obtain ⟨xl, hxl⟩ : ∃ xl, xl = 512 * (n / 2) := ⟨_, rfl⟩
          have hl3 := HL2.out
          have lP : P.length = pl := by rw [hP, List.length_append, hl3.1, hl3.2.1, hpl]; omega
          have lX : X0.length = xl := by rw [hl3.2.2, hxl]
          have sP := str_size P
          have sX := str_size X0
          rw [lP] at sP
          rw [lX] at sX
          have hpx : pl ≤ xl := by rw [hpl, hxl]; have := HSEC.out; omega
          have hpx' : (pl : Int) ≤ (xl : Int) := by omega
          have hx4 : (xl : Int) ≤ 4096 := by omega
          obtain ⟨D, hD⟩ : ∃ D, D = X0.drop pl := ⟨_, rfl⟩
          have exf : (str X0).extract pl xl = str D := by rw [str_extract, ← lX, List.take_length, hD]
          have sD := str_size D
          have lD : D.length ≤ 4096 := by rw [hD, List.length_drop]; omega
          have sPD := str_app P D
          have HPD := Lib.hid (And.intro hP (And.intro hD hpl))
          have HC8 := Lib.hid hc8
          clear hc8 RN8 RH8 hP hD hpl hxl hl3 lX
          go_upto_region 33 with fail
          generalize hwq : World.setCell (World.setCell _ _ _) _ _ = wq
          obtain ⟨cq, kaq, oaq, kbq, obq, pyq⟩ := py_saved (w'' := wq) (lst := lst) (by omega) PY6.out X7.out.1 X7.out.2.1 X7.out.2.2 (by rw [HBL.out]; omega) HSEC.out (by rw [← HWX.out]; exact HC8.out) HCS.out 1 σ.B.last HOT.out.symm (by rfl) (by
            rw [← hwq, ← HBB.out.2.2.2, ← HPD.out.2.2, ← HPD.out.2.1]
            have e1 : ((σ.B.last + 3 : Nat) : Int) = (N : Int) + 2 := by rw [HN.out]; omega
            have e2 : begP (σ.B.last + 1) ++ recP (σ.B.last + 2) (recB (σ.count + 1) bs) = P := by
              rw [HPD.out.1, HBB.out.2.1, HBB.out.2.2.1, HBB.out.1, HN.out, ← HCN.out]
              rfl
            rw [e1, e2])
          have PY := Lib.hid pyq
          have KQ : Hid ((σ.saved bs).kept = some (1, cnt + 1, bs)) := Lib.hid (by rw [saved_kept, HOT.out, HCN.out])
          have CNT : Hid (((σ.saved bs).count : Int) = (cnt : Int) + 1) := Lib.hid (by rw [count1 KQ.out]; rfl)
          have OTH : Hid (((σ.saved bs).other : Int) = 0) := Lib.hid (by rw [other1 KQ.out]; rfl)
          have CQ : Hid (1 ≤ cnt + 1) := Lib.hid (by omega)
          clear pyq hwq n1 n2 h1 h2 nhn sP sX exf sD sPD lP lD hpx hpx' hx4 HPD HC8 X7 HCS PY6 HBB HL2 tF ss1
          have LD := Lib.hid (sload_some PY.out.su.sto.sm KQ.out (by have := PY.out.ll; omega))
          go_wp2_with fail
          refine LD.out.mono ?_
          rintro e wa ⟨A, cp, rfl, owa, cca⟩
          have pya := PY.out.rest' cca
          have IA : Hid (InT wa (fun k => wq.heap.size ≤ k ∧ k < wa.heap.size) (.slice A bs.length cp) bs) := Lib.hid (InT.of_own owa)
          clear owa cca
          have OP := Lib.hid (su_open T1.out (pya.su.sto.sd) pya.su.up pya.su.sh pya.su.wait pya.su.n4 (by omega) pya.su.a.hf pya.su.b.hf (by have := pya.su.a.lo; have := pya.al; omega) (by have := pya.su.b.lo; have := pya.bl; omega) (by have := OB.out; omega))
          have PYA := Lib.hid pya
          clear LD pya
          go_wp2_with fail
          refine OP.out.mono ?_
          rintro e wb ⟨Rb, Tb, sb2, σb, qb, -, -, -, -, rfl, hqb, htb, hxb, hkb, hsub, -⟩
          have pyb := (PYA.out.moved qb hsub.sto.sd hxb hkb).rest' ((Keep.refl _ wb).drew)
          have IB := Lib.hid ((IA.out.keep hkb (fun k hk => PY.out.su.sto.sd.st.fresh hk.1)).keep ((Keep.refl (fun _ => False) wb).drew) (fun _ _ e => e))
          have FB : Hid (∀ k, wq.heap.size ≤ k ∧ k < wa.heap.size → ¬ Rb k) := Lib.hid (fun k hk e => (hxb k e).elim (fun e => PY.out.su.sto.sd.st.fresh hk.1 e) (fun e => by omega))
          obtain ⟨P0, P1, P2, eX, x0, x1, x2, l0, l1, lX⟩ := areaC_parts cq n (n / 2) (by omega) pyb.len
          rw [x2.trans pyb.rest] at eX
          have AR := su_area pyb.su (by omega) (by show S7.ops + qb ≤ _; have := OB.out; omega)
          rw [eX, ← List.append_assoc] at AR
          have hA0 : wb.cell? ⟨hb, 0, none⟩ = some (.string (str P0)) := (pyb.hr.cell 0).trans (by rw [x0]; rfl)
          have hA1 : wb.cell? ⟨hb, 1, none⟩ = some (.string (str P1)) := (pyb.hr.cell 1).trans (by rw [x1]; rfl)
          have lZ : (List.replicate (512 * (n - 2 * (n / 2))) (0 : UInt8)).length ≤ 512 := by rw [List.length_replicate]; omega
          have l0' : P0.length ≤ 3072 := by omega
          have l1' : P1.length ≤ 3072 := by omega
          have HAR := Lib.hid AR
          have PYB := Lib.hid pyb
          have SUB := Lib.hid (hsub.rest ((Keep.refl _ wb).drew))
          have KB : Hid (σb.kept = (σ.saved bs).kept) := Lib.hid (hsub.kept.trans PYA.out.su.kept.symm)
          have LB : Hid (hb < wb.heap.size ∧ ¬ Rb hb) := Lib.hid ⟨pyb.hr.lt, pyb.hx.1⟩
          rw [← HZd.out] at HAR lZ
          clear OP AR eX x0 x1 x2 l0 l1 lX pyb hsub hxb hkb htb
          have sa := str_app
          have ss := str_size
          have tne := str_bne_no (a := P0 ++ P1 ++ Z) (b := P0 ++ P1 ++ Z) rfl
          go_wp2_with fail
          refine wp_region_noPanic ?_
          refine wp_region_held_drew (S := fun wx => wx.cell? ⟨hb, 0, none⟩ = some (.string (str P0)) ∧ wx.cell? ⟨hb, 1, none⟩ = some (.string (str P1))) (by kernel_rfl) ⟨hA0, hA1⟩ (fun hHeld => ?_)
          refine take_at 0 152 (.pointer (some ⟨sb2, 0, none⟩)) rfl rfl (by kernel_rfl) (by kernel_rfl) (by kernel_rfl) (fun _ _ _ h => h) (Or.inl ⟨by rfl, ?_⟩) hHeld ?_
          · intro w hSw; go_simp
          simp only [List.setIfInBounds_toArray, List.set_cons_zero, List.set_cons_succ]
          refine take_at 1 153 (.bool false) rfl rfl (by kernel_rfl) (by kernel_rfl) (by kernel_rfl) (fun _ _ _ h => h) (Or.inl ⟨by rfl, ?_⟩) hHeld ?_
          · intro w hSw; go_simp
          simp only [List.setIfInBounds_toArray, List.set_cons_zero, List.set_cons_succ]
          refine take_at 2 154 (.bool false) rfl rfl (by kernel_rfl) (by kernel_rfl) (by kernel_rfl) (fun _ _ _ h => h) (Or.inl ⟨by rfl, ?_⟩) hHeld ?_
          · intro w hSw; go_simp
          simp only [List.setIfInBounds_toArray, List.set_cons_zero, List.set_cons_succ]
          refine take_at 3 155 (.int .i64 0) rfl rfl (by kernel_rfl) (by kernel_rfl) (by kernel_rfl) (fun _ _ _ h => h) (Or.inl ⟨by rfl, ?_⟩) hHeld ?_
          · intro w hSw; go_simp
          simp only [List.setIfInBounds_toArray, List.set_cons_zero, List.set_cons_succ]
          refine take_at 4 156 (.bool false) rfl rfl (by kernel_rfl) (by kernel_rfl) (by kernel_rfl) (fun _ _ _ h => h) (Or.inl ⟨by rfl, ?_⟩) hHeld ?_
          · intro w hSw; go_simp
          simp only [List.setIfInBounds_toArray, List.set_cons_zero, List.set_cons_succ]
          refine take_at 5 157 (.bool false) rfl rfl (by kernel_rfl) (by kernel_rfl) (by kernel_rfl) (fun _ _ _ h => h) (Or.inl ⟨by rfl, ?_⟩) hHeld ?_
          · intro w hSw; go_simp
          simp only [List.setIfInBounds_toArray, List.set_cons_zero, List.set_cons_succ]
          refine take_at 6 158 (.bool false) rfl rfl (by kernel_rfl) (by kernel_rfl) (by kernel_rfl) (fun _ _ _ h => h) (Or.inl ⟨by rfl, ?_⟩) hHeld ?_
          · intro w hSw; go_simp
          simp only [List.setIfInBounds_toArray, List.set_cons_zero, List.set_cons_succ]
          refine take_at 7 159 (.pointer (some ⟨d, 0, none⟩)) rfl rfl (by kernel_rfl) (by kernel_rfl) (by kernel_rfl) (fun _ _ _ h => h) (Or.inl ⟨by rfl, ?_⟩) hHeld ?_
          · intro w hSw; go_simp
          simp only [List.setIfInBounds_toArray, List.set_cons_zero, List.set_cons_succ]
          refine take_at 9 161 (.pointer (some ⟨hb, 0, none⟩)) rfl rfl (by kernel_rfl) (by kernel_rfl) (by kernel_rfl) (fun _ _ _ h => h) (Or.inl ⟨by rfl, ?_⟩) hHeld ?_
          · intro w hSw; go_simp
          simp only [List.setIfInBounds_toArray, List.set_cons_zero, List.set_cons_succ]
          refine take_at 10 162 (.string (str P0)) rfl rfl (by kernel_rfl) (by kernel_rfl) (by kernel_rfl) (fun _ _ _ h => h) (Or.inl ⟨by rfl, ?_⟩) hHeld ?_
          · intro w hSw; obtain ⟨s1, s2⟩ := hSw; go_simp
          simp only [List.setIfInBounds_toArray, List.set_cons_zero, List.set_cons_succ]
          refine take_at 11 163 (.pointer (some ⟨hb, 1, none⟩)) rfl rfl (by kernel_rfl) (by kernel_rfl) (by kernel_rfl) (fun _ _ _ h => h) (Or.inl ⟨by rfl, ?_⟩) hHeld ?_
          · intro w hSw; go_simp
          simp only [List.setIfInBounds_toArray, List.set_cons_zero, List.set_cons_succ]
          refine take_at 12 164 (.string (str P1)) rfl rfl (by kernel_rfl) (by kernel_rfl) (by kernel_rfl) (fun _ _ _ h => h) (Or.inl ⟨by rfl, ?_⟩) hHeld ?_
          · intro w hSw; obtain ⟨s1, s2⟩ := hSw; go_simp
          simp only [List.setIfInBounds_toArray, List.set_cons_zero, List.set_cons_succ]
          refine take_at 13 165 (.string (str (P0 ++ P1))) rfl rfl (by kernel_rfl) (by kernel_rfl) (by kernel_rfl) (fun _ _ _ h => h) (Or.inl ⟨by rfl, ?_⟩) hHeld ?_
          · intro w hSw; go_simp; omega
          simp only [List.setIfInBounds_toArray, List.set_cons_zero, List.set_cons_succ]
          refine take_at 14 166 (.string (str Z)) rfl rfl (by kernel_rfl) (by kernel_rfl) (by kernel_rfl) (fun _ _ _ h => h) (Or.inl ⟨by rfl, ?_⟩) hHeld ?_
          · intro w hSw; go_simp
          simp only [List.setIfInBounds_toArray, List.set_cons_zero, List.set_cons_succ]
          refine take_at 15 167 (.string (str (P0 ++ P1 ++ Z))) rfl rfl (by kernel_rfl) (by kernel_rfl) (by kernel_rfl) (fun _ _ _ h => h) (Or.inl ⟨by rfl, ?_⟩) hHeld ?_
          · intro w hSw; go_simp; omega
          simp only [List.setIfInBounds_toArray, List.set_cons_zero, List.set_cons_succ]
          refine wpAnyH_ready (rs := [8]) (by kernel_rfl) (by simp) ?_
          refine AllReadyH.cons rfl (fun K hK => ?_) AllReadyH.nil
          go_simp
          refine HAR.out.mono ?_
          rintro e wc ⟨Rc, rfl, hsc, hxc, hkc, -⟩
          have f0 : wc.cell? ⟨hb, 0, none⟩ = some (.string (str P0)) := (hkc.cell (p := ⟨hb, 0, none⟩) LB.out.1 LB.out.2).trans hA0
          have f1 : wc.cell? ⟨hb, 1, none⟩ = some (.string (str P1)) := (hkc.cell (p := ⟨hb, 1, none⟩) LB.out.1 LB.out.2).trans hA1
          have PYC := Lib.hid (PYB.out.moved n hsc.sto.sd hxc hkc)
          have SUC := Lib.hid (SUB.out.moved n hsc.sto.sd hxc hkc)
          have IC := Lib.hid (IB.out.keep hkc (fun k hk => FB.out k hk))
          have RM := sroom_c PYC.out.su.sto.sm (by rw [PYC.out.su.hh]; omega) (by rw [PYC.out.su.hh]; omega)
          have hrm : (((σ.saved bs).h : Int) - 1) * 512 - 24 = 512 * ((hf : Int) - 1) - 24 := by rw [PYC.out.su.hh, ← HHf.out]; omega
          rw [hrm] at RM
          have HRM := Lib.hid RM
          clear hsc hxc hkc RM hrm HAR
          refine hK.out _ _ ⟨f0, f1⟩ (fun hHeld => ?_)
          clear hK K
          try simp only [List.setIfInBounds_toArray, List.set_cons_zero, List.set_cons_succ]
          refine take_at 16 168 (.bool false) rfl rfl (by kernel_rfl) (by kernel_rfl) (by kernel_rfl) (fun _ _ _ h => h) (Or.inl ⟨by rfl, ?_⟩) hHeld ?_
          · intro w hSw; go_simp
          simp only [List.setIfInBounds_toArray, List.set_cons_zero, List.set_cons_succ]
          refine take_at 17 169 (.bool false) rfl rfl (by kernel_rfl) (by kernel_rfl) (by kernel_rfl) (fun _ _ _ h => h) (Or.inl ⟨by rfl, ?_⟩) hHeld ?_
          · intro w hSw; go_simp
          simp only [List.setIfInBounds_toArray, List.set_cons_zero, List.set_cons_succ]
          refine take_at 18 170 (.bool false) rfl rfl (by kernel_rfl) (by kernel_rfl) (by kernel_rfl) (fun _ _ _ h => h) (Or.inl ⟨by rfl, ?_⟩) hHeld ?_
          · intro w hSw; go_simp
          simp only [List.setIfInBounds_toArray, List.set_cons_zero, List.set_cons_succ]
          refine take_at 19 171 (.pointer (some ⟨sb, 0, none⟩)) rfl rfl (by kernel_rfl) (by kernel_rfl) (by kernel_rfl) (fun _ _ _ h => h) (Or.inl ⟨by rfl, ?_⟩) hHeld ?_
          · intro w hSw; go_simp
          simp only [List.setIfInBounds_toArray, List.set_cons_zero, List.set_cons_succ]
          refine take_at 21 173 (.int .i64 (hf : Int)) rfl rfl (by kernel_rfl) (by kernel_rfl) (by kernel_rfl) (fun _ _ _ h => h) (Or.inl ⟨by rfl, ?_⟩) hHeld ?_
          · intro w hSw; go_simp
          simp only [List.setIfInBounds_toArray, List.set_cons_zero, List.set_cons_succ]
          refine take_at 22 174 (.int .i64 ((hf : Int) - 1)) rfl rfl (by kernel_rfl) (by kernel_rfl) (by kernel_rfl) (fun _ _ _ h => h) (Or.inl ⟨by rfl, ?_⟩) hHeld ?_
          · intro w hSw; go_simp; rw [IntKind.wrap_i64]; omega
          simp only [List.setIfInBounds_toArray, List.set_cons_zero, List.set_cons_succ]
          refine take_at 23 175 (.int .i64 (512 * ((hf : Int) - 1))) rfl rfl (by kernel_rfl) (by kernel_rfl) (by kernel_rfl) (fun _ _ _ h => h) (Or.inl ⟨by rfl, ?_⟩) hHeld ?_
          · intro w hSw; go_simp; rw [IntKind.wrap_i64]; omega
          simp only [List.setIfInBounds_toArray, List.set_cons_zero, List.set_cons_succ]
          refine take_at 24 176 (.int .i64 (512 * ((hf : Int) - 1) - 24)) rfl rfl (by kernel_rfl) (by kernel_rfl) (by kernel_rfl) (fun _ _ _ h => h) (Or.inl ⟨by rfl, ?_⟩) hHeld ?_
          · intro w hSw; go_simp; rw [IntKind.wrap_i64]; omega
          simp only [List.setIfInBounds_toArray, List.set_cons_zero, List.set_cons_succ]
          refine wpAnyH_ready (rs := [20]) (by kernel_rfl) (by simp) ?_
          refine AllReadyH.cons rfl (fun K hK => ?_) AllReadyH.nil
          go_simp
          refine HRM.out.mono ?_
          rintro e wd ⟨rfl, rfl⟩
          refine hK.out _ _ ⟨f0, f1⟩ (fun hHeld => ?_)
          clear hK K
          try simp only [List.setIfInBounds_toArray, List.set_cons_zero, List.set_cons_succ]
          refine take_at 25 177 (.bool false) rfl rfl (by kernel_rfl) (by kernel_rfl) (by kernel_rfl) (fun _ _ _ h => h) (Or.inl ⟨by rfl, ?_⟩) hHeld ?_
          · intro w hSw; go_simp
          simp only [List.setIfInBounds_toArray, List.set_cons_zero, List.set_cons_succ]
          refine take_at 26 178 (.bool false) rfl rfl (by kernel_rfl) (by kernel_rfl) (by kernel_rfl) (fun _ _ _ h => h) (Or.inl ⟨by rfl, ?_⟩) hHeld ?_
          · intro w hSw; go_simp
          simp only [List.setIfInBounds_toArray, List.set_cons_zero, List.set_cons_succ]
          refine wpAnyH_done (by kernel_rfl) (NoPanic.normal ?_) _
          clear hHeld hA0 hA1 sa tne
          have LD2 := Lib.hid (sload_some SUC.out.sto.sm (KB.out.trans KQ.out) (by have := PY.out.ll; omega))
          go_wp2_with fail
          refine LD2.out.mono ?_
          rintro e we ⟨A2, cp2, rfl, owe, cce⟩
          have q1 := conv_rd (IC.out.rd.calm cce)
          have q2 := conv_rd (owe.any).choose_spec.choose_spec.2
          have PYE := Lib.hid (PYC.out.rest' cce)
          clear LD2 owe cce
          have c0 : (((cnt : Int) + 1) == 0) = false := by rw [beq_eq_false_iff_ne]; have := CQ.out; omega
          have c1 : decide (0 < ((cnt : Int) + 1)) = true := decide_eq_true (by have := CQ.out; omega)
          skip
          have tnl := str_bne_no (a := bs) (b := bs) rfl
          go_wp2_with fail
          go_roundw
          case rel => exact ⟨i + 1, _, _, _, _, _, _, _, _, _, _, by omega, by omega, by go_num, by rw [OTH.out]; rfl, by rw [CNT.out], rfl, PYE.out, by show S7.ops + qb + n ≤ _; have := OB.out; omega⟩
          case measure => simp [intOf]; omega
end Go.Proofs.YtfigiofiakkbdaaDoor
