/-
  JournalPlays, walked.
-/
import Derived.Test.YtglfmhheepgneaaDoorJP2
namespace Go.Proofs.YtglfmhheepgneaaDoor
open Go.RowKit
set_option linter.all false

set_option maxRecDepth 100000 in
set_option maxHeartbeats 8000000 in
theorem plays_c (w : World) (hT : Tab w) (a0 a1 : Int) (v : Value) (m : Nat) (hv : StepsAt3 w v m) :
    Calls Tryd.prog 3 #[.int .i64 a0, .int .i64 a1, v] w fun e w' => e = .returned (.bool true) ∧ Calm w w' := by
  obtain ⟨f, b0, m0⟩ := mask_nat a0 2 3 (by omega) (by decide)
  obtain ⟨r1, b1, m1⟩ := mask_nat a1 16 65535 (by omega) (by decide)
  obtain ⟨A, cap, rfl, hcap, hmax, hel⟩ := hv
  unfold maxLen at hmax
  have HE := Lib.hid hel
  have HM := Lib.hid (And.intro hcap hmax)
  have SH := Lib.hid (shown_c w hT)
  have HT := Lib.hid hT
  obtain ⟨k, hk, hk'⟩ : ∃ k : Nat, (2 ≤ k ∧ k ≤ 8) ∧ 2 + (r1 : Int) % 7 = (k : Int) := ⟨2 + r1 % 7, by omega, by omega⟩
  have HK : Hid (f + k ≤ 12) := Lib.hid (by omega)
  have fi : (f : Int) < 4 := by omega
  have ki : (k : Int) ≤ 8 := by omega
  have ki2 : (2 : Int) ≤ (k : Int) := by omega
  clear hel hcap hmax hT b0 b1
  go_enter Tryd.func3, Tryd.ntmps3
  go_wp2_with fail
  refine SH.out.mono ?_
  rintro e w1 ⟨rfl, c1⟩
  have C1 := Lib.hid c1
  have T1 := Lib.hid (HT.out.calm c1)
  have N := Lib.hid (new_up w1 12 (by omega) (by omega))
  clear c1 SH HT
  go_wp2_with fail
  try rw [hk']
  clear m0 m1 hk'
  refine N.out.mono ?_
  rintro e w2 ⟨R2, d, S2, rfl, s2, u2, sh2, e2, o2, c2⟩
  have FM := Lib.hid (jformat_up (f := f) (k := k) T1.out s2 u2 sh2 (by omega) HK.out (by unfold DS.fine; rw [e2, o2]; simp))
  have HO2 := Lib.hid o2
  clear s2 u2 sh2 e2 o2 c2 N
  go_wp2_with fail
  refine FM.out.mono ?_
  rintro e w4 ⟨R4, S4, jb, rfl, -, J4, -, -, e4, g4, o4⟩
  have P4 : Hid (Pl w1 w4 R4 d jb S4 f k 1 2 (upd (fun _ => full 0) f (begP 1)) 0) := Lib.hid ⟨J4, ⟨⟨1, by omega, by omega, by rw [g4 f (by have := HK.out; omega)]; simp [upd]⟩, fun y hy => by rw [e4] at hy; cases hy⟩, by omega, by omega, by omega, by omega, by rw [o4, HO2.out]; omega, by rw [e4]; simp⟩
  have BG := Lib.hid (fun w => begin_c 1 w (by omega))
  have sa := str_app (begP 1) (List.replicate (512 * (k - 1)) 0)
  have wq1 : IntKind.i64.wrap ((k : Int) - 1) = (k : Int) - 1 := by rw [IntKind.wrap_i64]; omega
  have wq2 : IntKind.i64.wrap (512 * ((k : Int) - 1)) = 512 * ((k : Int) - 1) := by rw [IntKind.wrap_i64]; omega
  have qsz : (str (begP 1)).size + (str (List.replicate (512 * (k - 1)) 0)).size ≤ 9223372036854775807 := by rw [str_size, str_size, begP_len, List.length_replicate]; omega
  clear J4 e4 g4 o4 FM
  go_upto_region 10 with fail
  go_cut [12] (fun s12 wc => s12 = .string (str (begP 1 ++ List.replicate (512 * (k - 1)) 0)) ∧ Calm w4 wc)
  case first =>
    have qm := run_make8 w4.drew (512 * (k - 1)) (by omega)
    rw [show ((512 * (k - 1) : Nat) : Int) = 512 * ((k : Int) - 1) by omega] at qm
    refine wp_region_noPanic ?_
    refine wp_region_held_drew (S := fun _ => True) (by kernel_rfl) trivial (fun hHeld => ?_)
    refine take_at 1 55 (.int .i64 (k : Int)) rfl rfl (by kernel_rfl) (by kernel_rfl) (by kernel_rfl) (fun _ _ _ h => h) (Or.inl ⟨by rfl, ?_⟩) hHeld ?_
    · intro w hSw; go_simp
    simp only [List.setIfInBounds_toArray, List.set_cons_zero, List.set_cons_succ]
    refine take_at 2 56 (.int .i64 ((k : Int) - 1)) rfl rfl (by kernel_rfl) (by kernel_rfl) (by kernel_rfl) (fun _ _ _ h => h) (Or.inl ⟨by rfl, ?_⟩) hHeld ?_
    · intro w hSw; go_simp
    simp only [List.setIfInBounds_toArray, List.set_cons_zero, List.set_cons_succ]
    refine take_at 3 57 (.int .i64 (512 * ((k : Int) - 1))) rfl rfl (by kernel_rfl) (by kernel_rfl) (by kernel_rfl) (fun _ _ _ h => h) (Or.inl ⟨by rfl, ?_⟩) hHeld ?_
    · intro w hSw; go_simp
    simp only [List.setIfInBounds_toArray, List.set_cons_zero, List.set_cons_succ]
    refine wpAnyH_ready (rs := [0, 4]) (by kernel_rfl) (by simp) ?_
    refine AllReadyH.cons rfl (fun K hK => ?_) ?_
    · go_simp
      refine (BG.out _).mono ?_
      rintro e w5 ⟨rfl, cw5⟩
      have qm := run_make8 w5 (512 * (k - 1)) (by omega)
      rw [show ((512 * (k - 1) : Nat) : Int) = 512 * ((k : Int) - 1) by omega] at qm
      have q5 := conv_zeros w5 (512 * (k - 1)) (by omega)
      refine hK.out _ _ trivial (fun hHeld => ?_)
      clear hK K
      try simp only [List.setIfInBounds_toArray, List.set_cons_zero, List.set_cons_succ]
      refine wpAnyH_ready (rs := [4]) (by kernel_rfl) (by simp) ?_
      refine AllReadyH.cons rfl (fun K hK => ?_) AllReadyH.nil
      go_simp
      refine hK.out _ _ trivial (fun hHeld => ?_)
      clear hK K
      try simp only [List.setIfInBounds_toArray, List.set_cons_zero, List.set_cons_succ]
      refine wpAnyH_ready (rs := [5]) (by kernel_rfl) (by simp) ?_
      refine AllReadyH.cons rfl (fun K hK => ?_) AllReadyH.nil
      go_simp
      refine hK.out _ _ trivial (fun hHeld => ?_)
      clear hK K
      try simp only [List.setIfInBounds_toArray, List.set_cons_zero, List.set_cons_succ]
      refine take_at 6 60 (.string (str (begP 1 ++ List.replicate (512 * (k - 1)) 0))) rfl rfl (by kernel_rfl) (by kernel_rfl) (by kernel_rfl) (fun _ _ _ h => h) (Or.inl ⟨by rfl, ?_⟩) hHeld ?_
      · intro w hSw; go_simp
      simp only [List.setIfInBounds_toArray, List.set_cons_zero, List.set_cons_succ]
      refine take_at 7 12 (.string (str (begP 1 ++ List.replicate (512 * (k - 1)) 0))) rfl rfl (by kernel_rfl) (by kernel_rfl) (by kernel_rfl) (fun _ _ _ h => h) (Or.inl ⟨by rfl, ?_⟩) hHeld ?_
      · intro w hSw; go_simp
      simp only [List.setIfInBounds_toArray, List.set_cons_zero, List.set_cons_succ]
      refine wpAnyH_done (by kernel_rfl) (NoPanic.normal ?_) _
      go_wp2_with fail
      go_meet
      case rel => exact ⟨rfl, ((Keep.refl _ w4).drew.trans cw5).alloc _⟩
    refine AllReadyH.cons rfl (fun K hK => ?_) ?_
    · go_simp
      have q5 := conv_rd ((zeros_rd w4 (512 * (k - 1)) (by omega)).calm ((Keep.refl _ _).drew))
      refine hK.out _ _ trivial (fun hHeld => ?_)
      clear hK K
      try simp only [List.setIfInBounds_toArray, List.set_cons_zero, List.set_cons_succ]
      refine wpAnyH_ready (rs := [0, 5]) (by kernel_rfl) (by simp) ?_
      refine AllReadyH.cons rfl (fun K hK => ?_) ?_
      · go_simp
        refine (BG.out _).mono ?_
        rintro e w5 ⟨rfl, cw5⟩
        have q6 := conv_rd ((zeros_rd w4 (512 * (k - 1)) (by omega)).calm ((Keep.refl _ _).drew.trans cw5))
        refine hK.out _ _ trivial (fun hHeld => ?_)
        clear hK K
        try simp only [List.setIfInBounds_toArray, List.set_cons_zero, List.set_cons_succ]
        refine wpAnyH_ready (rs := [5]) (by kernel_rfl) (by simp) ?_
        refine AllReadyH.cons rfl (fun K hK => ?_) AllReadyH.nil
        go_simp
        refine hK.out _ _ trivial (fun hHeld => ?_)
        clear hK K
        try simp only [List.setIfInBounds_toArray, List.set_cons_zero, List.set_cons_succ]
        refine take_at 6 60 (.string (str (begP 1 ++ List.replicate (512 * (k - 1)) 0))) rfl rfl (by kernel_rfl) (by kernel_rfl) (by kernel_rfl) (fun _ _ _ h => h) (Or.inl ⟨by rfl, ?_⟩) hHeld ?_
        · intro w hSw; go_simp
        simp only [List.setIfInBounds_toArray, List.set_cons_zero, List.set_cons_succ]
        refine take_at 7 12 (.string (str (begP 1 ++ List.replicate (512 * (k - 1)) 0))) rfl rfl (by kernel_rfl) (by kernel_rfl) (by kernel_rfl) (fun _ _ _ h => h) (Or.inl ⟨by rfl, ?_⟩) hHeld ?_
        · intro w hSw; go_simp
        simp only [List.setIfInBounds_toArray, List.set_cons_zero, List.set_cons_succ]
        refine wpAnyH_done (by kernel_rfl) (NoPanic.normal ?_) _
        go_wp2_with fail
        go_meet
        case rel => exact ⟨rfl, ((Keep.refl _ w4).alloc _).drew.trans cw5⟩
      refine AllReadyH.cons rfl (fun K hK => ?_) ?_
      · go_simp
        refine hK.out _ _ trivial (fun hHeld => ?_)
        clear hK K
        try simp only [List.setIfInBounds_toArray, List.set_cons_zero, List.set_cons_succ]
        refine wpAnyH_ready (rs := [0]) (by kernel_rfl) (by simp) ?_
        refine AllReadyH.cons rfl (fun K hK => ?_) AllReadyH.nil
        go_simp
        refine (BG.out _).mono ?_
        rintro e w5 ⟨rfl, cw5⟩
        refine hK.out _ _ trivial (fun hHeld => ?_)
        clear hK K
        try simp only [List.setIfInBounds_toArray, List.set_cons_zero, List.set_cons_succ]
        refine take_at 6 60 (.string (str (begP 1 ++ List.replicate (512 * (k - 1)) 0))) rfl rfl (by kernel_rfl) (by kernel_rfl) (by kernel_rfl) (fun _ _ _ h => h) (Or.inl ⟨by rfl, ?_⟩) hHeld ?_
        · intro w hSw; go_simp
        simp only [List.setIfInBounds_toArray, List.set_cons_zero, List.set_cons_succ]
        refine take_at 7 12 (.string (str (begP 1 ++ List.replicate (512 * (k - 1)) 0))) rfl rfl (by kernel_rfl) (by kernel_rfl) (by kernel_rfl) (fun _ _ _ h => h) (Or.inl ⟨by rfl, ?_⟩) hHeld ?_
        · intro w hSw; go_simp
        simp only [List.setIfInBounds_toArray, List.set_cons_zero, List.set_cons_succ]
        refine wpAnyH_done (by kernel_rfl) (NoPanic.normal ?_) _
        go_wp2_with fail
        go_meet
        case rel => exact ⟨rfl, ((Keep.refl _ w4).alloc _).drew.trans cw5⟩
      exact AllReadyH.nil
    exact AllReadyH.nil
  case rest =>
    obtain ⟨rfl, hc5⟩ := hcut
    rw [← area0 f k (by omega)]
    have P5 := Lib.hid (P4.out.rest hc5)
    clear hc5 BG sa wq1 wq2 qsz P4
    go_wp2_with fail
    go_loopw [10, 12, 13, 14, 15] (fun v10 v12 v13 v14 v15 wr => ∃ (i : Nat) (R : Nat → Prop) (S : DS) (jb us nx : Nat) (c : Nat → List UInt8), i ≤ 30 ∧ i ≤ m ∧ v15 = .int .i64 (i : Int) ∧ v10 = .pointer (some ⟨jb, 0, none⟩) ∧ v12 = .string (str (areaC c f k)) ∧ v13 = .int .u64 (nx : Int) ∧ v14 = .int .i64 (us : Int) ∧ Pl w1 wr R d jb S f k us nx c i) (fun _ _ _ _ v15 _ => 30 - (intOf v15).toNat)
    case atStart => exact ⟨0, R4, S4, jb, 1, 2, _, by omega, by omega, rfl, rfl, rfl, rfl, rfl, P5.out⟩
    case round =>
      obtain ⟨i, R, S, jb, us, nx, c, hi30, him, rfl, rfl, rfl, rfl, rfl, hpl⟩ := hrel
      have HP := Lib.hid hpl
      clear hpl P5
      by_cases hgo : i < m ∧ i < 30
      · have i0 : (i : Int) < (m : Int) := by omega
        have i1 : (i : Int) < 30 := by omega
        obtain ⟨ad, rfl, kind, nn, fill, KA, ks, kc, hlie, k1, k2, k4, hbools⟩ := HE.out i hgo.1
        have HBO := Lib.hid hbools
        have HKC := Lib.hid (And.intro k1 (And.intro k2 k4))
        have hlr := hlie.calm (C1.out.trans HP.out.calm)
        have l0 : wr.cell? (ad.add (i * 4)) = some (.int .i64 kind) := hlr 0 _ rfl
        have l1 : wr.cell? ⟨(ad.add (i * 4)).block, (ad.add (i * 4)).off + 1, none⟩ = some (.int .i64 nn) := hlr 1 _ rfl
        have l2 : wr.cell? ⟨(ad.add (i * 4)).block, (ad.add (i * 4)).off + 2, none⟩ = some (.int .u8 (fill.toNat : Int)) := hlr 2 _ rfl
        have l3 : wr.cell? ⟨(ad.add (i * 4)).block, (ad.add (i * 4)).off + 3, none⟩ = some (.slice KA ks.length kc) := hlr 3 _ rfl
        have HLI := Lib.hid hlie
        have hgo2 := hgo.2
        have hgo1 := hgo.1
        clear hgo hlie k1 k2 k4 hbools hlr
        have hi : i < 30 := hgo2
        go_upto_region 17 with fail
        have ROW := Row.made wr 36 #[.int .i64 kind, .int .i64 nn, .int .u8 (fill.toNat : Int), .slice KA ks.length kc]
        have HP6 : Hid (Pl w1 (wr.alloc (.cells #[.int .i64 kind, .int .i64 nn, .int .u8 (fill.toNat : Int), .slice KA ks.length kc] 36)) R d jb S f k us nx c i) := Lib.hid (HP.out.rest ((Keep.refl _ wr).alloc _))
        clear l0 l1 l2 l3
        generalize wr.alloc (.cells #[.int .i64 kind, .int .i64 nn, .int .u8 (fill.toNat : Int), .slice KA ks.length kc] 36) = w6 at *
        generalize wr.heap.size = sb at *
        have x0 : w6.cell? ⟨sb, 0, none⟩ = some (.int .i64 kind) := by rw [ROW.cell]; rfl
        have x1 : w6.cell? ⟨sb, 1, none⟩ = some (.int .i64 nn) := by rw [ROW.cell]; rfl
        have x2 : w6.cell? ⟨sb, 2, none⟩ = some (.int .u8 (fill.toNat : Int)) := by rw [ROW.cell]; rfl
        have x3 : w6.cell? ⟨sb, 3, none⟩ = some (.slice KA ks.length kc) := by rw [ROW.cell]; rfl
        clear ROW HP HE HLI
        go_upto_block 2 with fail
        have hsl : Hid ((areaC c f k).length = 512 * k) := Lib.hid (HP6.out.area_len HK.out)
        obtain ⟨s, hs⟩ : ∃ s, s = areaC c f k := ⟨_, rfl⟩
        rw [← hs] at hsl ⊢
        have HS := Lib.hid hs
        clear hs
        go_cut [10, 12, 13, 14] from 61 to 232 (fun s10 s12 s13 s14 wc => ∃ (R' : Nat → Prop) (S' : DS) (jb' us' nx' : Nat) (c' : Nat → List UInt8), s10 = .pointer (some ⟨jb', 0, none⟩) ∧ s12 = .string (str (areaC c' f k)) ∧ s13 = .int .u64 (nx' : Int) ∧ s14 = .int .i64 (us' : Int) ∧ Pl w1 wc R' d jb' S' f k us' nx' c' (i + 1) ∧ S'.ops + k ≤ 50 + 40 * i)
        case first =>
          by_cases kd1 : kind = 1
          · subst kd1
            as_aux_lemma =>
              obtain ⟨rN, bN, mN⟩ := mask_nat nn 16 65535 (by omega) (by decide)
              obtain ⟨q, hq, hq'⟩ : ∃ q : Nat, q < 1200 ∧ (rN : Int) % 1200 = (q : Int) := ⟨rN % 1200, by omega, by omega⟩
              have TX := Lib.hid (fun w => text_c q fill w (by omega))
              have hTl := textB_len q fill
              generalize textB q fill = T at TX hTl
              have RC := Lib.hid (fun w => record_c nx T w (by have := HP6.out.nx2; omega) (by omega))
              have hPl := rec_len nx T
              obtain ⟨sq, hsq⟩ : ∃ sq, sq = secsOf T.length := ⟨_, rfl⟩
              obtain ⟨P, hPd⟩ : ∃ P, P = recP nx T := ⟨_, rfl⟩
              rw [← hsq, ← hPd] at hPl
              rw [← hPd] at RC
              have sq1 : 1 ≤ sq := by rw [hsq]; exact secsOf_pos _
              have sq3 : sq ≤ 3 := by rw [hsq]; unfold secsOf; omega
              have HU := Lib.hid (And.intro HP6.out.us1 HP6.out.us2)
              have ui : (us : Int) ≤ 8 := by have := HU.out; omega
              have sqi : (sq : Int) ≤ 3 := by omega
              have ssP := str_size P
              have pd1 : (P.length : Int).tdiv 512 = (sq : Int) := by rw [Int.tdiv_eq_ediv_of_nonneg (by omega)]; omega
              have pd2 : (P.length : Int) / 512 = (sq : Int) := by omega
              have HPl := Lib.hid hPl
              have HPd := Lib.hid hPd
              have HSq := Lib.hid hsq
              have HTl := Lib.hid hTl
              have HQ := Lib.hid hq
              clear hPl hPd hsq hTl hq bN x3
              go_wp2_with fail
              try rw [hq']
              refine (TX.out _).mono ?_
              rintro e w7 ⟨rfl, c7⟩
              have P7 := Lib.hid (HP6.out.rest c7)
              clear c7 TX mN hq' x0 x1 x2
              go_wp2_with fail
              refine (RC.out _).mono ?_
              rintro e w8 ⟨rfl, c8⟩
              obtain ⟨cc, W9, qc, rd9, cm9, z9⟩ := conv_bytes w8 T (by rw [HTl.out]; have := HQ.out; unfold maxLen; omega)
              have P9 := Lib.hid ((P7.out.rest c8).rest cm9)
              have HRd := Lib.hid rd9
              clear c8 RC cm9 rd9 z9 P7
              by_cases hfit : us + sq ≤ k
              · have AP := Lib.hid (P9.out.append T1.out HK.out hi _ T HRd.out (by rw [HTl.out]; exact HQ.out) (by rw [← HSq.out]; exact hfit))
                have gi : (us : Int) + (sq : Int) ≤ (k : Int) := by omega
                go_wp2_with fail
                refine AP.out.mono ?_
                rintro e w10 ⟨R10, S10, rfl, p10, o10⟩
                have P10 := Lib.hid (And.intro p10 o10)
                obtain ⟨z1, hz1, wz1⟩ : ∃ z1 : Nat, z1 = 512 * us ∧ IntKind.i64.wrap (512 * (us : Int)) = (z1 : Int) := ⟨_, rfl, by rw [IntKind.wrap_i64]; omega⟩
                obtain ⟨z2, hz2, wz2⟩ : ∃ z2 : Nat, z2 = z1 + P.length ∧ IntKind.i64.wrap ((z1 : Int) + (P.length : Int)) = (z2 : Int) := ⟨_, rfl, by have := HPl.out; rw [IntKind.wrap_i64]; omega⟩
                have ss := str_size s
                have zi1 : (z1 : Int) ≤ (s.length : Int) := by rw [hsl.out]; omega
                have zi2 : (z2 : Int) ≤ (s.length : Int) := by have := HPl.out; rw [hsl.out]; omega
                have se1 : (str s).extract 0 z1 = str (s.take z1) := by rw [str_extract]; simp
                have se2 : (str s).extract z2 s.length = str (s.drop z2) := by rw [str_extract]; rw [List.take_of_length_le (Nat.le_refl _)]
                have sa1 := str_app (s.take z1) P
                have sa2 := str_app (s.take z1 ++ P) (s.drop z2)
                have hzz : Hid (z1 = 512 * us ∧ z2 = z1 + P.length) := Lib.hid ⟨hz1, hz2⟩
                have qz1 : (str (s.take z1)).size + P.length ≤ 9223372036854775807 := by have := HPl.out; have := hsl.out; rw [str_size, List.length_take]; omega
                have qz2 : (str (s.take z1 ++ P)).size + (str (s.drop z2)).size ≤ 9223372036854775807 := by have := HPl.out; have := hsl.out; rw [str_size, str_size, List.length_append, List.length_take, List.length_drop]; omega
                have wn : IntKind.u64.wrap ((nx : Int) + 1) = (nx : Int) + 1 := by have := HP6.out.nx2; rw [IntKind.wrap_u64]; omega
                clear p10 o10 AP hz1 hz2
                go_upto_region 25 with fail
                refine wp_region_noPanic ?_
                refine wp_region_held_drew (S := fun _ => True) (by kernel_rfl) trivial (fun hHeld => ?_)
                refine take_at 0 102 (.string (str s)) rfl rfl (by kernel_rfl) (by kernel_rfl) (by kernel_rfl) (fun _ _ _ h => h) (Or.inl ⟨by rfl, ?_⟩) hHeld ?_
                · intro w hSw; go_simp
                simp only [List.setIfInBounds_toArray, List.set_cons_zero, List.set_cons_succ]
                refine take_at 1 103 (.int .i64 (us : Int)) rfl rfl (by kernel_rfl) (by kernel_rfl) (by kernel_rfl) (fun _ _ _ h => h) (Or.inl ⟨by rfl, ?_⟩) hHeld ?_
                · intro w hSw; go_simp
                simp only [List.setIfInBounds_toArray, List.set_cons_zero, List.set_cons_succ]
                refine take_at 2 104 (.int .i64 (z1 : Int)) rfl rfl (by kernel_rfl) (by kernel_rfl) (by kernel_rfl) (fun _ _ _ h => h) (Or.inl ⟨by rfl, ?_⟩) hHeld ?_
                · intro w hSw; go_simp
                simp only [List.setIfInBounds_toArray, List.set_cons_zero, List.set_cons_succ]
                refine take_at 3 105 (.string (str (s.take z1))) rfl rfl (by kernel_rfl) (by kernel_rfl) (by kernel_rfl) (fun _ _ _ h => h) (Or.inl ⟨by rfl, ?_⟩) hHeld ?_
                · intro w hSw; go_simp
                simp only [List.setIfInBounds_toArray, List.set_cons_zero, List.set_cons_succ]
                refine take_at 4 106 (.string (str P)) rfl rfl (by kernel_rfl) (by kernel_rfl) (by kernel_rfl) (fun _ _ _ h => h) (Or.inl ⟨by rfl, ?_⟩) hHeld ?_
                · intro w hSw; go_simp
                simp only [List.setIfInBounds_toArray, List.set_cons_zero, List.set_cons_succ]
                refine take_at 5 107 (.string (str (s.take z1 ++ P))) rfl rfl (by kernel_rfl) (by kernel_rfl) (by kernel_rfl) (fun _ _ _ h => h) (Or.inl ⟨by rfl, ?_⟩) hHeld ?_
                · intro w hSw; go_simp
                simp only [List.setIfInBounds_toArray, List.set_cons_zero, List.set_cons_succ]
                refine take_at 6 108 (.string (str s)) rfl rfl (by kernel_rfl) (by kernel_rfl) (by kernel_rfl) (fun _ _ _ h => h) (Or.inl ⟨by rfl, ?_⟩) hHeld ?_
                · intro w hSw; go_simp
                simp only [List.setIfInBounds_toArray, List.set_cons_zero, List.set_cons_succ]
                refine take_at 7 109 (.int .i64 (us : Int)) rfl rfl (by kernel_rfl) (by kernel_rfl) (by kernel_rfl) (fun _ _ _ h => h) (Or.inl ⟨by rfl, ?_⟩) hHeld ?_
                · intro w hSw; go_simp
                simp only [List.setIfInBounds_toArray, List.set_cons_zero, List.set_cons_succ]
                refine take_at 8 110 (.int .i64 (z1 : Int)) rfl rfl (by kernel_rfl) (by kernel_rfl) (by kernel_rfl) (fun _ _ _ h => h) (Or.inl ⟨by rfl, ?_⟩) hHeld ?_
                · intro w hSw; go_simp
                simp only [List.setIfInBounds_toArray, List.set_cons_zero, List.set_cons_succ]
                refine take_at 9 111 (.string (str P)) rfl rfl (by kernel_rfl) (by kernel_rfl) (by kernel_rfl) (fun _ _ _ h => h) (Or.inl ⟨by rfl, ?_⟩) hHeld ?_
                · intro w hSw; go_simp
                simp only [List.setIfInBounds_toArray, List.set_cons_zero, List.set_cons_succ]
                refine take_at 10 112 (.int .i64 (P.length : Int)) rfl rfl (by kernel_rfl) (by kernel_rfl) (by kernel_rfl) (fun _ _ _ h => h) (Or.inl ⟨by rfl, ?_⟩) hHeld ?_
                · intro w hSw; go_simp
                simp only [List.setIfInBounds_toArray, List.set_cons_zero, List.set_cons_succ]
                refine take_at 11 113 (.int .i64 (z2 : Int)) rfl rfl (by kernel_rfl) (by kernel_rfl) (by kernel_rfl) (fun _ _ _ h => h) (Or.inl ⟨by rfl, ?_⟩) hHeld ?_
                · intro w hSw; go_simp
                simp only [List.setIfInBounds_toArray, List.set_cons_zero, List.set_cons_succ]
                refine take_at 12 114 (.string (str (s.drop z2))) rfl rfl (by kernel_rfl) (by kernel_rfl) (by kernel_rfl) (fun _ _ _ h => h) (Or.inl ⟨by rfl, ?_⟩) hHeld ?_
                · intro w hSw; go_simp
                simp only [List.setIfInBounds_toArray, List.set_cons_zero, List.set_cons_succ]
                refine take_at 13 115 (.string (str ((s.take z1 ++ P) ++ s.drop z2))) rfl rfl (by kernel_rfl) (by kernel_rfl) (by kernel_rfl) (fun _ _ _ h => h) (Or.inl ⟨by rfl, ?_⟩) hHeld ?_
                · intro w hSw; go_simp
                simp only [List.setIfInBounds_toArray, List.set_cons_zero, List.set_cons_succ]
                refine take_at 14 12 (.string (str ((s.take z1 ++ P) ++ s.drop z2))) rfl rfl (by kernel_rfl) (by kernel_rfl) (by kernel_rfl) (fun _ _ _ h => h) (Or.inl ⟨by rfl, ?_⟩) hHeld ?_
                · intro w hSw; go_simp
                simp only [List.setIfInBounds_toArray, List.set_cons_zero, List.set_cons_succ]
                refine wpAnyH_done (by kernel_rfl) (NoPanic.normal ?_) _
                clear hHeld se1 se2 sa1 sa2 qz1 qz2 wz1 wz2 zi1 zi2
                go_wp2_with fail
                go_meet
                case rel => exact ⟨R10, S10, jb, us + secsOf T.length, nx + 1, putAt c (f + us) (recP nx T) (secsOf T.length - 1), rfl, by rw [← HPd.out, ← HSq.out, area_app c f k us sq P HPl.out sq1 hfit (fun x hx => HP6.out.lens x (by have := HK.out; omega)), ← HS.out, hzz.out.2, hzz.out.1], by go_num, by rw [← HSq.out]; go_num, P10.out.1.rest ((Keep.refl _ _).drew), by have := P10.out.2; omega⟩
              · have FU := Lib.hid (fun A cc => P9.out.full HK.out hi A T.length cc (by rw [HTl.out]; exact HQ.out) (by rw [← HSq.out]; exact hfit))
                have gi : (k : Int) < (us : Int) + (sq : Int) := by omega
                clear hfit
                go_wp2_with fail
                refine (FU.out _ _).mono ?_
                rintro e w10 ⟨rfl, c10⟩
                have P10 := Lib.hid (P9.out.rest c10)
                clear c10 FU P9 qc
                go_wp2_with fail
                go_meet
                case rel => exact ⟨R, S, jb, us, nx, c, rfl, by rw [HS.out], rfl, rfl, P10.out.idle, by have := HP6.out.ops; omega⟩
          have t1 : (kind == 1) = false := by rw [beq_eq_false_iff_ne]; exact kd1
          by_cases kd2 : kind = 2
          · subst kd2
            have CM := Lib.hid (HP6.out.commit hi)
            clear x1 x2 x3 kd1 t1
            go_wp2_with fail
            refine CM.out.mono ?_
            rintro e w7 ⟨R7, S7, rfl, p7, o7⟩
            have P7 := Lib.hid (And.intro p7 o7)
            clear p7 o7 CM x0
            go_wp2_with fail
            go_meet
            case rel => exact ⟨R7, S7, jb, us, nx, c, rfl, by rw [HS.out], rfl, rfl, P7.out.1, by have := P7.out.2; omega⟩
          have t2 : (kind == 2) = false := by rw [beq_eq_false_iff_ne]; exact kd2
          by_cases kd3 : kind = 3
          · subst kd3
            as_aux_lemma =>
              have RS := Lib.hid (HP6.out.reset T1.out HK.out hi)
              have wn : IntKind.u64.wrap ((nx : Int) + 1) = (nx : Int) + 1 := by have := HP6.out.nx2; rw [IntKind.wrap_u64]; omega
              have HAR := Lib.hid (area_reset c f k nx (by omega) (HP6.out.lens f (by have := HK.out; omega)))
              have n62 : nx ≤ 4611686018427387904 := by have := HP6.out.nx2; omega
              have HN62 := Lib.hid n62
              have ss := str_size s
              have se : (str s).extract 512 s.length = str (s.drop 512) := by rw [str_extract]; rw [List.take_of_length_le (Nat.le_refl _)]
              have sl : (512 : Int) ≤ (s.length : Int) := by rw [hsl.out]; omega
              have sa := str_app (begP nx) (s.drop 512)
              have qsz : (str (begP nx)).size + (str (s.drop 512)).size ≤ 9223372036854775807 := by rw [str_size, str_size, begP_len, List.length_drop, hsl.out]; omega
              clear x1 x2 x3 kd1 kd2 t1 t2 n62
              go_wp2_with fail
              refine RS.out.mono ?_
              rintro e w7 ⟨R7, S7, rfl, p7, o7⟩
              have P7 := Lib.hid (And.intro p7 o7)
              have BG := Lib.hid (begin_c nx w7.drew (by have := HN62.out; omega))
              clear p7 o7 RS x0
              go_upto_region 36 with fail
              refine wp_region_noPanic ?_
              refine wp_region_held_drew (S := fun _ => True) (by kernel_rfl) trivial (fun hHeld => ?_)
              refine take_at 0 135 (.int .u64 (nx : Int)) rfl rfl (by kernel_rfl) (by kernel_rfl) (by kernel_rfl) (fun _ _ _ h => h) (Or.inl ⟨by rfl, ?_⟩) hHeld ?_
              · intro w hSw; go_simp
              simp only [List.setIfInBounds_toArray, List.set_cons_zero, List.set_cons_succ]
              refine take_at 2 137 (.string (str s)) rfl rfl (by kernel_rfl) (by kernel_rfl) (by kernel_rfl) (fun _ _ _ h => h) (Or.inl ⟨by rfl, ?_⟩) hHeld ?_
              · intro w hSw; go_simp
              simp only [List.setIfInBounds_toArray, List.set_cons_zero, List.set_cons_succ]
              refine take_at 3 138 (.string (str (s.drop 512))) rfl rfl (by kernel_rfl) (by kernel_rfl) (by kernel_rfl) (fun _ _ _ h => h) (Or.inl ⟨by rfl, ?_⟩) hHeld ?_
              · intro w hSw; go_simp
              simp only [List.setIfInBounds_toArray, List.set_cons_zero, List.set_cons_succ]
              refine wpAnyH_ready (rs := [1]) (by kernel_rfl) (by simp) ?_
              refine AllReadyH.cons rfl (fun K hK => ?_) AllReadyH.nil
              go_simp
              refine BG.out.mono ?_
              rintro e w8 ⟨rfl, c8⟩
              have P8 := Lib.hid (And.intro (P7.out.1.rest (((Keep.refl _ w7).drew).trans c8)) P7.out.2)
              clear c8 BG
              refine hK.out _ _ trivial (fun hHeld => ?_)
              clear hK K
              try simp only [List.setIfInBounds_toArray, List.set_cons_zero, List.set_cons_succ]
              refine take_at 4 139 (.string (str (begP nx ++ s.drop 512))) rfl rfl (by kernel_rfl) (by kernel_rfl) (by kernel_rfl) (fun _ _ _ h => h) (Or.inl ⟨by rfl, ?_⟩) hHeld ?_
              · intro w hSw; go_simp
              simp only [List.setIfInBounds_toArray, List.set_cons_zero, List.set_cons_succ]
              refine take_at 5 12 (.string (str (begP nx ++ s.drop 512))) rfl rfl (by kernel_rfl) (by kernel_rfl) (by kernel_rfl) (fun _ _ _ h => h) (Or.inl ⟨by rfl, ?_⟩) hHeld ?_
              · intro w hSw; go_simp
              simp only [List.setIfInBounds_toArray, List.set_cons_zero, List.set_cons_succ]
              refine wpAnyH_done (by kernel_rfl) (NoPanic.normal ?_) _
              go_wp2_with fail
              go_meet
              case rel => exact ⟨R7, S7, jb, 1, nx + 1, _, rfl, by rw [HAR.out, HS.out], by go_num, rfl, P8.out.1, by have := P8.out.2; omega⟩
          have t3 : (kind == 3) = false := by rw [beq_eq_false_iff_ne]; exact kd3
          by_cases kd4 : kind = 4
          · subst kd4
            as_aux_lemma =>
              obtain ⟨q, hq, hq1, hq2, hq3⟩ := cut_len ks.length 60
              have hq' : (if (60 : Int) < (ks.length : Int) then (60 : Int) else (ks.length : Int)) = (q : Int) := hq
              have hqm : q = min ks.length 60 := by omega
              have CR : Hid (Calls Tryd.prog 19 #[.pointer (some ⟨d, 0, none⟩), .slice KA q kc] w6 fun e w' => ∃ R', e = .returned (.tuple #[]) ∧ Sd w1 w' R' d (S.crash (ks.take 60))) := Lib.hid (HP6.out.crash hi (.slice KA q kc) (ks.take 60) (by rw [hqm]; exact (HBO.out.cut 60).calm (C1.out.trans HP6.out.calm) (fun x hx e => absurd (HP6.out.ju.jn.sd.st.new x e) (by have := C1.out.size; omega))) (by simp; omega))
              have qi : (q : Int) ≤ (kc : Int) := by have := HKC.out.1; omega
              have qj : (q : Int) ≤ (ks.length : Int) := by omega
              clear hq hq1 hq2 hq3 hqm x1 x2 kd1 kd2 kd3 t1 t2 t3
              go_wp2_with fail
              refine CR.out.mono ?_
              rintro e w7 ⟨R7, rfl, s7⟩
              have ST := Lib.hid (HP6.out.start hi s7)
              clear s7 CR x0 x3 hq' qi qj
              go_wp2_with fail
              refine ST.out.mono ?_
              rintro e w8 ⟨R8, S8, rfl, d8⟩
              have D8 := Lib.hid d8
              have AR := Lib.hid (d8.area (k := k) HK.out hi)
              clear d8 ST
              go_wp2_with fail
              refine AR.out.mono ?_
              rintro e w9 ⟨R9, rfl, s9, l9⟩
              have OP := Lib.hid (D8.out.open_ T1.out (by omega) (by omega) HK.out hi s9)
              obtain ⟨s2, hs2⟩ : ∃ s2, s2 = areaC S8.now f k := ⟨_, rfl⟩
              have HS2 := Lib.hid hs2
              rw [← hs2] at l9 OP ⊢
              clear hs2 s9 AR
              have L9 := Lib.hid l9
              clear l9
              go_wp2_with fail
              refine OP.out.mono ?_
              rintro e w10 ⟨R10, S10, out, n', used, A', cc', jb2, hyes, rfl, hrc, p10, o10, hol⟩
              have HY := Lib.hid hyes
              have HRc := Lib.hid hrc
              have P10 := Lib.hid (And.intro p10 o10)
              have RP := Lib.hid (replay_c s2 w10 (by rw [L9.out]; omega) (by rw [L9.out]; omega) (by rw [L9.out]; omega))
              have ol : (out.length : Int) ≤ 8 := by omega
              clear hyes hrc p10 o10 OP hol
              go_wp2_with fail
              refine RP.out.mono ?_
              rintro e w11 ⟨⟨hno, -⟩ | ⟨out', n'', used', rg, rc, hyes, rfl, hstr, -, -, -⟩, c11⟩
              · rw [HY.out] at hno; cases hno
              rw [HY.out] at hyes
              injection hyes with hyes
              injection hyes with e1 hyes
              injection hyes with e2 e3
              subst e1; subst e2; subst e3
              have C11 := Lib.hid c11
              have HSt := Lib.hid hstr
              have tl : ((out.length : Int) != (out.length : Int)) = false := by simp
              clear RP c11 hstr
              go_wp2_with fail
              clear tl
              go_loopw [27] (fun v27 wr => ∃ a : Nat, a ≤ out.length ∧ v27 = .int .i64 (a : Int) ∧ Calm w11 wr) (fun v27 _ => out.length - (intOf v27).toNat)
              case atStart => exact ⟨0, by omega, rfl, Keep.refl _ _⟩
              case round =>
                obtain ⟨a, hal, rfl, hca⟩ := hrel
                have HCA := Lib.hid hca
                by_cases hla : a < out.length
                · have ia : (a : Int) < (out.length : Int) := by omega
                  obtain ⟨b, hb⟩ : ∃ b, out[a]? = some b := ⟨_, List.getElem?_eq_getElem hla⟩
                  obtain ⟨gg, xx, rfl, hgc, hxx⟩ := (HRc.out.calm (C11.out.trans hca)).at_ a b hb
                  obtain ⟨xg, xo, xc, xcur, rfl, -⟩ := id hxx
                  have HX := Lib.hid hxx.rd
                  obtain ⟨og, hog, hsc⟩ := Strs.at_ (HSt.out.calm hca) a b hb
                  injection hog with hog
                  injection hog with hog _ _
                  subst hog
                  have tne := str_bne_no (a := b) (b := b) rfl
                  clear hca hb hxx
                  go_upto_region 50 with fail
                  refine wp_region_noPanic ?_
                  refine wp_region_held_drew (S := fun wx => wx.cell? ⟨gg, a, none⟩ = some (.slice (some ⟨xg, xo, none⟩) b.length xc) ∧ Rd wx (.slice (some ⟨xg, xo, none⟩) b.length xc) b ∧ wx.cell? ⟨rg, a, none⟩ = some (.string (str b))) (by kernel_rfl) ⟨hgc, HX.out, hsc⟩ (fun hHeld => ?_)
                  refine take_at 0 197 (.slice (some ⟨gg, 0, none⟩) out.length cc') rfl rfl (by kernel_rfl) (by kernel_rfl) (by kernel_rfl) (fun _ _ _ h => h) (Or.inl ⟨by rfl, ?_⟩) hHeld ?_
                  · intro w hSw; go_simp
                  simp only [List.setIfInBounds_toArray, List.set_cons_zero, List.set_cons_succ]
                  refine take_at 1 198 (.int .i64 (a : Int)) rfl rfl (by kernel_rfl) (by kernel_rfl) (by kernel_rfl) (fun _ _ _ h => h) (Or.inl ⟨by rfl, ?_⟩) hHeld ?_
                  · intro w hSw; go_simp
                  simp only [List.setIfInBounds_toArray, List.set_cons_zero, List.set_cons_succ]
                  refine take_at 2 199 (.pointer (some ⟨gg, a, none⟩)) rfl rfl (by kernel_rfl) (by kernel_rfl) (by kernel_rfl) (fun _ _ _ h => h) (Or.inl ⟨by rfl, ?_⟩) hHeld ?_
                  · intro w hSw; go_simp
                  simp only [List.setIfInBounds_toArray, List.set_cons_zero, List.set_cons_succ]
                  refine take_at 3 200 (.slice (some ⟨xg, xo, none⟩) b.length xc) rfl rfl (by kernel_rfl) (by kernel_rfl) (by kernel_rfl) (fun _ _ _ h => h) (Or.inl ⟨by rfl, ?_⟩) hHeld ?_
                  · intro w hSw; obtain ⟨s1, s2, s4⟩ := hSw; go_simp
                  simp only [List.setIfInBounds_toArray, List.set_cons_zero, List.set_cons_succ]
                  refine take_at 4 201 (.string (str b)) rfl rfl (by kernel_rfl) (by kernel_rfl) (by kernel_rfl) (fun _ _ _ h => h) (Or.inl ⟨by rfl, ?_⟩) hHeld ?_
                  · intro w hSw; obtain ⟨s1, s2, s4⟩ := hSw; have qx := conv_rd s2; go_simp
                  simp only [List.setIfInBounds_toArray, List.set_cons_zero, List.set_cons_succ]
                  refine take_at 5 202 (.slice (some ⟨rg, 0, none⟩) out.length rc) rfl rfl (by kernel_rfl) (by kernel_rfl) (by kernel_rfl) (fun _ _ _ h => h) (Or.inl ⟨by rfl, ?_⟩) hHeld ?_
                  · intro w hSw; go_simp
                  simp only [List.setIfInBounds_toArray, List.set_cons_zero, List.set_cons_succ]
                  refine take_at 6 203 (.int .i64 (a : Int)) rfl rfl (by kernel_rfl) (by kernel_rfl) (by kernel_rfl) (fun _ _ _ h => h) (Or.inl ⟨by rfl, ?_⟩) hHeld ?_
                  · intro w hSw; go_simp
                  simp only [List.setIfInBounds_toArray, List.set_cons_zero, List.set_cons_succ]
                  refine take_at 7 204 (.pointer (some ⟨rg, a, none⟩)) rfl rfl (by kernel_rfl) (by kernel_rfl) (by kernel_rfl) (fun _ _ _ h => h) (Or.inl ⟨by rfl, ?_⟩) hHeld ?_
                  · intro w hSw; go_simp
                  simp only [List.setIfInBounds_toArray, List.set_cons_zero, List.set_cons_succ]
                  refine take_at 8 205 (.string (str b)) rfl rfl (by kernel_rfl) (by kernel_rfl) (by kernel_rfl) (fun _ _ _ h => h) (Or.inl ⟨by rfl, ?_⟩) hHeld ?_
                  · intro w hSw; obtain ⟨s1, s2, s4⟩ := hSw; go_simp
                  simp only [List.setIfInBounds_toArray, List.set_cons_zero, List.set_cons_succ]
                  refine take_at 9 206 (.bool false) rfl rfl (by kernel_rfl) (by kernel_rfl) (by kernel_rfl) (fun _ _ _ h => h) (Or.inl ⟨by rfl, ?_⟩) hHeld ?_
                  · intro w hSw; go_simp
                  simp only [List.setIfInBounds_toArray, List.set_cons_zero, List.set_cons_succ]
                  refine wpAnyH_done (by kernel_rfl) (NoPanic.normal ?_) _
                  clear hHeld hgc hsc HX tne
                  go_wp2_with fail
                  go_roundw
                  case rel => exact ⟨a + 1, by omega, by go_num, HCA.out.drew⟩
                  case measure => simp [intOf]; omega
                · obtain rfl : a = out.length := by omega
                  clear hca
                  go_wp2_with fail
                  go_meet
                  case rel => exact ⟨R10, S10, jb2, used, n', S8.now, rfl, by rw [HS2.out], rfl, rfl, P10.out.1.rest (C11.out.trans HCA.out), by have := P10.out.2; omega⟩
          have t4 : (kind == 4) = false := by rw [beq_eq_false_iff_ne]; exact kd4
          clear kd1 kd2 kd3 kd4 x1 x2 x3
          go_wp2_with fail
          go_meet
          case rel => exact ⟨R, S, jb, us, nx, c, rfl, by rw [HS.out], rfl, rfl, HP6.out.idle, by have := HP6.out.ops; omega⟩
        case rest =>
          obtain ⟨R', S', jb', us', nx', c', rfl, rfl, rfl, rfl, hp, ho⟩ := hcut
          clear HP6 x0 x1 x2 x3 HS hsl HBO HKC
          have AR := Lib.hid (hp.area HK.out (by omega) (by omega))
          clear hp ho
          go_wp2_with fail
          refine AR.out.mono ?_
          rintro e w8 ⟨R8, S8, rfl, p8⟩
          have P8 := Lib.hid p8
          have n8 := p8.nx1
          have u8 := p8.us2
          have J8 := p8.ju.jn.row
          have NX := jnext_c J8 (by have := p8.nx2; show nx' - 1 ≤ _; omega)
          rw [show ((JS.mk f (f + k) (f + us') (nx' - 1) false).last + 1 : Nat) = nx' by show nx' - 1 + 1 = nx'; omega] at NX
          have HNX := Lib.hid NX
          have hRM := jroom_c J8 (by show f + us' ≤ f + k; omega) (by show f + k ≤ 4096; have := HK.out; omega)
          have tne := str_bne_no (a := areaC c' f k) (b := areaC c' f k) rfl
          have tnn : ((nx' : Int) != (nx' : Int)) = false := by simp
          obtain ⟨rm, hrm, hrm2⟩ : ∃ rm : Int, (JS.mk f (f + k) (f + us') (nx' - 1) false).room = rm ∧ (if (-1 : Int) < 512 * ((k : Int) - (us' : Int)) - 16 then 512 * ((k : Int) - (us' : Int)) - 16 else -1) = rm := ⟨_, rfl, by
            unfold JS.room
            show _ = if f + us' = f + k then (-1 : Int) else (((f + k : Nat) : Int) - ((f + us' : Nat) : Int)) * 512 - 16
            by_cases h8 : us' = k
            · subst h8; rw [if_neg (by omega), if_pos rfl]
            · rw [if_pos (by omega), if_neg (by omega)]; omega⟩
          rw [hrm] at hRM
          have HRM := Lib.hid hRM
          have trr : (rm != rm) = false := by simp
          have ui : (us' : Int) ≤ (k : Int) := by omega
          clear p8 n8 u8 J8 NX hRM hrm AR
          go_wp2_with (go_at_call 24; refine HNX.out.mono ?_; rintro e w10 ⟨rfl, rfl⟩)
          refine HRM.out.mono ?_
          rintro e w10 ⟨rfl, c10⟩
          have P10 := Lib.hid (P8.out.rest c10)
          clear c10 HRM HNX P8
          go_wp2_with fail
          go_roundw
          case rel => exact ⟨i + 1, R8, S8, jb', us', nx', c', by omega, by omega, by go_num, rfl, rfl, rfl, rfl, P10.out⟩
          case measure => simp [intOf]; omega
      · have hcase : (¬ i < m) ∨ (i < m ∧ ¬ i < 30) := by omega
        clear hgo
        rcases hcase with hge | ⟨hlt, hge⟩
        all_goals
          go_wp2_with fail
          go_ret
          exact ⟨rfl, C1.out.trans HP.out.calm⟩
end Go.Proofs.YtglfmhheepgneaaDoor
