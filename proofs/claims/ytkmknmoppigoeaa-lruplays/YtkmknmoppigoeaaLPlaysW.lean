/-
  LruPlays: the walk.
-/
import Derived.Test.YtkmknmoppigoeaaLTwo
import Derived.Test.YtkmknmoppigoeaaLStep
namespace Go.Proofs.Ytkmknmoppigoeaa
open Go.RowKit
set_option linter.all false
attribute [local go_sem] Oper.semAt_some

theorem infoStep9 : (Try.prog.info? 30).map (·.size) = some 3 := by kernel_rfl
theorem use_len {L : List KV} {k : List UInt8} {most : Nat} (hn : (keysL L).Nodup) (hl : L.length ≤ most) : (useL k L).length ≤ most := by
  unfold useL
  by_cases hk : k ∈ keysL L
  · obtain ⟨v, hv⟩ := getL_some hk
    rw [hv]
    have := dropL_len hn hk
    simp
    omega
  · rw [getL_miss hk]; exact hl

set_option maxRecDepth 20000 in
set_option maxHeartbeats 16000000 in
theorem lruPlays_c (a0 : Int) (v1 : Value) (ss : List (Int × List UInt8 × Int)) (w : World) (hs : Stepv w v1 ss) : Calls Try.prog 3 #[.int .i64 a0, v1] w fun e w' => e = .returned (.bool true) ∧ Calm w w' := by
  obtain ⟨A, cap, rfl, hm⟩ := hs.form
  have HS := Lib.hid hs
  have HM := Lib.hid hm
  clear hs hm
  obtain ⟨a, ha⟩ : ∃ a : Int, (if 50 < a0 then 50 else a0) = a := ⟨_, rfl⟩
  have ha4 : a ≤ 50 := by rw [← ha]; split <;> omega
  obtain ⟨r, hr⟩ : ∃ r : Nat, (if a < 1 then 1 else a) = (r : Int) := by
    by_cases h : a < 1
    · exact ⟨1, by rw [if_pos h]; rfl⟩
    · exact ⟨a.toNat, by rw [if_neg h]; omega⟩
  have hr1 : 1 ≤ r ∧ r ≤ 50 := by split at hr <;> omega
  have HR := Lib.hid hr
  clear hr
  go_enter Try.func3, Try.ntmps3
  go_wp2_with fail
  refine (shown9_c w).mono ?_
  rintro e w1 ⟨rfl, hc⟩
  have C1 := Lib.hid hc
  clear hc
  go_wp2_with fail
  refine (si_lnew a r HR.out hr1.1 (by omega) w1).mono ?_
  rintro e w2 ⟨rfl, h2⟩
  have H2 := Lib.hid h2
  clear h2 ha ha4
  generalize w1.heap.size + 1 = b at H2
  go_wp2_with fail
  refine (two_new H2.out a HR.out hr1.1 (by omega)).mono ?_
  rintro e w3 ⟨rfl, h3⟩
  have H3 := Lib.hid h3
  clear h3 H2 HR
  generalize w2.heap.size = d at H3
  go_wp2_with fail
  refine (two_same H3.out).mono ?_
  rintro e w4 ⟨rfl, h4⟩
  have H4 := Lib.hid h4
  clear h4 H3
  go_wp2_with fail
  go_loopw [8] (fun i wr => ∃ j : Nat, j ≤ 100 ∧ i = .int .i64 (j : Int) ∧ ∃ L, Two w1 wr b d r L L) (fun i _ => 100 - (intOf i).toNat)
  case atStart => exact ⟨0, by omega, rfl, _, H4.out⟩
  case round =>
    obtain ⟨j, hj, rfl, L, hl⟩ := hrel
    have Hl := Lib.hid hl
    have CL := Lib.hid (C1.out.trans hl.calm_)
    have HLn := Lib.hid (show (keysL L).Nodup ∧ L.length ≤ r ∧ L.length ≤ 1000 from ⟨hl.nodup, hl.len.1, by have := hl.len; omega⟩)
    clear hl H4
    by_cases i1 : j < ss.length
    · by_cases i2 : j < 100
      · obtain ⟨ad, ⟨kd, ks, vs⟩, rfl, hsl, hcell⟩ := HS.out.all j i1
        obtain ⟨z0, z1, z2⟩ := hcell wr CL.out
        have hml := HM.out
        clear hcell
        have z0 : wr.cell? (ad.add (j * 3)) = some (.int .i64 kd) := z0
        have z1 : wr.cell? ⟨(ad.add (j * 3)).block, (ad.add (j * 3)).off + 1, none⟩ = some (.string (str ks)) := z1
        have z2 : wr.cell? ⟨(ad.add (j * 3)).block, (ad.add (j * 3)).off + 2, none⟩ = some (.int .i64 vs) := z2
        have hsl : ks.length ≤ maxLen := hsl
        have hd : decide ((j : Int) < 100) = true := decide_eq_true (by omega)
        have hd2 : decide ((j : Int) < (ss.length : Int)) = true := decide_eq_true (by omega)
        obtain ⟨q, hq⟩ : ∃ q : Int, (if (10 : Int) < ((str ks).size : Int) then (10 : Int) else ((str ks).size : Int)) = q := ⟨_, rfl⟩
        have hq1 : 0 ≤ q ∧ q ≤ 10 ∧ q ≤ ((str ks).size : Int) := by
          rw [← hq]
          split <;> omega
        obtain ⟨k, hk, hkl⟩ : ∃ k : List UInt8, (str ks).extract 0 q.toNat = str k ∧ k.length ≤ maxLen := by
          refine ⟨_, str_extract _ _ _, ?_⟩
          simp
          omega
        obtain ⟨hq2, hq3, hq4⟩ := hq1
        have HKL := Lib.hid hkl
        unfold maxLen at hml hsl
        clear hkl
        go_upto_block 2 with fail
        have hX := Row.made wr 30 #[.int .i64 kd, .string (str ks), .int .i64 vs]
        have hT := Hl.out.rest ((Keep.refl _ wr).alloc (.cells #[.int .i64 kd, .string (str ks), .int .i64 vs] 30))
        have hxl : wr.heap.size < (wr.alloc (.cells #[.int .i64 kd, .string (str ks), .int .i64 vs] 30)).heap.size := by simp
        obtain ⟨R, Q, a1, a2, a3, a4, a5, a6⟩ := Hl.out
        have HRX : Hid (∀ i, R i → i < wr.heap.size) := Lib.hid a1.lt
        have hcx : Calm wr (wr.alloc (.cells #[.int .i64 kd, .string (str ks), .int .i64 vs] 30)) := (Keep.refl _ wr).alloc _
        have HT0 := Lib.hid (show LruIs siT _ R b r L ∧ RefIs _ Q d r L ∧ (∀ i, R i → ¬ Q i) ∧ (∀ i, R i → w1.heap.size ≤ i) ∧ (∀ i, Q i → w1.heap.size ≤ i) ∧ Calm w1 _ from ⟨a1.calm hcx, a2.calm hcx, a3, a4, a5, a6.trans hcx⟩)
        have HT := Lib.hid hT
        clear a1 a2 a3 a4 a5 a6 hcx hT z0 z1 z2 hk HS HM hml hsl
        generalize wr.alloc (.cells #[.int .i64 kd, .string (str ks), .int .i64 vs] 30) = wx at *
        generalize wr.heap.size = X at *
        have x0 : wx.cell? ⟨X, 0, none⟩ = some (.int .i64 kd) := (hX.cell 0).trans rfl
        have x2 : wx.cell? ⟨X, 2, none⟩ = some (.int .i64 vs) := (hX.cell 2).trans rfl
        go_cut [11] from 63 to 170 (fun v wd => v = .bool true ∧ ∃ L2, Two w1 wd b d r L2 L2)
        case first =>
          by_cases k1 : kd = 1
          · subst k1
            obtain ⟨⟨o, L2⟩, hp⟩ : ∃ x, putL r k vs L = x := ⟨_, rfl⟩
            cases o with
            | none =>
              have HP := Lib.hid (si_Put' HT0.out.1 k vs HKL.out none L2 hp (.string ⟨#[]⟩) rfl false rfl)
              go_wp2_with fail
              refine HP.out.mono ?_
              rintro e w5 ⟨rfl, b1, b2⟩
              have y2 : w5.cell? ⟨X, 2, none⟩ = some (.int .i64 vs) := (b2.cell (p := ⟨X, 2, none⟩) hxl (fun e => absurd (HRX.out X e) (Nat.lt_irrefl _))).trans x2
              have t5 := Two.stepL (M := L) HT0.out.2.1 HT0.out.1.lt HT0.out.2.2.1 HT0.out.2.2.2.1 HT0.out.2.2.2.2.1 HT0.out.2.2.2.2.2 b1 b2
              have HR2 := Lib.hid (two_rput t5 HLn.out.1 HLn.out.2.1 k vs none L2 hp (.string ⟨#[]⟩) rfl false rfl)
              clear b1 b2 t5 HP HT0 HT
              go_wp2_with fail
              refine HR2.out.mono ?_
              rintro e w6 ⟨rfl, h6⟩
              have H6 := Lib.hid h6
              clear h6 HR2
              go_wp2_with fail
              go_meet
              case rel => exact ⟨rfl, _, H6.out⟩
            | some x =>
              have HP := Lib.hid (si_Put' HT0.out.1 k vs HKL.out (some x) L2 hp (.string (str x)) rfl true rfl)
              go_wp2_with fail
              refine HP.out.mono ?_
              rintro e w5 ⟨rfl, b1, b2⟩
              have y2 : w5.cell? ⟨X, 2, none⟩ = some (.int .i64 vs) := (b2.cell (p := ⟨X, 2, none⟩) hxl (fun e => absurd (HRX.out X e) (Nat.lt_irrefl _))).trans x2
              have t5 := Two.stepL (M := L) HT0.out.2.1 HT0.out.1.lt HT0.out.2.2.1 HT0.out.2.2.2.1 HT0.out.2.2.2.2.1 HT0.out.2.2.2.2.2 b1 b2
              have HR2 := Lib.hid (two_rput t5 HLn.out.1 HLn.out.2.1 k vs (some x) L2 hp (.string (str x)) rfl true rfl)
              clear b1 b2 t5 HP HT0 HT
              go_wp2_with fail
              refine HR2.out.mono ?_
              rintro e w6 ⟨rfl, h6⟩
              have H6 := Lib.hid h6
              clear h6 HR2
              have kk := ks_yes (a := x) (b := x) rfl
              go_wp2_with fail
              go_meet
              case rel => exact ⟨rfl, _, H6.out⟩
          · by_cases k2 : kd = 2
            · subst k2
              obtain ⟨o, hp⟩ : ∃ o, getL k L = o := ⟨_, rfl⟩
              cases o with
              | none =>
                have HP := Lib.hid (two_lget HT.out k HKL.out none hp _ rfl (.int .i64 0) rfl false rfl)
                go_wp2_with fail
                refine HP.out.mono ?_
                rintro e w5 ⟨rfl, h5⟩
                have HR2 := Lib.hid (two_rget h5 HLn.out.1 HLn.out.2.2 k none hp _ rfl (.int .i64 0) rfl false rfl)
                clear h5 HP HT0 HT
                go_wp2_with fail
                refine HR2.out.mono ?_
                rintro e w6 ⟨rfl, h6⟩
                have H6 := Lib.hid h6
                clear h6 HR2
                go_wp2_with fail
                go_meet
                case rel => exact ⟨rfl, _, H6.out⟩
              | some x =>
                have HP := Lib.hid (two_lget HT.out k HKL.out (some x) hp _ rfl (.int .i64 x) rfl true rfl)
                go_wp2_with fail
                refine HP.out.mono ?_
                rintro e w5 ⟨rfl, h5⟩
                have HR2 := Lib.hid (two_rget h5 HLn.out.1 HLn.out.2.2 k (some x) hp _ rfl (.int .i64 x) rfl true rfl)
                clear h5 HP HT0 HT
                go_wp2_with fail
                refine HR2.out.mono ?_
                rintro e w6 ⟨rfl, h6⟩
                have H6 := Lib.hid h6
                clear h6 HR2
                go_wp2_with fail
                go_meet
                case rel => exact ⟨rfl, _, H6.out⟩
            · by_cases k3 : kd = 3
              · subst k3
                by_cases hk : k ∈ keysL L
                · obtain ⟨l1, v, l2, he, hn1, _, hg⟩ := split_first HLn.out.1 hk
                  have HP := Lib.hid (two_lpeek HT.out k HKL.out (some v) hg (.int .i64 v) rfl true rfl)
                  go_wp2_with fail
                  refine HP.out.mono ?_
                  rintro e w5 ⟨rfl, h5⟩
                  have H6 := Lib.hid h5
                  have HR2 := Lib.hid (two_rfind h5 k (l1.length : Int) (.inl ⟨l1, v, l2, he, hn1, rfl⟩))
                  obtain ⟨R5, Q5, _, ⟨⟨lv5, r1, r2, _⟩, _, _, _, _, _⟩, _, _, _, _⟩ := h5
                  have hne : L ≠ [] := by rw [he]; simp
                  obtain ⟨g5, c5, rfl, b1, b2, _, hcell⟩ := r2.some_ hne
                  have hat : L[l1.length]? = some (k, v) := by rw [he]; simp
                  have f1 : w5.cell? ⟨g5, l1.length * 2 + 1, none⟩ = some (.int .i64 v) := hcell _ _ (flatP_at L _ _ hat).2
                  have d1 : w5.cell? ⟨d, 1, none⟩ = some (.slice (some ⟨g5, 0, none⟩) L.length c5) := (r1.cell 1).trans rfl
                  have hlt : l1.length < L.length := by rw [he]; simp
                  have j1 : (0 : Int) ≤ (l1.length : Int) := by omega
                  have j2 : (l1.length : Int) < (L.length : Int) := by omega
                  unfold maxLen at b2
                  clear HP HT0 HT hk he hn1 hg hne hcell hat r1 r2
                  generalize l1.length = p at *
                  generalize L.length = n at *
                  go_wp2_with fail
                  refine HR2.out.mono ?_
                  rintro e w6 ⟨rfl, rfl⟩
                  clear HR2
                  go_wp2_with fail
                  go_meet
                  case rel => exact ⟨rfl, _, H6.out⟩
                · have HP := Lib.hid (two_lpeek HT.out k HKL.out none (getL_miss hk) (.int .i64 0) rfl false rfl)
                  go_wp2_with fail
                  refine HP.out.mono ?_
                  rintro e w5 ⟨rfl, h5⟩
                  have H6 := Lib.hid h5
                  have HR2 := Lib.hid (two_rfind h5 k (-1) (.inr ⟨hk, rfl⟩))
                  clear h5 HP HT0 HT hk
                  go_wp2_with fail
                  refine HR2.out.mono ?_
                  rintro e w6 ⟨rfl, rfl⟩
                  clear HR2
                  go_wp2_with fail
                  go_meet
                  case rel => exact ⟨rfl, _, H6.out⟩
              · by_cases k4 : kd = 4
                · subst k4
                  have HP := Lib.hid (two_rget HT.out HLn.out.1 HLn.out.2.2 k _ rfl _ rfl _ rfl _ rfl)
                  go_wp2_with fail
                  refine HP.out.mono ?_
                  rintro e w5 ⟨rfl, h5⟩
                  have HR2 := Lib.hid (two_ltouch h5 k HKL.out _ rfl _ rfl _ rfl)
                  clear h5 HP HT0 HT
                  generalize (getL k L).isSome = B at *
                  go_wp2_with fail
                  refine HR2.out.mono ?_
                  rintro e w6 ⟨rfl, h6⟩
                  have H6 := Lib.hid h6
                  clear h6 HR2
                  have hB : (B == B) = true := by simp
                  go_wp2_with fail
                  go_meet
                  case rel => exact ⟨rfl, _, H6.out⟩
                · by_cases k5 : kd = 5
                  · subst k5
                    have HP := Lib.hid (two_ldrop HT.out k HKL.out _ rfl)
                    go_wp2_with fail
                    refine HP.out.mono ?_
                    rintro e w5 ⟨rfl, h5⟩
                    have HR2 := Lib.hid (two_rdrop h5 HLn.out.1 k _ rfl)
                    clear h5 HP HT0 HT
                    generalize (getL k L).isSome = B at *
                    go_wp2_with fail
                    refine HR2.out.mono ?_
                    rintro e w6 ⟨rfl, h6⟩
                    have H6 := Lib.hid h6
                    clear h6 HR2
                    have hB : (B == B) = true := by simp
                    go_wp2_with fail
                    go_meet
                    case rel => exact ⟨rfl, _, H6.out⟩
                  · have m1 : (kd == 1) = false := by rw [beq_eq_false_iff_ne]; exact k1
                    have m2 : (kd == 2) = false := by rw [beq_eq_false_iff_ne]; exact k2
                    have m3 : (kd == 3) = false := by rw [beq_eq_false_iff_ne]; exact k3
                    have m4 : (kd == 4) = false := by rw [beq_eq_false_iff_ne]; exact k4
                    have m5 : (kd == 5) = false := by rw [beq_eq_false_iff_ne]; exact k5
                    clear k1 k2 k3 k4 k5 HT0
                    go_wp2_with fail
                    go_meet
                    case rel => exact ⟨rfl, _, HT.out⟩
        case rest =>
          obtain ⟨rfl, L2, h7⟩ := hcut
          have HS7 := Lib.hid (two_same h7)
          clear h7 HT HT0
          go_wp2_with fail
          refine HS7.out.mono ?_
          rintro e w8 ⟨rfl, h8⟩
          have H8 := Lib.hid h8
          clear h8 HS7
          go_wp2_with fail
          go_roundw
          case rel => exact ⟨j + 1, by omega, by go_num, _, H8.out⟩
          case measure => simp [intOf]; omega
      · have H3 := Lib.hid CL.out
        go_wp2_with fail
        go_ret
        exact ⟨rfl, H3.out⟩
    · have H3 := Lib.hid CL.out
      go_wp2_with fail
      go_ret
      exact ⟨rfl, H3.out⟩
end Go.Proofs.Ytkmknmoppigoeaa