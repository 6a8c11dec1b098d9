/-
  TableFull: the walk.
-/
import Derived.Test.YtiipepiabeccpaaT22
namespace Go.Proofs.Ytiipepiabeccpaa
open Go.RowKit Go.Deep
set_option linter.all false
attribute [local go_sem] Oper.semAt_some

theorem bytes4 (w : World) (i : Nat) : ∃ c W, Sem.run Try.prog (convert 9 22 (.string (str (numK i)))) w = .ok (.slice (some ⟨w.heap.size, 0, none⟩) 4 c) W ∧ Rd W (.slice (some ⟨w.heap.size, 0, none⟩) 4 c) (numK i) ∧ Calm w W := by
  obtain ⟨c, W, h1, h2, h3, _⟩ := conv_bytes w (numK i) (by rw [numK_len]; unfold maxLen; omega)
  exact ⟨c, W, h1, h2, h3⟩
theorem rng_succ (j : Nat) : (List.range j).map numK ++ [numK j] = (List.range (j + 1)).map numK := by rw [List.range_succ]; simp
theorem rng_no {j i : Nat} (h : j ≤ i) (hi : i < 65536) : numK i ∉ (List.range j).map numK := by rw [num_mem (by omega) hi]; omega

set_option maxRecDepth 100000 in
set_option maxHeartbeats 8000000 in
theorem tableFull_c (is : Bool) (y : Int) (w : World) : Calls Try.prog 10 #[.bool is, .int .i64 y] w fun e w' => e = .returned (.bool true) ∧ Calm w w' := by
  go_enter Try.func10, Try.ntmps10
  go_wp2_with fail
  refine (shown10_c _).mono ?_
  rintro e w1 ⟨rfl, k1⟩
  have K1 := Lib.hid k1
  clear k1
  obtain ⟨sa, sb, sc, sd, hsb, hsc, x0, x1, x2, y0, y3, z0, u5, hs⟩ := small_c 1 3 0 y w1
  have hq := smallQ_ok (a := sa) (d := sd) hsb hsc
  have HQ := Lib.hid (And.intro hsb (And.intro hsc (And.intro x0 (And.intro x1 (And.intro x2 (And.intro y0 (And.intro y3 (And.intro z0 u5))))))))
  have HD : Hid ((smallQ sa sb sc sd) = ⟨[109], 1 + sa % 3, if sa % 3 = 0 then 4 else 1 + sb, 1 + sc, 1 + sd % 12⟩) := Lib.hid rfl
  generalize smallQ sa sb sc sd = q at *
  have hqn := HD.out
  obtain ⟨nm, kd, ky, vl, mx⟩ := q
  have HS : Hid (Calls Try.prog _ _ w1 fun e w' => e = .returned (.agg #[.string (str nm), .int .i64 (kd : Int), .int .i64 (ky : Int), .int .i64 (vl : Int), .int .i64 (mx : Int)]) ∧ Calm w1 w') := Lib.hid hs
  have HOK := Lib.hid hq
  have hql := hq.key
  have hqv := hq.val
  have hqm := hq.max
  simp only at hql hqv hqm
  have HB3 := Lib.hid (And.intro hql (And.intro hqv hqm))
  clear hs hq hsb hsc x0 x1 x2 y0 y3 z0 u5 hqn hql hqv hqm
  go_wp2_with fail
  refine HS.out.mono ?_
  rintro e w2 ⟨rfl, k2⟩
  have K2 := Lib.hid (K1.out.trans k2)
  clear k2 K1 HS
  have HD2 : Hid (kd = 2 ∧ ky = 4 ∧ vl = 1 ∧ mx ≤ 12) := Lib.hid (by
    have h := HD.out
    obtain ⟨_, _, _, x1, _, _, y3, z0, _⟩ := HQ.out
    have a1 := x1 trivial
    have b1 := y3 trivial
    have c1 := z0 trivial
    subst a1 b1 c1
    simp only [MN.mk.injEq] at h
    obtain ⟨_, h1, h2, h3, h4⟩ := h
    have h5 := Nat.mod_lt sd (show 0 < 12 by decide)
    exact ⟨h1.trans (by decide), h2.trans (by decide), h3.trans (by decide), by rw [h4]; exact (Nat.add_comm _ _ ▸ h5 : 1 + sd % 12 ≤ 12)⟩)
  clear HQ HD
  obtain ⟨-, hky, hvl, -⟩ := HD2.out
  subst hky
  subst hvl
  cases is with
  | false =>
    have HB := Row.made w2 58 #[.string (str nm), .int .i64 (kd : Int), .int .i64 4, .int .i64 1, .int .i64 (mx : Int)]
    have hkb : Calm w2 (w2.alloc (.cells #[.string (str nm), .int .i64 (kd : Int), .int .i64 4, .int .i64 1, .int .i64 (mx : Int)] 58)) := (Keep.refl _ w2).alloc _
    go_upto_region 5 with fail
    generalize w2.alloc (.cells #[.string (str nm), .int .i64 (kd : Int), .int .i64 4, .int .i64 1, .int .i64 (mx : Int)] 58) = W at *
    have HW := Lib.hid (K2.out.trans hkb)
    have HRow : Hid (∀ W', Calm W W' → W'.cell? ⟨w2.heap.size, 0, none⟩ = some (.string (str nm)) ∧ W'.cell? ⟨w2.heap.size, 1, none⟩ = some (.int .i64 (kd : Int)) ∧ W'.cell? ⟨w2.heap.size, 2, none⟩ = some (.int .i64 4) ∧ W'.cell? ⟨w2.heap.size, 3, none⟩ = some (.int .i64 1) ∧ W'.cell? ⟨w2.heap.size, 4, none⟩ = some (.int .i64 (mx : Int))) :=
      Lib.hid (fun W' c => ⟨((HB.keep c (fun e => e)).cell 0).trans rfl, ((HB.keep c (fun e => e)).cell 1).trans rfl, ((HB.keep c (fun e => e)).cell 2).trans rfl, ((HB.keep c (fun e => e)).cell 3).trans rfl, ((HB.keep c (fun e => e)).cell 4).trans rfl⟩)
    clear HB hkb K2
    have HN : Hid (Calls Try.prog 33 #[.agg #[.string (str nm), .int .i64 (kd : Int), .int .i64 4, .int .i64 1, .int .i64 (mx : Int)]] W fun e w' => ∃ v : Value, e = .returned (.tuple #[v, .int .i64 0]) ∧ NewT ⟨nm, kd, 4, 1, mx⟩ W v w') := Lib.hid (tNew_yes ⟨nm, kd, 4, 1, mx⟩ HOK.out W)
    obtain ⟨d0, d1, d2, d3, d4⟩ := HRow.out W (Keep.refl _ W)
    go_wp2_with fail
    refine HN.out.mono ?_
    rintro e w3 ⟨v, rfl, tb, E, rfl, hE, hT⟩
    have hE0 : E = [] := by unfold NewE at hE; rw [if_neg (by have := HD2.out.1; simp only; omega)] at hE; exact hE
    subst hE0
    have HT : Hid (Keys W tb ⟨nm, kd, 4, 1, mx⟩ ((List.range 0).map numK) w3) := Lib.hid ⟨[], tab_no hT, rfl⟩
    clear hT hE HN d0 d1 d2 d3 d4
    have HM := Lib.hid (And.intro HD2.out.2.2.2 HB3.out.2.2.1)
    go_wp2_with fail
    go_loopw [9] (fun i wr => ∃ j : Nat, j ≤ mx ∧ i = .int .i64 (j : Int) ∧ Keys W tb ⟨nm, kd, 4, 1, mx⟩ ((List.range j).map numK) wr) (fun i _ => mx - (intOf i).toNat)
    case atStart => exact ⟨0, Nat.zero_le _, rfl, HT.out⟩
    case round =>
      obtain ⟨j, hj, rfl, hT⟩ := hrel
      obtain ⟨d0, d1, d2, d3, d4⟩ := HRow.out wr hT.calm_
      by_cases hl : j < mx
      · have hj12 : j < 12 := Nat.lt_of_lt_of_le hl HM.out.1
        have HNj := Lib.hid (numbered_c j (by omega) wr)
        have HTj := Lib.hid hT
        have hj8 : (j : Int) % 256 = (j : Int) := by omega
        have hjm : (j : Int) < (mx : Int) := by omega
        have HJ := Lib.hid (And.intro hj12 hl)
        clear hT hj hl hj12
        go_wp2_with fail
        refine HNj.out.mono ?_
        rintro e w4 ⟨rfl, k4⟩
        obtain ⟨cK, U1, hc1, hr1, hk1⟩ := bytes4 w4 j
        obtain ⟨hr2, hk2⟩ := one_byte U1 (UInt8.ofNat j) (.int .u8 (j : Int)) (bv_nat j (by have := HJ.out; omega)).symm
        have hU := keys_put ((HTj.out.rest k4).rest (hk1.trans hk2)) (hr1.calm hk2) hr2 1 rfl rfl (by decide) (rng_no (Nat.le_refl j) (by have := HJ.out; omega)) ((.inl ⟨HD2.out.1, by have := HJ.out; simp; omega⟩))
        rw [if_pos (by have := HJ.out; simp; omega), rng_succ] at hU
        have HU := Lib.hid hU
        clear hU hr1 hk1 hr2 hk2 k4 HNj HTj d0 d1 d2 d3 d4
        go_wp2_with fail
        refine HU.out.mono ?_
        rintro e w5 ⟨rfl, hT5⟩
        have HT5 := Lib.hid hT5
        clear hT5 HU hc1
        go_wp2_with fail
        go_roundw
        case rel => exact ⟨j + 1, by have := HJ.out; omega, by go_num, HT5.out⟩
        case measure => have := HJ.out; simp [intOf]; omega
      · obtain rfl : j = mx := by omega
        have HTj := Lib.hid hT
        clear hT hl hj HT
        have HN99 := Lib.hid (numbered_c 99 (by omega) wr)
        go_wp2_with fail
        refine HN99.out.mono ?_
        rintro e w4 ⟨rfl, k4⟩
        obtain ⟨cK, U1, hc1, hr1, hk1⟩ := bytes4 w4 99
        obtain ⟨hr2, hk2⟩ := one_byte U1 1 (.int .u8 1) rfl
        have HU := Lib.hid (keys_refused ((HTj.out.rest k4).rest (hk1.trans hk2)) (hr1.calm hk2) hr2 0 rfl rfl (by decide) (rng_no (by have := HM.out; omega) (by omega)) HD2.out.1 (by simp))
        clear hr1 hk1 hr2 hk2 k4 HN99 HTj d0 d1 d2 d3 d4
        go_wp2_with fail
        refine HU.out.mono ?_
        rintro e w5 ⟨rfl, hT5⟩
        obtain ⟨d0, d1, d2, d3, d4⟩ := HRow.out w5 hT5.calm_
        have hj0 : (j : Int) ≤ 1000 := by have := HM.out; omega
        have hsub : (j : Int) - 1 = ((j - 1 : Nat) : Int) := by have := HM.out; omega
        have HNm := Lib.hid (numbered_c (j - 1) (by have := HM.out; omega) w5)
        obtain ⟨m, hm⟩ : ∃ m, m = j - 1 := ⟨_, rfl⟩
        rw [← hm] at hsub HNm
        have HMm := Lib.hid hm
        have HT5 := Lib.hid hT5
        have hw64 : wrap64 ((j : Int) - 1) = (m : Int) := by rw [hsub]; unfold wrap64; have := HM.out; omega
        clear hT5 HU hc1 hm
        go_wp2_with fail
        refine HNm.out.mono ?_
        rintro e w6 ⟨rfl, k6⟩
        obtain ⟨cK2, U2, hc2, hr3, hk3⟩ := bytes4 w6 m
        obtain ⟨hr4, hk4⟩ := one_byte U2 7 (.int .u8 7) rfl
        have HTu := Lib.hid ((HT5.out.rest k6).rest (hk3.trans hk4))
        have HR3 := Lib.hid (hr3.calm hk4)
        have HR4 := Lib.hid hr4
        clear hr3 hk3 hr4 hk4 k6 HNm HT5 d0 d1 d2 d3 d4
        have HV := Lib.hid (set_over HTu.out.set HR3.out HR4.out 0 rfl rfl (.inl rfl) ((num_mem (by have := HM.out; omega) (by have := HM.out; have := HMm.out; omega)).2 (by have := HM.out; have := HMm.out; omega)))
        rw [show ((List.range j).map numK).length = j by simp] at HV
        have HP0 : Hid (numK 0 ∈ (List.range j).map numK) := Lib.hid ((num_mem (by have := HM.out; omega) (by omega)).2 (by have := HM.out; omega))
        have HP9 : Hid (¬ numK 99 ∈ (List.range j).map numK) := Lib.hid (rng_no (by have := HM.out; omega) (by omega))
        clear hw64 hsub HR3 HR4 HTu hj0
        go_wp2_with fail
        refine HV.out.mono ?_
        rintro e w7 ⟨rfl, hT7⟩
        have HN0 := Lib.hid (numbered_c 0 (by omega) w7)
        have HT7 := Lib.hid hT7
        clear hT7 HV hc2
        go_wp2_with fail
        refine HN0.out.mono ?_
        rintro e w8 ⟨rfl, k8⟩
        obtain ⟨cK3, U3, hc3, hr5, hk5⟩ := bytes4 w8 0
        have HL0 := Lib.hid (set_look ((HT7.out.rest k8).rest hk5) hr5 HP0.out)
        clear hr5 hk5 k8 HN0 HT7
        go_wp2_with fail
        refine HL0.out.mono ?_
        rintro e w9 ⟨v9, rfl, hT9⟩
        have HN9 := Lib.hid (numbered_c 99 (by omega) w9)
        have HT9 := Lib.hid hT9
        clear hT9 HL0 hc3
        go_wp2_with fail
        refine HN9.out.mono ?_
        rintro e w10 ⟨rfl, k10⟩
        obtain ⟨cK4, U4, hc4, hr6, hk6⟩ := bytes4 w10 99
        have HL9 := Lib.hid (set_miss ((HT9.out.rest k10).rest hk6) hr6 HP9.out)
        clear hr6 hk6 k10 HN9 HT9
        go_wp2_with fail
        refine HL9.out.mono ?_
        rintro e w11 ⟨v11, rfl, hT11⟩
        obtain ⟨d0, d1, d2, d3, d4⟩ := HRow.out w11 hT11.calm_
        have HC11 := Lib.hid hT11.calm_.drew
        have HLen := Lib.hid (set_len (hT11.rest ((Keep.refl (fun _ => False) w11).drew)))
        clear hT11 HL9 hc4
        go_wp2_with fail
        refine wp_region_noPanic ?_
        refine wp_region_held_drew (S := fun w' => Calm W w') (by kernel_rfl) HC11.out (fun hHeld => ?_)
        refine take_at 0 76 (.bool true) rfl rfl (by kernel_rfl) (by kernel_rfl) (by kernel_rfl) (fun _ _ _ h => h) (Or.inl ⟨by rfl, ?_⟩) hHeld ?_
        · intro w hSw; go_simp
        simp only [List.setIfInBounds_toArray, List.set_cons_zero, List.set_cons_succ]
        refine take_at 1 77 (.bool true) rfl rfl (by kernel_rfl) (by kernel_rfl) (by kernel_rfl) (fun _ _ _ h => h) (Or.inl ⟨by rfl, ?_⟩) hHeld ?_
        · intro w hSw; go_simp
        simp only [List.setIfInBounds_toArray, List.set_cons_zero, List.set_cons_succ]
        refine take_at 2 78 (.int .i64 5) rfl rfl (by kernel_rfl) (by kernel_rfl) (by kernel_rfl) (fun _ _ _ h => h) (Or.inl ⟨by rfl, ?_⟩) hHeld ?_
        · intro w hSw; go_simp
        simp only [List.setIfInBounds_toArray, List.set_cons_zero, List.set_cons_succ]
        refine take_at 3 79 (.bool true) rfl rfl (by kernel_rfl) (by kernel_rfl) (by kernel_rfl) (fun _ _ _ h => h) (Or.inl ⟨by rfl, ?_⟩) hHeld ?_
        · intro w hSw; go_simp
        simp only [List.setIfInBounds_toArray, List.set_cons_zero, List.set_cons_succ]
        refine take_at 4 80 (.bool true) rfl rfl (by kernel_rfl) (by kernel_rfl) (by kernel_rfl) (fun _ _ _ h => h) (Or.inl ⟨by rfl, ?_⟩) hHeld ?_
        · intro w hSw; go_simp
        simp only [List.setIfInBounds_toArray, List.set_cons_zero, List.set_cons_succ]
        refine take_at 5 81 (.bool true) rfl rfl (by kernel_rfl) (by kernel_rfl) (by kernel_rfl) (fun _ _ _ h => h) (Or.inl ⟨by rfl, ?_⟩) hHeld ?_
        · intro w hSw; go_simp
        simp only [List.setIfInBounds_toArray, List.set_cons_zero, List.set_cons_succ]
        refine take_at 6 82 (.int .i64 0) rfl rfl (by kernel_rfl) (by kernel_rfl) (by kernel_rfl) (fun _ _ _ h => h) (Or.inl ⟨by rfl, ?_⟩) hHeld ?_
        · intro w hSw; go_simp
        simp only [List.setIfInBounds_toArray, List.set_cons_zero, List.set_cons_succ]
        refine take_at 7 83 (.bool true) rfl rfl (by kernel_rfl) (by kernel_rfl) (by kernel_rfl) (fun _ _ _ h => h) (Or.inl ⟨by rfl, ?_⟩) hHeld ?_
        · intro w hSw; go_simp
        simp only [List.setIfInBounds_toArray, List.set_cons_zero, List.set_cons_succ]
        refine take_at 8 84 (.bool true) rfl rfl (by kernel_rfl) (by kernel_rfl) (by kernel_rfl) (fun _ _ _ h => h) (Or.inl ⟨by rfl, ?_⟩) hHeld ?_
        · intro w hSw; go_simp
        simp only [List.setIfInBounds_toArray, List.set_cons_zero, List.set_cons_succ]
        refine take_at 9 85 (.bool true) rfl rfl (by kernel_rfl) (by kernel_rfl) (by kernel_rfl) (fun _ _ _ h => h) (Or.inl ⟨by rfl, ?_⟩) hHeld ?_
        · intro w hSw; go_simp
        simp only [List.setIfInBounds_toArray, List.set_cons_zero, List.set_cons_succ]
        refine take_at 10 86 (.bool true) rfl rfl (by kernel_rfl) (by kernel_rfl) (by kernel_rfl) (fun _ _ _ h => h) (Or.inl ⟨by rfl, ?_⟩) hHeld ?_
        · intro w hSw; go_simp
        simp only [List.setIfInBounds_toArray, List.set_cons_zero, List.set_cons_succ]
        refine take_at 11 87 (.bool true) rfl rfl (by kernel_rfl) (by kernel_rfl) (by kernel_rfl) (fun _ _ _ h => h) (Or.inl ⟨by rfl, ?_⟩) hHeld ?_
        · intro w hSw; go_simp
        simp only [List.setIfInBounds_toArray, List.set_cons_zero, List.set_cons_succ]
        refine take_at 12 88 (.bool true) rfl rfl (by kernel_rfl) (by kernel_rfl) (by kernel_rfl) (fun _ _ _ h => h) (Or.inl ⟨by rfl, ?_⟩) hHeld ?_
        · intro w hSw; go_simp
        simp only [List.setIfInBounds_toArray, List.set_cons_zero, List.set_cons_succ]
        refine take_at 13 89 (.bool false) rfl rfl (by kernel_rfl) (by kernel_rfl) (by kernel_rfl) (fun _ _ _ h => h) (Or.inl ⟨by rfl, ?_⟩) hHeld ?_
        · intro w hSw; go_simp
        simp only [List.setIfInBounds_toArray, List.set_cons_zero, List.set_cons_succ]
        refine take_at 14 90 (.bool true) rfl rfl (by kernel_rfl) (by kernel_rfl) (by kernel_rfl) (fun _ _ _ h => h) (Or.inl ⟨by rfl, ?_⟩) hHeld ?_
        · intro w hSw; go_simp
        simp only [List.setIfInBounds_toArray, List.set_cons_zero, List.set_cons_succ]
        refine take_at 15 91 (.bool true) rfl rfl (by kernel_rfl) (by kernel_rfl) (by kernel_rfl) (fun _ _ _ h => h) (Or.inl ⟨by rfl, ?_⟩) hHeld ?_
        · intro w hSw; go_simp
        simp only [List.setIfInBounds_toArray, List.set_cons_zero, List.set_cons_succ]
        refine take_at 16 92 (.bool true) rfl rfl (by kernel_rfl) (by kernel_rfl) (by kernel_rfl) (fun _ _ _ h => h) (Or.inl ⟨by rfl, ?_⟩) hHeld ?_
        · intro w hSw; go_simp
        simp only [List.setIfInBounds_toArray, List.set_cons_zero, List.set_cons_succ]
        refine take_at 17 93 (.pointer (some ⟨tb, 0, none⟩)) rfl rfl (by kernel_rfl) (by kernel_rfl) (by kernel_rfl) (fun _ _ _ h => h) (Or.inl ⟨by rfl, ?_⟩) hHeld ?_
        · intro w hSw; go_simp
        simp only [List.setIfInBounds_toArray, List.set_cons_zero, List.set_cons_succ]
        refine take_at 19 95 (.pointer (some ⟨w2.heap.size, 4, none⟩)) rfl rfl (by kernel_rfl) (by kernel_rfl) (by kernel_rfl) (fun _ _ _ h => h) (Or.inl ⟨by rfl, ?_⟩) hHeld ?_
        · intro w hSw; go_simp
        simp only [List.setIfInBounds_toArray, List.set_cons_zero, List.set_cons_succ]
        refine take_at 20 96 (.int .i64 (j : Int)) rfl rfl (by kernel_rfl) (by kernel_rfl) (by kernel_rfl) (fun _ _ _ h => h) (Or.inl ⟨by rfl, ?_⟩) hHeld ?_
        · intro w hSw; obtain ⟨_, _, _, _, e4⟩ := HRow.out w hSw; go_simp
        simp only [List.setIfInBounds_toArray, List.set_cons_zero, List.set_cons_succ]
        refine wpAnyH_ready (rs := [18]) (by kernel_rfl) (by simp) ?_
        refine AllReadyH.cons rfl (fun K hK => ?_) AllReadyH.nil
        go_simp
        refine HLen.out.mono ?_
        rintro e w12 ⟨rfl, hT12⟩
        have HT12 := Lib.hid hT12
        clear hT12
        go_wp2_with fail
        refine hK.out _ _ HT12.out.calm_ (fun hHeld => ?_)
        clear hK K
        try simp only [List.setIfInBounds_toArray, List.set_cons_zero, List.set_cons_succ]
        refine take_at 21 97 (.bool true) rfl rfl (by kernel_rfl) (by kernel_rfl) (by kernel_rfl) (fun _ _ _ h => h) (Or.inl ⟨by rfl, ?_⟩) hHeld ?_
        · intro w hSw; go_simp
        simp only [List.setIfInBounds_toArray, List.set_cons_zero, List.set_cons_succ]
        refine take_at 22 98 (.bool true) rfl rfl (by kernel_rfl) (by kernel_rfl) (by kernel_rfl) (fun _ _ _ h => h) (Or.inl ⟨by rfl, ?_⟩) hHeld ?_
        · intro w hSw; go_simp
        simp only [List.setIfInBounds_toArray, List.set_cons_zero, List.set_cons_succ]
        refine wpAnyH_ready (rs := [23]) (by kernel_rfl) (by simp) ?_
        refine AllReadyH.cons rfl (fun K hK => ?_) AllReadyH.nil
        go_simp
        refine hK.out _ _ hHeld (fun hHeld => ?_)
        clear hK K
        try simp only [List.setIfInBounds_toArray, List.set_cons_zero, List.set_cons_succ]
        refine wpAnyH_done (by kernel_rfl) (NoPanic.normal ?_) _
        go_wp2
        go_ret
        exact ⟨rfl, HW.out.trans HT12.out.calm_⟩
  | true =>
    have HB := Row.made w2 58 #[.string (str nm), .int .i64 3, .int .i64 4, .int .i64 1, .int .i64 (mx : Int)]
    have hkb : Calm w2 (w2.alloc (.cells #[.string (str nm), .int .i64 3, .int .i64 4, .int .i64 1, .int .i64 (mx : Int)] 58)) := (Keep.refl _ w2).alloc _
    go_upto_region 5 with fail
    generalize w2.alloc (.cells #[.string (str nm), .int .i64 3, .int .i64 4, .int .i64 1, .int .i64 (mx : Int)] 58) = W at *
    have HW := Lib.hid (K2.out.trans hkb)
    have HRow : Hid (∀ W', Calm W W' → W'.cell? ⟨w2.heap.size, 0, none⟩ = some (.string (str nm)) ∧ W'.cell? ⟨w2.heap.size, 1, none⟩ = some (.int .i64 3) ∧ W'.cell? ⟨w2.heap.size, 2, none⟩ = some (.int .i64 4) ∧ W'.cell? ⟨w2.heap.size, 3, none⟩ = some (.int .i64 1) ∧ W'.cell? ⟨w2.heap.size, 4, none⟩ = some (.int .i64 (mx : Int))) :=
      Lib.hid (fun W' c => ⟨((HB.keep c (fun e => e)).cell 0).trans rfl, ((HB.keep c (fun e => e)).cell 1).trans rfl, ((HB.keep c (fun e => e)).cell 2).trans rfl, ((HB.keep c (fun e => e)).cell 3).trans rfl, ((HB.keep c (fun e => e)).cell 4).trans rfl⟩)
    clear HB hkb K2
    have HN : Hid (Calls Try.prog 33 #[.agg #[.string (str nm), .int .i64 3, .int .i64 4, .int .i64 1, .int .i64 (mx : Int)]] W fun e w' => ∃ v : Value, e = .returned (.tuple #[v, .int .i64 0]) ∧ NewT ⟨nm, 3, 4, 1, mx⟩ W v w') := Lib.hid (tNew_yes ⟨nm, 3, 4, 1, mx⟩ (ok_lru HOK.out) W)
    obtain ⟨d0, d1, d2, d3, d4⟩ := HRow.out W (Keep.refl _ W)
    go_wp2_with fail
    refine HN.out.mono ?_
    rintro e w3 ⟨v, rfl, tb, E, rfl, hE, hT⟩
    have hE0 : E = [] := by unfold NewE at hE; rw [if_neg (show ¬ (3 : Nat) = 1 by decide)] at hE; exact hE
    subst hE0
    have HT : Hid (Keys W tb ⟨nm, 3, 4, 1, mx⟩ ((List.range 0).map numK) w3) := Lib.hid ⟨[], tab_no hT, rfl⟩
    clear hT hE HN d0 d1 d2 d3 d4
    have HM := Lib.hid (And.intro HD2.out.2.2.2 HB3.out.2.2.1)
    go_wp2_with fail
    go_loopw [9] (fun i wr => ∃ j : Nat, j ≤ mx ∧ i = .int .i64 (j : Int) ∧ Keys W tb ⟨nm, 3, 4, 1, mx⟩ ((List.range j).map numK) wr) (fun i _ => mx - (intOf i).toNat)
    case atStart => exact ⟨0, Nat.zero_le _, rfl, HT.out⟩
    case round =>
      obtain ⟨j, hj, rfl, hT⟩ := hrel
      obtain ⟨d0, d1, d2, d3, d4⟩ := HRow.out wr hT.calm_
      by_cases hl : j < mx
      · have hj12 : j < 12 := Nat.lt_of_lt_of_le hl HM.out.1
        have HNj := Lib.hid (numbered_c j (by omega) wr)
        have HTj := Lib.hid hT
        have hj8 : (j : Int) % 256 = (j : Int) := by omega
        have hjm : (j : Int) < (mx : Int) := by omega
        have HJ := Lib.hid (And.intro hj12 hl)
        clear hT hj hl hj12
        go_wp2_with fail
        refine HNj.out.mono ?_
        rintro e w4 ⟨rfl, k4⟩
        obtain ⟨cK, U1, hc1, hr1, hk1⟩ := bytes4 w4 j
        obtain ⟨hr2, hk2⟩ := one_byte U1 (UInt8.ofNat j) (.int .u8 (j : Int)) (bv_nat j (by have := HJ.out; omega)).symm
        have hU := keys_put ((HTj.out.rest k4).rest (hk1.trans hk2)) (hr1.calm hk2) hr2 1 rfl rfl (by decide) (rng_no (Nat.le_refl j) (by have := HJ.out; omega)) ((.inr rfl))
        rw [if_pos (by have := HJ.out; simp; omega), rng_succ] at hU
        have HU := Lib.hid hU
        clear hU hr1 hk1 hr2 hk2 k4 HNj HTj d0 d1 d2 d3 d4
        go_wp2_with fail
        refine HU.out.mono ?_
        rintro e w5 ⟨rfl, hT5⟩
        have HT5 := Lib.hid hT5
        clear hT5 HU hc1
        go_wp2_with fail
        go_roundw
        case rel => exact ⟨j + 1, by have := HJ.out; omega, by go_num, HT5.out⟩
        case measure => have := HJ.out; simp [intOf]; omega
      · obtain rfl : j = mx := by omega
        have HTj := Lib.hid hT
        clear hT hl hj HT
        have HN99 := Lib.hid (numbered_c 99 (by omega) wr)
        go_wp2_with fail
        refine HN99.out.mono ?_
        rintro e w4 ⟨rfl, k4⟩
        obtain ⟨cK, U1, hc1, hr1, hk1⟩ := bytes4 w4 99
        obtain ⟨hr2, hk2⟩ := one_byte U1 1 (.int .u8 1) rfl
        have hU := keys_put ((HTj.out.rest k4).rest (hk1.trans hk2)) (hr1.calm hk2) hr2 0 rfl rfl (by decide) (rng_no (by have := HM.out; omega) (by omega)) (.inr rfl)
        rw [if_neg (by simp)] at hU
        have HU := Lib.hid hU
        clear hr1 hk1 hr2 hk2 k4 HN99 HTj d0 d1 d2 d3 d4
        go_wp2_with fail
        refine HU.out.mono ?_
        rintro e w5 ⟨rfl, hT5⟩
        obtain ⟨d0, d1, d2, d3, d4⟩ := HRow.out w5 hT5.calm_
        have hj0 : (j : Int) ≤ 1000 := by have := HM.out; omega
        have hsub : (j : Int) - 1 = ((j - 1 : Nat) : Int) := by have := HM.out; omega
        have HNm := Lib.hid (numbered_c (j - 1) (by have := HM.out; omega) w5)
        obtain ⟨m, hm⟩ : ∃ m, m = j - 1 := ⟨_, rfl⟩
        rw [← hm] at hsub HNm
        have HMm := Lib.hid hm
        have HT5 := Lib.hid hT5
        have hw64 : wrap64 ((j : Int) - 1) = (m : Int) := by rw [hsub]; unfold wrap64; have := HM.out; omega
        clear hT5 HU hc1 hm
        go_wp2_with fail
        refine HNm.out.mono ?_
        rintro e w6 ⟨rfl, k6⟩
        obtain ⟨cK2, U2, hc2, hr3, hk3⟩ := bytes4 w6 m
        obtain ⟨hr4, hk4⟩ := one_byte U2 7 (.int .u8 7) rfl
        have HTu := Lib.hid ((HT5.out.rest k6).rest (hk3.trans hk4))
        have HR3 := Lib.hid (hr3.calm hk4)
        have HR4 := Lib.hid hr4
        clear hr3 hk3 hr4 hk4 k6 HNm HT5 d0 d1 d2 d3 d4
        by_cases h1 : j = 1
        · have hm0 : m = 0 := by have := HMm.out; omega
          subst h1
          subst hm0
          have hV := keys_put HTu.out HR3.out HR4.out 0 rfl rfl (by decide) (by decide) (.inr rfl)
          rw [if_neg (by show ¬ (((List.range 1).map numK).tail ++ [numK 99]).length < 1; decide)] at hV
          have hV2 : Calls Try.prog _ _ _ fun e w' => e = .returned (.int .i64 0) ∧ KeySet W tb ⟨nm, 3, 4, 1, 1⟩ 1 (fun k => k ∈ [numK 0]) w' := hV.mono (fun e w' a => ⟨a.1, a.2.set⟩)
          have HV := Lib.hid hV2
          clear hV hV2
          have HP0 : Hid (numK 0 ∈ [numK 0]) := Lib.hid (by simp)
          have HP9 : Hid (¬ numK 99 ∈ [numK 0]) := Lib.hid (by decide)
          clear hw64 hsub HR3 HR4 HTu hj0
          go_wp2_with fail
          refine HV.out.mono ?_
          rintro e w7 ⟨rfl, hT7⟩
          have HN0 := Lib.hid (numbered_c 0 (by omega) w7)
          have HT7 := Lib.hid hT7
          clear hT7 HV hc2
          go_wp2_with fail
          refine HN0.out.mono ?_
          rintro e w8 ⟨rfl, k8⟩
          obtain ⟨cK3, U3, hc3, hr5, hk5⟩ := bytes4 w8 0
          have HL0 := Lib.hid (set_look ((HT7.out.rest k8).rest hk5) hr5 HP0.out)
          clear hr5 hk5 k8 HN0 HT7
          go_wp2_with fail
          refine HL0.out.mono ?_
          rintro e w9 ⟨v9, rfl, hT9⟩
          have HN9 := Lib.hid (numbered_c 99 (by omega) w9)
          have HT9 := Lib.hid hT9
          clear hT9 HL0 hc3
          go_wp2_with fail
          refine HN9.out.mono ?_
          rintro e w10 ⟨rfl, k10⟩
          obtain ⟨cK4, U4, hc4, hr6, hk6⟩ := bytes4 w10 99
          have HL9 := Lib.hid (set_miss ((HT9.out.rest k10).rest hk6) hr6 HP9.out)
          clear hr6 hk6 k10 HN9 HT9
          go_wp2_with fail
          refine HL9.out.mono ?_
          rintro e w11 ⟨v11, rfl, hT11⟩
          obtain ⟨d0, d1, d2, d3, d4⟩ := HRow.out w11 hT11.calm_
          have HC11 := Lib.hid hT11.calm_.drew
          have HLen := Lib.hid (set_len (hT11.rest ((Keep.refl (fun _ => False) w11).drew)))
          clear hT11 HL9 hc4
          go_wp2_with fail
          refine wp_region_noPanic ?_
          refine wp_region_held_drew (S := fun w' => Calm W w') (by kernel_rfl) HC11.out (fun hHeld => ?_)
          refine take_at 0 99 (.bool true) rfl rfl (by kernel_rfl) (by kernel_rfl) (by kernel_rfl) (fun _ _ _ h => h) (Or.inl ⟨by rfl, ?_⟩) hHeld ?_
          · intro w hSw; go_simp
          simp only [List.setIfInBounds_toArray, List.set_cons_zero, List.set_cons_succ]
          refine take_at 1 100 (.bool true) rfl rfl (by kernel_rfl) (by kernel_rfl) (by kernel_rfl) (fun _ _ _ h => h) (Or.inl ⟨by rfl, ?_⟩) hHeld ?_
          · intro w hSw; go_simp
          simp only [List.setIfInBounds_toArray, List.set_cons_zero, List.set_cons_succ]
          refine take_at 2 101 (.int .i64 0) rfl rfl (by kernel_rfl) (by kernel_rfl) (by kernel_rfl) (fun _ _ _ h => h) (Or.inl ⟨by rfl, ?_⟩) hHeld ?_
          · intro w hSw; go_simp
          simp only [List.setIfInBounds_toArray, List.set_cons_zero, List.set_cons_succ]
          refine take_at 3 102 (.bool true) rfl rfl (by kernel_rfl) (by kernel_rfl) (by kernel_rfl) (fun _ _ _ h => h) (Or.inl ⟨by rfl, ?_⟩) hHeld ?_
          · intro w hSw; go_simp
          simp only [List.setIfInBounds_toArray, List.set_cons_zero, List.set_cons_succ]
          refine take_at 4 103 (.bool true) rfl rfl (by kernel_rfl) (by kernel_rfl) (by kernel_rfl) (fun _ _ _ h => h) (Or.inl ⟨by rfl, ?_⟩) hHeld ?_
          · intro w hSw; go_simp
          simp only [List.setIfInBounds_toArray, List.set_cons_zero, List.set_cons_succ]
          refine take_at 5 104 (.bool true) rfl rfl (by kernel_rfl) (by kernel_rfl) (by kernel_rfl) (fun _ _ _ h => h) (Or.inl ⟨by rfl, ?_⟩) hHeld ?_
          · intro w hSw; go_simp
          simp only [List.setIfInBounds_toArray, List.set_cons_zero, List.set_cons_succ]
          refine take_at 6 105 (.pointer (some ⟨tb, 0, none⟩)) rfl rfl (by kernel_rfl) (by kernel_rfl) (by kernel_rfl) (fun _ _ _ h => h) (Or.inl ⟨by rfl, ?_⟩) hHeld ?_
          · intro w hSw; go_simp
          simp only [List.setIfInBounds_toArray, List.set_cons_zero, List.set_cons_succ]
          refine take_at 8 107 (.pointer (some ⟨w2.heap.size, 4, none⟩)) rfl rfl (by kernel_rfl) (by kernel_rfl) (by kernel_rfl) (fun _ _ _ h => h) (Or.inl ⟨by rfl, ?_⟩) hHeld ?_
          · intro w hSw; go_simp
          simp only [List.setIfInBounds_toArray, List.set_cons_zero, List.set_cons_succ]
          refine take_at 9 108 (.int .i64 ((1 : Nat) : Int)) rfl rfl (by kernel_rfl) (by kernel_rfl) (by kernel_rfl) (fun _ _ _ h => h) (Or.inl ⟨by rfl, ?_⟩) hHeld ?_
          · intro w hSw; obtain ⟨_, _, _, _, e4⟩ := HRow.out w hSw; go_simp
          simp only [List.setIfInBounds_toArray, List.set_cons_zero, List.set_cons_succ]
          refine wpAnyH_ready (rs := [7]) (by kernel_rfl) (by simp) ?_
          refine AllReadyH.cons rfl (fun K hK => ?_) AllReadyH.nil
          go_simp
          refine HLen.out.mono ?_
          rintro e w12 ⟨rfl, hT12⟩
          have HT12 := Lib.hid hT12
          clear hT12
          go_wp2_with fail
          refine hK.out _ _ HT12.out.calm_ (fun hHeld => ?_)
          clear hK K
          try simp only [List.setIfInBounds_toArray, List.set_cons_zero, List.set_cons_succ]
          refine take_at 10 109 (.bool true) rfl rfl (by kernel_rfl) (by kernel_rfl) (by kernel_rfl) (fun _ _ _ h => h) (Or.inl ⟨by rfl, ?_⟩) hHeld ?_
          · intro w hSw; go_simp
          simp only [List.setIfInBounds_toArray, List.set_cons_zero, List.set_cons_succ]
          refine take_at 11 110 (.bool true) rfl rfl (by kernel_rfl) (by kernel_rfl) (by kernel_rfl) (fun _ _ _ h => h) (Or.inl ⟨by rfl, ?_⟩) hHeld ?_
          · intro w hSw; go_simp
          simp only [List.setIfInBounds_toArray, List.set_cons_zero, List.set_cons_succ]
          refine take_at 12 111 (.bool true) rfl rfl (by kernel_rfl) (by kernel_rfl) (by kernel_rfl) (fun _ _ _ h => h) (Or.inl ⟨by rfl, ?_⟩) hHeld ?_
          · intro w hSw; go_simp
          simp only [List.setIfInBounds_toArray, List.set_cons_zero, List.set_cons_succ]
          refine take_at 13 112 (.bool true) rfl rfl (by kernel_rfl) (by kernel_rfl) (by kernel_rfl) (fun _ _ _ h => h) (Or.inl ⟨by rfl, ?_⟩) hHeld ?_
          · intro w hSw; go_simp
          simp only [List.setIfInBounds_toArray, List.set_cons_zero, List.set_cons_succ]
          refine take_at 14 113 (.pointer (some ⟨w2.heap.size, 4, none⟩)) rfl rfl (by kernel_rfl) (by kernel_rfl) (by kernel_rfl) (fun _ _ _ h => h) (Or.inl ⟨by rfl, ?_⟩) hHeld ?_
          · intro w hSw; go_simp
          simp only [List.setIfInBounds_toArray, List.set_cons_zero, List.set_cons_succ]
          refine take_at 15 114 (.int .i64 ((1 : Nat) : Int)) rfl rfl (by kernel_rfl) (by kernel_rfl) (by kernel_rfl) (fun _ _ _ h => h) (Or.inl ⟨by rfl, ?_⟩) hHeld ?_
          · intro w hSw; obtain ⟨_, _, _, _, e4⟩ := HRow.out w hSw; go_simp
          simp only [List.setIfInBounds_toArray, List.set_cons_zero, List.set_cons_succ]
          refine take_at 16 115 (.bool true) rfl rfl (by kernel_rfl) (by kernel_rfl) (by kernel_rfl) (fun _ _ _ h => h) (Or.inl ⟨by rfl, ?_⟩) hHeld ?_
          · intro w hSw; go_simp
          simp only [List.setIfInBounds_toArray, List.set_cons_zero, List.set_cons_succ]
          refine take_at 17 116 (.bool true) rfl rfl (by kernel_rfl) (by kernel_rfl) (by kernel_rfl) (fun _ _ _ h => h) (Or.inl ⟨by rfl, ?_⟩) hHeld ?_
          · intro w hSw; go_simp
          simp only [List.setIfInBounds_toArray, List.set_cons_zero, List.set_cons_succ]
          refine take_at 18 117 (.bool true) rfl rfl (by kernel_rfl) (by kernel_rfl) (by kernel_rfl) (fun _ _ _ h => h) (Or.inl ⟨by rfl, ?_⟩) hHeld ?_
          · intro w hSw; go_simp
          simp only [List.setIfInBounds_toArray, List.set_cons_zero, List.set_cons_succ]
          refine take_at 19 118 (.bool true) rfl rfl (by kernel_rfl) (by kernel_rfl) (by kernel_rfl) (fun _ _ _ h => h) (Or.inl ⟨by rfl, ?_⟩) hHeld ?_
          · intro w hSw; go_simp
          simp only [List.setIfInBounds_toArray, List.set_cons_zero, List.set_cons_succ]
          refine take_at 20 119 (.bool false) rfl rfl (by kernel_rfl) (by kernel_rfl) (by kernel_rfl) (fun _ _ _ h => h) (Or.inl ⟨by rfl, ?_⟩) hHeld ?_
          · intro w hSw; go_simp
          simp only [List.setIfInBounds_toArray, List.set_cons_zero, List.set_cons_succ]
          refine take_at 21 120 (.pointer (some ⟨w2.heap.size, 4, none⟩)) rfl rfl (by kernel_rfl) (by kernel_rfl) (by kernel_rfl) (fun _ _ _ h => h) (Or.inl ⟨by rfl, ?_⟩) hHeld ?_
          · intro w hSw; go_simp
          simp only [List.setIfInBounds_toArray, List.set_cons_zero, List.set_cons_succ]
          refine take_at 22 121 (.int .i64 ((1 : Nat) : Int)) rfl rfl (by kernel_rfl) (by kernel_rfl) (by kernel_rfl) (fun _ _ _ h => h) (Or.inl ⟨by rfl, ?_⟩) hHeld ?_
          · intro w hSw; obtain ⟨_, _, _, _, e4⟩ := HRow.out w hSw; go_simp
          simp only [List.setIfInBounds_toArray, List.set_cons_zero, List.set_cons_succ]
          refine take_at 23 122 (.bool false) rfl rfl (by kernel_rfl) (by kernel_rfl) (by kernel_rfl) (fun _ _ _ h => h) (Or.inl ⟨by rfl, ?_⟩) hHeld ?_
          · intro w hSw; go_simp
          simp only [List.setIfInBounds_toArray, List.set_cons_zero, List.set_cons_succ]
          refine take_at 24 123 (.bool true) rfl rfl (by kernel_rfl) (by kernel_rfl) (by kernel_rfl) (fun _ _ _ h => h) (Or.inl ⟨by rfl, ?_⟩) hHeld ?_
          · intro w hSw; go_simp
          simp only [List.setIfInBounds_toArray, List.set_cons_zero, List.set_cons_succ]
          refine take_at 25 124 (.bool true) rfl rfl (by kernel_rfl) (by kernel_rfl) (by kernel_rfl) (fun _ _ _ h => h) (Or.inl ⟨by rfl, ?_⟩) hHeld ?_
          · intro w hSw; go_simp
          simp only [List.setIfInBounds_toArray, List.set_cons_zero, List.set_cons_succ]
          refine take_at 26 125 (.bool true) rfl rfl (by kernel_rfl) (by kernel_rfl) (by kernel_rfl) (fun _ _ _ h => h) (Or.inl ⟨by rfl, ?_⟩) hHeld ?_
          · intro w hSw; go_simp
          simp only [List.setIfInBounds_toArray, List.set_cons_zero, List.set_cons_succ]
          refine take_at 27 126 (.int .i64 0) rfl rfl (by kernel_rfl) (by kernel_rfl) (by kernel_rfl) (fun _ _ _ h => h) (Or.inl ⟨by rfl, ?_⟩) hHeld ?_
          · intro w hSw; go_simp
          simp only [List.setIfInBounds_toArray, List.set_cons_zero, List.set_cons_succ]
          refine take_at 28 127 (.bool true) rfl rfl (by kernel_rfl) (by kernel_rfl) (by kernel_rfl) (fun _ _ _ h => h) (Or.inl ⟨by rfl, ?_⟩) hHeld ?_
          · intro w hSw; go_simp
          simp only [List.setIfInBounds_toArray, List.set_cons_zero, List.set_cons_succ]
          refine take_at 29 128 (.bool true) rfl rfl (by kernel_rfl) (by kernel_rfl) (by kernel_rfl) (fun _ _ _ h => h) (Or.inl ⟨by rfl, ?_⟩) hHeld ?_
          · intro w hSw; go_simp
          simp only [List.setIfInBounds_toArray, List.set_cons_zero, List.set_cons_succ]
          refine wpAnyH_ready (rs := [30]) (by kernel_rfl) (by simp) ?_
          refine AllReadyH.cons rfl (fun K hK => ?_) AllReadyH.nil
          go_simp
          refine hK.out _ _ hHeld (fun hHeld => ?_)
          clear hK K
          try simp only [List.setIfInBounds_toArray, List.set_cons_zero, List.set_cons_succ]
          refine wpAnyH_done (by kernel_rfl) (NoPanic.normal ?_) _
          go_wp2
          go_ret
          exact ⟨rfl, HW.out.trans HT12.out.calm_⟩
        · have h2 : 1 < j := by have := HM.out; omega
          have htl : ((List.range j).map numK).tail ++ [numK 99] = ((List.range' 1 (j - 1)).map numK) ++ [numK 99] := by
            obtain ⟨i, rfl⟩ : ∃ i, j = i + 1 := ⟨j - 1, by omega⟩
            rw [List.range_eq_range', List.range'_succ]
            simp
          rw [htl] at HTu
          have hin : ∀ i : Nat, i < 65536 → (numK i ∈ (List.range' 1 (j - 1)).map numK ++ [numK 99] ↔ (1 ≤ i ∧ i < j) ∨ i = 99) := fun i hi => by
            have hj1 : j ≤ 12 := HM.out.1
            rw [List.mem_append, List.mem_singleton, List.mem_map]
            constructor
            · rintro (⟨a, ha, e⟩ | e)
              · rw [List.mem_range'_1] at ha
                have := numK_inj (by omega) hi e
                omega
              · exact .inr (numK_inj hi (by omega) e)
            · rintro (e | e)
              · exact .inl ⟨i, by rw [List.mem_range'_1]; omega, rfl⟩
              · exact .inr (by rw [e])
          have hlen : ((List.range' 1 (j - 1)).map numK ++ [numK 99]).length = j := by simp; omega
          have hV := set_over HTu.out.set HR3.out HR4.out 0 rfl rfl (.inl rfl) ((hin m (by have := HM.out; have := HMm.out; omega)).2 (.inl (by have := HMm.out; omega)))
          rw [hlen] at hV
          have HV := Lib.hid hV
          have HP0 : Hid (¬ numK 0 ∈ (List.range' 1 (j - 1)).map numK ++ [numK 99]) := Lib.hid (fun h => by have := (hin 0 (by omega)).1 h; omega)
          have HP9 : Hid (numK 99 ∈ (List.range' 1 (j - 1)).map numK ++ [numK 99]) := Lib.hid ((hin 99 (by omega)).2 (.inr rfl))
          have HJ2 := Lib.hid h2
          clear hV htl hin hlen h1 h2
          clear hw64 hsub HR3 HR4 HTu hj0
          go_wp2_with fail
          refine HV.out.mono ?_
          rintro e w7 ⟨rfl, hT7⟩
          have HN0 := Lib.hid (numbered_c 0 (by omega) w7)
          have HT7 := Lib.hid hT7
          clear hT7 HV hc2
          go_wp2_with fail
          refine HN0.out.mono ?_
          rintro e w8 ⟨rfl, k8⟩
          obtain ⟨cK3, U3, hc3, hr5, hk5⟩ := bytes4 w8 0
          have HL0 := Lib.hid (set_miss ((HT7.out.rest k8).rest hk5) hr5 HP0.out)
          clear hr5 hk5 k8 HN0 HT7
          go_wp2_with fail
          refine HL0.out.mono ?_
          rintro e w9 ⟨v9, rfl, hT9⟩
          have HN9 := Lib.hid (numbered_c 99 (by omega) w9)
          have HT9 := Lib.hid hT9
          clear hT9 HL0 hc3
          go_wp2_with fail
          refine HN9.out.mono ?_
          rintro e w10 ⟨rfl, k10⟩
          obtain ⟨cK4, U4, hc4, hr6, hk6⟩ := bytes4 w10 99
          have HL9 := Lib.hid (set_look ((HT9.out.rest k10).rest hk6) hr6 HP9.out)
          clear hr6 hk6 k10 HN9 HT9
          go_wp2_with fail
          refine HL9.out.mono ?_
          rintro e w11 ⟨v11, rfl, hT11⟩
          obtain ⟨d0, d1, d2, d3, d4⟩ := HRow.out w11 hT11.calm_
          have HC11 := Lib.hid hT11.calm_.drew
          have HLen := Lib.hid (set_len (hT11.rest ((Keep.refl (fun _ => False) w11).drew)))
          have z1 : ((j : Int) == 1) = false := by rw [beq_eq_false_iff_ne]; have := HJ2.out; omega
          have z2 : (1 : Int) < (j : Int) := by have := HJ2.out; omega
          clear hT11 HL9 hc4
          go_wp2_with fail
          refine wp_region_noPanic ?_
          refine wp_region_held_drew (S := fun w' => Calm W w') (by kernel_rfl) HC11.out (fun hHeld => ?_)
          refine take_at 0 99 (.bool true) rfl rfl (by kernel_rfl) (by kernel_rfl) (by kernel_rfl) (fun _ _ _ h => h) (Or.inl ⟨by rfl, ?_⟩) hHeld ?_
          · intro w hSw; go_simp
          simp only [List.setIfInBounds_toArray, List.set_cons_zero, List.set_cons_succ]
          refine take_at 1 100 (.bool true) rfl rfl (by kernel_rfl) (by kernel_rfl) (by kernel_rfl) (fun _ _ _ h => h) (Or.inl ⟨by rfl, ?_⟩) hHeld ?_
          · intro w hSw; go_simp
          simp only [List.setIfInBounds_toArray, List.set_cons_zero, List.set_cons_succ]
          refine take_at 2 101 (.int .i64 0) rfl rfl (by kernel_rfl) (by kernel_rfl) (by kernel_rfl) (fun _ _ _ h => h) (Or.inl ⟨by rfl, ?_⟩) hHeld ?_
          · intro w hSw; go_simp
          simp only [List.setIfInBounds_toArray, List.set_cons_zero, List.set_cons_succ]
          refine take_at 3 102 (.bool true) rfl rfl (by kernel_rfl) (by kernel_rfl) (by kernel_rfl) (fun _ _ _ h => h) (Or.inl ⟨by rfl, ?_⟩) hHeld ?_
          · intro w hSw; go_simp
          simp only [List.setIfInBounds_toArray, List.set_cons_zero, List.set_cons_succ]
          refine take_at 4 103 (.bool true) rfl rfl (by kernel_rfl) (by kernel_rfl) (by kernel_rfl) (fun _ _ _ h => h) (Or.inl ⟨by rfl, ?_⟩) hHeld ?_
          · intro w hSw; go_simp
          simp only [List.setIfInBounds_toArray, List.set_cons_zero, List.set_cons_succ]
          refine take_at 5 104 (.bool true) rfl rfl (by kernel_rfl) (by kernel_rfl) (by kernel_rfl) (fun _ _ _ h => h) (Or.inl ⟨by rfl, ?_⟩) hHeld ?_
          · intro w hSw; go_simp
          simp only [List.setIfInBounds_toArray, List.set_cons_zero, List.set_cons_succ]
          refine take_at 6 105 (.pointer (some ⟨tb, 0, none⟩)) rfl rfl (by kernel_rfl) (by kernel_rfl) (by kernel_rfl) (fun _ _ _ h => h) (Or.inl ⟨by rfl, ?_⟩) hHeld ?_
          · intro w hSw; go_simp
          simp only [List.setIfInBounds_toArray, List.set_cons_zero, List.set_cons_succ]
          refine take_at 8 107 (.pointer (some ⟨w2.heap.size, 4, none⟩)) rfl rfl (by kernel_rfl) (by kernel_rfl) (by kernel_rfl) (fun _ _ _ h => h) (Or.inl ⟨by rfl, ?_⟩) hHeld ?_
          · intro w hSw; go_simp
          simp only [List.setIfInBounds_toArray, List.set_cons_zero, List.set_cons_succ]
          refine take_at 9 108 (.int .i64 (j : Int)) rfl rfl (by kernel_rfl) (by kernel_rfl) (by kernel_rfl) (fun _ _ _ h => h) (Or.inl ⟨by rfl, ?_⟩) hHeld ?_
          · intro w hSw; obtain ⟨_, _, _, _, e4⟩ := HRow.out w hSw; go_simp
          simp only [List.setIfInBounds_toArray, List.set_cons_zero, List.set_cons_succ]
          refine wpAnyH_ready (rs := [7]) (by kernel_rfl) (by simp) ?_
          refine AllReadyH.cons rfl (fun K hK => ?_) AllReadyH.nil
          go_simp
          refine HLen.out.mono ?_
          rintro e w12 ⟨rfl, hT12⟩
          have HT12 := Lib.hid hT12
          clear hT12
          go_wp2_with fail
          refine hK.out _ _ HT12.out.calm_ (fun hHeld => ?_)
          clear hK K
          try simp only [List.setIfInBounds_toArray, List.set_cons_zero, List.set_cons_succ]
          refine take_at 10 109 (.bool true) rfl rfl (by kernel_rfl) (by kernel_rfl) (by kernel_rfl) (fun _ _ _ h => h) (Or.inl ⟨by rfl, ?_⟩) hHeld ?_
          · intro w hSw; go_simp
          simp only [List.setIfInBounds_toArray, List.set_cons_zero, List.set_cons_succ]
          refine take_at 11 110 (.bool true) rfl rfl (by kernel_rfl) (by kernel_rfl) (by kernel_rfl) (fun _ _ _ h => h) (Or.inl ⟨by rfl, ?_⟩) hHeld ?_
          · intro w hSw; go_simp
          simp only [List.setIfInBounds_toArray, List.set_cons_zero, List.set_cons_succ]
          refine take_at 12 111 (.bool true) rfl rfl (by kernel_rfl) (by kernel_rfl) (by kernel_rfl) (fun _ _ _ h => h) (Or.inl ⟨by rfl, ?_⟩) hHeld ?_
          · intro w hSw; go_simp
          simp only [List.setIfInBounds_toArray, List.set_cons_zero, List.set_cons_succ]
          refine take_at 13 112 (.bool false) rfl rfl (by kernel_rfl) (by kernel_rfl) (by kernel_rfl) (fun _ _ _ h => h) (Or.inl ⟨by rfl, ?_⟩) hHeld ?_
          · intro w hSw; go_simp
          simp only [List.setIfInBounds_toArray, List.set_cons_zero, List.set_cons_succ]
          refine take_at 14 113 (.pointer (some ⟨w2.heap.size, 4, none⟩)) rfl rfl (by kernel_rfl) (by kernel_rfl) (by kernel_rfl) (fun _ _ _ h => h) (Or.inl ⟨by rfl, ?_⟩) hHeld ?_
          · intro w hSw; go_simp
          simp only [List.setIfInBounds_toArray, List.set_cons_zero, List.set_cons_succ]
          refine take_at 15 114 (.int .i64 (j : Int)) rfl rfl (by kernel_rfl) (by kernel_rfl) (by kernel_rfl) (fun _ _ _ h => h) (Or.inl ⟨by rfl, ?_⟩) hHeld ?_
          · intro w hSw; obtain ⟨_, _, _, _, e4⟩ := HRow.out w hSw; go_simp
          simp only [List.setIfInBounds_toArray, List.set_cons_zero, List.set_cons_succ]
          refine take_at 16 115 (.bool false) rfl rfl (by kernel_rfl) (by kernel_rfl) (by kernel_rfl) (fun _ _ _ h => h) (Or.inl ⟨by rfl, ?_⟩) hHeld ?_
          · intro w hSw; go_simp
          simp only [List.setIfInBounds_toArray, List.set_cons_zero, List.set_cons_succ]
          refine take_at 17 116 (.bool true) rfl rfl (by kernel_rfl) (by kernel_rfl) (by kernel_rfl) (fun _ _ _ h => h) (Or.inl ⟨by rfl, ?_⟩) hHeld ?_
          · intro w hSw; go_simp
          simp only [List.setIfInBounds_toArray, List.set_cons_zero, List.set_cons_succ]
          refine take_at 18 117 (.bool true) rfl rfl (by kernel_rfl) (by kernel_rfl) (by kernel_rfl) (fun _ _ _ h => h) (Or.inl ⟨by rfl, ?_⟩) hHeld ?_
          · intro w hSw; go_simp
          simp only [List.setIfInBounds_toArray, List.set_cons_zero, List.set_cons_succ]
          refine take_at 19 118 (.bool true) rfl rfl (by kernel_rfl) (by kernel_rfl) (by kernel_rfl) (fun _ _ _ h => h) (Or.inl ⟨by rfl, ?_⟩) hHeld ?_
          · intro w hSw; go_simp
          simp only [List.setIfInBounds_toArray, List.set_cons_zero, List.set_cons_succ]
          refine take_at 20 119 (.bool true) rfl rfl (by kernel_rfl) (by kernel_rfl) (by kernel_rfl) (fun _ _ _ h => h) (Or.inl ⟨by rfl, ?_⟩) hHeld ?_
          · intro w hSw; go_simp
          simp only [List.setIfInBounds_toArray, List.set_cons_zero, List.set_cons_succ]
          refine take_at 21 120 (.pointer (some ⟨w2.heap.size, 4, none⟩)) rfl rfl (by kernel_rfl) (by kernel_rfl) (by kernel_rfl) (fun _ _ _ h => h) (Or.inl ⟨by rfl, ?_⟩) hHeld ?_
          · intro w hSw; go_simp
          simp only [List.setIfInBounds_toArray, List.set_cons_zero, List.set_cons_succ]
          refine take_at 22 121 (.int .i64 (j : Int)) rfl rfl (by kernel_rfl) (by kernel_rfl) (by kernel_rfl) (fun _ _ _ h => h) (Or.inl ⟨by rfl, ?_⟩) hHeld ?_
          · intro w hSw; obtain ⟨_, _, _, _, e4⟩ := HRow.out w hSw; go_simp
          simp only [List.setIfInBounds_toArray, List.set_cons_zero, List.set_cons_succ]
          refine take_at 23 122 (.bool true) rfl rfl (by kernel_rfl) (by kernel_rfl) (by kernel_rfl) (fun _ _ _ h => h) (Or.inl ⟨by rfl, ?_⟩) hHeld ?_
          · intro w hSw; go_simp
          simp only [List.setIfInBounds_toArray, List.set_cons_zero, List.set_cons_succ]
          refine take_at 24 123 (.bool true) rfl rfl (by kernel_rfl) (by kernel_rfl) (by kernel_rfl) (fun _ _ _ h => h) (Or.inl ⟨by rfl, ?_⟩) hHeld ?_
          · intro w hSw; go_simp
          simp only [List.setIfInBounds_toArray, List.set_cons_zero, List.set_cons_succ]
          refine take_at 25 124 (.bool true) rfl rfl (by kernel_rfl) (by kernel_rfl) (by kernel_rfl) (fun _ _ _ h => h) (Or.inl ⟨by rfl, ?_⟩) hHeld ?_
          · intro w hSw; go_simp
          simp only [List.setIfInBounds_toArray, List.set_cons_zero, List.set_cons_succ]
          refine take_at 26 125 (.bool true) rfl rfl (by kernel_rfl) (by kernel_rfl) (by kernel_rfl) (fun _ _ _ h => h) (Or.inl ⟨by rfl, ?_⟩) hHeld ?_
          · intro w hSw; go_simp
          simp only [List.setIfInBounds_toArray, List.set_cons_zero, List.set_cons_succ]
          refine take_at 27 126 (.int .i64 0) rfl rfl (by kernel_rfl) (by kernel_rfl) (by kernel_rfl) (fun _ _ _ h => h) (Or.inl ⟨by rfl, ?_⟩) hHeld ?_
          · intro w hSw; go_simp
          simp only [List.setIfInBounds_toArray, List.set_cons_zero, List.set_cons_succ]
          refine take_at 28 127 (.bool true) rfl rfl (by kernel_rfl) (by kernel_rfl) (by kernel_rfl) (fun _ _ _ h => h) (Or.inl ⟨by rfl, ?_⟩) hHeld ?_
          · intro w hSw; go_simp
          simp only [List.setIfInBounds_toArray, List.set_cons_zero, List.set_cons_succ]
          refine take_at 29 128 (.bool true) rfl rfl (by kernel_rfl) (by kernel_rfl) (by kernel_rfl) (fun _ _ _ h => h) (Or.inl ⟨by rfl, ?_⟩) hHeld ?_
          · intro w hSw; go_simp
          simp only [List.setIfInBounds_toArray, List.set_cons_zero, List.set_cons_succ]
          refine wpAnyH_ready (rs := [30]) (by kernel_rfl) (by simp) ?_
          refine AllReadyH.cons rfl (fun K hK => ?_) AllReadyH.nil
          go_simp
          refine hK.out _ _ hHeld (fun hHeld => ?_)
          clear hK K
          try simp only [List.setIfInBounds_toArray, List.set_cons_zero, List.set_cons_succ]
          refine wpAnyH_done (by kernel_rfl) (NoPanic.normal ?_) _
          go_wp2
          go_ret
          exact ⟨rfl, HW.out.trans HT12.out.calm_⟩
end Go.Proofs.Ytiipepiabeccpaa
