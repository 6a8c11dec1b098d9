/-
  TableGone: the walk.
-/
import Derived.Test.YtnlojohjhfpbgaaT40
import Derived.Test.YtnlojohjhfpbgaaT41
import Derived.Test.YtnlojohjhfpbgaaT42
import Derived.Test.YtnlojohjhfpbgaaS10V
import Derived.Test.YtnlojohjhfpbgaaMasks
import Derived.Test.YtnlojohjhfpbgaaRegion
import Derived.Test.YtnlojohjhfpbgaaQW
import Derived.Sort.CutIn
import Derived.BigFrameIn
namespace Go.Proofs.Ytnlojohjhfpbgaa
open Go.RowKit Go.Deep Go.Shelf
set_option linter.all false
attribute [local go_sem] Oper.semAt_some

theorem bytes_of (w : World) (k : List UInt8) (n : Nat) (hk : k.length = n) (hn : n ≤ 1000) : ∃ c W, Sem.run Try.prog (convert 9 22 (.string (str k))) w = .ok (.slice (some ⟨w.heap.size, 0, none⟩) n c) W ∧ Rd W (.slice (some ⟨w.heap.size, 0, none⟩) n c) k ∧ Calm w W := by
  obtain ⟨c, W, h1, h2, h3, _⟩ := bytes_box w k n hk hn
  exact ⟨c, W, h1, h2, h3⟩
theorem infoStep10 : (Try.prog.info? 65).map (·.size) = some 7 := by kernel_rfl

set_option maxRecDepth 100000 in
set_option maxHeartbeats 8000000 in
theorem tableGone_in (is : Bool) (x y z : Int) (v0 : Value) (ss : List S10) (w : World) (hs : St10 w v0 ss) : CallsIn Fence.wide 4 Try.prog 10 #[.bool is, .int .i64 x, .int .i64 y, .int .i64 z, v0] w fun e w' => e = .returned (.bool true) ∧ Calm w w' := by
  obtain ⟨A, cap, rfl, hm⟩ := hs.form
  have HS := Lib.hid hs
  have HM := Lib.hid hm
  clear hs hm
  refine callsIn_of_wp_marks Try.func10 rfl trivial ?_ rfl
  simp only [Try.ntmps10, List.size_toArray, List.length_cons, List.length_nil, Nat.reduceAdd, Nat.reduceSub, Array.replicate_succ, Array.replicate_zero, List.push_toArray, List.append_toArray, List.nil_append, List.cons_append]
  gi_wp2_with fail
  refine ⟨trivial, ?_⟩
  refine (callsIn_wide.2 ((shown10_c _))).mono ?_
  rintro e w1 ⟨rfl, k1⟩
  have K1 := Lib.hid k1
  clear k1
  obtain ⟨sa, sb, sc, sd, hsb, hsc, x0, x1, x2, y0, y3, z0, u5, hs⟩ := small_c 1 x y z w1
  have hq := smallQ_ok (a := sa) (d := sd) hsb hsc
  have HQ := Lib.hid (And.intro hsb (And.intro hsc (And.intro x0 (And.intro x1 (And.intro x2 (And.intro y0 (And.intro y3 (And.intro z0 u5))))))))
  have HD : Hid ((smallQ sa sb sc sd) = ⟨[109], 1 + sa % 3, if sa % 3 = 0 then 4 else 1 + sb, 1 + sc, 1 + sd % 12⟩) := Lib.hid rfl
  generalize smallQ sa sb sc sd = q at *
  have hqn := HD.out
  obtain ⟨nm, kd, ky, vl, mx⟩ := q
  have HS : Hid (Calls Try.prog _ _ w1 fun e w' => e = .returned (.agg #[.string (str nm), .int .i64 (kd : Int), .int .i64 (ky : Int), .int .i64 (vl : Int), .int .i64 (mx : Int)]) ∧ Calm w1 w') := Lib.hid hs
  have HOK := Lib.hid hq
  have hql := hq.key
  have hqv := hq.val
  have hqm := hq.max
  simp only at hql hqv hqm
  have HB3 := Lib.hid (And.intro hql (And.intro hqv hqm))
  clear hs hq hsb hsc x0 x1 x2 y0 y3 z0 u5 hqn hql hqv hqm
  gi_wp2_with fail
  refine ⟨trivial, ?_⟩
  refine (callsIn_wide.2 (HS.out)).mono ?_
  rintro e w2 ⟨rfl, k2⟩
  have K2 := Lib.hid (K1.out.trans k2)
  clear k2 K1 HS
  have HD2 : Hid (kd = 2) := Lib.hid (by
    have h := HD.out
    obtain ⟨_, _, _, x1, _⟩ := HQ.out
    have a1 := x1 trivial
    subst a1
    simp only [MN.mk.injEq] at h
    exact h.2.1.trans (by decide))
  have HMX0 : Hid (mx ≤ 12) := Lib.hid (by
    have h := HD.out
    simp only [MN.mk.injEq] at h
    have h5 := Nat.mod_lt sd (show 0 < 12 by decide)
    rw [h.2.2.2.2]
    exact (Nat.add_comm _ _ ▸ h5 : 1 + sd % 12 ≤ 12))
  clear HQ HD
  gi_upto_region 3 with fail
  have HB := Row.made w2 52 #[.string (str nm), .int .i64 (kd : Int), .int .i64 (ky : Int), .int .i64 (vl : Int), .int .i64 (mx : Int)]
  have hkb : Calm w2 (w2.alloc (.cells #[.string (str nm), .int .i64 (kd : Int), .int .i64 (ky : Int), .int .i64 (vl : Int), .int .i64 (mx : Int)] 52)) := (Keep.refl _ w2).alloc _
  have HW := Lib.hid (K2.out.trans hkb)
  have HWs := Lib.hid (show (w2.alloc (.cells #[.string (str nm), .int .i64 (kd : Int), .int .i64 (ky : Int), .int .i64 (vl : Int), .int .i64 (mx : Int)] 52)).heap.size = w2.heap.size + 1 by simp)
  generalize w2.alloc (.cells #[.string (str nm), .int .i64 (kd : Int), .int .i64 (ky : Int), .int .i64 (vl : Int), .int .i64 (mx : Int)] 52) = W at *
  have HRow : Hid (∀ W', Calm W W' → W'.cell? ⟨w2.heap.size, 0, none⟩ = some (.string (str nm)) ∧ W'.cell? ⟨w2.heap.size, 1, none⟩ = some (.int .i64 (kd : Int)) ∧ W'.cell? ⟨w2.heap.size, 2, none⟩ = some (.int .i64 (ky : Int)) ∧ W'.cell? ⟨w2.heap.size, 3, none⟩ = some (.int .i64 (vl : Int)) ∧ W'.cell? ⟨w2.heap.size, 4, none⟩ = some (.int .i64 (mx : Int))) :=
    Lib.hid (fun W' c => ⟨((HB.keep c (fun e => e)).cell 0).trans rfl, ((HB.keep c (fun e => e)).cell 1).trans rfl, ((HB.keep c (fun e => e)).cell 2).trans rfl, ((HB.keep c (fun e => e)).cell 3).trans rfl, ((HB.keep c (fun e => e)).cell 4).trans rfl⟩)
  clear HRow
  gi_upto_if 30 with fail
  gi_cut [] from 30 (fun wc => ∃ k3 : Nat, (k3 = 2 ∨ k3 = 3) ∧ Row wc w2.heap.size 52 #[.string (str nm), .int .i64 (k3 : Int), .int .i64 (ky : Int), .int .i64 (vl : Int), .int .i64 (mx : Int)] ∧ Calm w wc)
  case first =>
    have f1 := HB.soft 1
    have c1 := HB.cell 1
    have hw2 : w.heap.size ≤ w2.heap.size := K2.out.size
    gi_wp2_with fail
    · gi_meet
      exact ⟨3, .inr rfl, by simpa using HB.store 1 (.int .i64 3), HW.out.store (p := ⟨w2.heap.size, 1, none⟩) (fun h => by have h' : w2.heap.size < w.heap.size := h; omega) _⟩
    · gi_meet
      exact ⟨kd, .inl HD2.out, HB, HW.out⟩
  case rest =>
  obtain ⟨k3, hk3, HB3', hc3⟩ := hcut
  clear HB hkb K2 HW HWs
  have HOK3 : Hid (MN.Ok ⟨nm, k3, ky, vl, mx⟩) := Lib.hid (by
    have h := HOK.out
    rw [HD2.out] at h
    rcases hk3 with e | e
    · subst e; exact h
    · subst e; exact ok_lru h)
  have HK3 := Lib.hid hk3
  have HW := Lib.hid hc3
  have HRow : Hid (∀ W', Calm wc W' → W'.cell? ⟨w2.heap.size, 0, none⟩ = some (.string (str nm)) ∧ W'.cell? ⟨w2.heap.size, 1, none⟩ = some (.int .i64 (k3 : Int)) ∧ W'.cell? ⟨w2.heap.size, 2, none⟩ = some (.int .i64 (ky : Int)) ∧ W'.cell? ⟨w2.heap.size, 3, none⟩ = some (.int .i64 (vl : Int)) ∧ W'.cell? ⟨w2.heap.size, 4, none⟩ = some (.int .i64 (mx : Int))) :=
    Lib.hid (fun W' c => ⟨((HB3'.keep c (fun e => e)).cell 0).trans rfl, ((HB3'.keep c (fun e => e)).cell 1).trans rfl, ((HB3'.keep c (fun e => e)).cell 2).trans rfl, ((HB3'.keep c (fun e => e)).cell 3).trans rfl, ((HB3'.keep c (fun e => e)).cell 4).trans rfl⟩)
  clear hk3 HB3' hc3 HOK
  generalize wc = W at *
  have HN : Hid (Calls Try.prog 27 #[.agg #[.string (str nm), .int .i64 (k3 : Int), .int .i64 (ky : Int), .int .i64 (vl : Int), .int .i64 (mx : Int)]] W fun e w' => ∃ v : Value, e = .returned (.tuple #[v, .int .i64 0]) ∧ NewT ⟨nm, k3, ky, vl, mx⟩ W v w') := Lib.hid (tNew_yes ⟨nm, k3, ky, vl, mx⟩ HOK3.out W)
  obtain ⟨d0, d1, d2, d3, d4⟩ := HRow.out W (Keep.refl _ W)
  gi_wp2_with fail
  refine ⟨trivial, ?_⟩
  refine (callsIn_wide.2 (HN.out)).mono ?_
  rintro e w3 ⟨v, rfl, tb, E, rfl, hE, hT⟩
  have HT := Lib.hid (tab_no hT)
  have HE := Lib.hid hE
  clear hT hE HN d0 d1 d2 d3 d4
  gi_upto_region 8 with fail
  iterate 14 (first | (guard_target =~ Code.wpIn _ _ _ (Code.block _ _) _ _ _) | go_values | gi_guarded | gi_step | gi_upon | gi_back)
  have HT0 : Hid (SomeT W tb ⟨nm, k3, ky, vl, mx⟩ w3) := Lib.hid ⟨E, HT.out⟩
  gi_cut [15] from 43 (fun _ wc => SomeT W tb ⟨nm, k3, ky, vl, mx⟩ wc)
  case first =>
    gi_wp2_with fail
    gi_loopw [15] (fun i wr => ∃ j : Nat, j ≤ 20 ∧ i = .int .i64 (j : Int) ∧ SomeT W tb ⟨nm, k3, ky, vl, mx⟩ wr) (fun i _ => 20 - (intOf i).toNat)
    case atStart => exact ⟨0, by omega, rfl, HT0.out⟩
    case round =>
      obtain ⟨j, hj, rfl, hT⟩ := hrel
      by_cases i1 : j < ss.length
      · by_cases i2 : j < 20
        · obtain ⟨E2, hT⟩ := hT
          have HTr := Lib.hid hT
          have HS0 : Hid (Calm W wr.drew) := Lib.hid hT.calm_.drew
          obtain ⟨ad, s, rfl, hsj, hsl, hcell⟩ := HS.out.all j i1
          have QK : Hid (∀ w', Calm W w' → w'.cell? ⟨(ad.add (j * 7)).block, (ad.add (j * 7)).off + 1, none⟩ = some (.string (str s.ky))) := Lib.hid (fun w' k => (hcell w' (HW.out.trans k)).2.1)
          have QV : Hid (∀ w', Calm W w' → w'.cell? ⟨(ad.add (j * 7)).block, (ad.add (j * 7)).off + 2, none⟩ = some (.string (str s.v))) := Lib.hid (fun w' k => (hcell w' (HW.out.trans k)).2.2.1)
          have QM2 : Hid (∀ w', Calm W w' → w'.cell? ⟨w2.heap.size, 2, none⟩ = some (.int .i64 (ky : Int))) := Lib.hid (fun w' k => (HRow.out w' k).2.2.1)
          have QM3 : Hid (∀ w', Calm W w' → w'.cell? ⟨w2.heap.size, 3, none⟩ = some (.int .i64 (vl : Int))) := Lib.hid (fun w' k => (HRow.out w' k).2.2.2.1)
          have HSL := Lib.hid hsl
          have HJ := Lib.hid (And.intro i2 hj)
          clear hT hsj hsl hcell hj
          gi_wp2_with fail
          refine wpIn_wide.2 ?_
          refine wp_region_noPanic ?_
          refine wp_region_held_drew (S := fun w' => Calm W w') (by kernel_rfl) HS0.out (fun hHeld => ?_)
          refine take_at 0 53 (.pointer (some ⟨tb, 0, none⟩)) rfl rfl (by kernel_rfl) (by kernel_rfl) (by kernel_rfl) (fun _ _ _ h => h) (Or.inl ⟨by rfl, ?_⟩) hHeld ?_
          · intro w hSw; go_simp
          simp only [List.setIfInBounds_toArray, List.set_cons_zero, List.set_cons_succ]
          refine take_at 1 54 (.slice (some ad) ss.length cap) rfl rfl (by kernel_rfl) (by kernel_rfl) (by kernel_rfl) (fun _ _ _ h => h) (Or.inl ⟨by rfl, ?_⟩) hHeld ?_
          · intro w hSw; go_simp
          simp only [List.setIfInBounds_toArray, List.set_cons_zero, List.set_cons_succ]
          refine take_at 2 55 (.int .i64 (j : Int)) rfl rfl (by kernel_rfl) (by kernel_rfl) (by kernel_rfl) (fun _ _ _ h => h) (Or.inl ⟨by rfl, ?_⟩) hHeld ?_
          · intro w hSw; go_simp
          simp only [List.setIfInBounds_toArray, List.set_cons_zero, List.set_cons_succ]
          refine take_at 3 56 (.pointer (some (ad.add (j * 7)))) rfl rfl (by kernel_rfl) (by kernel_rfl) (by kernel_rfl) (fun _ _ _ h => h) (Or.inl ⟨by rfl, ?_⟩) hHeld ?_
          · intro w hSw; go_simp
          simp only [List.setIfInBounds_toArray, List.set_cons_zero, List.set_cons_succ]
          refine take_at 4 57 (.pointer (some ((ad.add (j * 7)).add 1))) rfl rfl (by kernel_rfl) (by kernel_rfl) (by kernel_rfl) (fun _ _ _ h => h) (Or.inl ⟨by rfl, ?_⟩) hHeld ?_
          · intro w hSw; go_simp
          simp only [List.setIfInBounds_toArray, List.set_cons_zero, List.set_cons_succ]
          refine take_at 5 58 (.string (str s.ky)) rfl rfl (by kernel_rfl) (by kernel_rfl) (by kernel_rfl) (fun _ _ _ h => h) (Or.inl ⟨by rfl, ?_⟩) hHeld ?_
          · intro w hSw; have e := QK.out w hSw; go_simp
          simp only [List.setIfInBounds_toArray, List.set_cons_zero, List.set_cons_succ]
          refine take_at 6 59 (.pointer (some ⟨w2.heap.size, 2, none⟩)) rfl rfl (by kernel_rfl) (by kernel_rfl) (by kernel_rfl) (fun _ _ _ h => h) (Or.inl ⟨by rfl, ?_⟩) hHeld ?_
          · intro w hSw; go_simp
          simp only [List.setIfInBounds_toArray, List.set_cons_zero, List.set_cons_succ]
          refine take_at 7 60 (.int .i64 (ky : Int)) rfl rfl (by kernel_rfl) (by kernel_rfl) (by kernel_rfl) (fun _ _ _ h => h) (Or.inl ⟨by rfl, ?_⟩) hHeld ?_
          · intro w hSw; have e := QM2.out w hSw; go_simp
          simp only [List.setIfInBounds_toArray, List.set_cons_zero, List.set_cons_succ]
          refine take_at 10 63 (.slice (some ad) ss.length cap) rfl rfl (by kernel_rfl) (by kernel_rfl) (by kernel_rfl) (fun _ _ _ h => h) (Or.inl ⟨by rfl, ?_⟩) hHeld ?_
          · intro w hSw; go_simp
          simp only [List.setIfInBounds_toArray, List.set_cons_zero, List.set_cons_succ]
          refine take_at 11 64 (.int .i64 (j : Int)) rfl rfl (by kernel_rfl) (by kernel_rfl) (by kernel_rfl) (fun _ _ _ h => h) (Or.inl ⟨by rfl, ?_⟩) hHeld ?_
          · intro w hSw; go_simp
          simp only [List.setIfInBounds_toArray, List.set_cons_zero, List.set_cons_succ]
          refine take_at 12 65 (.pointer (some (ad.add (j * 7)))) rfl rfl (by kernel_rfl) (by kernel_rfl) (by kernel_rfl) (fun _ _ _ h => h) (Or.inl ⟨by rfl, ?_⟩) hHeld ?_
          · intro w hSw; go_simp
          simp only [List.setIfInBounds_toArray, List.set_cons_zero, List.set_cons_succ]
          refine take_at 13 66 (.pointer (some ((ad.add (j * 7)).add 2))) rfl rfl (by kernel_rfl) (by kernel_rfl) (by kernel_rfl) (fun _ _ _ h => h) (Or.inl ⟨by rfl, ?_⟩) hHeld ?_
          · intro w hSw; go_simp
          simp only [List.setIfInBounds_toArray, List.set_cons_zero, List.set_cons_succ]
          refine take_at 14 67 (.string (str s.v)) rfl rfl (by kernel_rfl) (by kernel_rfl) (by kernel_rfl) (fun _ _ _ h => h) (Or.inl ⟨by rfl, ?_⟩) hHeld ?_
          · intro w hSw; have e := QV.out w hSw; go_simp
          simp only [List.setIfInBounds_toArray, List.set_cons_zero, List.set_cons_succ]
          refine take_at 15 68 (.pointer (some ⟨w2.heap.size, 3, none⟩)) rfl rfl (by kernel_rfl) (by kernel_rfl) (by kernel_rfl) (fun _ _ _ h => h) (Or.inl ⟨by rfl, ?_⟩) hHeld ?_
          · intro w hSw; go_simp
          simp only [List.setIfInBounds_toArray, List.set_cons_zero, List.set_cons_succ]
          refine take_at 16 69 (.int .i64 (vl : Int)) rfl rfl (by kernel_rfl) (by kernel_rfl) (by kernel_rfl) (fun _ _ _ h => h) (Or.inl ⟨by rfl, ?_⟩) hHeld ?_
          · intro w hSw; have e := QM3.out w hSw; go_simp
          simp only [List.setIfInBounds_toArray, List.set_cons_zero, List.set_cons_succ]
          refine wpAnyH_ready (rs := [8]) (by kernel_rfl) (by simp) ?_
          refine AllReadyH.cons rfl (fun K hK => ?_) AllReadyH.nil
          go_simp
          refine (fit_c s.ky ky (by have := HB3.out; omega) HSL.out.1 wr.drew).mono ?_
          rintro e wa ⟨rfl, cwa⟩
          go_wp2_with fail
          refine hK.out _ _ (hHeld.trans cwa) (fun hHeld => ?_)
          clear hK K
          try simp only [List.setIfInBounds_toArray, List.set_cons_zero, List.set_cons_succ]
          obtain ⟨cK, WK, hcK, hrK, hkK⟩ := bytes_of wa (fitL s.ky ky) ky (fitL_len _ _) (by have := HB3.out; omega)
          refine wpAnyH_ready (rs := [9, 17]) (by kernel_rfl) (by simp) ?_
          refine AllReadyH.cons rfl (fun K hK => ?_) ?_
          · go_simp
            refine hK.out _ _ (hHeld.trans hkK) (fun hHeld => ?_)
            clear hK K
            try simp only [List.setIfInBounds_toArray, List.set_cons_zero, List.set_cons_succ]
            refine wpAnyH_ready (rs := [17]) (by kernel_rfl) (by simp) ?_
            refine AllReadyH.cons rfl (fun K hK => ?_) AllReadyH.nil
            go_simp
            refine (fit_c s.v vl (by have := HB3.out; omega) HSL.out.2 WK).mono ?_
            rintro e wb ⟨rfl, cwb⟩
            go_wp2_with fail
            refine hK.out _ _ (hHeld.trans cwb) (fun hHeld => ?_)
            clear hK K
            try simp only [List.setIfInBounds_toArray, List.set_cons_zero, List.set_cons_succ]
            obtain ⟨cV, WV, hcV, hrV, hkV⟩ := bytes_of wb (fitL s.v vl) vl (fitL_len _ _) (by have := HB3.out; omega)
            refine wpAnyH_ready (rs := [18]) (by kernel_rfl) (by simp) ?_
            refine AllReadyH.cons rfl (fun K hK => ?_) AllReadyH.nil
            go_simp
            refine hK.out _ _ (hHeld.trans hkV) (fun hHeld => ?_)
            clear hK K
            try simp only [List.setIfInBounds_toArray, List.set_cons_zero, List.set_cons_succ]
            refine wpAnyH_ready (rs := [19]) (by kernel_rfl) (by simp) ?_
            refine AllReadyH.cons rfl (fun K hK => ?_) AllReadyH.nil
            go_simp
            have HU := Lib.hid (update_any (HTr.out.rest (((((Keep.refl _ wr).drew.trans cwa).trans hkK).trans cwb).trans hkV)) ((hrK.calm cwb).calm hkV) hrV 0)
            refine HU.out.mono ?_
            rintro e wz ⟨n, rfl, -, hZ⟩
            have HZ := Lib.hid hZ
            clear hZ HU
            go_wp2_with fail
            refine hK.out _ _ HZ.out.choose_spec.calm_ (fun hHeld => ?_)
            clear hK K
            try simp only [List.setIfInBounds_toArray, List.set_cons_zero, List.set_cons_succ]
            refine wpAnyH_done (by kernel_rfl) (NoPanic.normal ?_) _
            gi_wp2_with fail
            go_roundw
            case rel => exact ⟨j + 1, by have := HJ.out; omega, by go_num, HZ.out⟩
            case measure => have := HJ.out; simp [intOf]; omega
          refine AllReadyH.cons rfl (fun K hK => ?_) AllReadyH.nil
          go_simp
          refine (fit_c s.v vl (by have := HB3.out; omega) HSL.out.2 wa).mono ?_
          rintro e wb ⟨rfl, cwb⟩
          go_wp2_with fail
          refine hK.out _ _ (hHeld.trans cwb) (fun hHeld => ?_)
          clear hK K
          try simp only [List.setIfInBounds_toArray, List.set_cons_zero, List.set_cons_succ]
          obtain ⟨cP, WP, hcP, hrP, hkP⟩ := bytes_of wb (fitL s.ky ky) ky (fitL_len _ _) (by have := HB3.out; omega)
          obtain ⟨cQ, WQ, hcQ, hrQ, hkQ⟩ := bytes_of wb (fitL s.v vl) vl (fitL_len _ _) (by have := HB3.out; omega)
          refine wpAnyH_ready (rs := [9, 18]) (by kernel_rfl) (by simp) ?_
          refine AllReadyH.cons rfl (fun K hK => ?_) ?_
          · go_simp
            refine hK.out _ _ (hHeld.trans hkP) (fun hHeld => ?_)
            clear hK K
            try simp only [List.setIfInBounds_toArray, List.set_cons_zero, List.set_cons_succ]
            obtain ⟨cV, WV, hcV, hrV, hkV⟩ := bytes_of WP (fitL s.v vl) vl (fitL_len _ _) (by have := HB3.out; omega)
            refine wpAnyH_ready (rs := [18]) (by kernel_rfl) (by simp) ?_
            refine AllReadyH.cons rfl (fun K hK => ?_) AllReadyH.nil
            go_simp
            refine hK.out _ _ (hHeld.trans hkV) (fun hHeld => ?_)
            clear hK K
            try simp only [List.setIfInBounds_toArray, List.set_cons_zero, List.set_cons_succ]
            refine wpAnyH_ready (rs := [19]) (by kernel_rfl) (by simp) ?_
            refine AllReadyH.cons rfl (fun K hK => ?_) AllReadyH.nil
            go_simp
            have HU := Lib.hid (update_any (HTr.out.rest (((((Keep.refl _ wr).drew.trans cwa).trans cwb).trans hkP).trans hkV)) (hrP.calm hkV) hrV 0)
            refine HU.out.mono ?_
            rintro e wz ⟨n, rfl, -, hZ⟩
            have HZ := Lib.hid hZ
            clear hZ HU
            go_wp2_with fail
            refine hK.out _ _ HZ.out.choose_spec.calm_ (fun hHeld => ?_)
            clear hK K
            try simp only [List.setIfInBounds_toArray, List.set_cons_zero, List.set_cons_succ]
            refine wpAnyH_done (by kernel_rfl) (NoPanic.normal ?_) _
            gi_wp2_with fail
            go_roundw
            case rel => exact ⟨j + 1, by have := HJ.out; omega, by go_num, HZ.out⟩
            case measure => have := HJ.out; simp [intOf]; omega
          refine AllReadyH.cons rfl (fun K hK => ?_) AllReadyH.nil
          go_simp
          refine hK.out _ _ (hHeld.trans hkQ) (fun hHeld => ?_)
          clear hK K
          try simp only [List.setIfInBounds_toArray, List.set_cons_zero, List.set_cons_succ]
          obtain ⟨cV, WV, hcV, hrV, hkV⟩ := bytes_of WQ (fitL s.ky ky) ky (fitL_len _ _) (by have := HB3.out; omega)
          refine wpAnyH_ready (rs := [9]) (by kernel_rfl) (by simp) ?_
          refine AllReadyH.cons rfl (fun K hK => ?_) AllReadyH.nil
          go_simp
          refine hK.out _ _ (hHeld.trans hkV) (fun hHeld => ?_)
          clear hK K
          try simp only [List.setIfInBounds_toArray, List.set_cons_zero, List.set_cons_succ]
          refine wpAnyH_ready (rs := [19]) (by kernel_rfl) (by simp) ?_
          refine AllReadyH.cons rfl (fun K hK => ?_) AllReadyH.nil
          go_simp
          have HU := Lib.hid (update_any (HTr.out.rest (((((Keep.refl _ wr).drew.trans cwa).trans cwb).trans hkQ).trans hkV)) hrV (hrQ.calm hkV) 0)
          refine HU.out.mono ?_
          rintro e wz ⟨n, rfl, -, hZ⟩
          have HZ := Lib.hid hZ
          clear hZ HU
          go_wp2_with fail
          refine hK.out _ _ HZ.out.choose_spec.calm_ (fun hHeld => ?_)
          clear hK K
          try simp only [List.setIfInBounds_toArray, List.set_cons_zero, List.set_cons_succ]
          refine wpAnyH_done (by kernel_rfl) (NoPanic.normal ?_) _
          gi_wp2_with fail
          go_roundw
          case rel => exact ⟨j + 1, by have := HJ.out; omega, by go_num, HZ.out⟩
          case measure => have := HJ.out; simp [intOf]; omega
        · gi_wp2_with fail
          gi_meet
          exact hT
      · gi_wp2_with fail
        gi_meet
        exact hT
  case rest =>
    obtain ⟨E2, hT⟩ := hcut
    have HT2 := Lib.hid hT
    clear hT HT HE HT0 HS HM
    gi_wp2_with fail
    have A0 := Row.made wc 34 #[.slice none 0 0]
    have hCa : Calm wc (wc.alloc (.cells #[.slice none 0 0] 34)) := (Keep.refl _ wc).alloc _
    have hza : (wc.alloc (.cells #[.slice none 0 0] 34)).heap.size = wc.heap.size + 1 := by simp
    refine ⟨trivial, ?_⟩
    refine (callsIn_wide.2 (tall_c tb _)).mono ?_
    rintro e W5 ⟨rfl, hw5⟩
    generalize wc.alloc (.cells #[.slice none 0 0] 34) = wa at *
    have A1 := A0.alloc (.cells #[.pointer (some ⟨tb, 0, none⟩)] 54)
    have A2 := Row.made wa 54 #[.pointer (some ⟨tb, 0, none⟩)]
    have hC5 : Calm wa (wa.alloc (.cells #[.pointer (some ⟨tb, 0, none⟩)] 54)) := (Keep.refl _ wa).alloc _
    have hz5 : (wa.alloc (.cells #[.pointer (some ⟨tb, 0, none⟩)] 54)).heap.size = wc.heap.size + 2 := by simp [hza]
    rw [hw5] at A1 A2 hC5 hz5
    have s1 : W5.cell? ⟨wc.heap.size, 0, none⟩ = some (.slice none 0 0) := (A1.cell 0).trans rfl
    have s1f := A1.soft 0
    have s2 : W5.cell? ⟨wa.heap.size, 0, none⟩ = some (.pointer (some ⟨tb, 0, none⟩)) := (A2.cell 0).trans rfl
    have hT5 := HT2.out.rest (hCa.trans hC5)
    obtain ⟨ev, hev, htl, hAll⟩ := tab_all hT5
    have hes := told_few hT5
    have HKS : Hid ((told ⟨nm, k3, ky, vl, mx⟩ E2).map (·.1) = keysL (ordK ⟨nm, k3, ky, vl, mx⟩ E2)) := Lib.hid (told_keys _ _)
    have HKN := Lib.hid (ordK_nodup (q := ⟨nm, k3, ky, vl, mx⟩) hT5.keys)
    have HKM : Hid (∀ k, k ∈ keysL E2 ↔ k ∈ keysL (ordK ⟨nm, k3, ky, vl, mx⟩ E2)) := Lib.hid (fun k => (ordK_keys ⟨nm, k3, ky, vl, mx⟩ E2).mem_iff.symm)
    have HKE : Hid ((keysL (ordK ⟨nm, k3, ky, vl, mx⟩ E2)).length = E2.length) := Lib.hid (by rw [(ordK_keys ⟨nm, k3, ky, vl, mx⟩ E2).length_eq, len_keys])
    generalize told ⟨nm, k3, ky, vl, mx⟩ E2 = es at *
    generalize keysL (ordK ⟨nm, k3, ky, vl, mx⟩ E2) = ks at *
    have HAll := Lib.hid hAll
    have HC5 := Lib.hid (hCa.trans hC5)
    have Hz := Lib.hid (And.intro hza hz5)
    have HES := Lib.hid hes
    have HTL := Lib.hid (And.intro hev htl)
    clear hT5 hAll hCa hC5 A0 A1 A2 hw5 hza hz5 hes hev htl
    gi_wp2_with fail
    refine wpIn_rangeFunc_ownG (F := Fence.wide) (α := {x // x ∈ es}) rfl (by omega) (gf := 62) (lb := #[.pointer (some ⟨wa.heap.size, 0, none⟩)]) rfl trivial (enters_of Try.func62 (by kernel_rfl) rfl)
      (tall_stops (4 - 1) (by omega) wa.heap.size tb (by have := HES.out; omega) (by have := Hz.out; omega) s2 HTL.out.1 HTL.out.2 HAll.out)
      (fun h k => tkp_t h k) (fun W l o o' _ h hc _ => tkp_b W l o o' h hc) (Below.refl _ _) (fun _ => rfl)
      (SJ9 wc W5 wc.heap.size es) (fun _ _ _ => False) (SJ9.own (by have := Hz.out; omega)) (fun _ _ _ _ _ h _ _ => h)
      ⟨HC5.out, Nat.le_refl _, _, s1, s1f, OwnS.nil _ _⟩ (fun xe => { tmps := #[Value.bool is, Value.int IntKind.i64 x, Value.int IntKind.i64 y, Value.int IntKind.i64 z, Value.slice A ss.length cap, undef, undef, undef, undef, undef, Value.bool false, Value.bool true, Value.pointer (some { block := w2.heap.size, off := 0 }), Value.pointer (some { block := tb, off := 0 }), Value.int IntKind.i64 0, u15, Value.pointer (some { block := wc.heap.size, off := 0 }), .string (str xe.1.1), undef, undef, undef, undef, undef, undef, undef, Value.bool true, Value.int IntKind.i64 x, Value.int IntKind.i64 y, Value.int IntKind.i64 z, Value.agg #[Value.string (str nm), Value.int IntKind.i64 ↑kd, Value.int IntKind.i64 ↑ky, Value.int IntKind.i64 ↑vl, Value.int IntKind.i64 ↑mx], u30, u31, Value.tuple #[Value.pointer (some { block := tb, off := 0 }), Value.int IntKind.i64 0], Value.agg #[Value.string (str nm), Value.int IntKind.i64 ↑k3, Value.int IntKind.i64 ↑ky, Value.int IntKind.i64 ↑vl, Value.int IntKind.i64 ↑mx], Value.tuple #[Value.pointer (some { block := tb, off := 0 }), Value.int IntKind.i64 0], Value.pointer (some { block := tb, off := 0 }), Value.int IntKind.i64 0, Value.pointer (some { block := tb, off := 0 }), Value.bool false, Value.bool false, Value.int IntKind.i64 0, Value.bool false, Value.bool false, u43, u44, u45, u46, u47, u48, u49, u50, u51, u52, u53, u54, u55, u56, u57, u58, u59, u60, u61, u62, u63, u64, u65, u66, u67, u68, u69, u70, u71, u72, Value.pointer (some { block := tb, off := 0 }), Value.func (Fn.func 62) #[] #[Value.pointer (some { block := wa.heap.size, off := 0 })], .string (str xe.1.1), .slice xe.1.2.1 xe.1.2.2.1 xe.1.2.2.2, u77, u78, u79, u80, u81, u82, u83, u84, u85, u86, u87, u88, u89, u90, u91, u92, u93, u94, u95, u96, u97, u98, u99, u100, u101, u102, u103, u104, u105, u106, u107, u108, u109, u110, u111, u112, u113, u114, u115, u116, u117, u118, u119, u120, u121, u122, u123, u124, u125, u126, u127, u128, u129, u130, u131, u132, u133, u134, u135, u136, u137, u138, u139, u140, u141, u142, u143, u144, u145, u146, u147, u148, u149], defers := [] }) ?assign ?body ?done ?stop
    case assign =>
      intro l x W K hK
      have HK := Lib.hid hK
      clear hK
      unfold encE
      gi_wp2
      exact HK.out
    case stop =>
      rintro D c pre W hD _ hn hK
      exact hn.elim
    case body =>
      rintro l pre ⟨⟨xk, xA, xn, xc⟩, hx⟩ W6 ⟨p2, p3, v, t3, t3f, ho⟩ hlen
      obtain ⟨A, c, rfl⟩ := ho.form
      obtain ⟨N, hN⟩ : ∃ N, N = (pre.map (·.1.1)).length := ⟨_, rfl⟩
      rw [← hN] at ho t3
      have hNl : N ≤ 1100 := by
        have h2 := HES.out
        rw [hN, List.length_map]
        omega
      have HN : Hid (∀ i u, (flatS [xk])[i]? = some u → (W6.alloc (.cells #[.string (str xk)] 9)).cell? ((⟨W6.heap.size, 0, none⟩ : Addr).add i) = some u) := Lib.hid (fun i u hi => by
        rw [addr_mid, Nat.zero_add, (Row.made W6 9 #[.string (str xk)]).cell]
        simpa [flatS] using hi)
      have hkA : Calm W6 (W6.alloc (.cells #[.string (str xk)] 9)) := (Keep.refl _ W6).alloc _
      have HO2 := Lib.hid (ho.calm hkA)
      have HKA := Lib.hid hkA
      have HT : Hid (wc.heap.size < W6.heap.size ∧ W5.heap.size ≤ W6.heap.size) := Lib.hid ⟨by have := Hz.out; omega, p3⟩
      have HX := Lib.hid (And.intro hN hNl)
      have P2 := Lib.hid p2
      have HTC := Lib.hid (And.intro t3 t3f)
      have HO := Lib.hid ho
      have STEP : ∀ (A2 : Option Addr) (c2 : Nat) (w2 : World), OwnS w2 W5.heap.size (.slice A2 (N + 1) c2) ((pre.map (·.1.1)) ++ [xk]) → (W6.alloc (.cells #[.string (str xk)] 9)).grownBy w2 (Value.slice A N c).ownBlock →
          (w2.cell? ⟨wc.heap.size, 0, none⟩ = some (.slice A N c) ∧ w2.frozen? ⟨wc.heap.size, 0, none⟩ = false) ∧ Keep (fun i => (Value.slice A N c).ownBlock = some i) W6 w2 := by
        intro A2 c2 w2 _ hg
        have hK : Keep (fun i => (Value.slice A N c).ownBlock = some i) W6 w2 := (hkA.keep _).trans (keep_grownT hg)
        have hnd : ¬ (Value.slice A N c).ownBlock = some wc.heap.size := fun e => by have := (ho.block e).1; have := Hz.out; omega
        exact ⟨⟨(hK.cell (p := ⟨wc.heap.size, 0, none⟩) HT.out.1 hnd).trans t3, (hK.soft (p := ⟨wc.heap.size, 0, none⟩) HT.out.1 hnd).trans t3f⟩, hK⟩
      have HST := Lib.hid STEP
      clear ho hN hNl hkA p2 p3 hlen t3f STEP s1 s1f s2
      gi_wp2_with (gi_at_builtin; go_loud (refine round_append_strs9 rfl (.tmp 77) (.tmp 79) rfl W5.heap.size (.slice A N c) (pre.map (·.1.1)) rfl HO2.out ⟨W6.heap.size, 0, none⟩ 1 1 [xk] rfl rfl HN.out (by rw [← HX.out.1]; have := HX.out.2; omega) (Nat.le_trans HT.out.2 HKA.out.size) (N + 1) (by have := HX.out.1; simp at this ⊢; omega) ?_); intro A2 c2 wq ho2 hg2 hb2; obtain ⟨⟨t4, t4f⟩, hk2⟩ := HST.out A2 c2 wq ho2 hg2; have HO3 := Lib.hid ho2; have HK2 := Lib.hid hk2; clear ho2 hg2 hb2 hk2)
      have hT0 : wc.heap.size < W5.heap.size := by have := Hz.out; omega
      have hrow : ∀ k, (Value.slice A N c).ownBlock = some k → W5.heap.size ≤ k := fun k e => (HO.out.block e).1
      have hs2 : (wq.setCell ⟨wc.heap.size, 0, none⟩ (.slice A2 (N + 1) c2)).heap.size = wq.heap.size := by simp [World.setCell]
      refine ⟨⟨by rw [hs2]; exact HK2.out.size, fun k o hB hk hc => ?_⟩, ?_, ?_⟩
      · refine (Below.heap_setCell _ _ _ _ (by show k ≠ wc.heap.size; omega)).trans ((HK2.out.block k (Array.getElem?_eq_some_iff.1 hk).1 (fun e => ?_)).trans hk)
        rw [HO.out.isRow e hk] at hc
        cases hc
      · intro g cs h0 hr
        have hgn : ¬ (Value.slice A N c).ownBlock = some g := fun e => HO.out.notRow e hr
        exact (hr.keep HK2.out hgn).far (p := ⟨wc.heap.size, 0, none⟩) (by show g ≠ wc.heap.size; omega) _
      · refine ⟨(P2.out.then_ HK2.out (fun i hi e => by have := hrow i e; omega)).store (p := ⟨wc.heap.size, 0, none⟩) (fun h => by have h' : wc.heap.size < wc.heap.size := h; omega) _, by rw [hs2]; exact Nat.le_trans HT.out.2 HK2.out.size, _, World.cell?_setCell_same' _ _ _ (by rw [t4]; rfl), (World.frozen?_setCell _ _ _ _).trans t4f, ?_⟩
        rw [List.map_append]
        refine (show OwnS _ _ (.slice A2 (N + 1) c2) _ from HO3.out.move (fun g hv hl => Below.heap_setCell _ _ _ _ ?_))
        have := (HO3.out.block hv).1
        show g ≠ wc.heap.size
        omega
    case done =>
      rintro D ys W6 hD rfl ⟨p2, p3, v, t3, t3f, ho⟩ hK
      have ek : es.attach.map (·.1.1) = ks := by
        rw [← HKS.out]
        have h := congrArg (List.map (·.1)) (List.attach_map_subtype_val es)
        rw [List.map_map] at h
        exact h
      rw [ek] at ho
      have HKL : Hid (∀ k ∈ ks, k.length = ky) := Lib.hid (fun k hk => by
        obtain ⟨x, hx, rfl⟩ := List.mem_map.1 ((HKM.out k).2 hk)
        exact HT2.out.klen x hx)
      obtain ⟨A, c, rfl⟩ := ho.form
      obtain ⟨n, hn⟩ : ∃ n, n = ks.length := ⟨_, rfl⟩
      rw [← hn] at t3
      have hS : ∃ S2 : Nat → Prop, S2 = fun i => Btw wc.heap.size W6.heap.size i := ⟨_, rfl⟩
      obtain ⟨S2, hS2⟩ := hS
      have hKS0 : KSet W S2 tb ⟨nm, k3, ky, vl, mx⟩ n (fun k => k ∈ ks) W6 := ⟨E2, (HT2.out.room p2).less (fun i h => .inr (by rw [hS2] at h; exact h)), by rw [hn, HKE.out], HKM.out⟩
      have hb0 : wc.heap.size < W6.heap.size := by have := Hz.out; omega
      have hbS : S2 wc.heap.size := by rw [hS2]; exact ⟨Nat.le_refl _, hb0⟩
      have hDl : D < W6.heap.size := (Array.getElem?_eq_some_iff.1 hK).1
      have hDS : S2 D := by rw [hS2]; exact ⟨by have := Hz.out; omega, hDl⟩
      have hEL : ∀ j k, ks[j]? = some k → ∃ g, A = some ⟨g, 0, none⟩ ∧ n ≤ c ∧ c ≤ maxLen ∧ S2 g ∧ W6.cell? ⟨g, j, none⟩ = some (.string (str k)) := fun j k hj => by
        have hne : ks ≠ [] := fun e => by rw [e] at hj; simp at hj
        obtain ⟨g, c', e, h1, h2, h3, h4⟩ := ho.some_ hne
        injection e with e1 e2 e3
        subst e1 e3
        have hc := h4 j _ (flatS_at ks j k hj)
        refine ⟨g, rfl, by omega, h2, ?_, hc⟩
        rw [hS2]
        exact ⟨by have := Hz.out; omega, World.block_lt_of_cell? _ _ hc⟩
      have HEL := Lib.hid hEL
      have HNn := Lib.hid hn
      have HBS := Lib.hid hbS
      have HBC := Lib.hid (And.intro t3 t3f)
      have HKS0 := Lib.hid hKS0
      have HDS := Lib.hid hDS
      have HDK := Lib.hid hK
      have HDl : Hid (w.heap.size ≤ D) := Lib.hid (by have h1 := HW.out.size; have h2 := HT2.out.calm_.size; have := Hz.out; omega)
      have HNL : Hid (n ≤ 1100) := Lib.hid (by have h1 := HKE.out; have h2 := HT2.out.few; have h3 := HB3.out; simp only at h2; omega)
      have HK1 : Hid (k3 ≠ 1) := Lib.hid (by have := HK3.out; omega)
      have hS2l : ∀ i, S2 i → i < W6.heap.size := fun i h => by rw [hS2] at h; exact h.2
      have HSl := Lib.hid hS2l
      clear ho p2 p3 t3 t3f hS2 hKS0 hb0 hbS hDl hDS hEL hn ek s1 s1f s2 hK hD hS2l
      gi_wp2_with fail
      gi_loopw [18] (fun i wr => ∃ j : Nat, j ≤ n ∧ i = .int .i64 (j : Int) ∧ KSet W S2 tb ⟨nm, k3, ky, vl, mx⟩ (n - j) (fun k => k ∈ ks.drop j) wr ∧ Held S2 W6 wr) (fun i _ => n - (intOf i).toNat)
      case atStart => exact ⟨0, Nat.zero_le _, rfl, HKS0.out, Held.refl _ _⟩
      case round =>
        obtain ⟨j, hj, rfl, hT, hH⟩ := hrel
        have bx := hH.cell_ HBS.out HBC.out.1
        by_cases hlt : j < n
        · obtain ⟨k, hk⟩ : ∃ k, ks[j]? = some k := ⟨_, List.getElem?_eq_getElem (by have := HNn.out; omega)⟩
          obtain ⟨g, rfl, hc1, hc2, hgS, hcl⟩ := HEL.out j k hk
          have el := hH.cell_ hgS hcl
          obtain ⟨m, hm⟩ : ∃ m, n - j = m + 1 := ⟨n - j - 1, by omega⟩
          rw [hm] at hT
          have hkl := HKL.out k (List.mem_of_getElem? hk)
          have hkd : k ∈ ks.drop j := by
            rw [List.mem_iff_getElem?]
            exact ⟨0, by rw [List.getElem?_drop]; simpa using hk⟩
          obtain ⟨cK, U1, hcv, hr1, hk1, hz1⟩ := bytes_box wr k ky hkl (by have := HB3.out; omega)
          obtain ⟨S3, hS3⟩ : ∃ S3 : Nat → Prop, S3 = fun i => S2 i ∨ Btw wr.heap.size U1.heap.size i := ⟨_, rfl⟩
          have hT1 := hT.room hk1
          rw [← hS3] at hT1
          have HD1 := Lib.hid (ks_del hT1 hr1 hkl HK1.out hkd)
          have HUR := Lib.hid hr1
          have HKV : Hid (S3 wr.heap.size ∧ ∀ i, S2 i → S3 i) := Lib.hid ⟨by rw [hS3]; exact .inr ⟨Nat.le_refl _, by omega⟩, fun i h => by rw [hS3]; exact .inl h⟩
          have HHU : Hid (Held S2 W6 U1) := Lib.hid (hH.trans (Held.calm hT.slt hk1))
          have HPJ := Lib.hid (show j < n ∧ n - (j + 1) = m from ⟨hlt, by omega⟩)
          have HKJ : Hid (∀ k', (k' ∈ ks.drop j ∧ k' ≠ k) ↔ k' ∈ ks.drop (j + 1)) := Lib.hid (drop_next HKN.out hk)
          have HKL1 := Lib.hid hkl
          have hjn : (j : Int) < (n : Int) := by omega
          unfold maxLen at hc2
          clear hT hH hk hcl hgS hm hkl hkd hr1 hk1 hz1 hS3 hT1 hj
          gi_wp2_with fail
          refine ⟨trivial, ?_⟩
          refine (callsIn_wide.2 HD1.out).mono ?_
          rintro e w7 ⟨rfl, hT7, hH7⟩
          have HL1 := Lib.hid (ks_miss (k := k) hT7 (HUR.out.held hH7 HKV.out.1) (fun h => h.2 rfl))
          have HH7 := Lib.hid hH7
          clear hT7 hH7 HD1 bx el hcv hlt hc1 hc2
          gi_wp2_with fail
          refine ⟨trivial, ?_⟩
          refine (callsIn_wide.2 HL1.out).mono ?_
          rintro e w8 ⟨rfl, hT8, hH8⟩
          obtain ⟨SP, hSP⟩ : ∃ SP : World → Prop, SP = fun w' => KSet W S3 tb ⟨nm, k3, ky, vl, mx⟩ m (fun k' => k' ∈ ks.drop j ∧ k' ≠ k) w' ∧ Held S3 U1 w' := ⟨_, rfl⟩
          have HS0 : Hid (SP w8.drew) := Lib.hid (by rw [hSP]; exact ⟨hT8.rest (Keep.refl _ w8).drew, (HH7.out.trans hH8)⟩)
          have QB : Hid (∀ w', SP w' → w'.cell? ⟨wc.heap.size, 0, none⟩ = some (.slice (some ⟨g, 0, none⟩) n c)) := Lib.hid (fun w' h => by rw [hSP] at h; exact (HHU.out.trans (h.2.less HKV.out.2)).cell_ HBS.out HBC.out.1)
          have QL : Hid (∀ w', SP w' → Calls Try.prog 38 #[.pointer (some ⟨tb, 0, none⟩)] w' fun e w'' => e = .returned (.int .i64 (m : Int)) ∧ SP w'') := Lib.hid (fun w' h => by
            rw [hSP] at h
            refine (ks_len h.1).mono ?_
            rintro e w'' ⟨rfl, a, b⟩
            rw [hSP]
            exact ⟨rfl, a, h.2.trans b⟩)
          have QD : Hid (∀ w', SP w' → Calls Try.prog 35 #[.pointer (some ⟨tb, 0, none⟩), .slice (some ⟨wr.heap.size, 0, none⟩) ky cK] w' fun e w'' => e = .returned (.int .i64 3) ∧ SP w'') := Lib.hid (fun w' h => by
            rw [hSP] at h
            refine (ks_del_no h.1 (HUR.out.held h.2 HKV.out.1) HKL1.out HK1.out (fun e => e.2 rfl)).mono ?_
            rintro e w'' ⟨rfl, a, b⟩
            rw [hSP]
            exact ⟨rfl, a, h.2.trans b⟩)
          have QE : Hid (∀ w', SP w' → KSet W S2 tb ⟨nm, k3, ky, vl, mx⟩ m (fun k' => k' ∈ ks.drop (j + 1)) w' ∧ Held S2 W6 w') := Lib.hid (fun w' h => by
            rw [hSP] at h
            exact ⟨(h.1.iff HKJ.out).less HKV.out.2, HHU.out.trans (h.2.less HKV.out.2)⟩)
          have hnj : IntKind.i64.wrap ((n : Int) - 1) = (n : Int) - 1 := by rw [IntKind.wrap_i64]; have := HNL.out; omega
          have hnm : IntKind.i64.wrap ((n : Int) - 1 - (j : Int)) = (m : Int) := by rw [IntKind.wrap_i64]; have := HNL.out; have := HPJ.out; omega
          clear hT8 hH8 hSP HL1 HH7
          gi_wp2_with fail
          refine wpIn_wide.2 ?_
          refine wp_region_noPanic ?_
          refine wp_region_held_drew (S := SP) (by kernel_rfl) HS0.out (fun hHeld => ?_)
          refine take_at 0 101 (.int .i64 0) rfl rfl (by kernel_rfl) (by kernel_rfl) (by kernel_rfl) (fun _ _ _ h => h) (Or.inl ⟨by rfl, ?_⟩) hHeld ?_
          · intro w hSw; go_simp
          simp only [List.setIfInBounds_toArray, List.set_cons_zero, List.set_cons_succ]
          refine take_at 1 102 (.bool false) rfl rfl (by kernel_rfl) (by kernel_rfl) (by kernel_rfl) (fun _ _ _ h => h) (Or.inl ⟨by rfl, ?_⟩) hHeld ?_
          · intro w hSw; go_simp
          simp only [List.setIfInBounds_toArray, List.set_cons_zero, List.set_cons_succ]
          refine take_at 2 103 (.bool false) rfl rfl (by kernel_rfl) (by kernel_rfl) (by kernel_rfl) (fun _ _ _ h => h) (Or.inl ⟨by rfl, ?_⟩) hHeld ?_
          · intro w hSw; go_simp
          simp only [List.setIfInBounds_toArray, List.set_cons_zero, List.set_cons_succ]
          refine take_at 3 104 (.bool false) rfl rfl (by kernel_rfl) (by kernel_rfl) (by kernel_rfl) (fun _ _ _ h => h) (Or.inl ⟨by rfl, ?_⟩) hHeld ?_
          · intro w hSw; go_simp
          simp only [List.setIfInBounds_toArray, List.set_cons_zero, List.set_cons_succ]
          refine take_at 4 105 (.bool false) rfl rfl (by kernel_rfl) (by kernel_rfl) (by kernel_rfl) (fun _ _ _ h => h) (Or.inl ⟨by rfl, ?_⟩) hHeld ?_
          · intro w hSw; go_simp
          simp only [List.setIfInBounds_toArray, List.set_cons_zero, List.set_cons_succ]
          refine take_at 5 106 (.bool false) rfl rfl (by kernel_rfl) (by kernel_rfl) (by kernel_rfl) (fun _ _ _ h => h) (Or.inl ⟨by rfl, ?_⟩) hHeld ?_
          · intro w hSw; go_simp
          simp only [List.setIfInBounds_toArray, List.set_cons_zero, List.set_cons_succ]
          refine take_at 6 107 (.pointer (some ⟨tb, 0, none⟩)) rfl rfl (by kernel_rfl) (by kernel_rfl) (by kernel_rfl) (fun _ _ _ h => h) (Or.inl ⟨by rfl, ?_⟩) hHeld ?_
          · intro w hSw; go_simp
          simp only [List.setIfInBounds_toArray, List.set_cons_zero, List.set_cons_succ]
          refine take_at 8 109 (.slice (some ⟨g, 0, none⟩) n c) rfl rfl (by kernel_rfl) (by kernel_rfl) (by kernel_rfl) (fun _ _ _ h => h) (Or.inl ⟨by rfl, ?_⟩) hHeld ?_
          · intro w hSw; have e := QB.out w hSw; go_simp
          simp only [List.setIfInBounds_toArray, List.set_cons_zero, List.set_cons_succ]
          refine take_at 9 110 (.int .i64 (n : Int)) rfl rfl (by kernel_rfl) (by kernel_rfl) (by kernel_rfl) (fun _ _ _ h => h) (Or.inl ⟨by rfl, ?_⟩) hHeld ?_
          · intro w hSw; go_simp
          simp only [List.setIfInBounds_toArray, List.set_cons_zero, List.set_cons_succ]
          refine take_at 10 111 (.int .i64 ((n : Int) - 1)) rfl rfl (by kernel_rfl) (by kernel_rfl) (by kernel_rfl) (fun _ _ _ h => h) (Or.inl ⟨by rfl, ?_⟩) hHeld ?_
          · intro w hSw; go_simp
          simp only [List.setIfInBounds_toArray, List.set_cons_zero, List.set_cons_succ]
          refine take_at 11 112 (.int .i64 (j : Int)) rfl rfl (by kernel_rfl) (by kernel_rfl) (by kernel_rfl) (fun _ _ _ h => h) (Or.inl ⟨by rfl, ?_⟩) hHeld ?_
          · intro w hSw; go_simp
          simp only [List.setIfInBounds_toArray, List.set_cons_zero, List.set_cons_succ]
          refine take_at 12 113 (.int .i64 (m : Int)) rfl rfl (by kernel_rfl) (by kernel_rfl) (by kernel_rfl) (fun _ _ _ h => h) (Or.inl ⟨by rfl, ?_⟩) hHeld ?_
          · intro w hSw; go_simp
          simp only [List.setIfInBounds_toArray, List.set_cons_zero, List.set_cons_succ]
          refine wpAnyH_ready (rs := [7]) (by kernel_rfl) (by simp) ?_
          refine AllReadyH.cons rfl (fun K hK => ?_) AllReadyH.nil
          go_simp
          refine (QL.out _ hHeld).mono ?_
          rintro e w9 ⟨rfl, c9⟩
          go_wp2_with fail
          refine hK.out _ _ c9 (fun hHeld => ?_)
          clear hK K
          try simp only [List.setIfInBounds_toArray, List.set_cons_zero, List.set_cons_succ]
          refine take_at 13 114 (.bool false) rfl rfl (by kernel_rfl) (by kernel_rfl) (by kernel_rfl) (fun _ _ _ h => h) (Or.inl ⟨by rfl, ?_⟩) hHeld ?_
          · intro w hSw; go_simp
          simp only [List.setIfInBounds_toArray, List.set_cons_zero, List.set_cons_succ]
          refine take_at 14 115 (.bool false) rfl rfl (by kernel_rfl) (by kernel_rfl) (by kernel_rfl) (fun _ _ _ h => h) (Or.inl ⟨by rfl, ?_⟩) hHeld ?_
          · intro w hSw; go_simp
          simp only [List.setIfInBounds_toArray, List.set_cons_zero, List.set_cons_succ]
          refine take_at 15 116 (.bool false) rfl rfl (by kernel_rfl) (by kernel_rfl) (by kernel_rfl) (fun _ _ _ h => h) (Or.inl ⟨by rfl, ?_⟩) hHeld ?_
          · intro w hSw; go_simp
          simp only [List.setIfInBounds_toArray, List.set_cons_zero, List.set_cons_succ]
          refine take_at 16 117 (.pointer (some ⟨tb, 0, none⟩)) rfl rfl (by kernel_rfl) (by kernel_rfl) (by kernel_rfl) (fun _ _ _ h => h) (Or.inl ⟨by rfl, ?_⟩) hHeld ?_
          · intro w hSw; go_simp
          simp only [List.setIfInBounds_toArray, List.set_cons_zero, List.set_cons_succ]
          refine take_at 17 118 (.slice (some ⟨wr.heap.size, 0, none⟩) ky cK) rfl rfl (by kernel_rfl) (by kernel_rfl) (by kernel_rfl) (fun _ _ _ h => h) (Or.inl ⟨by rfl, ?_⟩) hHeld ?_
          · intro w hSw; go_simp
          simp only [List.setIfInBounds_toArray, List.set_cons_zero, List.set_cons_succ]
          refine wpAnyH_ready (rs := [18]) (by kernel_rfl) (by simp) ?_
          refine AllReadyH.cons rfl (fun K hK => ?_) AllReadyH.nil
          go_simp
          refine (QD.out _ hHeld).mono ?_
          rintro e w10 ⟨rfl, c10⟩
          go_wp2_with fail
          refine hK.out _ _ c10 (fun hHeld => ?_)
          clear hK K
          try simp only [List.setIfInBounds_toArray, List.set_cons_zero, List.set_cons_succ]
          refine take_at 19 120 (.bool false) rfl rfl (by kernel_rfl) (by kernel_rfl) (by kernel_rfl) (fun _ _ _ h => h) (Or.inl ⟨by rfl, ?_⟩) hHeld ?_
          · intro w hSw; go_simp
          simp only [List.setIfInBounds_toArray, List.set_cons_zero, List.set_cons_succ]
          refine take_at 20 121 (.bool false) rfl rfl (by kernel_rfl) (by kernel_rfl) (by kernel_rfl) (fun _ _ _ h => h) (Or.inl ⟨by rfl, ?_⟩) hHeld ?_
          · intro w hSw; go_simp
          simp only [List.setIfInBounds_toArray, List.set_cons_zero, List.set_cons_succ]
          refine wpAnyH_done (by kernel_rfl) (NoPanic.normal ?_) _
          have HE9 := Lib.hid (QE.out _ hHeld)
          have HWJ : Hid (wrap64 ((j : Int) + 1) = ((j + 1 : Nat) : Int)) := Lib.hid (by have := HNL.out; have := HPJ.out; unfold wrap64; omega)
          clear hHeld hnj hnm
          gi_wp2_with fail
          go_roundw
          case rel => exact ⟨j + 1, by have := HPJ.out; omega, by rw [HWJ.out], by rw [HPJ.out.2]; exact HE9.out.1, HE9.out.2⟩
          case measure => rw [HWJ.out]; have := HPJ.out; simp [intOf]; omega
        · have ej : j = n := by omega
          subst ej
          have hjn : ¬ (j : Int) < (j : Int) := by omega
          have HT9 : Hid (KSet W S2 tb ⟨nm, k3, ky, vl, mx⟩ 0 (fun k => ∃ i, i < 0 ∧ k = keyN ky i) wr) := Lib.hid (by
            have h := hT
            rw [Nat.sub_self] at h
            refine h.iff (fun k => ?_)
            rw [List.drop_eq_nil_of_le (by have := HNn.out; omega)]
            simp)
          have HH9 := Lib.hid hH
          have HMX : Hid (mx ≤ 12) := Lib.hid HMX0.out
          clear hT hH hj hlt
          gi_wp2_with fail
          gi_loopw [23] (fun i wz => ∃ j : Nat, j ≤ mx ∧ i = .int .i64 (j : Int) ∧ KSet W S2 tb ⟨nm, k3, ky, vl, mx⟩ j (fun k => ∃ i, i < j ∧ k = keyN ky i) wz ∧ Held S2 W6 wz) (fun i _ => mx - (intOf i).toNat)
          case atStart => exact ⟨0, Nat.zero_le _, rfl, HT9.out, HH9.out⟩
          case round =>
            obtain ⟨i, hi, rfl, hT, hH⟩ := hrel
            obtain ⟨d0, d1, d2, d3, d4⟩ := HRow.out wr hT.calm_
            by_cases hlt : i < mx
            · have hmk : Sem.run Try.prog (Instr.makeSlice 22 (.int .i64 (ky : Int)) (.int .i64 (ky : Int))) wr = .ok (.slice (some ⟨wr.heap.size, 0, none⟩) ky ky) (wr.alloc (.cells (zeros8 ky) 5)) := run_make8 wr ky (by have := HB3.out; omega)
              have hi12 : i < 256 := by have := HMX.out; omega
              have ho0 : Own (wr.alloc (.cells (zeros8 ky) 5)) wr.heap.size (.slice (some ⟨wr.heap.size, 0, none⟩) ky ky) (List.replicate ky 0) := Own.zeros wr ky (by have := HB3.out; omega)
              have hk0 : 0 < (List.replicate ky (0 : UInt8)).length := by have := HB3.out; simp; omega
              obtain ⟨o1', o2⟩ := ho0.at_ 0 hk0
              have o1 : (wr.alloc (.cells (zeros8 ky) 5)).cell? ⟨wr.heap.size, 0, none⟩ = some (.int .u8 0) := by rw [o1', List.getElem_replicate]; rfl
              clear o1'
              have o3 := ho0.set 0 hk0 (UInt8.ofNat i)
              rw [show ((UInt8.ofNat i).toNat : Int) = (i : Int) by rw [UInt8.toNat_ofNat']; omega] at o3
              have hK1 : Calm wr ((wr.alloc (.cells (zeros8 ky) 5)).setCell ⟨wr.heap.size, 0, none⟩ (.int .u8 (i : Int))) := ((Keep.refl _ wr).alloc _).store (p := ⟨wr.heap.size, 0, none⟩) (fun h => by have h' : wr.heap.size < wr.heap.size := h; omega) _
              have hr1 : Rd ((wr.alloc (.cells (zeros8 ky) 5)).setCell ⟨wr.heap.size, 0, none⟩ (.int .u8 (i : Int))) (.slice (some ⟨wr.heap.size, 0, none⟩) ky ky) (keyN ky i) := o3.rd ⟨_, _, _, rfl⟩
              have eW : (wr.alloc (.cells (zeros8 ky) 5)).setCell ⟨wr.heap.size, 0, none⟩ (.int .u8 (i : Int)) = wr.alloc (.cells ((zeros8 ky).setIfInBounds 0 (.int .u8 (i : Int))) 5) := World.setCell_alloc_at _ _ _ _ _ rfl
              rw [eW] at hr1 hK1
              have hT1 := hT.rest hK1
              have hH1 := hH.trans (Held.calm hT.slt hK1)
              have hi8 : (i : Int) % 256 = (i : Int) := by omega
              have him : (i : Int) < (mx : Int) := by omega
              have hky0 : (0 : Int) < (ky : Int) := by have := HB3.out; omega
              have HT1 := Lib.hid hT1
              have HH1 := Lib.hid hH1
              have HR1 := Lib.hid hr1
              have HI := Lib.hid (And.intro hlt hi12)
              clear hT hH hr1 hT1 hH1 hK1 o3 ho0 hk0 hi hlt hi12 eW
              gi_upto_region 29 with fail
              clear hmk o1 o2 d0 d1 d2 d3 d4
              generalize wr.alloc (.cells ((zeros8 ky).setIfInBounds 0 (.int .u8 (i : Int))) 5) = w1z at *
              obtain ⟨d0, d1, d2, d3, d4⟩ := HRow.out w1z HT1.out.calm_
              have hmk : Sem.run Try.prog (Instr.makeSlice 22 (.int .i64 (vl : Int)) (.int .i64 (vl : Int))) w1z = .ok (.slice (some ⟨w1z.heap.size, 0, none⟩) vl vl) (w1z.alloc (.cells (zeros8 vl) 5)) := run_make8 w1z vl (by have := HB3.out; omega)
              have hk2 : Calm w1z (w1z.alloc (.cells (zeros8 vl) 5)) := (Keep.refl _ w1z).alloc _
              have HU := Lib.hid (ks_put (HT1.out.rest hk2) (HR1.out.calm hk2) ((Own.zeros w1z vl (by have := HB3.out; omega)).rd ⟨_, _, _, rfl⟩) 1 (keyN_len ky i) (by simp) (by decide) HK1.out (fun ⟨i', h1, h2⟩ => by have := keyN_inj (n := ky) (by have := HB3.out; omega) HI.out.2 (by have := HI.out; omega) h2; omega) HI.out.1)
              have HH2 := Lib.hid (HH1.out.trans (Held.calm HT1.out.slt hk2))
              clear hk2 HT1 HR1 HH1
              gi_wp2_with fail
              refine ⟨trivial, ?_⟩
              refine (callsIn_wide.2 HU.out).mono ?_
              rintro e w7 ⟨rfl, hT7, hH7⟩
              have HLn := Lib.hid (ks_len hT7)
              have HH7 := Lib.hid (HH2.out.trans hH7)
              clear hT7 hH7 HU hmk d0 d1 d2 d3 d4 HH2
              gi_wp2_with fail
              refine ⟨trivial, ?_⟩
              refine (callsIn_wide.2 HLn.out).mono ?_
              rintro e w8 ⟨rfl, hT8, hH8⟩
              have HE8 : Hid (KSet W S2 tb ⟨nm, k3, ky, vl, mx⟩ (i + 1) (fun k => ∃ i', i' < i + 1 ∧ k = keyN ky i') w8 ∧ Held S2 W6 w8) := Lib.hid ⟨hT8.iff (fun k => by
                constructor
                · rintro (⟨i', h1, h2⟩ | h)
                  · exact ⟨i', by omega, h2⟩
                  · exact ⟨i, by omega, h⟩
                · rintro ⟨i', h1, h2⟩
                  by_cases e : i' = i
                  · subst e; exact .inr h2
                  · exact .inl ⟨i', by omega, h2⟩), HH7.out.trans hH8⟩
              clear hT8 hH8 HH7 HLn
              have HWJ : Hid (wrap64 ((i : Int) + 1) = ((i + 1 : Nat) : Int)) := Lib.hid (by have := HI.out; unfold wrap64; omega)
              have hij : ((i + 1 : Nat) : Int) = (i : Int) + 1 := by omega
              gi_wp2_with fail
              go_roundw
              case rel => exact ⟨i + 1, by have := HI.out; omega, by rw [hij], HE8.out.1, HE8.out.2⟩
              case measure => have := HI.out; simp [intOf]; omega
            · have ej : i = mx := by omega
              subst ej
              have hjn : ¬ (i : Int) < (i : Int) := by omega
              have HCf := Lib.hid (HW.out.trans hT.calm_)
              have HDf := Lib.hid ((hH D HDS.out).trans HDK.out)
              clear hT hH hi hlt
              gi_wp2
              refine ⟨by simp, .inl ⟨_, _, rfl, run_takeDeferred HDf.out, ?_⟩⟩
              exact ⟨.bool true, by simp [results, Try.f10, go_sem], rfl, calm_putT HCf.out HDl.out _⟩
theorem tableGone_c (is : Bool) (x y z : Int) (v0 : Value) (ss : List S10) (w : World) (hs : St10 w v0 ss) : Calls Try.prog 10 #[.bool is, .int .i64 x, .int .i64 y, .int .i64 z, v0] w fun e w' => e = .returned (.bool true) ∧ Calm w w' := callsIn_wide.1 (tableGone_in is x y z v0 ss w hs)
end Go.Proofs.Ytnlojohjhfpbgaa
