/-
  TableKinds: the walk.
-/
import Derived.Test.YtnlojohjhfpbgaaT40
import Derived.Test.YtnlojohjhfpbgaaT41
import Derived.Test.YtnlojohjhfpbgaaT46
import Derived.Test.YtnlojohjhfpbgaaS10V
import Derived.Test.YtnlojohjhfpbgaaMasks
import Derived.Test.YtnlojohjhfpbgaaRegion
import Derived.Test.YtnlojohjhfpbgaaQW
import Derived.Sort.CutIn
import Derived.BigFrameIn
namespace Go.Proofs.Ytnlojohjhfpbgaa
open Go.RowKit Go.Deep Go.Shelf
set_option linter.all false
attribute [local go_sem] Oper.semAt_some

theorem infoStep10 : (Try.prog.info? 65).map (·.size) = some 7 := by kernel_rfl

def KJ (W wb : World) (bx t1 t2 : Nat) (q1 q2 : MN) (n : Nat) (wr : World) : Prop := ∃ E1 E2, Duo W wr (fun i => i = bx) t1 q1 E1 t2 q2 E2 ∧ Held (fun i => i = bx) wb wr ∧ (∀ k, vaL k E1 = vaL k E2) ∧ E1.length = E2.length ∧ E1.length ≤ n
theorem KJ.more {W wb : World} {bx t1 t2 : Nat} {q1 q2 : MN} {n m : Nat} {wr : World} (h : KJ W wb bx t1 t2 q1 q2 n wr) (hm : n ≤ m) : KJ W wb bx t1 t2 q1 q2 m wr := by
  obtain ⟨E1, E2, a, b, c, d, e⟩ := h
  exact ⟨E1, E2, a, b, c, d, Nat.le_trans e hm⟩

set_option maxRecDepth 100000 in
set_option maxHeartbeats 8000000 in
theorem tableKinds_in (x y : Int) (v0 : Value) (ss : List S10) (w : World) (hs : St10 w v0 ss) : CallsIn Fence.wide 4 Try.prog 8 #[.int .i64 x, .int .i64 y, v0] w fun e w' => e = .returned (.bool true) ∧ Calm w w' := by
  obtain ⟨A, cap, rfl, hm⟩ := hs.form
  have HS := Lib.hid hs
  have HM := Lib.hid hm
  clear hs hm
  refine callsIn_of_wp_marks Try.func8 rfl trivial ?_ rfl
  simp only [Try.ntmps8, List.size_toArray, List.length_cons, List.length_nil, Nat.reduceAdd, Nat.reduceSub, Array.replicate_succ, Array.replicate_zero, List.push_toArray, List.append_toArray, List.nil_append, List.cons_append]
  gi_wp2_with fail
  have B0 := Row.made w 4 #[.bool false]
  have hC : Calm w (w.alloc (.cells #[.bool false] 4)) := (Keep.refl _ w).alloc _
  have hz : (w.alloc (.cells #[.bool false] 4)).heap.size = w.heap.size + 1 := by simp
  generalize w.alloc (.cells #[.bool false] 4) = W0 at *
  have HC := Lib.hid hC
  have Hz := Lib.hid hz
  have HB0 := Lib.hid B0
  clear B0 hC hz
  refine ⟨trivial, ?_⟩
  refine (callsIn_wide.2 ((shown10_c _))).mono ?_
  rintro e w1 ⟨rfl, k1⟩
  have K1 := Lib.hid k1
  clear k1
  obtain ⟨sa, sb, sc, sd, hsb, hsc, x0, x1, x2, y0, y3, z0, u5, hs⟩ := small_c 1 x y 0 w1
  have hq := smallQ_ok (a := sa) (d := sd) hsb hsc
  have HQ := Lib.hid (And.intro hsb (And.intro hsc (And.intro x0 (And.intro x1 (And.intro x2 (And.intro y0 (And.intro y3 (And.intro z0 u5))))))))
  have HD : Hid ((smallQ sa sb sc sd) = ⟨[109], 1 + sa % 3, if sa % 3 = 0 then 4 else 1 + sb, 1 + sc, 1 + sd % 12⟩) := Lib.hid rfl
  generalize smallQ sa sb sc sd = q at *
  have hqn := HD.out
  obtain ⟨nm, kd, ky, vl, mx⟩ := q
  have HS : Hid (Calls Try.prog _ _ w1 fun e w' => e = .returned (.agg #[.string (str nm), .int .i64 (kd : Int), .int .i64 (ky : Int), .int .i64 (vl : Int), .int .i64 (mx : Int)]) ∧ Calm w1 w') := Lib.hid hs
  have HOK := Lib.hid hq
  have hql := hq.key
  have hqv := hq.val
  have hqm := hq.max
  simp only at hql hqv hqm
  have HB3 := Lib.hid (And.intro hql (And.intro hqv hqm))
  clear hs hq hsb hsc x0 x1 x2 y0 y3 z0 u5 hqn hql hqv hqm
  gi_wp2_with fail
  refine ⟨trivial, ?_⟩
  refine (callsIn_wide.2 (HS.out)).mono ?_
  rintro e w2 ⟨rfl, k2⟩
  have K2 := Lib.hid (K1.out.trans k2)
  clear k2 K1 HS
  have HD2 : Hid (kd = 2) := Lib.hid (by
    have h := HD.out
    obtain ⟨_, _, _, x1, _⟩ := HQ.out
    have a1 := x1 trivial
    subst a1
    simp only [MN.mk.injEq] at h
    exact h.2.1.trans (by decide))
  clear HQ HD
  have HO1 : Hid (MN.Ok ⟨nm, 2, ky, vl, 100⟩) := Lib.hid (ok_most (by have h := HOK.out; rw [HD2.out] at h; exact h) 100 (by decide))
  have HO2 : Hid (MN.Ok ⟨nm, 3, ky, vl, 100⟩) := Lib.hid (ok_lru HO1.out)
  obtain rfl := HD2.out
  clear HOK HD2
  gi_upto_region 6 with fail
  have B2 := (Row.made w2 52 #[.string (str nm), .int .i64 2, .int .i64 (ky : Int), .int .i64 (vl : Int), .int .i64 100]).alloc (.cells #[.string (str nm), .int .i64 3, .int .i64 (ky : Int), .int .i64 (vl : Int), .int .i64 100] 52)
  have B3 := Row.made (w2.alloc (.cells #[.string (str nm), .int .i64 2, .int .i64 (ky : Int), .int .i64 (vl : Int), .int .i64 100] 52)) 52 #[.string (str nm), .int .i64 3, .int .i64 (ky : Int), .int .i64 (vl : Int), .int .i64 100]
  rw [World.size_alloc] at B3
  have hkb : Calm w2 ((w2.alloc (.cells #[.string (str nm), .int .i64 2, .int .i64 (ky : Int), .int .i64 (vl : Int), .int .i64 100] 52)).alloc (.cells #[.string (str nm), .int .i64 3, .int .i64 (ky : Int), .int .i64 (vl : Int), .int .i64 100] 52)) := ((Keep.refl _ w2).alloc _).alloc _
  have HW := Lib.hid (K2.out.trans hkb)
  have HWs := Lib.hid (show ((w2.alloc (.cells #[.string (str nm), .int .i64 2, .int .i64 (ky : Int), .int .i64 (vl : Int), .int .i64 100] 52)).alloc (.cells #[.string (str nm), .int .i64 3, .int .i64 (ky : Int), .int .i64 (vl : Int), .int .i64 100] 52)).heap.size = w2.heap.size + 2 by simp)
  generalize (w2.alloc (.cells #[.string (str nm), .int .i64 2, .int .i64 (ky : Int), .int .i64 (vl : Int), .int .i64 100] 52)).alloc (.cells #[.string (str nm), .int .i64 3, .int .i64 (ky : Int), .int .i64 (vl : Int), .int .i64 100] 52) = W at *
  have HR1 : Hid (∀ W', Calm W W' → W'.cell? ⟨w2.heap.size, 0, none⟩ = some (.string (str nm)) ∧ W'.cell? ⟨w2.heap.size, 1, none⟩ = some (.int .i64 2) ∧ W'.cell? ⟨w2.heap.size, 2, none⟩ = some (.int .i64 (ky : Int)) ∧ W'.cell? ⟨w2.heap.size, 3, none⟩ = some (.int .i64 (vl : Int)) ∧ W'.cell? ⟨w2.heap.size, 4, none⟩ = some (.int .i64 100)) :=
    Lib.hid (fun W' c => ⟨((B2.keep c (fun e => e)).cell 0).trans rfl, ((B2.keep c (fun e => e)).cell 1).trans rfl, ((B2.keep c (fun e => e)).cell 2).trans rfl, ((B2.keep c (fun e => e)).cell 3).trans rfl, ((B2.keep c (fun e => e)).cell 4).trans rfl⟩)
  have HR2 : Hid (∀ W', Calm W W' → W'.cell? ⟨w2.heap.size + 1, 0, none⟩ = some (.string (str nm)) ∧ W'.cell? ⟨w2.heap.size + 1, 1, none⟩ = some (.int .i64 3) ∧ W'.cell? ⟨w2.heap.size + 1, 2, none⟩ = some (.int .i64 (ky : Int)) ∧ W'.cell? ⟨w2.heap.size + 1, 3, none⟩ = some (.int .i64 (vl : Int)) ∧ W'.cell? ⟨w2.heap.size + 1, 4, none⟩ = some (.int .i64 100)) :=
    Lib.hid (fun W' c => ⟨((B3.keep c (fun e => e)).cell 0).trans rfl, ((B3.keep c (fun e => e)).cell 1).trans rfl, ((B3.keep c (fun e => e)).cell 2).trans rfl, ((B3.keep c (fun e => e)).cell 3).trans rfl, ((B3.keep c (fun e => e)).cell 4).trans rfl⟩)
  clear B2 B3 hkb
  have HN1 : Hid (Calls Try.prog 27 #[.agg #[.string (str nm), .int .i64 2, .int .i64 (ky : Int), .int .i64 (vl : Int), .int .i64 100]] W fun e w' => ∃ v : Value, e = .returned (.tuple #[v, .int .i64 0]) ∧ NewT ⟨nm, 2, ky, vl, 100⟩ W v w') := Lib.hid (tNew_yes ⟨nm, 2, ky, vl, 100⟩ HO1.out W)
  obtain ⟨d0, d1, d2, d3, d4⟩ := HR1.out W (Keep.refl _ W)
  gi_wp2_with fail
  refine ⟨trivial, ?_⟩
  refine (callsIn_wide.2 HN1.out).mono ?_
  rintro e w3 ⟨v, rfl, t1, F1, rfl, hE1, hT1⟩
  have HT1 := Lib.hid (tab_no hT1)
  have HE1 : Hid (F1 = []) := Lib.hid (by unfold NewE at hE1; rw [if_neg (show ¬ (2 : Nat) = 1 by decide)] at hE1; exact hE1)
  clear hT1 hE1 HN1 d0 d1 d2 d3 d4
  have HN2 : Hid (Calls Try.prog 27 #[.agg #[.string (str nm), .int .i64 3, .int .i64 (ky : Int), .int .i64 (vl : Int), .int .i64 100]] w3 fun e w' => ∃ v : Value, e = .returned (.tuple #[v, .int .i64 0]) ∧ NewT ⟨nm, 3, ky, vl, 100⟩ w3 v w') := Lib.hid (tNew_yes ⟨nm, 3, ky, vl, 100⟩ HO2.out w3)
  obtain ⟨d0, d1, d2, d3, d4⟩ := HR2.out w3 HT1.out.calm_
  gi_wp2_with fail
  refine ⟨trivial, ?_⟩
  refine (callsIn_wide.2 HN2.out).mono ?_
  rintro e w4 ⟨v, rfl, t2, F2, rfl, hE2, hT2⟩
  have HE2 : Hid (F2 = []) := Lib.hid (by unfold NewE at hE2; rw [if_neg (show ¬ (3 : Nat) = 1 by decide)] at hE2; exact hE2)
  have BX := Row.made w4 54 #[.pointer (some ⟨t2, 0, none⟩)]
  have hk5 : Calm w4 (w4.alloc (.cells #[.pointer (some ⟨t2, 0, none⟩)] 54)) := (Keep.refl _ w4).alloc _
  have hz5 : (w4.alloc (.cells #[.pointer (some ⟨t2, 0, none⟩)] 54)).heap.size = w4.heap.size + 1 := by simp
  have hD0 : Duo W w4 No t1 ⟨nm, 2, ky, vl, 100⟩ F1 t2 ⟨nm, 3, ky, vl, 100⟩ F2 := Duo.made HT1.out (tab_no hT2)
  have HD5 : Hid (KJ W (w4.alloc (.cells #[.pointer (some ⟨t2, 0, none⟩)] 54)) w4.heap.size t1 t2 ⟨nm, 2, ky, vl, 100⟩ ⟨nm, 3, ky, vl, 100⟩ 0 (w4.alloc (.cells #[.pointer (some ⟨t2, 0, none⟩)] 54))) := Lib.hid ⟨F1, F2, (hD0.room hk5).less (fun i (e : i = w4.heap.size) => .inr ⟨by omega, by omega⟩), Held.refl _ _, by rw [HE1.out, HE2.out]; exact fun _ => rfl, by rw [HE1.out, HE2.out], by rw [HE1.out]; exact Nat.le_refl _⟩
  have c12 : (w4.alloc (.cells #[.pointer (some ⟨t2, 0, none⟩)] 54)).cell? ⟨w4.heap.size, 0, none⟩ = some (.pointer (some ⟨t2, 0, none⟩)) := (BX.cell 0).trans rfl
  have HBX := Lib.hid c12
  have HZ5 : Hid (W.heap.size ≤ w4.heap.size) := Lib.hid hD0.calm_.size
  clear hT2 hE2 HN2 d0 d1 d2 d3 d4 HT1 HE1 HE2 BX hk5 hz5 hD0
  gi_upto_region 10 with fail
  iterate 14 (first | (guard_target =~ Code.wpIn _ _ _ (Code.block _ _) _ _ _) | go_values | gi_guarded | gi_step | gi_upon | gi_back)
  clear c12
  generalize w4.alloc (.cells #[.pointer (some ⟨t2, 0, none⟩)] 54) = w5 at *
  gi_cut [14] from 58 (fun _ wc => KJ W w5 w4.heap.size t1 t2 ⟨nm, 2, ky, vl, 100⟩ ⟨nm, 3, ky, vl, 100⟩ 40 wc)
  case first =>
    gi_wp2_with fail
    gi_loopw [14] (fun i wr => ∃ j : Nat, j ≤ 40 ∧ i = .int .i64 (j : Int) ∧ KJ W w5 w4.heap.size t1 t2 ⟨nm, 2, ky, vl, 100⟩ ⟨nm, 3, ky, vl, 100⟩ j wr) (fun i _ => 40 - (intOf i).toNat)
    case atStart => exact ⟨0, by omega, rfl, HD5.out⟩
    case round =>
      obtain ⟨j, hj, rfl, hT⟩ := hrel
      by_cases i1 : j < ss.length
      · by_cases i2 : j < 40
        · obtain ⟨E1, E2, hD, hH, hval, hlen, hlj⟩ := hT
          obtain ⟨ad, s, rfl, hsj, hsl, hcell⟩ := HS.out.all j i1
          have hca := HC.out.trans (HW.out.trans hD.calm_)
          obtain ⟨y0, y1, y2, y3, y4, y5, y6⟩ := hcell wr hca
          have z0 : wr.cell? (ad.add (j * 7)) = some (.int .i64 s.k) := y0
          have z1 : wr.cell? ⟨(ad.add (j * 7)).block, (ad.add (j * 7)).off + 1, none⟩ = some (.string (str s.ky)) := y1
          have z2 : wr.cell? ⟨(ad.add (j * 7)).block, (ad.add (j * 7)).off + 2, none⟩ = some (.string (str s.v)) := y2
          have z3 : wr.cell? ⟨(ad.add (j * 7)).block, (ad.add (j * 7)).off + 3, none⟩ = some (.int .i64 s.fl) := y3
          have z4 : wr.cell? ⟨(ad.add (j * 7)).block, (ad.add (j * 7)).off + 4, none⟩ = some (.bool s.wr) := y4
          have z5 : wr.cell? ⟨(ad.add (j * 7)).block, (ad.add (j * 7)).off + 5, none⟩ = some (.bool s.raw) := y5
          have z6 : wr.cell? ⟨(ad.add (j * 7)).block, (ad.add (j * 7)).off + 6, none⟩ = some (.bool s.kp) := y6
          have HDj := Lib.hid hD
          have HHj := Lib.hid hH
          have HVJ := Lib.hid (And.intro hval (And.intro hlen hlj))
          have HSL := Lib.hid hsl
          have HJ := Lib.hid (And.intro i2 hj)
          have hst := infoStep10
          clear hD hH hval hlen hlj hsj hsl hcell hj hca y0 y1 y2 y3 y4 y5 y6
          gi_upto_region 14 with fail
          have hSB := Row.made wr 65 #[.int .i64 s.k, .string (str s.ky), .string (str s.v), .int .i64 s.fl, .bool s.wr, .bool s.raw, .bool s.kp]
          have hka : Calm wr (wr.alloc (.cells #[.int .i64 s.k, .string (str s.ky), .string (str s.v), .int .i64 s.fl, .bool s.wr, .bool s.raw, .bool s.kp] 65)) := (Keep.refl _ wr).alloc _
          have hza : (wr.alloc (.cells #[.int .i64 s.k, .string (str s.ky), .string (str s.v), .int .i64 s.fl, .bool s.wr, .bool s.raw, .bool s.kp] 65)).heap.size = wr.heap.size + 1 := by simp
          generalize wr.alloc (.cells #[.int .i64 s.k, .string (str s.ky), .string (str s.v), .int .i64 s.fl, .bool s.wr, .bool s.raw, .bool s.kp] 65) = wa at *
          have HSB : Hid (∀ W', Calm wa W' → W'.cell? ⟨wr.heap.size, 0, none⟩ = some (.int .i64 s.k) ∧ W'.cell? ⟨wr.heap.size, 1, none⟩ = some (.string (str s.ky)) ∧ W'.cell? ⟨wr.heap.size, 2, none⟩ = some (.string (str s.v)) ∧ W'.cell? ⟨wr.heap.size, 3, none⟩ = some (.int .i64 s.fl)) := Lib.hid (fun W' c => ⟨((hSB.keep c (fun e => e)).cell 0).trans rfl, ((hSB.keep c (fun e => e)).cell 1).trans rfl, ((hSB.keep c (fun e => e)).cell 2).trans rfl, ((hSB.keep c (fun e => e)).cell 3).trans rfl⟩)
          have HKA := Lib.hid (And.intro hka hza)
          obtain ⟨d0, d1, d2, d3, d4⟩ := HR1.out wa (HDj.out.calm_.trans hka)
          obtain ⟨g0, g1, g2, g3⟩ := HSB.out wa (Keep.refl _ wa)
          have HF := Lib.hid (fit_c s.ky ky (by have := HB3.out; omega) HSL.out.1 wa)
          clear hSB hka hza z0 z1 z2 z3 z4 z5 z6 hst
          gi_wp2_with fail
          refine ⟨trivial, ?_⟩
          refine (callsIn_wide.2 HF.out).mono ?_
          rintro e wb ⟨rfl, cb⟩
          obtain ⟨cK, WK, hcK, hrK, hkK, hzK⟩ := bytes_box wb (fitL s.ky ky) ky (fitL_len _ _) (by have := HB3.out; omega)
          have HBK := Lib.hid (And.intro cb (And.intro hkK hzK))
          have HRK := Lib.hid hrK
          have HF2 := Lib.hid (fit_c s.v vl (by have := HB3.out; omega) HSL.out.2 WK)
          clear d0 d1 d2 d3 d4 g0 g1 g2 g3 HF cb hrK hkK hzK
          obtain ⟨d0, d1, d2, d3, d4⟩ := HR1.out WK (HDj.out.calm_.trans (HKA.out.1.trans (HBK.out.1.trans HBK.out.2.1)))
          obtain ⟨g0, g1, g2, g3⟩ := HSB.out WK (HBK.out.1.trans HBK.out.2.1)
          gi_wp2_with fail
          refine ⟨trivial, ?_⟩
          refine (callsIn_wide.2 HF2.out).mono ?_
          rintro e wd ⟨rfl, cd⟩
          obtain ⟨cV, WV, hcV, hrV, hkV, hzV⟩ := bytes_box wd (fitL s.v vl) vl (fitL_len _ _) (by have := HB3.out; omega)
          have hall : Calm wr WV := HKA.out.1.trans (HBK.out.1.trans (HBK.out.2.1.trans (cd.trans hkV)))
          obtain ⟨S3, hS3⟩ : ∃ S3 : Nat → Prop, S3 = fun i => i = w4.heap.size ∨ Btw wr.heap.size WV.heap.size i := ⟨_, rfl⟩
          have hd3 := HDj.out.room hall
          rw [← hS3] at hd3
          have HD3 := Lib.hid hd3
          have HRK3 := Lib.hid (HRK.out.calm (cd.trans hkV))
          have HRV3 := Lib.hid hrV
          have HIN : Hid (S3 w4.heap.size ∧ S3 wr.heap.size ∧ S3 wb.heap.size ∧ S3 wd.heap.size) := Lib.hid (by
            have h1 := HKA.out.2
            have h2 := HBK.out.1.size
            have h3 := HBK.out.2.2
            have h4 := cd.size
            rw [hS3]
            exact ⟨.inl rfl, .inr ⟨Nat.le_refl _, by omega⟩, .inr ⟨by omega, by omega⟩, .inr ⟨by omega, by omega⟩⟩)
          have HH3 : Hid (Held (fun i => i = w4.heap.size) w5 WV) := Lib.hid (HHj.out.trans (Held.calm HDj.out.slt hall))
          have HFL := Lib.hid (And.intro (fitL_len s.ky ky) (fitL_len s.v vl))
          have HSB3 := Lib.hid (HSB.out WV (HBK.out.1.trans (HBK.out.2.1.trans (cd.trans hkV))))
          have HHK : Hid (wb.heap.size < WV.heap.size ∧ wd.heap.size < WV.heap.size) := Lib.hid (by have h3 := HBK.out.2.2; have h4 := cd.size; omega)
          generalize fitL s.ky ky = KT at *
          generalize fitL s.v vl = VT at *
          clear d0 d1 d2 d3 d4 g0 g1 g2 g3 HF2 cd hrV hkV hzV hall hd3 hS3 HRK HBK HKA HSB HDj HHj
          obtain ⟨g0, g1, g2, g3⟩ := HSB3.out
          by_cases k1 : s.k = 1
          · have e1 : (s.k == 1) = true := by rw [beq_iff_eq]; exact k1
            have HC1 := Lib.hid (HD3.out.on1x (fun S' _ hT => kL hT HRK3.out))
            clear k1
            gi_wp2_with fail
            refine ⟨trivial, ?_⟩
            refine (callsIn_wide.2 HC1.out).mono ?_
            rintro e w6 ⟨F1, ⟨p1, rfl, hp1, hg1, hl1⟩, hd6, hh6⟩
            have c12 := hh6.cell_ HIN.out.1 (HH3.out.cell_ rfl HBX.out)
            have HC2 := Lib.hid (hd6.on2x (fun S' hs hT => kL hT (HRK3.out.held hh6 HIN.out.2.2.1)))
            have HP1 := Lib.hid hp1
            have HG1 := Lib.hid (And.intro hg1 (And.intro hl1 hh6))
            have HZ6 := Lib.hid hd6.slt
            clear HC1 hp1 hg1 hl1 hd6 hh6
            gi_wp2_with fail
            refine ⟨trivial, ?_⟩
            refine (callsIn_wide.2 HC2.out).mono ?_
            rintro e w7 ⟨F2, ⟨p2, rfl, hp2, hg2, hl2⟩, hd7, hh7⟩
            have HE7 : Hid (∃ F1 F2, Duo W w7 S3 t1 ⟨nm, 2, ky, vl, 100⟩ F1 t2 ⟨nm, 3, ky, vl, 100⟩ F2 ∧ Held S3 WV w7 ∧ (∀ k, vaL k F1 = vaL k F2) ∧ F1.length = F2.length ∧ F1.length ≤ j + 1) := Lib.hid ⟨F1, F2, hd7.less (fun i hi => .inl (.inl hi)), HG1.out.2.2.trans (hh7.less (fun i hi => .inl hi)), fun k => by have a := HVJ.out.1 k; unfold vaL at a ⊢; rw [HG1.out.1, hg2]; exact a, by rw [HG1.out.2.1, hl2]; exact HVJ.out.2.1, by rw [HG1.out.2.1]; have := HVJ.out.2.2; omega⟩
            cases hv : vaL KT E1 with
            | none =>
              have hv2 := (HVJ.out.1 KT).symm.trans hv
              obtain ⟨_, rfl⟩ := HP1.out.resolve_right (fun ⟨x, g, bs, h, _⟩ => by rw [hv] at h; cases h)
              obtain ⟨_, rfl⟩ := hp2.resolve_right (fun ⟨x, g, bs, h, _⟩ => by rw [hv2] at h; cases h)
              simp only [hv, hv2, Option.isSome_none]
              clear hp2 hg2 hl2 hd7 hh7 hv hv2 HC2 HP1 HG1 c12
              gi_wp2_with fail
              refine wpIn_wide.2 ?_
              refine wp_region_noPanic ?_
              refine wp_region_held_drew (S := fun w' => Calm w7 w') (by kernel_rfl) (Keep.refl _ w7).drew (fun hHeld => ?_)
              refine take_at 0 100 (.bool false) rfl rfl (by kernel_rfl) (by kernel_rfl) (by kernel_rfl) (fun _ _ _ h => h) (Or.inl ⟨by rfl, ?_⟩) hHeld ?_
              · intro w hSw; go_simp
              simp only [List.setIfInBounds_toArray, List.set_cons_zero, List.set_cons_succ]
              refine take_at 1 101 (.bool false) rfl rfl (by kernel_rfl) (by kernel_rfl) (by kernel_rfl) (fun _ _ _ h => h) (Or.inl ⟨by rfl, ?_⟩) hHeld ?_
              · intro w hSw; go_simp
              simp only [List.setIfInBounds_toArray, List.set_cons_zero, List.set_cons_succ]
              refine take_at 2 102 (.bool true) rfl rfl (by kernel_rfl) (by kernel_rfl) (by kernel_rfl) (fun _ _ _ h => h) (Or.inl ⟨by rfl, ?_⟩) hHeld ?_
              · intro w hSw; go_simp
              simp only [List.setIfInBounds_toArray, List.set_cons_zero, List.set_cons_succ]
              refine take_at 3 103 (.bool true) rfl rfl (by kernel_rfl) (by kernel_rfl) (by kernel_rfl) (fun _ _ _ h => h) (Or.inl ⟨by rfl, ?_⟩) hHeld ?_
              · intro w hSw; go_simp
              simp only [List.setIfInBounds_toArray, List.set_cons_zero, List.set_cons_succ]
              refine take_at 4 104 (.bool false) rfl rfl (by kernel_rfl) (by kernel_rfl) (by kernel_rfl) (fun _ _ _ h => h) (Or.inl ⟨by rfl, ?_⟩) hHeld ?_
              · intro w hSw; go_simp
              simp only [List.setIfInBounds_toArray, List.set_cons_zero, List.set_cons_succ]
              refine take_at 5 105 (.bool true) rfl rfl (by kernel_rfl) (by kernel_rfl) (by kernel_rfl) (fun _ _ _ h => h) (Or.inl ⟨by rfl, ?_⟩) hHeld ?_
              · intro w hSw; go_simp
              simp only [List.setIfInBounds_toArray, List.set_cons_zero, List.set_cons_succ]
              refine take_at 6 106 (.bool true) rfl rfl (by kernel_rfl) (by kernel_rfl) (by kernel_rfl) (fun _ _ _ h => h) (Or.inl ⟨by rfl, ?_⟩) hHeld ?_
              · intro w hSw; go_simp
              simp only [List.setIfInBounds_toArray, List.set_cons_zero, List.set_cons_succ]
              refine take_at 7 107 (undef) rfl rfl (by kernel_rfl) (by kernel_rfl) (by kernel_rfl) (fun _ _ _ h => h) (Or.inr ⟨by rfl, rfl⟩) hHeld ?_
              simp only [List.setIfInBounds_toArray, List.set_cons_zero, List.set_cons_succ]
              refine take_at 8 108 (undef) rfl rfl (by kernel_rfl) (by kernel_rfl) (by kernel_rfl) (fun _ _ _ h => h) (Or.inr ⟨by rfl, rfl⟩) hHeld ?_
              simp only [List.setIfInBounds_toArray, List.set_cons_zero, List.set_cons_succ]
              refine take_at 9 109 (undef) rfl rfl (by kernel_rfl) (by kernel_rfl) (by kernel_rfl) (fun _ _ _ h => h) (Or.inr ⟨by rfl, rfl⟩) hHeld ?_
              simp only [List.setIfInBounds_toArray, List.set_cons_zero, List.set_cons_succ]
              refine take_at 10 110 (undef) rfl rfl (by kernel_rfl) (by kernel_rfl) (by kernel_rfl) (fun _ _ _ h => h) (Or.inr ⟨by rfl, rfl⟩) hHeld ?_
              simp only [List.setIfInBounds_toArray, List.set_cons_zero, List.set_cons_succ]
              refine take_at 11 111 (undef) rfl rfl (by kernel_rfl) (by kernel_rfl) (by kernel_rfl) (fun _ _ _ h => h) (Or.inr ⟨by rfl, rfl⟩) hHeld ?_
              simp only [List.setIfInBounds_toArray, List.set_cons_zero, List.set_cons_succ]
              refine take_at 12 112 (undef) rfl rfl (by kernel_rfl) (by kernel_rfl) (by kernel_rfl) (fun _ _ _ h => h) (Or.inr ⟨by rfl, rfl⟩) hHeld ?_
              simp only [List.setIfInBounds_toArray, List.set_cons_zero, List.set_cons_succ]
              refine take_at 13 113 (undef) rfl rfl (by kernel_rfl) (by kernel_rfl) (by kernel_rfl) (fun _ _ _ h => h) (Or.inr ⟨by rfl, rfl⟩) hHeld ?_
              simp only [List.setIfInBounds_toArray, List.set_cons_zero, List.set_cons_succ]
              refine take_at 14 114 (undef) rfl rfl (by kernel_rfl) (by kernel_rfl) (by kernel_rfl) (fun _ _ _ h => h) (Or.inr ⟨by rfl, rfl⟩) hHeld ?_
              simp only [List.setIfInBounds_toArray, List.set_cons_zero, List.set_cons_succ]
              refine take_at 15 115 (undef) rfl rfl (by kernel_rfl) (by kernel_rfl) (by kernel_rfl) (fun _ _ _ h => h) (Or.inr ⟨by rfl, rfl⟩) hHeld ?_
              simp only [List.setIfInBounds_toArray, List.set_cons_zero, List.set_cons_succ]
              refine take_at 16 116 (undef) rfl rfl (by kernel_rfl) (by kernel_rfl) (by kernel_rfl) (fun _ _ _ h => h) (Or.inr ⟨by rfl, rfl⟩) hHeld ?_
              simp only [List.setIfInBounds_toArray, List.set_cons_zero, List.set_cons_succ]
              refine take_at 17 117 (undef) rfl rfl (by kernel_rfl) (by kernel_rfl) (by kernel_rfl) (fun _ _ _ h => h) (Or.inr ⟨by rfl, rfl⟩) hHeld ?_
              simp only [List.setIfInBounds_toArray, List.set_cons_zero, List.set_cons_succ]
              refine take_at 18 118 (undef) rfl rfl (by kernel_rfl) (by kernel_rfl) (by kernel_rfl) (fun _ _ _ h => h) (Or.inr ⟨by rfl, rfl⟩) hHeld ?_
              simp only [List.setIfInBounds_toArray, List.set_cons_zero, List.set_cons_succ]
              refine take_at 19 119 (undef) rfl rfl (by kernel_rfl) (by kernel_rfl) (by kernel_rfl) (fun _ _ _ h => h) (Or.inr ⟨by rfl, rfl⟩) hHeld ?_
              simp only [List.setIfInBounds_toArray, List.set_cons_zero, List.set_cons_succ]
              refine take_at 20 120 (undef) rfl rfl (by kernel_rfl) (by kernel_rfl) (by kernel_rfl) (fun _ _ _ h => h) (Or.inr ⟨by rfl, rfl⟩) hHeld ?_
              simp only [List.setIfInBounds_toArray, List.set_cons_zero, List.set_cons_succ]
              refine take_at 21 121 (undef) rfl rfl (by kernel_rfl) (by kernel_rfl) (by kernel_rfl) (fun _ _ _ h => h) (Or.inr ⟨by rfl, rfl⟩) hHeld ?_
              simp only [List.setIfInBounds_toArray, List.set_cons_zero, List.set_cons_succ]
              refine take_at 22 122 (undef) rfl rfl (by kernel_rfl) (by kernel_rfl) (by kernel_rfl) (fun _ _ _ h => h) (Or.inr ⟨by rfl, rfl⟩) hHeld ?_
              simp only [List.setIfInBounds_toArray, List.set_cons_zero, List.set_cons_succ]
              refine take_at 23 123 (undef) rfl rfl (by kernel_rfl) (by kernel_rfl) (by kernel_rfl) (fun _ _ _ h => h) (Or.inr ⟨by rfl, rfl⟩) hHeld ?_
              simp only [List.setIfInBounds_toArray, List.set_cons_zero, List.set_cons_succ]
              refine take_at 24 124 (undef) rfl rfl (by kernel_rfl) (by kernel_rfl) (by kernel_rfl) (fun _ _ _ h => h) (Or.inr ⟨by rfl, rfl⟩) hHeld ?_
              simp only [List.setIfInBounds_toArray, List.set_cons_zero, List.set_cons_succ]
              refine take_at 25 125 (undef) rfl rfl (by kernel_rfl) (by kernel_rfl) (by kernel_rfl) (fun _ _ _ h => h) (Or.inr ⟨by rfl, rfl⟩) hHeld ?_
              simp only [List.setIfInBounds_toArray, List.set_cons_zero, List.set_cons_succ]
              refine take_at 26 126 (undef) rfl rfl (by kernel_rfl) (by kernel_rfl) (by kernel_rfl) (fun _ _ _ h => h) (Or.inr ⟨by rfl, rfl⟩) hHeld ?_
              simp only [List.setIfInBounds_toArray, List.set_cons_zero, List.set_cons_succ]
              refine take_at 27 127 (undef) rfl rfl (by kernel_rfl) (by kernel_rfl) (by kernel_rfl) (fun _ _ _ h => h) (Or.inr ⟨by rfl, rfl⟩) hHeld ?_
              simp only [List.setIfInBounds_toArray, List.set_cons_zero, List.set_cons_succ]
              refine take_at 28 128 (undef) rfl rfl (by kernel_rfl) (by kernel_rfl) (by kernel_rfl) (fun _ _ _ h => h) (Or.inr ⟨by rfl, rfl⟩) hHeld ?_
              simp only [List.setIfInBounds_toArray, List.set_cons_zero, List.set_cons_succ]
              refine take_at 29 129 (.bool true) rfl rfl (by kernel_rfl) (by kernel_rfl) (by kernel_rfl) (fun _ _ _ h => h) (Or.inl ⟨by rfl, ?_⟩) hHeld ?_
              · intro w hSw; go_simp
              simp only [List.setIfInBounds_toArray, List.set_cons_zero, List.set_cons_succ]
              refine take_at 30 130 (.bool true) rfl rfl (by kernel_rfl) (by kernel_rfl) (by kernel_rfl) (fun _ _ _ h => h) (Or.inl ⟨by rfl, ?_⟩) hHeld ?_
              · intro w hSw; go_simp
              simp only [List.setIfInBounds_toArray, List.set_cons_zero, List.set_cons_succ]
              refine take_at 31 18 (.bool true) rfl rfl (by kernel_rfl) (by kernel_rfl) (by kernel_rfl) (fun _ _ _ h => h) (Or.inl ⟨by rfl, ?_⟩) hHeld ?_
              · intro w hSw; go_simp
              simp only [List.setIfInBounds_toArray, List.set_cons_zero, List.set_cons_succ]
              refine wpAnyH_done (by kernel_rfl) (NoPanic.normal ?_) _
              clear hHeld
              obtain ⟨F1, F2, a1, a2, a3⟩ := HE7.out
              have HDx := Lib.hid (a1.rest (Keep.refl _ w7).drew)
              have HX := Lib.hid (And.intro (a2.trans (Held.calm a1.slt (Keep.refl _ w7).drew)) a3)
              clear a1 a2 a3 HE7
              gi_wp2_with fail
              refine wpIn_wide.2 ?_
              obtain ⟨SP, hSP⟩ : ∃ SP : World → Prop, SP = fun w' => Held S3 WV w' := ⟨_, rfl⟩
              have HS0 : Hid (SP (w7.drew).drew) := Lib.hid (by rw [hSP]; exact HX.out.1.trans (Held.calm HDx.out.slt (Keep.refl _ (w7.drew)).drew))
              have QB : Hid (∀ w', SP w' → w'.cell? ⟨w4.heap.size, 0, none⟩ = some (.pointer (some ⟨t2, 0, none⟩))) := Lib.hid (fun w' h => by rw [hSP] at h; exact h.cell_ HIN.out.1 (HH3.out.cell_ rfl HBX.out))
              have QF : Hid (∀ w', SP w' → w'.cell? ⟨wr.heap.size, 3, none⟩ = some (.int .i64 s.fl)) := Lib.hid (fun w' h => by rw [hSP] at h; exact h.cell_ HIN.out.2.1 HSB3.out.2.2.2)
              have QS : Hid (∀ w', Held S3 WV w' → SP w') := Lib.hid (fun w' h => by rw [hSP]; exact h)
              have QT : Hid (∀ w', SP w' → Held S3 WV w') := Lib.hid (fun w' h => by rw [hSP] at h; exact h)
              clear hSP
              refine wp_region_noPanic ?_
              refine wp_region_held_drew (S := SP) (by kernel_rfl) HS0.out (fun hHeld => ?_)
              refine take_at 0 155 (.bool true) rfl rfl (by kernel_rfl) (by kernel_rfl) (by kernel_rfl) (fun _ _ _ h => h) (Or.inl ⟨by rfl, ?_⟩) hHeld ?_
              · intro w hSw; go_simp
              simp only [List.setIfInBounds_toArray, List.set_cons_zero, List.set_cons_succ]
              refine take_at 1 156 (.bool false) rfl rfl (by kernel_rfl) (by kernel_rfl) (by kernel_rfl) (fun _ _ _ h => h) (Or.inl ⟨by rfl, ?_⟩) hHeld ?_
              · intro w hSw; go_simp
              simp only [List.setIfInBounds_toArray, List.set_cons_zero, List.set_cons_succ]
              refine take_at 2 157 (.bool false) rfl rfl (by kernel_rfl) (by kernel_rfl) (by kernel_rfl) (fun _ _ _ h => h) (Or.inl ⟨by rfl, ?_⟩) hHeld ?_
              · intro w hSw; go_simp
              simp only [List.setIfInBounds_toArray, List.set_cons_zero, List.set_cons_succ]
              refine take_at 3 158 (.pointer (some ⟨t1, 0, none⟩)) rfl rfl (by kernel_rfl) (by kernel_rfl) (by kernel_rfl) (fun _ _ _ h => h) (Or.inl ⟨by rfl, ?_⟩) hHeld ?_
              · intro w hSw; go_simp
              simp only [List.setIfInBounds_toArray, List.set_cons_zero, List.set_cons_succ]
              refine take_at 5 160 (.pointer (some ⟨t2, 0, none⟩)) rfl rfl (by kernel_rfl) (by kernel_rfl) (by kernel_rfl) (fun _ _ _ h => h) (Or.inl ⟨by rfl, ?_⟩) hHeld ?_
              · intro w hSw; have e := QB.out w hSw; go_simp
              simp only [List.setIfInBounds_toArray, List.set_cons_zero, List.set_cons_succ]
              refine wpAnyH_ready (rs := [4]) (by kernel_rfl) (by simp) ?_
              refine AllReadyH.cons rfl (fun K hK => ?_) AllReadyH.nil
              go_simp
              refine ((HDx.out.rest (Keep.refl _ (w7.drew)).drew).on1 (fun S' _ hT => kN hT)).mono ?_
              rintro e w6 ⟨F', ⟨rfl, he⟩, hd6, hh6⟩
              rw [he] at hd6
              clear he
              have hh6v := (QT.out _ hHeld).trans hh6
              have HD6 := Lib.hid (And.intro hd6 hh6v)
              clear hd6 hh6
              go_wp2_with fail
              refine hK.out _ _ (QS.out _ hh6v) (fun hHeld => ?_)
              clear hK K
              try simp only [List.setIfInBounds_toArray, List.set_cons_zero, List.set_cons_succ]
              refine wpAnyH_ready (rs := [6]) (by kernel_rfl) (by simp) ?_
              refine AllReadyH.cons rfl (fun K hK => ?_) AllReadyH.nil
              go_simp
              refine (HD6.out.1.on2 (fun S' _ hT => kN hT)).mono ?_
              rintro e w7 ⟨F', ⟨rfl, he⟩, hd7, hh7⟩
              rw [he] at hd7
              clear he
              have hh7v := HD6.out.2.trans hh7
              have HD7 := Lib.hid (And.intro hd7 hh7v)
              have hnn : (F1.length : Int) = (F2.length : Int) := by rw [HX.out.2.2.1]
              clear hd7 hh7
              go_wp2_with fail
              refine hK.out _ _ (QS.out _ hh7v) (fun hHeld => ?_)
              clear hK K
              try simp only [List.setIfInBounds_toArray, List.set_cons_zero, List.set_cons_succ]
              refine take_at 7 162 (.bool false) rfl rfl (by kernel_rfl) (by kernel_rfl) (by kernel_rfl) (fun _ _ _ h => h) (Or.inl ⟨by rfl, ?_⟩) hHeld ?_
              · intro w hSw; go_simp <;> exact hnn
              simp only [List.setIfInBounds_toArray, List.set_cons_zero, List.set_cons_succ]
              refine take_at 8 163 (.bool false) rfl rfl (by kernel_rfl) (by kernel_rfl) (by kernel_rfl) (fun _ _ _ h => h) (Or.inl ⟨by rfl, ?_⟩) hHeld ?_
              · intro w hSw; go_simp
              simp only [List.setIfInBounds_toArray, List.set_cons_zero, List.set_cons_succ]
              refine wpAnyH_done (by kernel_rfl) (NoPanic.normal ?_) _
              clear hHeld hnn
              have HWJ : Hid (wrap64 ((j : Int) + 1) = ((j + 1 : Nat) : Int)) := Lib.hid (by have := HJ.out; unfold wrap64; omega)
              gi_wp2_with fail
              go_roundw
              case rel => exact ⟨j + 1, by have := HJ.out; omega, by go_num, F1, F2, HD7.out.1.less (fun i (e : i = w4.heap.size) => by rw [e]; exact HIN.out.1), HH3.out.trans (HD7.out.2.less (fun i (e : i = w4.heap.size) => by rw [e]; exact HIN.out.1)), HX.out.2.1, HX.out.2.2.1, HX.out.2.2.2⟩
              case measure => have := HJ.out; simp [intOf]; omega
            | some bs =>
              have hv2 := (HVJ.out.1 KT).symm.trans hv
              obtain ⟨x1, g1b, bs1, h1a, rfl, h1b, h1c, h1d⟩ := HP1.out.resolve_left (fun h => by rw [hv] at h; cases h.1)
              obtain ⟨x2, g2b, bs2, h2a, rfl, h2b, h2c, h2d⟩ := hp2.resolve_left (fun h => by rw [hv2] at h; cases h.1)
              obtain rfl : bs = bs1 := by rw [hv] at h1a; injection h1a
              obtain rfl : bs = bs2 := by rw [hv2] at h2a; injection h2a
              have r1 := hh7.row (.inr h1b) h1c
              have hb1 := (hd7.fst.has h1d)
              have hb2 := (hd7.snd.has h2d)
              have m1 : ∀ w', Calm w7 w' → Sem.run Try.prog (convert 22 9 (.slice (some ⟨g1b, 0, none⟩) vl vl)) w' = .ok (.string (str bs)) w' := fun w' k => conv_rd ((row_rd hb1.1 (show bs.length = vl from hb1.2) (by have := HB3.out; omega)).calm k)
              have m2 : ∀ w', Calm w7 w' → Sem.run Try.prog (convert 22 9 (.slice (some ⟨g2b, 0, none⟩) vl vl)) w' = .ok (.string (str bs)) w' := fun w' k => conv_rd ((row_rd hb2.1 (show bs.length = vl from hb2.2) (by have := HB3.out; omega)).calm k)
              have M1 := Lib.hid m1
              have M2 := Lib.hid m2
              have XA : Hid (∀ w', Calm w7 w' → w'.cell? ⟨x1, 0, none⟩ = some (.string (str KT)) ∧ w'.cell? ⟨x1, 1, none⟩ = some (.slice (some ⟨g1b, 0, none⟩) vl vl)) := Lib.hid (fun w' k => ⟨((r1.keep k (fun e => e)).cell 0).trans rfl, ((r1.keep k (fun e => e)).cell 1).trans rfl⟩)
              have XB : Hid (∀ w', Calm w7 w' → w'.cell? ⟨x2, 0, none⟩ = some (.string (str KT)) ∧ w'.cell? ⟨x2, 1, none⟩ = some (.slice (some ⟨g2b, 0, none⟩) vl vl)) := Lib.hid (fun w' k => ⟨((h2c.keep k (fun e => e)).cell 0).trans rfl, ((h2c.keep k (fun e => e)).cell 1).trans rfl⟩)
              have hkk : ((str KT).toList == (str KT).toList) = true := by simp
              have hbb : ((str bs).toList == (str bs).toList) = true := by simp
              simp only [hv, hv2, Option.isSome_some]
              clear hp2 hg2 hl2 hd7 hh7 hv hv2 HC2 HP1 HG1 c12 h1a h1b h1c h1d h2a h2b h2c h2d r1 hb1 hb2 m1 m2
              gi_wp2_with fail
              refine wpIn_wide.2 ?_
              refine wp_region_noPanic ?_
              refine wp_region_held_drew (S := fun w' => Calm w7 w') (by kernel_rfl) (Keep.refl _ w7).drew (fun hHeld => ?_)
              refine take_at 0 100 (.bool true) rfl rfl (by kernel_rfl) (by kernel_rfl) (by kernel_rfl) (fun _ _ _ h => h) (Or.inl ⟨by rfl, ?_⟩) hHeld ?_
              · intro w hSw; go_simp
              simp only [List.setIfInBounds_toArray, List.set_cons_zero, List.set_cons_succ]
              refine take_at 1 101 (.bool true) rfl rfl (by kernel_rfl) (by kernel_rfl) (by kernel_rfl) (fun _ _ _ h => h) (Or.inl ⟨by rfl, ?_⟩) hHeld ?_
              · intro w hSw; go_simp
              simp only [List.setIfInBounds_toArray, List.set_cons_zero, List.set_cons_succ]
              refine take_at 2 102 (.bool true) rfl rfl (by kernel_rfl) (by kernel_rfl) (by kernel_rfl) (fun _ _ _ h => h) (Or.inl ⟨by rfl, ?_⟩) hHeld ?_
              · intro w hSw; go_simp
              simp only [List.setIfInBounds_toArray, List.set_cons_zero, List.set_cons_succ]
              refine take_at 3 103 (.bool true) rfl rfl (by kernel_rfl) (by kernel_rfl) (by kernel_rfl) (fun _ _ _ h => h) (Or.inl ⟨by rfl, ?_⟩) hHeld ?_
              · intro w hSw; go_simp
              simp only [List.setIfInBounds_toArray, List.set_cons_zero, List.set_cons_succ]
              refine take_at 4 104 (.bool true) rfl rfl (by kernel_rfl) (by kernel_rfl) (by kernel_rfl) (fun _ _ _ h => h) (Or.inl ⟨by rfl, ?_⟩) hHeld ?_
              · intro w hSw; go_simp
              simp only [List.setIfInBounds_toArray, List.set_cons_zero, List.set_cons_succ]
              refine take_at 5 105 (.bool false) rfl rfl (by kernel_rfl) (by kernel_rfl) (by kernel_rfl) (fun _ _ _ h => h) (Or.inl ⟨by rfl, ?_⟩) hHeld ?_
              · intro w hSw; go_simp
              simp only [List.setIfInBounds_toArray, List.set_cons_zero, List.set_cons_succ]
              refine take_at 6 106 (.bool false) rfl rfl (by kernel_rfl) (by kernel_rfl) (by kernel_rfl) (fun _ _ _ h => h) (Or.inl ⟨by rfl, ?_⟩) hHeld ?_
              · intro w hSw; go_simp
              simp only [List.setIfInBounds_toArray, List.set_cons_zero, List.set_cons_succ]
              refine take_at 7 107 (.pointer (some ⟨x1, 0, none⟩)) rfl rfl (by kernel_rfl) (by kernel_rfl) (by kernel_rfl) (fun _ _ _ h => h) (Or.inl ⟨by rfl, ?_⟩) hHeld ?_
              · intro w hSw; go_simp
              simp only [List.setIfInBounds_toArray, List.set_cons_zero, List.set_cons_succ]
              refine take_at 8 108 (.pointer (some ⟨x1, 0, none⟩)) rfl rfl (by kernel_rfl) (by kernel_rfl) (by kernel_rfl) (fun _ _ _ h => h) (Or.inl ⟨by rfl, ?_⟩) hHeld ?_
              · intro w hSw; go_simp
              simp only [List.setIfInBounds_toArray, List.set_cons_zero, List.set_cons_succ]
              refine take_at 9 109 (.pointer (some ⟨x1, 0, none⟩)) rfl rfl (by kernel_rfl) (by kernel_rfl) (by kernel_rfl) (fun _ _ _ h => h) (Or.inl ⟨by rfl, ?_⟩) hHeld ?_
              · intro w hSw; go_simp
              simp only [List.setIfInBounds_toArray, List.set_cons_zero, List.set_cons_succ]
              refine take_at 10 110 (.string (str KT)) rfl rfl (by kernel_rfl) (by kernel_rfl) (by kernel_rfl) (fun _ _ _ h => h) (Or.inl ⟨by rfl, ?_⟩) hHeld ?_
              · intro w hSw; have e := (XA.out w hSw).1; go_simp
              simp only [List.setIfInBounds_toArray, List.set_cons_zero, List.set_cons_succ]
              refine take_at 11 111 (.pointer (some ⟨x2, 0, none⟩)) rfl rfl (by kernel_rfl) (by kernel_rfl) (by kernel_rfl) (fun _ _ _ h => h) (Or.inl ⟨by rfl, ?_⟩) hHeld ?_
              · intro w hSw; go_simp
              simp only [List.setIfInBounds_toArray, List.set_cons_zero, List.set_cons_succ]
              refine take_at 12 112 (.pointer (some ⟨x2, 0, none⟩)) rfl rfl (by kernel_rfl) (by kernel_rfl) (by kernel_rfl) (fun _ _ _ h => h) (Or.inl ⟨by rfl, ?_⟩) hHeld ?_
              · intro w hSw; go_simp
              simp only [List.setIfInBounds_toArray, List.set_cons_zero, List.set_cons_succ]
              refine take_at 13 113 (.pointer (some ⟨x2, 0, none⟩)) rfl rfl (by kernel_rfl) (by kernel_rfl) (by kernel_rfl) (fun _ _ _ h => h) (Or.inl ⟨by rfl, ?_⟩) hHeld ?_
              · intro w hSw; go_simp
              simp only [List.setIfInBounds_toArray, List.set_cons_zero, List.set_cons_succ]
              refine take_at 14 114 (.string (str KT)) rfl rfl (by kernel_rfl) (by kernel_rfl) (by kernel_rfl) (fun _ _ _ h => h) (Or.inl ⟨by rfl, ?_⟩) hHeld ?_
              · intro w hSw; have e := (XB.out w hSw).1; go_simp
              simp only [List.setIfInBounds_toArray, List.set_cons_zero, List.set_cons_succ]
              refine take_at 15 115 (.bool true) rfl rfl (by kernel_rfl) (by kernel_rfl) (by kernel_rfl) (fun _ _ _ h => h) (Or.inl ⟨by rfl, ?_⟩) hHeld ?_
              · intro w hSw; go_simp
              simp only [List.setIfInBounds_toArray, List.set_cons_zero, List.set_cons_succ]
              refine take_at 16 116 (.bool true) rfl rfl (by kernel_rfl) (by kernel_rfl) (by kernel_rfl) (fun _ _ _ h => h) (Or.inl ⟨by rfl, ?_⟩) hHeld ?_
              · intro w hSw; go_simp
              simp only [List.setIfInBounds_toArray, List.set_cons_zero, List.set_cons_succ]
              refine take_at 17 117 (.pointer (some ⟨x1, 0, none⟩)) rfl rfl (by kernel_rfl) (by kernel_rfl) (by kernel_rfl) (fun _ _ _ h => h) (Or.inl ⟨by rfl, ?_⟩) hHeld ?_
              · intro w hSw; go_simp
              simp only [List.setIfInBounds_toArray, List.set_cons_zero, List.set_cons_succ]
              refine take_at 18 118 (.pointer (some ⟨x1, 0, none⟩)) rfl rfl (by kernel_rfl) (by kernel_rfl) (by kernel_rfl) (fun _ _ _ h => h) (Or.inl ⟨by rfl, ?_⟩) hHeld ?_
              · intro w hSw; go_simp
              simp only [List.setIfInBounds_toArray, List.set_cons_zero, List.set_cons_succ]
              refine take_at 19 119 (.pointer (some ⟨x1, 1, none⟩)) rfl rfl (by kernel_rfl) (by kernel_rfl) (by kernel_rfl) (fun _ _ _ h => h) (Or.inl ⟨by rfl, ?_⟩) hHeld ?_
              · intro w hSw; go_simp
              simp only [List.setIfInBounds_toArray, List.set_cons_zero, List.set_cons_succ]
              refine take_at 20 120 (.slice (some ⟨g1b, 0, none⟩) vl vl) rfl rfl (by kernel_rfl) (by kernel_rfl) (by kernel_rfl) (fun _ _ _ h => h) (Or.inl ⟨by rfl, ?_⟩) hHeld ?_
              · intro w hSw; have e := (XA.out w hSw).2; go_simp
              simp only [List.setIfInBounds_toArray, List.set_cons_zero, List.set_cons_succ]
              refine take_at 21 121 (.string (str bs)) rfl rfl (by kernel_rfl) (by kernel_rfl) (by kernel_rfl) (fun _ _ _ h => h) (Or.inl ⟨by rfl, ?_⟩) hHeld ?_
              · intro w hSw; have e := M1.out w hSw; go_simp
              simp only [List.setIfInBounds_toArray, List.set_cons_zero, List.set_cons_succ]
              refine take_at 22 122 (.pointer (some ⟨x2, 0, none⟩)) rfl rfl (by kernel_rfl) (by kernel_rfl) (by kernel_rfl) (fun _ _ _ h => h) (Or.inl ⟨by rfl, ?_⟩) hHeld ?_
              · intro w hSw; go_simp
              simp only [List.setIfInBounds_toArray, List.set_cons_zero, List.set_cons_succ]
              refine take_at 23 123 (.pointer (some ⟨x2, 0, none⟩)) rfl rfl (by kernel_rfl) (by kernel_rfl) (by kernel_rfl) (fun _ _ _ h => h) (Or.inl ⟨by rfl, ?_⟩) hHeld ?_
              · intro w hSw; go_simp
              simp only [List.setIfInBounds_toArray, List.set_cons_zero, List.set_cons_succ]
              refine take_at 24 124 (.pointer (some ⟨x2, 1, none⟩)) rfl rfl (by kernel_rfl) (by kernel_rfl) (by kernel_rfl) (fun _ _ _ h => h) (Or.inl ⟨by rfl, ?_⟩) hHeld ?_
              · intro w hSw; go_simp
              simp only [List.setIfInBounds_toArray, List.set_cons_zero, List.set_cons_succ]
              refine take_at 25 125 (.slice (some ⟨g2b, 0, none⟩) vl vl) rfl rfl (by kernel_rfl) (by kernel_rfl) (by kernel_rfl) (fun _ _ _ h => h) (Or.inl ⟨by rfl, ?_⟩) hHeld ?_
              · intro w hSw; have e := (XB.out w hSw).2; go_simp
              simp only [List.setIfInBounds_toArray, List.set_cons_zero, List.set_cons_succ]
              refine take_at 26 126 (.string (str bs)) rfl rfl (by kernel_rfl) (by kernel_rfl) (by kernel_rfl) (fun _ _ _ h => h) (Or.inl ⟨by rfl, ?_⟩) hHeld ?_
              · intro w hSw; have e := M2.out w hSw; go_simp
              simp only [List.setIfInBounds_toArray, List.set_cons_zero, List.set_cons_succ]
              refine take_at 27 127 (.bool true) rfl rfl (by kernel_rfl) (by kernel_rfl) (by kernel_rfl) (fun _ _ _ h => h) (Or.inl ⟨by rfl, ?_⟩) hHeld ?_
              · intro w hSw; go_simp
              simp only [List.setIfInBounds_toArray, List.set_cons_zero, List.set_cons_succ]
              refine take_at 28 128 (.bool true) rfl rfl (by kernel_rfl) (by kernel_rfl) (by kernel_rfl) (fun _ _ _ h => h) (Or.inl ⟨by rfl, ?_⟩) hHeld ?_
              · intro w hSw; go_simp
              simp only [List.setIfInBounds_toArray, List.set_cons_zero, List.set_cons_succ]
              refine take_at 29 129 (.bool true) rfl rfl (by kernel_rfl) (by kernel_rfl) (by kernel_rfl) (fun _ _ _ h => h) (Or.inl ⟨by rfl, ?_⟩) hHeld ?_
              · intro w hSw; go_simp
              simp only [List.setIfInBounds_toArray, List.set_cons_zero, List.set_cons_succ]
              refine take_at 30 130 (.bool true) rfl rfl (by kernel_rfl) (by kernel_rfl) (by kernel_rfl) (fun _ _ _ h => h) (Or.inl ⟨by rfl, ?_⟩) hHeld ?_
              · intro w hSw; go_simp
              simp only [List.setIfInBounds_toArray, List.set_cons_zero, List.set_cons_succ]
              refine take_at 31 18 (.bool true) rfl rfl (by kernel_rfl) (by kernel_rfl) (by kernel_rfl) (fun _ _ _ h => h) (Or.inl ⟨by rfl, ?_⟩) hHeld ?_
              · intro w hSw; go_simp
              simp only [List.setIfInBounds_toArray, List.set_cons_zero, List.set_cons_succ]
              refine wpAnyH_done (by kernel_rfl) (NoPanic.normal ?_) _
              clear hHeld
              obtain ⟨F1, F2, a1, a2, a3⟩ := HE7.out
              have HDx := Lib.hid (a1.rest (Keep.refl _ w7).drew)
              have HX := Lib.hid (And.intro (a2.trans (Held.calm a1.slt (Keep.refl _ w7).drew)) a3)
              clear a1 a2 a3 HE7
              gi_wp2_with fail
              refine wpIn_wide.2 ?_
              obtain ⟨SP, hSP⟩ : ∃ SP : World → Prop, SP = fun w' => Held S3 WV w' := ⟨_, rfl⟩
              have HS0 : Hid (SP (w7.drew).drew) := Lib.hid (by rw [hSP]; exact HX.out.1.trans (Held.calm HDx.out.slt (Keep.refl _ (w7.drew)).drew))
              have QB : Hid (∀ w', SP w' → w'.cell? ⟨w4.heap.size, 0, none⟩ = some (.pointer (some ⟨t2, 0, none⟩))) := Lib.hid (fun w' h => by rw [hSP] at h; exact h.cell_ HIN.out.1 (HH3.out.cell_ rfl HBX.out))
              have QF : Hid (∀ w', SP w' → w'.cell? ⟨wr.heap.size, 3, none⟩ = some (.int .i64 s.fl)) := Lib.hid (fun w' h => by rw [hSP] at h; exact h.cell_ HIN.out.2.1 HSB3.out.2.2.2)
              have QS : Hid (∀ w', Held S3 WV w' → SP w') := Lib.hid (fun w' h => by rw [hSP]; exact h)
              have QT : Hid (∀ w', SP w' → Held S3 WV w') := Lib.hid (fun w' h => by rw [hSP] at h; exact h)
              clear hSP
              refine wp_region_noPanic ?_
              refine wp_region_held_drew (S := SP) (by kernel_rfl) HS0.out (fun hHeld => ?_)
              refine take_at 0 155 (.bool true) rfl rfl (by kernel_rfl) (by kernel_rfl) (by kernel_rfl) (fun _ _ _ h => h) (Or.inl ⟨by rfl, ?_⟩) hHeld ?_
              · intro w hSw; go_simp
              simp only [List.setIfInBounds_toArray, List.set_cons_zero, List.set_cons_succ]
              refine take_at 1 156 (.bool false) rfl rfl (by kernel_rfl) (by kernel_rfl) (by kernel_rfl) (fun _ _ _ h => h) (Or.inl ⟨by rfl, ?_⟩) hHeld ?_
              · intro w hSw; go_simp
              simp only [List.setIfInBounds_toArray, List.set_cons_zero, List.set_cons_succ]
              refine take_at 2 157 (.bool false) rfl rfl (by kernel_rfl) (by kernel_rfl) (by kernel_rfl) (fun _ _ _ h => h) (Or.inl ⟨by rfl, ?_⟩) hHeld ?_
              · intro w hSw; go_simp
              simp only [List.setIfInBounds_toArray, List.set_cons_zero, List.set_cons_succ]
              refine take_at 3 158 (.pointer (some ⟨t1, 0, none⟩)) rfl rfl (by kernel_rfl) (by kernel_rfl) (by kernel_rfl) (fun _ _ _ h => h) (Or.inl ⟨by rfl, ?_⟩) hHeld ?_
              · intro w hSw; go_simp
              simp only [List.setIfInBounds_toArray, List.set_cons_zero, List.set_cons_succ]
              refine take_at 5 160 (.pointer (some ⟨t2, 0, none⟩)) rfl rfl (by kernel_rfl) (by kernel_rfl) (by kernel_rfl) (fun _ _ _ h => h) (Or.inl ⟨by rfl, ?_⟩) hHeld ?_
              · intro w hSw; have e := QB.out w hSw; go_simp
              simp only [List.setIfInBounds_toArray, List.set_cons_zero, List.set_cons_succ]
              refine wpAnyH_ready (rs := [4]) (by kernel_rfl) (by simp) ?_
              refine AllReadyH.cons rfl (fun K hK => ?_) AllReadyH.nil
              go_simp
              refine ((HDx.out.rest (Keep.refl _ (w7.drew)).drew).on1 (fun S' _ hT => kN hT)).mono ?_
              rintro e w6 ⟨F', ⟨rfl, he⟩, hd6, hh6⟩
              rw [he] at hd6
              clear he
              have hh6v := (QT.out _ hHeld).trans hh6
              have HD6 := Lib.hid (And.intro hd6 hh6v)
              clear hd6 hh6
              go_wp2_with fail
              refine hK.out _ _ (QS.out _ hh6v) (fun hHeld => ?_)
              clear hK K
              try simp only [List.setIfInBounds_toArray, List.set_cons_zero, List.set_cons_succ]
              refine wpAnyH_ready (rs := [6]) (by kernel_rfl) (by simp) ?_
              refine AllReadyH.cons rfl (fun K hK => ?_) AllReadyH.nil
              go_simp
              refine (HD6.out.1.on2 (fun S' _ hT => kN hT)).mono ?_
              rintro e w7 ⟨F', ⟨rfl, he⟩, hd7, hh7⟩
              rw [he] at hd7
              clear he
              have hh7v := HD6.out.2.trans hh7
              have HD7 := Lib.hid (And.intro hd7 hh7v)
              have hnn : (F1.length : Int) = (F2.length : Int) := by rw [HX.out.2.2.1]
              clear hd7 hh7
              go_wp2_with fail
              refine hK.out _ _ (QS.out _ hh7v) (fun hHeld => ?_)
              clear hK K
              try simp only [List.setIfInBounds_toArray, List.set_cons_zero, List.set_cons_succ]
              refine take_at 7 162 (.bool false) rfl rfl (by kernel_rfl) (by kernel_rfl) (by kernel_rfl) (fun _ _ _ h => h) (Or.inl ⟨by rfl, ?_⟩) hHeld ?_
              · intro w hSw; go_simp <;> exact hnn
              simp only [List.setIfInBounds_toArray, List.set_cons_zero, List.set_cons_succ]
              refine take_at 8 163 (.bool false) rfl rfl (by kernel_rfl) (by kernel_rfl) (by kernel_rfl) (fun _ _ _ h => h) (Or.inl ⟨by rfl, ?_⟩) hHeld ?_
              · intro w hSw; go_simp
              simp only [List.setIfInBounds_toArray, List.set_cons_zero, List.set_cons_succ]
              refine wpAnyH_done (by kernel_rfl) (NoPanic.normal ?_) _
              clear hHeld hnn
              have HWJ : Hid (wrap64 ((j : Int) + 1) = ((j + 1 : Nat) : Int)) := Lib.hid (by have := HJ.out; unfold wrap64; omega)
              gi_wp2_with fail
              go_roundw
              case rel => exact ⟨j + 1, by have := HJ.out; omega, by go_num, F1, F2, HD7.out.1.less (fun i (e : i = w4.heap.size) => by rw [e]; exact HIN.out.1), HH3.out.trans (HD7.out.2.less (fun i (e : i = w4.heap.size) => by rw [e]; exact HIN.out.1)), HX.out.2.1, HX.out.2.2.1, HX.out.2.2.2⟩
              case measure => have := HJ.out; simp [intOf]; omega
          · have e1 : (s.k == 1) = false := by rw [beq_eq_false_iff_ne]; exact k1
            by_cases k2 : s.k = 2
            · have e2 : (s.k == 2) = true := by rw [beq_iff_eq]; exact k2
              have HC1 := Lib.hid ((HD3.out.rest (Keep.refl _ WV).drew).on1 (fun S' _ hT => kU hT (HRK3.out.calm (Keep.refl _ WV).drew) (HRV3.out.calm (Keep.refl _ WV).drew) s.fl HFL.out.1 HFL.out.2 (show (2 : Nat) ≠ 1 by decide) (show E1.length < 100 by have := HVJ.out.2.2; have := HJ.out; omega)))
              clear k1 k2
              gi_wp2_with fail
              refine wpIn_wide.2 ?_
              obtain ⟨SP, hSP⟩ : ∃ SP : World → Prop, SP = fun w' => Held S3 WV w' := ⟨_, rfl⟩
              have HS0 : Hid (SP WV.drew) := Lib.hid (by rw [hSP]; exact Held.calm HD3.out.slt (Keep.refl _ WV).drew)
              have QB : Hid (∀ w', SP w' → w'.cell? ⟨w4.heap.size, 0, none⟩ = some (.pointer (some ⟨t2, 0, none⟩))) := Lib.hid (fun w' h => by rw [hSP] at h; exact h.cell_ HIN.out.1 (HH3.out.cell_ rfl HBX.out))
              have QF : Hid (∀ w', SP w' → w'.cell? ⟨wr.heap.size, 3, none⟩ = some (.int .i64 s.fl)) := Lib.hid (fun w' h => by rw [hSP] at h; exact h.cell_ HIN.out.2.1 HSB3.out.2.2.2)
              have QS : Hid (∀ w', Held S3 WV w' → SP w') := Lib.hid (fun w' h => by rw [hSP]; exact h)
              have QT : Hid (∀ w', SP w' → Held S3 WV w') := Lib.hid (fun w' h => by rw [hSP] at h; exact h)
              clear hSP
              refine wp_region_noPanic ?_
              refine wp_region_held_drew (S := SP) (by kernel_rfl) HS0.out (fun hHeld => ?_)
              refine take_at 0 133 (.pointer (some ⟨t1, 0, none⟩)) rfl rfl (by kernel_rfl) (by kernel_rfl) (by kernel_rfl) (fun _ _ _ h => h) (Or.inl ⟨by rfl, ?_⟩) hHeld ?_
              · intro w hSw; go_simp
              simp only [List.setIfInBounds_toArray, List.set_cons_zero, List.set_cons_succ]
              refine take_at 1 134 (.slice (some ⟨wb.heap.size, 0, none⟩) ky cK) rfl rfl (by kernel_rfl) (by kernel_rfl) (by kernel_rfl) (fun _ _ _ h => h) (Or.inl ⟨by rfl, ?_⟩) hHeld ?_
              · intro w hSw; go_simp
              simp only [List.setIfInBounds_toArray, List.set_cons_zero, List.set_cons_succ]
              refine take_at 2 135 (.slice (some ⟨wd.heap.size, 0, none⟩) vl cV) rfl rfl (by kernel_rfl) (by kernel_rfl) (by kernel_rfl) (fun _ _ _ h => h) (Or.inl ⟨by rfl, ?_⟩) hHeld ?_
              · intro w hSw; go_simp
              simp only [List.setIfInBounds_toArray, List.set_cons_zero, List.set_cons_succ]
              refine take_at 3 136 (.pointer (some ⟨wr.heap.size, 3, none⟩)) rfl rfl (by kernel_rfl) (by kernel_rfl) (by kernel_rfl) (fun _ _ _ h => h) (Or.inl ⟨by rfl, ?_⟩) hHeld ?_
              · intro w hSw; go_simp
              simp only [List.setIfInBounds_toArray, List.set_cons_zero, List.set_cons_succ]
              refine take_at 4 137 (.int .i64 s.fl) rfl rfl (by kernel_rfl) (by kernel_rfl) (by kernel_rfl) (fun _ _ _ h => h) (Or.inl ⟨by rfl, ?_⟩) hHeld ?_
              · intro w hSw; have e := QF.out w hSw; go_simp
              simp only [List.setIfInBounds_toArray, List.set_cons_zero, List.set_cons_succ]
              refine take_at 6 139 (.pointer (some ⟨t2, 0, none⟩)) rfl rfl (by kernel_rfl) (by kernel_rfl) (by kernel_rfl) (fun _ _ _ h => h) (Or.inl ⟨by rfl, ?_⟩) hHeld ?_
              · intro w hSw; have e := QB.out w hSw; go_simp
              simp only [List.setIfInBounds_toArray, List.set_cons_zero, List.set_cons_succ]
              refine take_at 7 140 (.slice (some ⟨wb.heap.size, 0, none⟩) ky cK) rfl rfl (by kernel_rfl) (by kernel_rfl) (by kernel_rfl) (fun _ _ _ h => h) (Or.inl ⟨by rfl, ?_⟩) hHeld ?_
              · intro w hSw; go_simp
              simp only [List.setIfInBounds_toArray, List.set_cons_zero, List.set_cons_succ]
              refine take_at 8 141 (.slice (some ⟨wd.heap.size, 0, none⟩) vl cV) rfl rfl (by kernel_rfl) (by kernel_rfl) (by kernel_rfl) (fun _ _ _ h => h) (Or.inl ⟨by rfl, ?_⟩) hHeld ?_
              · intro w hSw; go_simp
              simp only [List.setIfInBounds_toArray, List.set_cons_zero, List.set_cons_succ]
              refine take_at 9 142 (.pointer (some ⟨wr.heap.size, 3, none⟩)) rfl rfl (by kernel_rfl) (by kernel_rfl) (by kernel_rfl) (fun _ _ _ h => h) (Or.inl ⟨by rfl, ?_⟩) hHeld ?_
              · intro w hSw; go_simp
              simp only [List.setIfInBounds_toArray, List.set_cons_zero, List.set_cons_succ]
              refine take_at 10 143 (.int .i64 s.fl) rfl rfl (by kernel_rfl) (by kernel_rfl) (by kernel_rfl) (fun _ _ _ h => h) (Or.inl ⟨by rfl, ?_⟩) hHeld ?_
              · intro w hSw; have e := QF.out w hSw; go_simp
              simp only [List.setIfInBounds_toArray, List.set_cons_zero, List.set_cons_succ]
              refine wpAnyH_ready (rs := [5]) (by kernel_rfl) (by simp) ?_
              refine AllReadyH.cons rfl (fun K hK => ?_) AllReadyH.nil
              go_simp
              refine HC1.out.mono ?_
              rintro e w6 ⟨F1, ⟨rfl, hv1, hl1⟩, hd6, hh6⟩
              have hh6v := (QT.out _ hHeld).trans hh6
              have HC2 := Lib.hid (hd6.on2 (fun S' hs hT => kU hT (HRK3.out.held hh6v HIN.out.2.2.1) (HRV3.out.held hh6v HIN.out.2.2.2) s.fl HFL.out.1 HFL.out.2 (show (3 : Nat) ≠ 1 by decide) (show E2.length < 100 by have := HVJ.out.2.2; have := HVJ.out.2.1; have := HJ.out; omega)))
              have HV1 := Lib.hid (And.intro hv1 (And.intro hl1 hh6v))
              clear hv1 hl1 hd6 hh6 HC1
              go_wp2_with fail
              refine hK.out _ _ (QS.out _ hh6v) (fun hHeld => ?_)
              clear hK K
              try simp only [List.setIfInBounds_toArray, List.set_cons_zero, List.set_cons_succ]
              refine wpAnyH_ready (rs := [11]) (by kernel_rfl) (by simp) ?_
              refine AllReadyH.cons rfl (fun K hK => ?_) AllReadyH.nil
              go_simp
              refine HC2.out.mono ?_
              rintro e w7 ⟨F2, ⟨rfl, hv2, hl2⟩, hd7, hh7⟩
              have hh7v := HV1.out.2.2.trans hh7
              have HV2 := Lib.hid (And.intro hv2 (And.intro hl2 (And.intro hd7 hh7v)))
              have hnn : ansU (vaL KT E1) s.fl = ansU (vaL KT E2) s.fl := by rw [HVJ.out.1 KT]
              clear hv2 hl2 hd7 hh7 HC2
              go_wp2_with fail
              refine hK.out _ _ (QS.out _ hh7v) (fun hHeld => ?_)
              clear hK K
              try simp only [List.setIfInBounds_toArray, List.set_cons_zero, List.set_cons_succ]
              refine take_at 12 145 (.bool true) rfl rfl (by kernel_rfl) (by kernel_rfl) (by kernel_rfl) (fun _ _ _ h => h) (Or.inl ⟨by rfl, ?_⟩) hHeld ?_
              · intro w hSw; go_simp <;> exact hnn
              simp only [List.setIfInBounds_toArray, List.set_cons_zero, List.set_cons_succ]
              refine take_at 13 18 (.bool true) rfl rfl (by kernel_rfl) (by kernel_rfl) (by kernel_rfl) (fun _ _ _ h => h) (Or.inl ⟨by rfl, ?_⟩) hHeld ?_
              · intro w hSw; go_simp
              simp only [List.setIfInBounds_toArray, List.set_cons_zero, List.set_cons_succ]
              refine wpAnyH_done (by kernel_rfl) (NoPanic.normal ?_) _
              clear hHeld hnn
              have HDx := Lib.hid HV2.out.2.2.1
              have HX : Hid (Held S3 WV w7 ∧ (∀ k, vaL k F1 = vaL k F2) ∧ F1.length = F2.length ∧ F1.length ≤ j + 1) := Lib.hid (by
                refine ⟨HV2.out.2.2.2, fun k => ?_, ?_, ?_⟩
                · rw [HV1.out.1, HV2.out.1, HVJ.out.1 KT]
                  simp only [updV, HVJ.out.1]
                · rw [HV1.out.2.1, HV2.out.2.1, HVJ.out.1 KT, HVJ.out.2.1]
                · rw [HV1.out.2.1]
                  have := HVJ.out.2.2
                  split <;> omega)
              clear HV1 HV2
              gi_wp2_with fail
              refine wpIn_wide.2 ?_
              obtain ⟨SP, hSP⟩ : ∃ SP : World → Prop, SP = fun w' => Held S3 WV w' := ⟨_, rfl⟩
              have HS0 : Hid (SP (w7).drew) := Lib.hid (by rw [hSP]; exact HX.out.1.trans (Held.calm HDx.out.slt (Keep.refl _ (w7)).drew))
              have QB : Hid (∀ w', SP w' → w'.cell? ⟨w4.heap.size, 0, none⟩ = some (.pointer (some ⟨t2, 0, none⟩))) := Lib.hid (fun w' h => by rw [hSP] at h; exact h.cell_ HIN.out.1 (HH3.out.cell_ rfl HBX.out))
              have QF : Hid (∀ w', SP w' → w'.cell? ⟨wr.heap.size, 3, none⟩ = some (.int .i64 s.fl)) := Lib.hid (fun w' h => by rw [hSP] at h; exact h.cell_ HIN.out.2.1 HSB3.out.2.2.2)
              have QS : Hid (∀ w', Held S3 WV w' → SP w') := Lib.hid (fun w' h => by rw [hSP]; exact h)
              have QT : Hid (∀ w', SP w' → Held S3 WV w') := Lib.hid (fun w' h => by rw [hSP] at h; exact h)
              clear hSP
              refine wp_region_noPanic ?_
              refine wp_region_held_drew (S := SP) (by kernel_rfl) HS0.out (fun hHeld => ?_)
              refine take_at 0 155 (.bool true) rfl rfl (by kernel_rfl) (by kernel_rfl) (by kernel_rfl) (fun _ _ _ h => h) (Or.inl ⟨by rfl, ?_⟩) hHeld ?_
              · intro w hSw; go_simp
              simp only [List.setIfInBounds_toArray, List.set_cons_zero, List.set_cons_succ]
              refine take_at 1 156 (.bool false) rfl rfl (by kernel_rfl) (by kernel_rfl) (by kernel_rfl) (fun _ _ _ h => h) (Or.inl ⟨by rfl, ?_⟩) hHeld ?_
              · intro w hSw; go_simp
              simp only [List.setIfInBounds_toArray, List.set_cons_zero, List.set_cons_succ]
              refine take_at 2 157 (.bool false) rfl rfl (by kernel_rfl) (by kernel_rfl) (by kernel_rfl) (fun _ _ _ h => h) (Or.inl ⟨by rfl, ?_⟩) hHeld ?_
              · intro w hSw; go_simp
              simp only [List.setIfInBounds_toArray, List.set_cons_zero, List.set_cons_succ]
              refine take_at 3 158 (.pointer (some ⟨t1, 0, none⟩)) rfl rfl (by kernel_rfl) (by kernel_rfl) (by kernel_rfl) (fun _ _ _ h => h) (Or.inl ⟨by rfl, ?_⟩) hHeld ?_
              · intro w hSw; go_simp
              simp only [List.setIfInBounds_toArray, List.set_cons_zero, List.set_cons_succ]
              refine take_at 5 160 (.pointer (some ⟨t2, 0, none⟩)) rfl rfl (by kernel_rfl) (by kernel_rfl) (by kernel_rfl) (fun _ _ _ h => h) (Or.inl ⟨by rfl, ?_⟩) hHeld ?_
              · intro w hSw; have e := QB.out w hSw; go_simp
              simp only [List.setIfInBounds_toArray, List.set_cons_zero, List.set_cons_succ]
              refine wpAnyH_ready (rs := [4]) (by kernel_rfl) (by simp) ?_
              refine AllReadyH.cons rfl (fun K hK => ?_) AllReadyH.nil
              go_simp
              refine ((HDx.out.rest (Keep.refl _ (w7)).drew).on1 (fun S' _ hT => kN hT)).mono ?_
              rintro e w6 ⟨F', ⟨rfl, he⟩, hd6, hh6⟩
              rw [he] at hd6
              clear he
              have hh6v := (QT.out _ hHeld).trans hh6
              have HD6 := Lib.hid (And.intro hd6 hh6v)
              clear hd6 hh6
              go_wp2_with fail
              refine hK.out _ _ (QS.out _ hh6v) (fun hHeld => ?_)
              clear hK K
              try simp only [List.setIfInBounds_toArray, List.set_cons_zero, List.set_cons_succ]
              refine wpAnyH_ready (rs := [6]) (by kernel_rfl) (by simp) ?_
              refine AllReadyH.cons rfl (fun K hK => ?_) AllReadyH.nil
              go_simp
              refine (HD6.out.1.on2 (fun S' _ hT => kN hT)).mono ?_
              rintro e w7 ⟨F', ⟨rfl, he⟩, hd7, hh7⟩
              rw [he] at hd7
              clear he
              have hh7v := HD6.out.2.trans hh7
              have HD7 := Lib.hid (And.intro hd7 hh7v)
              have hnn : (F1.length : Int) = (F2.length : Int) := by rw [HX.out.2.2.1]
              clear hd7 hh7
              go_wp2_with fail
              refine hK.out _ _ (QS.out _ hh7v) (fun hHeld => ?_)
              clear hK K
              try simp only [List.setIfInBounds_toArray, List.set_cons_zero, List.set_cons_succ]
              refine take_at 7 162 (.bool false) rfl rfl (by kernel_rfl) (by kernel_rfl) (by kernel_rfl) (fun _ _ _ h => h) (Or.inl ⟨by rfl, ?_⟩) hHeld ?_
              · intro w hSw; go_simp <;> exact hnn
              simp only [List.setIfInBounds_toArray, List.set_cons_zero, List.set_cons_succ]
              refine take_at 8 163 (.bool false) rfl rfl (by kernel_rfl) (by kernel_rfl) (by kernel_rfl) (fun _ _ _ h => h) (Or.inl ⟨by rfl, ?_⟩) hHeld ?_
              · intro w hSw; go_simp
              simp only [List.setIfInBounds_toArray, List.set_cons_zero, List.set_cons_succ]
              refine wpAnyH_done (by kernel_rfl) (NoPanic.normal ?_) _
              clear hHeld hnn
              have HWJ : Hid (wrap64 ((j : Int) + 1) = ((j + 1 : Nat) : Int)) := Lib.hid (by have := HJ.out; unfold wrap64; omega)
              gi_wp2_with fail
              go_roundw
              case rel => exact ⟨j + 1, by have := HJ.out; omega, by go_num, F1, F2, HD7.out.1.less (fun i (e : i = w4.heap.size) => by rw [e]; exact HIN.out.1), HH3.out.trans (HD7.out.2.less (fun i (e : i = w4.heap.size) => by rw [e]; exact HIN.out.1)), HX.out.2.1, HX.out.2.2.1, HX.out.2.2.2⟩
              case measure => have := HJ.out; simp [intOf]; omega
            · have e2 : (s.k == 2) = false := by rw [beq_eq_false_iff_ne]; exact k2
              by_cases k3 : s.k = 3
              · have e3 : (s.k == 3) = true := by rw [beq_iff_eq]; exact k3
                have HC1 := Lib.hid ((HD3.out.rest (Keep.refl _ WV).drew).on1 (fun S' _ hT => kD hT (HRK3.out.calm (Keep.refl _ WV).drew) HFL.out.1 (show (2 : Nat) ≠ 1 by decide)))
                clear k1 k2 k3
                gi_wp2_with fail
                refine wpIn_wide.2 ?_
                obtain ⟨SP, hSP⟩ : ∃ SP : World → Prop, SP = fun w' => Held S3 WV w' := ⟨_, rfl⟩
                have HS0 : Hid (SP WV.drew) := Lib.hid (by rw [hSP]; exact Held.calm HD3.out.slt (Keep.refl _ WV).drew)
                have QB : Hid (∀ w', SP w' → w'.cell? ⟨w4.heap.size, 0, none⟩ = some (.pointer (some ⟨t2, 0, none⟩))) := Lib.hid (fun w' h => by rw [hSP] at h; exact h.cell_ HIN.out.1 (HH3.out.cell_ rfl HBX.out))
                have QF : Hid (∀ w', SP w' → w'.cell? ⟨wr.heap.size, 3, none⟩ = some (.int .i64 s.fl)) := Lib.hid (fun w' h => by rw [hSP] at h; exact h.cell_ HIN.out.2.1 HSB3.out.2.2.2)
                have QS : Hid (∀ w', Held S3 WV w' → SP w') := Lib.hid (fun w' h => by rw [hSP]; exact h)
                have QT : Hid (∀ w', SP w' → Held S3 WV w') := Lib.hid (fun w' h => by rw [hSP] at h; exact h)
                clear hSP
                refine wp_region_noPanic ?_
                refine wp_region_held_drew (S := SP) (by kernel_rfl) HS0.out (fun hHeld => ?_)
                refine take_at 0 148 (.pointer (some ⟨t1, 0, none⟩)) rfl rfl (by kernel_rfl) (by kernel_rfl) (by kernel_rfl) (fun _ _ _ h => h) (Or.inl ⟨by rfl, ?_⟩) hHeld ?_
                · intro w hSw; go_simp
                simp only [List.setIfInBounds_toArray, List.set_cons_zero, List.set_cons_succ]
                refine take_at 1 149 (.slice (some ⟨wb.heap.size, 0, none⟩) ky cK) rfl rfl (by kernel_rfl) (by kernel_rfl) (by kernel_rfl) (fun _ _ _ h => h) (Or.inl ⟨by rfl, ?_⟩) hHeld ?_
                · intro w hSw; go_simp
                simp only [List.setIfInBounds_toArray, List.set_cons_zero, List.set_cons_succ]
                refine take_at 3 151 (.pointer (some ⟨t2, 0, none⟩)) rfl rfl (by kernel_rfl) (by kernel_rfl) (by kernel_rfl) (fun _ _ _ h => h) (Or.inl ⟨by rfl, ?_⟩) hHeld ?_
                · intro w hSw; have e := QB.out w hSw; go_simp
                simp only [List.setIfInBounds_toArray, List.set_cons_zero, List.set_cons_succ]
                refine take_at 4 152 (.slice (some ⟨wb.heap.size, 0, none⟩) ky cK) rfl rfl (by kernel_rfl) (by kernel_rfl) (by kernel_rfl) (fun _ _ _ h => h) (Or.inl ⟨by rfl, ?_⟩) hHeld ?_
                · intro w hSw; go_simp
                simp only [List.setIfInBounds_toArray, List.set_cons_zero, List.set_cons_succ]
                refine wpAnyH_ready (rs := [2]) (by kernel_rfl) (by simp) ?_
                refine AllReadyH.cons rfl (fun K hK => ?_) AllReadyH.nil
                go_simp
                refine HC1.out.mono ?_
                rintro e w6 ⟨F1, ⟨rfl, hv1, hl1⟩, hd6, hh6⟩
                have hh6v := (QT.out _ hHeld).trans hh6
                have HC2 := Lib.hid (hd6.on2 (fun S' hs hT => kD hT (HRK3.out.held hh6v HIN.out.2.2.1) HFL.out.1 (show (3 : Nat) ≠ 1 by decide)))
                have HV1 := Lib.hid (And.intro hv1 (And.intro hl1 hh6v))
                clear hv1 hl1 hd6 hh6 HC1
                go_wp2_with fail
                refine hK.out _ _ (QS.out _ hh6v) (fun hHeld => ?_)
                clear hK K
                try simp only [List.setIfInBounds_toArray, List.set_cons_zero, List.set_cons_succ]
                refine wpAnyH_ready (rs := [5]) (by kernel_rfl) (by simp) ?_
                refine AllReadyH.cons rfl (fun K hK => ?_) AllReadyH.nil
                go_simp
                refine HC2.out.mono ?_
                rintro e w7 ⟨F2, ⟨rfl, hv2, hl2⟩, hd7, hh7⟩
                have hh7v := HV1.out.2.2.trans hh7
                have HV2 := Lib.hid (And.intro hv2 (And.intro hl2 (And.intro hd7 hh7v)))
                have hnn : ansD (vaL KT E1) = ansD (vaL KT E2) := by rw [HVJ.out.1 KT]
                clear hv2 hl2 hd7 hh7 HC2
                go_wp2_with fail
                refine hK.out _ _ (QS.out _ hh7v) (fun hHeld => ?_)
                clear hK K
                try simp only [List.setIfInBounds_toArray, List.set_cons_zero, List.set_cons_succ]
                refine take_at 6 154 (.bool true) rfl rfl (by kernel_rfl) (by kernel_rfl) (by kernel_rfl) (fun _ _ _ h => h) (Or.inl ⟨by rfl, ?_⟩) hHeld ?_
                · intro w hSw; go_simp <;> exact hnn
                simp only [List.setIfInBounds_toArray, List.set_cons_zero, List.set_cons_succ]
                refine take_at 7 18 (.bool true) rfl rfl (by kernel_rfl) (by kernel_rfl) (by kernel_rfl) (fun _ _ _ h => h) (Or.inl ⟨by rfl, ?_⟩) hHeld ?_
                · intro w hSw; go_simp
                simp only [List.setIfInBounds_toArray, List.set_cons_zero, List.set_cons_succ]
                refine wpAnyH_done (by kernel_rfl) (NoPanic.normal ?_) _
                clear hHeld hnn
                have HDx := Lib.hid HV2.out.2.2.1
                have HX : Hid (Held S3 WV w7 ∧ (∀ k, vaL k F1 = vaL k F2) ∧ F1.length = F2.length ∧ F1.length ≤ j + 1) := Lib.hid (by
                  refine ⟨HV2.out.2.2.2, fun k => ?_, ?_, ?_⟩
                  · rw [HV1.out.1, HV2.out.1]
                    simp only [delV, HVJ.out.1]
                  · rw [HV1.out.2.1, HV2.out.2.1, HVJ.out.1 KT, HVJ.out.2.1]
                  · rw [HV1.out.2.1]
                    have := HVJ.out.2.2
                    omega)
                clear HV1 HV2
                gi_wp2_with fail
                refine wpIn_wide.2 ?_
                obtain ⟨SP, hSP⟩ : ∃ SP : World → Prop, SP = fun w' => Held S3 WV w' := ⟨_, rfl⟩
                have HS0 : Hid (SP (w7).drew) := Lib.hid (by rw [hSP]; exact HX.out.1.trans (Held.calm HDx.out.slt (Keep.refl _ (w7)).drew))
                have QB : Hid (∀ w', SP w' → w'.cell? ⟨w4.heap.size, 0, none⟩ = some (.pointer (some ⟨t2, 0, none⟩))) := Lib.hid (fun w' h => by rw [hSP] at h; exact h.cell_ HIN.out.1 (HH3.out.cell_ rfl HBX.out))
                have QF : Hid (∀ w', SP w' → w'.cell? ⟨wr.heap.size, 3, none⟩ = some (.int .i64 s.fl)) := Lib.hid (fun w' h => by rw [hSP] at h; exact h.cell_ HIN.out.2.1 HSB3.out.2.2.2)
                have QS : Hid (∀ w', Held S3 WV w' → SP w') := Lib.hid (fun w' h => by rw [hSP]; exact h)
                have QT : Hid (∀ w', SP w' → Held S3 WV w') := Lib.hid (fun w' h => by rw [hSP] at h; exact h)
                clear hSP
                refine wp_region_noPanic ?_
                refine wp_region_held_drew (S := SP) (by kernel_rfl) HS0.out (fun hHeld => ?_)
                refine take_at 0 155 (.bool true) rfl rfl (by kernel_rfl) (by kernel_rfl) (by kernel_rfl) (fun _ _ _ h => h) (Or.inl ⟨by rfl, ?_⟩) hHeld ?_
                · intro w hSw; go_simp
                simp only [List.setIfInBounds_toArray, List.set_cons_zero, List.set_cons_succ]
                refine take_at 1 156 (.bool false) rfl rfl (by kernel_rfl) (by kernel_rfl) (by kernel_rfl) (fun _ _ _ h => h) (Or.inl ⟨by rfl, ?_⟩) hHeld ?_
                · intro w hSw; go_simp
                simp only [List.setIfInBounds_toArray, List.set_cons_zero, List.set_cons_succ]
                refine take_at 2 157 (.bool false) rfl rfl (by kernel_rfl) (by kernel_rfl) (by kernel_rfl) (fun _ _ _ h => h) (Or.inl ⟨by rfl, ?_⟩) hHeld ?_
                · intro w hSw; go_simp
                simp only [List.setIfInBounds_toArray, List.set_cons_zero, List.set_cons_succ]
                refine take_at 3 158 (.pointer (some ⟨t1, 0, none⟩)) rfl rfl (by kernel_rfl) (by kernel_rfl) (by kernel_rfl) (fun _ _ _ h => h) (Or.inl ⟨by rfl, ?_⟩) hHeld ?_
                · intro w hSw; go_simp
                simp only [List.setIfInBounds_toArray, List.set_cons_zero, List.set_cons_succ]
                refine take_at 5 160 (.pointer (some ⟨t2, 0, none⟩)) rfl rfl (by kernel_rfl) (by kernel_rfl) (by kernel_rfl) (fun _ _ _ h => h) (Or.inl ⟨by rfl, ?_⟩) hHeld ?_
                · intro w hSw; have e := QB.out w hSw; go_simp
                simp only [List.setIfInBounds_toArray, List.set_cons_zero, List.set_cons_succ]
                refine wpAnyH_ready (rs := [4]) (by kernel_rfl) (by simp) ?_
                refine AllReadyH.cons rfl (fun K hK => ?_) AllReadyH.nil
                go_simp
                refine ((HDx.out.rest (Keep.refl _ (w7)).drew).on1 (fun S' _ hT => kN hT)).mono ?_
                rintro e w6 ⟨F', ⟨rfl, he⟩, hd6, hh6⟩
                rw [he] at hd6
                clear he
                have hh6v := (QT.out _ hHeld).trans hh6
                have HD6 := Lib.hid (And.intro hd6 hh6v)
                clear hd6 hh6
                go_wp2_with fail
                refine hK.out _ _ (QS.out _ hh6v) (fun hHeld => ?_)
                clear hK K
                try simp only [List.setIfInBounds_toArray, List.set_cons_zero, List.set_cons_succ]
                refine wpAnyH_ready (rs := [6]) (by kernel_rfl) (by simp) ?_
                refine AllReadyH.cons rfl (fun K hK => ?_) AllReadyH.nil
                go_simp
                refine (HD6.out.1.on2 (fun S' _ hT => kN hT)).mono ?_
                rintro e w7 ⟨F', ⟨rfl, he⟩, hd7, hh7⟩
                rw [he] at hd7
                clear he
                have hh7v := HD6.out.2.trans hh7
                have HD7 := Lib.hid (And.intro hd7 hh7v)
                have hnn : (F1.length : Int) = (F2.length : Int) := by rw [HX.out.2.2.1]
                clear hd7 hh7
                go_wp2_with fail
                refine hK.out _ _ (QS.out _ hh7v) (fun hHeld => ?_)
                clear hK K
                try simp only [List.setIfInBounds_toArray, List.set_cons_zero, List.set_cons_succ]
                refine take_at 7 162 (.bool false) rfl rfl (by kernel_rfl) (by kernel_rfl) (by kernel_rfl) (fun _ _ _ h => h) (Or.inl ⟨by rfl, ?_⟩) hHeld ?_
                · intro w hSw; go_simp <;> exact hnn
                simp only [List.setIfInBounds_toArray, List.set_cons_zero, List.set_cons_succ]
                refine take_at 8 163 (.bool false) rfl rfl (by kernel_rfl) (by kernel_rfl) (by kernel_rfl) (fun _ _ _ h => h) (Or.inl ⟨by rfl, ?_⟩) hHeld ?_
                · intro w hSw; go_simp
                simp only [List.setIfInBounds_toArray, List.set_cons_zero, List.set_cons_succ]
                refine wpAnyH_done (by kernel_rfl) (NoPanic.normal ?_) _
                clear hHeld hnn
                have HWJ : Hid (wrap64 ((j : Int) + 1) = ((j + 1 : Nat) : Int)) := Lib.hid (by have := HJ.out; unfold wrap64; omega)
                gi_wp2_with fail
                go_roundw
                case rel => exact ⟨j + 1, by have := HJ.out; omega, by go_num, F1, F2, HD7.out.1.less (fun i (e : i = w4.heap.size) => by rw [e]; exact HIN.out.1), HH3.out.trans (HD7.out.2.less (fun i (e : i = w4.heap.size) => by rw [e]; exact HIN.out.1)), HX.out.2.1, HX.out.2.2.1, HX.out.2.2.2⟩
                case measure => have := HJ.out; simp [intOf]; omega
              · have e3 : (s.k == 3) = false := by rw [beq_eq_false_iff_ne]; exact k3
                clear k1 k2 k3
                have HDx := HD3
                have HX : Hid (Held S3 WV WV ∧ (∀ k, vaL k E1 = vaL k E2) ∧ E1.length = E2.length ∧ E1.length ≤ j + 1) := Lib.hid ⟨Held.refl _ _, HVJ.out.1, HVJ.out.2.1, by have := HVJ.out.2.2; omega⟩
                gi_wp2_with fail
                refine wpIn_wide.2 ?_
                obtain ⟨SP, hSP⟩ : ∃ SP : World → Prop, SP = fun w' => Held S3 WV w' := ⟨_, rfl⟩
                have HS0 : Hid (SP (WV).drew) := Lib.hid (by rw [hSP]; exact HX.out.1.trans (Held.calm HDx.out.slt (Keep.refl _ (WV)).drew))
                have QB : Hid (∀ w', SP w' → w'.cell? ⟨w4.heap.size, 0, none⟩ = some (.pointer (some ⟨t2, 0, none⟩))) := Lib.hid (fun w' h => by rw [hSP] at h; exact h.cell_ HIN.out.1 (HH3.out.cell_ rfl HBX.out))
                have QF : Hid (∀ w', SP w' → w'.cell? ⟨wr.heap.size, 3, none⟩ = some (.int .i64 s.fl)) := Lib.hid (fun w' h => by rw [hSP] at h; exact h.cell_ HIN.out.2.1 HSB3.out.2.2.2)
                have QS : Hid (∀ w', Held S3 WV w' → SP w') := Lib.hid (fun w' h => by rw [hSP]; exact h)
                have QT : Hid (∀ w', SP w' → Held S3 WV w') := Lib.hid (fun w' h => by rw [hSP] at h; exact h)
                clear hSP
                refine wp_region_noPanic ?_
                refine wp_region_held_drew (S := SP) (by kernel_rfl) HS0.out (fun hHeld => ?_)
                refine take_at 0 155 (.bool true) rfl rfl (by kernel_rfl) (by kernel_rfl) (by kernel_rfl) (fun _ _ _ h => h) (Or.inl ⟨by rfl, ?_⟩) hHeld ?_
                · intro w hSw; go_simp
                simp only [List.setIfInBounds_toArray, List.set_cons_zero, List.set_cons_succ]
                refine take_at 1 156 (.bool false) rfl rfl (by kernel_rfl) (by kernel_rfl) (by kernel_rfl) (fun _ _ _ h => h) (Or.inl ⟨by rfl, ?_⟩) hHeld ?_
                · intro w hSw; go_simp
                simp only [List.setIfInBounds_toArray, List.set_cons_zero, List.set_cons_succ]
                refine take_at 2 157 (.bool false) rfl rfl (by kernel_rfl) (by kernel_rfl) (by kernel_rfl) (fun _ _ _ h => h) (Or.inl ⟨by rfl, ?_⟩) hHeld ?_
                · intro w hSw; go_simp
                simp only [List.setIfInBounds_toArray, List.set_cons_zero, List.set_cons_succ]
                refine take_at 3 158 (.pointer (some ⟨t1, 0, none⟩)) rfl rfl (by kernel_rfl) (by kernel_rfl) (by kernel_rfl) (fun _ _ _ h => h) (Or.inl ⟨by rfl, ?_⟩) hHeld ?_
                · intro w hSw; go_simp
                simp only [List.setIfInBounds_toArray, List.set_cons_zero, List.set_cons_succ]
                refine take_at 5 160 (.pointer (some ⟨t2, 0, none⟩)) rfl rfl (by kernel_rfl) (by kernel_rfl) (by kernel_rfl) (fun _ _ _ h => h) (Or.inl ⟨by rfl, ?_⟩) hHeld ?_
                · intro w hSw; have e := QB.out w hSw; go_simp
                simp only [List.setIfInBounds_toArray, List.set_cons_zero, List.set_cons_succ]
                refine wpAnyH_ready (rs := [4]) (by kernel_rfl) (by simp) ?_
                refine AllReadyH.cons rfl (fun K hK => ?_) AllReadyH.nil
                go_simp
                refine ((HDx.out.rest (Keep.refl _ (WV)).drew).on1 (fun S' _ hT => kN hT)).mono ?_
                rintro e w6 ⟨F', ⟨rfl, he⟩, hd6, hh6⟩
                rw [he] at hd6
                clear he
                have hh6v := (QT.out _ hHeld).trans hh6
                have HD6 := Lib.hid (And.intro hd6 hh6v)
                clear hd6 hh6
                go_wp2_with fail
                refine hK.out _ _ (QS.out _ hh6v) (fun hHeld => ?_)
                clear hK K
                try simp only [List.setIfInBounds_toArray, List.set_cons_zero, List.set_cons_succ]
                refine wpAnyH_ready (rs := [6]) (by kernel_rfl) (by simp) ?_
                refine AllReadyH.cons rfl (fun K hK => ?_) AllReadyH.nil
                go_simp
                refine (HD6.out.1.on2 (fun S' _ hT => kN hT)).mono ?_
                rintro e w7 ⟨F', ⟨rfl, he⟩, hd7, hh7⟩
                rw [he] at hd7
                clear he
                have hh7v := HD6.out.2.trans hh7
                have HD7 := Lib.hid (And.intro hd7 hh7v)
                have hnn : (E1.length : Int) = (E2.length : Int) := by rw [HX.out.2.2.1]
                clear hd7 hh7
                go_wp2_with fail
                refine hK.out _ _ (QS.out _ hh7v) (fun hHeld => ?_)
                clear hK K
                try simp only [List.setIfInBounds_toArray, List.set_cons_zero, List.set_cons_succ]
                refine take_at 7 162 (.bool false) rfl rfl (by kernel_rfl) (by kernel_rfl) (by kernel_rfl) (fun _ _ _ h => h) (Or.inl ⟨by rfl, ?_⟩) hHeld ?_
                · intro w hSw; go_simp <;> exact hnn
                simp only [List.setIfInBounds_toArray, List.set_cons_zero, List.set_cons_succ]
                refine take_at 8 163 (.bool false) rfl rfl (by kernel_rfl) (by kernel_rfl) (by kernel_rfl) (fun _ _ _ h => h) (Or.inl ⟨by rfl, ?_⟩) hHeld ?_
                · intro w hSw; go_simp
                simp only [List.setIfInBounds_toArray, List.set_cons_zero, List.set_cons_succ]
                refine wpAnyH_done (by kernel_rfl) (NoPanic.normal ?_) _
                clear hHeld hnn
                have HWJ : Hid (wrap64 ((j : Int) + 1) = ((j + 1 : Nat) : Int)) := Lib.hid (by have := HJ.out; unfold wrap64; omega)
                gi_wp2_with fail
                go_roundw
                case rel => exact ⟨j + 1, by have := HJ.out; omega, by go_num, E1, E2, HD7.out.1.less (fun i (e : i = w4.heap.size) => by rw [e]; exact HIN.out.1), HH3.out.trans (HD7.out.2.less (fun i (e : i = w4.heap.size) => by rw [e]; exact HIN.out.1)), HX.out.2.1, HX.out.2.2.1, HX.out.2.2.2⟩
                case measure => have := HJ.out; simp [intOf]; omega
        · gi_wp2_with fail
          gi_meet
          exact hT.more hj
      · gi_wp2_with fail
        gi_meet
        exact hT.more hj
  case rest =>
    obtain ⟨E1, E2, hD, hH, hval, hlen, hlj⟩ := hcut
    have HDc := Lib.hid hD
    have HVC := Lib.hid (And.intro hval (And.intro hlen hH))
    clear hD hH hval hlen hlj HS HM
    gi_wp2_with fail
    refine ⟨trivial, ?_⟩
    refine (callsIn_wide.2 (tall_c t1 _)).mono ?_
    rintro e W5 ⟨rfl, hw5⟩
    have A2 := Row.made wc 54 #[.pointer (some ⟨t1, 0, none⟩)]
    have hC5 : Calm wc (wc.alloc (.cells #[.pointer (some ⟨t1, 0, none⟩)] 54)) := (Keep.refl _ wc).alloc _
    have hz5 : (wc.alloc (.cells #[.pointer (some ⟨t1, 0, none⟩)] 54)).heap.size = wc.heap.size + 1 := by simp
    rw [hw5] at A2 hC5 hz5
    have s2 : W5.cell? ⟨wc.heap.size, 0, none⟩ = some (.pointer (some ⟨t1, 0, none⟩)) := (A2.cell 0).trans rfl
    have hD5 := HDc.out.rest hC5
    obtain ⟨ev, hev, htl, hAll⟩ := tab_all hD5.fst
    have hes := told_few hD5.fst
    obtain ⟨Z, hZ1, hZ2, hZ3⟩ := hD5.zet
    have HTE : Hid (∀ x ∈ told ⟨nm, 2, ky, vl, 100⟩ E1, ∃ g bs, vaL x.1 E1 = some bs ∧ bs.length = vl ∧ x.2 = lv vl g ∧ x.1.length = ky ∧ ¬ Z g ∧ Row W5 g 5 (bs.map bv).toArray) := Lib.hid (fun x hx => by
      obtain ⟨i, hi⟩ := List.getElem?_of_mem hx
      obtain ⟨g, bs, h1, h2, _⟩ := told_at hi
      have hg := getL_mem (k := x.1) (v := (g, bs)) hD5.fst.keys h1
      obtain ⟨r1, r2⟩ := hD5.fst.has hg
      exact ⟨g, bs, by unfold vaL; rw [hg]; rfl, r2, h2, hD5.fst.less (S' := No) (fun _ e => e.elim) |>.klen _ h1, hZ3 _ h1, r1⟩)
    generalize told ⟨nm, 2, ky, vl, 100⟩ E1 = es at *
    have HAll := Lib.hid hAll
    have HES := Lib.hid hes
    have HZ0 : Hid (ZJ W W5 Z t2 ⟨nm, 3, ky, vl, 100⟩ E2 W5) := Lib.hid ⟨Nat.le_refl _, fun _ _ _ => rfl, E2, hZ1, fun _ => rfl⟩
    have HZZ : Hid (∀ i, Z i → i < W5.heap.size ∧ i ≠ w4.heap.size ∧ W.heap.size ≤ i) := Lib.hid hZ2
    have HTL := Lib.hid (And.intro hev htl)
    have HC5 := Lib.hid hD5.calm_
    have Hz5 := Lib.hid hz5
    have HBW : Hid (W5.cell? ⟨w4.heap.size, 0, none⟩ = some (.pointer (some ⟨t2, 0, none⟩)) ∧ w4.heap.size < W5.heap.size) := Lib.hid (by
      have h1 := HVC.out.2.2.cell_ rfl HBX.out
      have h2 := HDc.out.slt _ rfl
      exact ⟨(hC5.cell (p := ⟨w4.heap.size, 0, none⟩) h2 (fun e => e)).trans h1, by omega⟩)
    clear hC5 hz5 A2 hw5 hD5 hev htl hAll hes hZ1 hZ2 hZ3
    gi_wp2_with fail
    refine wpIn_rangeFunc_ownG (F := Fence.wide) (α := {x // x ∈ es}) rfl (by omega) (gf := 62) (lb := #[.pointer (some ⟨wc.heap.size, 0, none⟩)]) rfl trivial (enters_of Try.func62 (by kernel_rfl) rfl)
      (tall_stops (4 - 1) (by omega) wc.heap.size t1 (by have := HES.out; omega) (by have := Hz5.out; omega) s2 HTL.out.1 HTL.out.2 HAll.out)
      (fun h k => tkp_t h k) (fun W l o o' _ h hc _ => tkp_b W l o o' h hc) (Below.refl _ _) (fun _ => rfl)
      (fun _ => ZJ W W5 Z t2 ⟨nm, 3, ky, vl, 100⟩ E2) (fun _ _ _ => False) (ZJ.own (fun i hi => (HZZ.out i hi).1) HC5.out.size) (fun _ _ _ _ _ h _ _ => h)
      HZ0.out (fun xe => { tmps := #[Value.int IntKind.i64 x, Value.int IntKind.i64 y, Value.slice A ss.length cap, undef, undef, undef, Value.pointer (some { block := w.heap.size, off := 0 }), Value.bool true, Value.pointer (some { block := w2.heap.size, off := 0 }), Value.pointer (some { block := w2.heap.size + 1, off := 0 }), Value.pointer (some { block := t1, off := 0 }), Value.int IntKind.i64 0, Value.pointer (some { block := w4.heap.size, off := 0 }), Value.int IntKind.i64 0, u14, u15, u16, u17, u18, u19, u20, u21, u22, .string (str xe.1.1), .slice xe.1.2.1 xe.1.2.2.1 xe.1.2.2.2, undef, undef, Value.bool true, Value.int IntKind.i64 x, Value.int IntKind.i64 y, Value.agg #[Value.string (str nm), Value.int IntKind.i64 2, Value.int IntKind.i64 ↑ky, Value.int IntKind.i64 ↑vl, Value.int IntKind.i64 ↑mx], Value.pointer (some { block := w2.heap.size, off := 4 }), Value.agg #[Value.string (str nm), Value.int IntKind.i64 2, Value.int IntKind.i64 ↑ky, Value.int IntKind.i64 ↑vl, Value.int IntKind.i64 100], Value.pointer (some { block := w2.heap.size + 1, off := 1 }), Value.tuple #[Value.pointer (some { block := t1, off := 0 }), Value.int IntKind.i64 0], Value.agg #[Value.string (str nm), Value.int IntKind.i64 2, Value.int IntKind.i64 ↑ky, Value.int IntKind.i64 ↑vl, Value.int IntKind.i64 100], Value.tuple #[Value.pointer (some { block := t1, off := 0 }), Value.int IntKind.i64 0], Value.pointer (some { block := t1, off := 0 }), Value.int IntKind.i64 0, Value.tuple #[Value.pointer (some { block := t2, off := 0 }), Value.int IntKind.i64 0], Value.agg #[Value.string (str nm), Value.int IntKind.i64 3, Value.int IntKind.i64 ↑ky, Value.int IntKind.i64 ↑vl, Value.int IntKind.i64 100], Value.tuple #[Value.pointer (some { block := t2, off := 0 }), Value.int IntKind.i64 0], Value.pointer (some { block := t2, off := 0 }), Value.int IntKind.i64 0, Value.pointer (some { block := t1, off := 0 }), Value.bool false, Value.bool false, Value.pointer (some { block := t2, off := 0 }), Value.bool false, Value.bool false, Value.bool false, Value.int IntKind.i64 0, Value.bool false, Value.bool false, Value.bool false, Value.int IntKind.i64 0, Value.bool false, Value.bool false, u58, u59, u60, u61, u62, u63, u64, u65, u66, u67, u68, u69, u70, u71, u72, u73, u74, u75, u76, u77, u78, u79, u80, u81, u82, u83, u84, u85, u86, u87, u88, u89, u90, u91, u92, u93, u94, u95, u96, u97, u98, u99, u100, u101, u102, u103, u104, u105, u106, u107, u108, u109, u110, u111, u112, u113, u114, u115, u116, u117, u118, u119, u120, u121, u122, u123, u124, u125, u126, u127, u128, u129, u130, u131, u132, u133, u134, u135, u136, u137, u138, u139, u140, u141, u142, u143, u144, u145, u146, u147, u148, u149, u150, u151, u152, u153, u154, u155, u156, u157, u158, u159, u160, u161, u162, u163, Value.pointer (some { block := t1, off := 0 }), Value.func (Fn.func 62) #[] #[Value.pointer (some { block := wc.heap.size, off := 0 })], .string (str xe.1.1), .slice xe.1.2.1 xe.1.2.2.1 xe.1.2.2.2, u168, u169, u170, u171, u172, u173, u174, u175, u176, u177, u178, u179, u180, u181, u182, u183, u184, u185, u186, u187], defers := [] }) ?assign ?body ?done ?stop
    case assign =>
      intro l x W K hK
      have HK := Lib.hid hK
      clear hK
      unfold encE
      gi_wp2
      exact HK.out
    case stop =>
      rintro D c pre W hD _ hn hK
      exact hn.elim
    case body =>
      rintro l pre ⟨⟨xk, xA, xn, xc⟩, hx⟩ W6 hJ hlen
      obtain ⟨g, bs, hv1, hbl, hxe, hxl, hzg, hrg⟩ := HTE.out _ hx
      injection hxe with hxa hxe
      injection hxe with hxn hxc
      simp only at hv1 hxa hxn hxc hxl
      subst hxa
      obtain rfl := hxn.symm
      obtain rfl := hxc.symm
      have hbw : W6.cell? ⟨w4.heap.size, 0, none⟩ = some (.pointer (some ⟨t2, 0, none⟩)) := (World.cell?_of_block (hJ.2.1 _ HBW.out.2 (fun hz => (HZZ.out _ hz).2.1 rfl))).trans HBW.out.1
      obtain ⟨cK, WK, hcK, hrK, hkK, hzK⟩ := bytes_box W6 xk ky hxl (by have := HB3.out; omega)
      have hJK : ZJ W W5 Z t2 ⟨nm, 3, ky, vl, 100⟩ E2 WK := by
        obtain ⟨a1, a2, F, a3, a4⟩ := hJ
        exact ⟨Nat.le_trans a1 hkK.size, fun i hi hn => (hkK.block i (Nat.lt_of_lt_of_le hi a1) (fun e => e)).trans (a2 i hi hn), F, a3.rest hkK, a4⟩
      have HLk := Lib.hid (zj_look hJK (fun i hi => (HZZ.out i hi).1) hrK)
      have HJ6 := Lib.hid (And.intro hJ.1 hkK)
      have HRG := Lib.hid hrg
      have HV1 := Lib.hid (And.intro hv1 (And.intro hbl hzg))
      have HGL : Hid (g < W5.heap.size) := Lib.hid hrg.lt
      clear hJ hlen hv1 hbl hzg hrg hxl hrK hkK hJK
      gi_wp2_with fail
      refine ⟨trivial, ?_⟩
      refine (CallsIn.inRound l (callsIn_wide.2 HLk.out)).mono ?_
      rintro e w7 ⟨⟨p, rfl, hp⟩, hJ7, hh7⟩
      have hv2 : vaL xk E2 = some bs := (HVC.out.1 xk).symm.trans HV1.out.1
      obtain ⟨x2, g2, bs2, h1, h2, rfl, r1, r2⟩ := hp.resolve_left (fun h => by rw [hv2] at h; cases h.1)
      obtain rfl : bs = bs2 := by rw [hv2] at h1; injection h1
      have r0 : Row w7 g 5 (bs.map bv).toArray := (hJ7.2.1 g HGL.out HV1.out.2.2).trans HRG.out
      have M1 : Hid (∀ w', Calm w7 w' → Sem.run Try.prog (convert 22 9 (.slice (some ⟨g, 0, none⟩) vl vl)) w' = .ok (.string (str bs)) w') := Lib.hid (fun w' k => conv_rd ((row_rd r0 HV1.out.2.1 (by have := HB3.out; omega)).calm k))
      have M2 : Hid (∀ w', Calm w7 w' → Sem.run Try.prog (convert 22 9 (.slice (some ⟨g2, 0, none⟩) vl vl)) w' = .ok (.string (str bs)) w') := Lib.hid (fun w' k => conv_rd ((row_rd r2 (show bs.length = vl from h2) (by have := HB3.out; omega)).calm k))
      have XB : Hid (∀ w', Calm w7 w' → w'.cell? ⟨x2, 1, none⟩ = some (.slice (some ⟨g2, 0, none⟩) vl vl)) := Lib.hid (fun w' k => ((r1.keep k (fun e => e)).cell 1).trans rfl)
      have HJ7 := Lib.hid (And.intro hJ7 hh7)
      have hbb : ((str bs).toList != (str bs).toList) = false := by simp
      simp only [hv2, Option.isSome_some]
      clear hp hJ7 hh7 hv2 h1 h2 r0 r1 r2 HLk hbw hcK
      gi_wp2_with fail
      refine wpIn_round_held (S := fun w' => Calm w7 w') (by kernel_rfl) (by kernel_rfl) (by rintro ⟨_, _, h⟩; exact h) (Keep.refl _ w7).drew (fun hHeld => ?_)
      refine take_at 0 175 (.bool true) rfl rfl (by kernel_rfl) (by kernel_rfl) (by kernel_rfl) (fun _ _ _ h => h) (Or.inl ⟨by rfl, ?_⟩) hHeld ?_
      · intro w hSw; go_simp
      simp only [List.setIfInBounds_toArray, List.set_cons_zero, List.set_cons_succ]
      refine take_at 1 176 (.bool false) rfl rfl (by kernel_rfl) (by kernel_rfl) (by kernel_rfl) (fun _ _ _ h => h) (Or.inl ⟨by rfl, ?_⟩) hHeld ?_
      · intro w hSw; go_simp
      simp only [List.setIfInBounds_toArray, List.set_cons_zero, List.set_cons_succ]
      refine take_at 2 177 (.bool false) rfl rfl (by kernel_rfl) (by kernel_rfl) (by kernel_rfl) (fun _ _ _ h => h) (Or.inl ⟨by rfl, ?_⟩) hHeld ?_
      · intro w hSw; go_simp
      simp only [List.setIfInBounds_toArray, List.set_cons_zero, List.set_cons_succ]
      refine take_at 3 178 (.pointer (some ⟨x2, 0, none⟩)) rfl rfl (by kernel_rfl) (by kernel_rfl) (by kernel_rfl) (fun _ _ _ h => h) (Or.inl ⟨by rfl, ?_⟩) hHeld ?_
      · intro w hSw; go_simp
      simp only [List.setIfInBounds_toArray, List.set_cons_zero, List.set_cons_succ]
      refine take_at 4 179 (.pointer (some ⟨x2, 0, none⟩)) rfl rfl (by kernel_rfl) (by kernel_rfl) (by kernel_rfl) (fun _ _ _ h => h) (Or.inl ⟨by rfl, ?_⟩) hHeld ?_
      · intro w hSw; go_simp
      simp only [List.setIfInBounds_toArray, List.set_cons_zero, List.set_cons_succ]
      refine take_at 5 180 (.pointer (some ⟨x2, 1, none⟩)) rfl rfl (by kernel_rfl) (by kernel_rfl) (by kernel_rfl) (fun _ _ _ h => h) (Or.inl ⟨by rfl, ?_⟩) hHeld ?_
      · intro w hSw; go_simp
      simp only [List.setIfInBounds_toArray, List.set_cons_zero, List.set_cons_succ]
      refine take_at 6 181 (.slice (some ⟨g2, 0, none⟩) vl vl) rfl rfl (by kernel_rfl) (by kernel_rfl) (by kernel_rfl) (fun _ _ _ h => h) (Or.inl ⟨by rfl, ?_⟩) hHeld ?_
      · intro w hSw; have e := XB.out w hSw; go_simp
      simp only [List.setIfInBounds_toArray, List.set_cons_zero, List.set_cons_succ]
      refine take_at 7 182 (.string (str bs)) rfl rfl (by kernel_rfl) (by kernel_rfl) (by kernel_rfl) (fun _ _ _ h => h) (Or.inl ⟨by rfl, ?_⟩) hHeld ?_
      · intro w hSw; have e := M2.out w hSw; go_simp
      simp only [List.setIfInBounds_toArray, List.set_cons_zero, List.set_cons_succ]
      refine take_at 8 183 (.slice (some ⟨g, 0, none⟩) vl vl) rfl rfl (by kernel_rfl) (by kernel_rfl) (by kernel_rfl) (fun _ _ _ h => h) (Or.inl ⟨by rfl, ?_⟩) hHeld ?_
      · intro w hSw; go_simp
      simp only [List.setIfInBounds_toArray, List.set_cons_zero, List.set_cons_succ]
      refine take_at 9 184 (.string (str bs)) rfl rfl (by kernel_rfl) (by kernel_rfl) (by kernel_rfl) (fun _ _ _ h => h) (Or.inl ⟨by rfl, ?_⟩) hHeld ?_
      · intro w hSw; have e := M1.out w hSw; go_simp
      simp only [List.setIfInBounds_toArray, List.set_cons_zero, List.set_cons_succ]
      refine take_at 10 185 (.bool false) rfl rfl (by kernel_rfl) (by kernel_rfl) (by kernel_rfl) (fun _ _ _ h => h) (Or.inl ⟨by rfl, ?_⟩) hHeld ?_
      · intro w hSw; go_simp
      simp only [List.setIfInBounds_toArray, List.set_cons_zero, List.set_cons_succ]
      refine take_at 11 186 (.bool false) rfl rfl (by kernel_rfl) (by kernel_rfl) (by kernel_rfl) (fun _ _ _ h => h) (Or.inl ⟨by rfl, ?_⟩) hHeld ?_
      · intro w hSw; go_simp
      simp only [List.setIfInBounds_toArray, List.set_cons_zero, List.set_cons_succ]
      refine wpAnyH_done (by kernel_rfl) (NoPanic.normal ?_) _
      have hkeep : ∀ i, W5.heap.size ≤ i → i < W6.heap.size → (w7.drew).heap[i]? = W6.heap[i]? := fun i h1 h2 => (HJ7.out.2 i ⟨Nat.lt_of_lt_of_le h2 HJ6.out.2.size, fun hz => by have := (HZZ.out i hz).1; omega⟩).trans (HJ6.out.2.block i h2 (fun e => e))
      have HKP := Lib.hid hkeep
      clear hHeld hkeep hbb
      gi_wp2
      refine ⟨⟨Nat.le_trans HJ6.out.2.size HJ7.out.2.size, fun k o hB hk _ => (HKP.out k hB (Array.getElem?_eq_some_iff.1 hk).1).trans hk⟩, fun g cs h0 hr => (HKP.out g h0 hr.lt).trans hr, ?_⟩
      obtain ⟨a1, a2, F, a3, a4⟩ := HJ7.out.1
      exact ⟨a1, a2, F, a3.rest (Keep.refl _ w7).drew, a4⟩
    case done =>
      rintro D ys W6 hD rfl hJ hK
      obtain ⟨a1, a2, F, a3, a4⟩ := hJ
      have hc6 : Calm W0 W6 := HW.out.trans a3.calm_
      have r6 := HB0.out.keep hc6 (fun e => e)
      have c6 : W6.cell? ⟨w.heap.size, 0, none⟩ = some (.bool false) := (r6.cell 0).trans rfl
      have f6 := r6.soft 0
      have hne : D ≠ w.heap.size := by have h1 := Hz.out; have h2 := HC5.out.size; have h3 := HW.out.size; omega
      have HDf : Hid ((W6.setCell ⟨w.heap.size, 0, none⟩ (.bool true)).heap[D]? = some (.deferred (some []))) := Lib.hid ((Below.heap_setCell _ _ _ _ hne).trans hK)
      have HCf : Hid (Calm w (W6.setCell ⟨w.heap.size, 0, none⟩ (.bool true))) := Lib.hid ((HC.out.trans hc6).store (p := ⟨w.heap.size, 0, none⟩) (fun h => by have h' : w.heap.size < w.heap.size := h; omega) _)
      have HDl : Hid (w.heap.size ≤ D) := Lib.hid (by have h1 := Hz.out; have h2 := HC5.out.size; have h3 := HW.out.size; omega)
      have HC6 := Lib.hid c6
      clear a1 a2 a3 a4 hc6 r6 hne hK hD
      gi_wp2
      have hc5 : ((W6.setCell ⟨w.heap.size, 0, none⟩ (.bool true)).putObj D (.deferred none)).cell? ⟨w.heap.size, 0, none⟩ = some (.bool true) := cell_kept (W := W6.setCell ⟨w.heap.size, 0, none⟩ (.bool true)) (World.cell?_setCell_same' W6 ⟨w.heap.size, 0, none⟩ (.bool true) (by rw [HC6.out]; rfl)) (grownBy_putObj' _ D (.deferred none)) (fun r e => by cases e; exact ⟨_, HDf.out, rfl⟩)
      refine ⟨by simp, .inl ⟨_, _, rfl, run_takeDeferred HDf.out, ?_⟩⟩
      exact ⟨.bool true, by simp [results, Try.f8, go_sem, hc5], rfl, calm_putT HCf.out HDl.out _⟩
theorem tableKinds_c (x y : Int) (v0 : Value) (ss : List S10) (w : World) (hs : St10 w v0 ss) : Calls Try.prog 8 #[.int .i64 x, .int .i64 y, v0] w fun e w' => e = .returned (.bool true) ∧ Calm w w' := callsIn_wide.1 (tableKinds_in x y v0 ss w hs)
end Go.Proofs.Ytnlojohjhfpbgaa
