/-
  TableArray: the walk.
-/
import Derived.Test.YtiipepiabeccpaaT30
import Derived.Test.YtiipepiabeccpaaMasks
import Derived.Test.YtiipepiabeccpaaRegion
import Derived.Test.YtiipepiabeccpaaQW
import Derived.Sort.CutIn
import Derived.BigFrameIn
namespace Go.Proofs.Ytiipepiabeccpaa
open Go.RowKit Go.Deep Go.Shelf
set_option linter.all false
attribute [local go_sem] Oper.semAt_some

theorem bytes_box (w : World) (k : List UInt8) (n : Nat) (hk : k.length = n) (hn : n ≤ 1000) : ∃ c W, Sem.run Try.prog (convert 9 22 (.string (str k))) w = .ok (.slice (some ⟨w.heap.size, 0, none⟩) n c) W ∧ Rd W (.slice (some ⟨w.heap.size, 0, none⟩) n c) k ∧ Calm w W ∧ W.heap.size = w.heap.size + 1 := by
  obtain ⟨c, W, h1, h2, h3, h4⟩ := conv_bytes w k (by unfold maxLen; omega)
  rw [hk] at h1 h2
  exact ⟨c, W, h1, h2, h3, h4⟩

set_option maxRecDepth 100000 in
set_option maxHeartbeats 8000000 in
theorem tableArray_in (x y z : Int) (v0 : List UInt8) (w : World) (hv0 : v0.length ≤ maxLen) : CallsIn Fence.wide 4 Try.prog 9 #[.int .i64 x, .int .i64 y, .int .i64 z, .string (str v0)] w fun e w' => e = .returned (.bool true) ∧ Calm w w' := by
  have HV0 := Lib.hid hv0
  obtain ⟨n, hn32, en⟩ := mask_nat z 5 31 (by omega) (by decide)
  have EN := Lib.hid (And.intro en hn32)
  clear hv0 en hn32
  refine callsIn_of_wp_marks Try.func9 rfl trivial ?_ rfl
  simp only [Try.ntmps9, List.size_toArray, List.length_cons, List.length_nil, Nat.reduceAdd, Nat.reduceSub, Array.replicate_succ, Array.replicate_zero, List.push_toArray, List.append_toArray, List.nil_append, List.cons_append]
  gi_wp2_with fail
  have A1 := Row.made w 3 #[.int .i64 z]
  have A2 := Row.made (w.alloc (.cells #[.int .i64 z] 3)) 9 #[.string (str v0)]
  have A3 := Row.made ((w.alloc (.cells #[.int .i64 z] 3)).alloc (.cells #[.string (str v0)] 9)) 4 #[.bool false]
  rw [World.size_alloc] at A2
  rw [World.size_alloc, World.size_alloc] at A3
  have B1 := (A1.alloc (.cells #[.string (str v0)] 9)).alloc (.cells #[.bool false] 4)
  have B2 := A2.alloc (.cells #[.bool false] 4)
  have hC : Calm w (((w.alloc (.cells #[.int .i64 z] 3)).alloc (.cells #[.string (str v0)] 9)).alloc (.cells #[.bool false] 4)) := (((Keep.refl _ w).alloc _).alloc _).alloc _
  have hz : (((w.alloc (.cells #[.int .i64 z] 3)).alloc (.cells #[.string (str v0)] 9)).alloc (.cells #[.bool false] 4)).heap.size = w.heap.size + 3 := by simp
  clear A1 A2
  generalize ((w.alloc (.cells #[.int .i64 z] 3)).alloc (.cells #[.string (str v0)] 9)).alloc (.cells #[.bool false] 4) = W0 at *
  have HC := Lib.hid hC
  have Hz := Lib.hid hz
  have HBX := Lib.hid (And.intro B1 (And.intro B2 A3))
  clear B1 B2 A3 hC hz
  refine ⟨trivial, ?_⟩
  refine (callsIn_wide.2 ((shown10_c _))).mono ?_
  rintro e w1 ⟨rfl, k1⟩
  have K1 := Lib.hid k1
  clear k1
  obtain ⟨sa, sb, sc, sd, hsb, hsc, x0, x1, x2, y0, y3, z0, u5, hs⟩ := small_c 0 0 x y w1
  have hq := smallQ_ok (a := sa) (d := sd) hsb hsc
  have HQ := Lib.hid (And.intro hsb (And.intro hsc (And.intro x0 (And.intro x1 (And.intro x2 (And.intro y0 (And.intro y3 (And.intro z0 u5))))))))
  have HD : Hid ((smallQ sa sb sc sd) = ⟨[109], 1 + sa % 3, if sa % 3 = 0 then 4 else 1 + sb, 1 + sc, 1 + sd % 12⟩) := Lib.hid rfl
  generalize smallQ sa sb sc sd = q at *
  have hqn := HD.out
  obtain ⟨nm, kd, ky, vl, mx⟩ := q
  have HS : Hid (Calls Try.prog _ _ w1 fun e w' => e = .returned (.agg #[.string (str nm), .int .i64 (kd : Int), .int .i64 (ky : Int), .int .i64 (vl : Int), .int .i64 (mx : Int)]) ∧ Calm w1 w') := Lib.hid hs
  have HOK := Lib.hid hq
  have hql := hq.key
  have hqv := hq.val
  have hqm := hq.max
  simp only at hql hqv hqm
  have HB3 := Lib.hid (And.intro hql (And.intro hqv hqm))
  clear hs hq hsb hsc x0 x1 x2 y0 y3 z0 u5 hqn hql hqv hqm
  gi_wp2_with fail
  refine ⟨trivial, ?_⟩
  refine (callsIn_wide.2 (HS.out)).mono ?_
  rintro e w2 ⟨rfl, k2⟩
  have K2 := Lib.hid (K1.out.trans k2)
  clear k2 K1 HS
  have hkd : kd = 1 := by
    have h := HD.out
    have a1 := HQ.out.2.2.1 trivial
    subst a1
    simp only [MN.mk.injEq] at h
    exact h.2.1.trans (by decide)
  subst hkd
  have hkq : ky = 4 := by have := HOK.out.kind; simp only at this; omega
  have HKQ := Lib.hid hkq
  clear hkq
  gi_upto_region 3 with fail
  have hzz : W0.heap.size ≤ w2.heap.size := K2.out.size
  have HB := Row.made w2 58 #[.string (str nm), .int .i64 1, .int .i64 (ky : Int), .int .i64 (vl : Int), .int .i64 (mx : Int)]
  have hkb : Calm w2 (w2.alloc (.cells #[.string (str nm), .int .i64 1, .int .i64 (ky : Int), .int .i64 (vl : Int), .int .i64 (mx : Int)] 58)) := (Keep.refl _ w2).alloc _
  have HW := Lib.hid (K2.out.trans hkb)
  have HWs := Lib.hid (show (w2.alloc (.cells #[.string (str nm), .int .i64 1, .int .i64 (ky : Int), .int .i64 (vl : Int), .int .i64 (mx : Int)] 58)).heap.size = w2.heap.size + 1 by simp)
  generalize w2.alloc (.cells #[.string (str nm), .int .i64 1, .int .i64 (ky : Int), .int .i64 (vl : Int), .int .i64 (mx : Int)] 58) = W at *
  have HRow : Hid (∀ W', Calm W W' → W'.cell? ⟨w2.heap.size, 0, none⟩ = some (.string (str nm)) ∧ W'.cell? ⟨w2.heap.size, 1, none⟩ = some (.int .i64 1) ∧ W'.cell? ⟨w2.heap.size, 2, none⟩ = some (.int .i64 (ky : Int)) ∧ W'.cell? ⟨w2.heap.size, 3, none⟩ = some (.int .i64 (vl : Int)) ∧ W'.cell? ⟨w2.heap.size, 4, none⟩ = some (.int .i64 (mx : Int))) :=
    Lib.hid (fun W' c => ⟨((HB.keep c (fun e => e)).cell 0).trans rfl, ((HB.keep c (fun e => e)).cell 1).trans rfl, ((HB.keep c (fun e => e)).cell 2).trans rfl, ((HB.keep c (fun e => e)).cell 3).trans rfl, ((HB.keep c (fun e => e)).cell 4).trans rfl⟩)
  have HBR := Lib.hid HB
  have HZ2 := Lib.hid hzz
  clear HB hkb K2 hzz
  have HN : Hid (Calls Try.prog 33 #[.agg #[.string (str nm), .int .i64 1, .int .i64 (ky : Int), .int .i64 (vl : Int), .int .i64 (mx : Int)]] W fun e w' => ∃ v : Value, e = .returned (.tuple #[v, .int .i64 0]) ∧ NewT ⟨nm, 1, ky, vl, mx⟩ W v w') := Lib.hid (tNew_yes ⟨nm, 1, ky, vl, mx⟩ HOK.out W)
  obtain ⟨d0, d1, d2, d3, d4⟩ := HRow.out W (Keep.refl _ W)
  gi_wp2_with fail
  refine ⟨trivial, ?_⟩
  refine (callsIn_wide.2 (HN.out)).mono ?_
  rintro e w3 ⟨v, rfl, tb, E, rfl, hE, hT⟩
  have HT := Lib.hid (tab_no hT)
  have HE := Lib.hid hE
  clear hT hE HN d0 d1 d2 d3 d4
  have HX0 : Hid (Bx W w.heap.size w2.heap.size (.int .i64 z) (.string (str v0)) #[.string (str nm), .int .i64 1, .int .i64 (ky : Int), .int .i64 (vl : Int), .int .i64 (mx : Int)]) := Lib.hid (by
    have hk := HW.out
    have hle := HWs.out
    exact ⟨HBX.out.1.keep hk (fun e => e), HBX.out.2.1.keep hk (fun e => e), HBX.out.2.2.keep hk (fun e => e), HBR.out, by have := HZ2.out; have := Hz.out; omega⟩)
  have hbW : w.heap.size < W.heap.size := by have := HWs.out; have := HZ2.out; have := Hz.out; omega
  have HBW := Lib.hid (show w.heap.size + 3 ≤ W.heap.size from by have := HWs.out; have := HZ2.out; have := Hz.out; omega)
  have x3 := HX0.out.calm HT.out.calm_
  have q1 := x3.cn
  have q1f := x3.n.soft 0
  have en := EN.out.1
  have HT4 := Lib.hid (tab_box HT.out ⟨w.heap.size, 0, none⟩ (.int .i64 (n : Int)) hbW)
  have HX1 := Lib.hid (HX0.out.setN (.int .i64 (n : Int)))
  have hs1 : (W.setCell ⟨w.heap.size, 0, none⟩ (.int .i64 (n : Int))).heap.size = W.heap.size := by simp [World.setCell]
  have HC1 : Hid (∀ W', Calm (W.setCell ⟨w.heap.size, 0, none⟩ (.int .i64 (n : Int))) W' → Calm w W') := Lib.hid (fun W' k => ((HC.out.trans HW.out).store (p := ⟨w.heap.size, 0, none⟩) (fun h => by have h' : w.heap.size < w.heap.size := h; omega) _).trans k)
  clear x3 hbW HX0 HBX HBR HRow HT
  gi_upto_region 7 with fail
  clear q1 q1f en
  generalize w3.setCell ⟨w.heap.size, 0, none⟩ (.int .i64 (n : Int)) = w4 at *
  generalize W.setCell ⟨w.heap.size, 0, none⟩ (.int .i64 (n : Int)) = Wa at *
  have HBWa := Lib.hid (show w.heap.size + 3 ≤ Wa.heap.size from by rw [hs1]; exact HBW.out)
  clear hs1 HBW
  have q1 := (HX1.out.calm HT4.out.calm_).cn
  have hn := numbered_c n (by have := EN.out.2; omega) w4
  have HN := Lib.hid hn
  clear hn
  gi_wp2_with fail
  refine ⟨trivial, ?_⟩
  refine (callsIn_wide.2 HN.out).mono ?_
  rintro e w5 ⟨rfl, k5⟩
  obtain ⟨ck, w6, hc6, hr6, k6, hs6⟩ := bytes_box w5 (numK n) 4 rfl (by omega)
  have HT6 : Hid (Tab Wa w6 (fun i => i = w5.heap.size) tb ⟨nm, 1, ky, vl, mx⟩ E) := Lib.hid ((((HT4.out.rest k5).room k6)).less (fun i (e : i = w5.heap.size) => .inr ⟨by omega, by omega⟩))
  have HKr := Lib.hid hr6
  have HLE := Lib.hid (show w.heap.size + 3 ≤ w5.heap.size from Nat.le_trans HBWa.out (Nat.le_trans HT4.out.calm_.size k5.size))
  clear q1 HN HT4 hr6 k5 k6 hs6
  obtain ⟨bn, bv8, b8, bm, ba⟩ := HX1.out.calm HT6.out.calm_
  have q2 : w6.cell? ⟨w.heap.size + 1, 0, none⟩ = some (.string (str v0)) := (bv8.cell 0).trans rfl
  have q3 : w6.cell? ⟨w2.heap.size, 3, none⟩ = some (.int .i64 (vl : Int)) := (bm.cell 3).trans rfl
  have HF := Lib.hid (fit_c v0 vl (by have := HB3.out; omega) HV0.out w6)
  clear bn bv8 b8 bm
  gi_wp2_with fail
  refine ⟨trivial, ?_⟩
  refine (callsIn_wide.2 HF.out).mono ?_
  rintro e w7 ⟨rfl, k7⟩
  have hfl := fitL_len v0 vl
  generalize fitL v0 vl = fv at *
  have HFL := Lib.hid hfl
  have HT7 := Lib.hid (HT6.out.rest k7)
  have HKr7 := Lib.hid (HKr.out.calm k7)
  have x7 := HX1.out.calm HT7.out.calm_
  have q4 := x7.cv
  have q4f := x7.v.soft 0
  have HT8 := Lib.hid (tab_box HT7.out ⟨w.heap.size + 1, 0, none⟩ (.string (str fv)) (by have := HBWa.out; show w.heap.size + 1 < _; omega))
  have HX8 := Lib.hid (HX1.out.setV (.string (str fv)))
  have hkb : w.heap.size + 3 ≤ w5.heap.size := HLE.out
  have HKr8 := Lib.hid (HKr7.out.held (held_box (fun i => i = w5.heap.size) w7 ⟨w.heap.size + 1, 0, none⟩ (.string (str fv)) (by show ¬ w.heap.size + 1 = w5.heap.size; omega)) rfl)
  have HC8 : Hid (∀ W', Calm (Wa.setCell ⟨w.heap.size + 1, 0, none⟩ (.string (str fv))) W' → Calm w W') := Lib.hid (fun W' k => ((HC1.out Wa (Keep.refl _ Wa)).store (p := ⟨w.heap.size + 1, 0, none⟩) (fun h => by have h' : w.heap.size + 1 < w.heap.size := h; omega) _).trans k)
  have hs8 : (Wa.setCell ⟨w.heap.size + 1, 0, none⟩ (.string (str fv))).heap.size = Wa.heap.size := by simp [World.setCell]
  clear x7 hfl k7 HF HT6 HKr HKr7 HT7 q2 q3 HX1 HC1
  gi_upto_region 9 with fail
  clear q4 q4f
  generalize w7.setCell ⟨w.heap.size + 1, 0, none⟩ (.string (str fv)) = w8 at *
  generalize Wa.setCell ⟨w.heap.size + 1, 0, none⟩ (.string (str fv)) = Wb at *
  have HBWb := Lib.hid (show w.heap.size + 3 ≤ Wb.heap.size from by rw [hs8]; exact HBWa.out)
  clear hs8 HBWa
  have HMX := Lib.hid (show mx ≤ 1024 ∧ n < 65536 ∧ vl ≤ 1000 from by have := HB3.out; have := EN.out.2; omega)
  have HKL := Lib.hid (show (numK n).length = ky from HKQ.out.symm)
  have HL1 := Lib.hid (ar_lookup HT8.out rfl HMX.out.1 HMX.out.2.1 HKr8.out)
  clear HKQ
  gi_wp2_with fail
  refine ⟨trivial, ?_⟩
  refine (callsIn_wide.2 HL1.out).mono ?_
  rintro e w9 ⟨⟨p1, rfl, _⟩, t9, hh9⟩
  have hr9 := HKr8.out.held hh9 rfl
  clear HKr8 HT8 HL1 hh9
  have HT9 := Lib.hid t9
  have HR9 := Lib.hid hr9
  clear t9 hr9
  generalize hgi : decide (n < mx) = is at *
  have HGI := Lib.hid hgi
  clear hgi
  have q10 := (HX8.out.calm HT9.out.calm_).cv
  obtain ⟨cv10, U10, hc10, hu10, ku10, _⟩ := bytes_box w9 fv vl HFL.out HMX.out.2.2
  obtain ⟨f, hf⟩ : ∃ m : Int, m = if n < mx then 4 else 3 := ⟨_, rfl⟩
  have HU10 := Lib.hid (ar_new (HT9.out.rest ku10) rfl HMX.out.1 HMX.out.2.1 (HR9.out.calm ku10) hu10 (by simp only [BadU, not_or, Decidable.not_not]; exact ⟨HKL.out, HFL.out, by decide, by decide⟩) f hf)
  have HRU10 := Lib.hid (HR9.out.calm ku10)
  have Hf := Lib.hid hf
  clear hu10 ku10 HR9 HT9 hf
  gi_wp2_with fail
  refine ⟨trivial, ?_⟩
  refine (callsIn_wide.2 HU10.out).mono ?_
  rintro e w10 ⟨rfl, t10, hh10⟩
  have HR10 := Lib.hid (HRU10.out.held hh10 rfl)
  have HT10 := Lib.hid t10
  clear t10 hh10 HU10 HRU10 q10 hc10
  have q11 := (HX8.out.calm HT10.out.calm_).cv
  obtain ⟨cv11, U11, hc11, hu11, ku11, _⟩ := bytes_box w10 fv vl HFL.out HMX.out.2.2
  obtain ⟨g, hg⟩ : ∃ m : Int, m = if n < mx then 0 else 3 := ⟨_, rfl⟩
  have HU11 := Lib.hid (ar_put (HT10.out.rest ku11) rfl HMX.out.1 HMX.out.2.1 (HR10.out.calm ku11) hu11 2 (.inr rfl) (by simp only [BadU, not_or, Decidable.not_not]; exact ⟨HKL.out, HFL.out, by decide, by decide⟩) g hg)
  have HRU11 := Lib.hid (HR10.out.calm ku11)
  have Hg := Lib.hid hg
  clear hu11 ku11 HR10 HT10 hg
  gi_wp2_with fail
  refine ⟨trivial, ?_⟩
  refine (callsIn_wide.2 HU11.out).mono ?_
  rintro e w11 ⟨rfl, t11, hh11⟩
  have HR11 := Lib.hid (HRU11.out.held hh11 rfl)
  have HT11 := Lib.hid t11
  clear t11 hh11 HU11 HRU11 q11 hc11
  have q12 := (HX8.out.calm HT11.out.calm_).cv
  obtain ⟨cv12, U12, hc12, hu12, ku12, _⟩ := bytes_box w11 fv vl HFL.out HMX.out.2.2
  obtain ⟨h, hh⟩ : ∃ m : Int, m = if n < mx then 0 else 3 := ⟨_, rfl⟩
  have HU12 := Lib.hid (ar_put (HT11.out.rest ku12) rfl HMX.out.1 HMX.out.2.1 (HR11.out.calm ku12) hu12 0 (.inl rfl) (by simp only [BadU, not_or, Decidable.not_not]; exact ⟨HKL.out, HFL.out, by decide, by decide⟩) h hh)
  have HRU12 := Lib.hid (HR11.out.calm ku12)
  have Hh := Lib.hid hh
  clear hu12 ku12 HR11 HT11 hh
  gi_wp2_with fail
  refine ⟨trivial, ?_⟩
  refine (callsIn_wide.2 HU12.out).mono ?_
  rintro e w12 ⟨rfl, t12, hh12⟩
  have HR12 := Lib.hid (HRU12.out.held hh12 rfl)
  have HT12 := Lib.hid t12
  clear t12 hh12 HU12 HRU12 q12 hc12
  have ht12 := HT12.out
  rw [setT_twice] at ht12
  have HT12 := Lib.hid ht12
  clear ht12
  have HL2 := Lib.hid (ar_look2 HT12.out rfl HMX.out.1 HMX.out.2.1 HR12.out)
  gi_wp2_with fail
  refine ⟨trivial, ?_⟩
  refine (callsIn_wide.2 HL2.out).mono ?_
  rintro e w13 ⟨S3, hS3, ⟨p, rfl, hp⟩, t13, hh13⟩
  have HS3 : Hid (S3 w5.heap.size ∧ ∀ i, S3 i → w.heap.size + 3 ≤ i) := Lib.hid ⟨hS3.1 _ rfl, fun i hi => (hS3.2 i hi).elim (fun (e : i = w5.heap.size) => by have := HLE.out; omega) (fun e => by have := HT12.out.calm_.size; have := HBWb.out; omega)⟩
  have HP := Lib.hid hp
  have HT13 := Lib.hid t13
  have HR13 := Lib.hid (HR12.out.held hh13 rfl)
  clear hp t13 hh13 HL2 HT12 HR12 hS3
  rw [HGI.out]
  gi_wp2_with fail
  refine ⟨trivial, ?_⟩
  refine (callsIn_wide.2 (tall_c tb _)).mono ?_
  rintro e W5 ⟨rfl, hw5⟩
  have A1 := Row.made w13 3 #[.int .i64 0]
  have A1' := A1.alloc (.cells #[.pointer (some ⟨tb, 0, none⟩)] 60)
  have A2 := Row.made (w13.alloc (.cells #[.int .i64 0] 3)) 60 #[.pointer (some ⟨tb, 0, none⟩)]
  rw [World.size_alloc] at A2
  have hC5 : Calm w13 ((w13.alloc (.cells #[.int .i64 0] 3)).alloc (.cells #[.pointer (some ⟨tb, 0, none⟩)] 60)) := ((Keep.refl _ w13).alloc _).alloc _
  have hz5 : ((w13.alloc (.cells #[.int .i64 0] 3)).alloc (.cells #[.pointer (some ⟨tb, 0, none⟩)] 60)).heap.size = w13.heap.size + 2 := by simp
  rw [hw5] at A1' A2 hC5 hz5
  rw [World.size_alloc]
  have s1 : W5.cell? ⟨w13.heap.size, 0, none⟩ = some (.int .i64 0) := (A1'.cell 0).trans rfl
  have s1f := A1'.soft 0
  have s2 : W5.cell? ⟨w13.heap.size + 1, 0, none⟩ = some (.pointer (some ⟨tb, 0, none⟩)) := (A2.cell 0).trans rfl
  clear A1 A1' A2 hw5
  have ht := HT13.out
  generalize hEE : setT (numK n) fv E = EE at *
  have HEE := Lib.hid hEE
  have HT5 := Lib.hid (ht.rest hC5)
  obtain ⟨ev, hev, htl, hAll⟩ := tab_allnow HT5.out rfl
  have HAll := Lib.hid hAll
  have HC5 := Lib.hid hC5
  have Hz5 := Lib.hid hz5
  clear ht hEE hAll hC5 hz5
  gi_wp2_with fail
  have hE1 := HE.out
  unfold NewE at hE1
  rw [if_pos rfl] at hE1
  obtain ⟨gs, hgl, hEg⟩ := hE1
  simp only at hgl hEg
  have hlen5 : (rows vl EE).length = mx := by rw [rows_len, ← HEE.out, len_set, hEg]; simp [arrE, hgl]
  have HEg := Lib.hid (And.intro hEg (And.intro hgl hlen5))
  clear hgl hEg hlen5
  refine wpIn_rangeFunc_ownG (F := Fence.wide) (α := {x // x ∈ rows vl EE}) rfl (by omega) (gf := 72) (lb := #[.pointer (some ⟨w13.heap.size + 1, 0, none⟩)]) rfl trivial (enters_of Try.func72 (by kernel_rfl) rfl)
    (tall_stops (4 - 1) (by omega) (w13.heap.size + 1) tb (by rw [HEg.out.2.2]; have := HMX.out.1; omega) (by have := Hz5.out; omega) s2 hev htl HAll.out)
    (fun h k => tkp_t h k) (fun W l o o' _ h hc _ => tkp_b W l o o' h hc) (Below.refl _ _) (fun _ => rfl)
    (AJ w13 W5 w13.heap.size (rows vl EE)) (AX (rows vl EE)) (AJ.own (by have := Hz5.out; omega)) AX.own
    ⟨by simp, HC5.out, Nat.le_refl _, s1, s1f⟩ (fun xe => { tmps := #[Value.int IntKind.i64 x, Value.int IntKind.i64 y, Value.int IntKind.i64 z, Value.string (str v0), undef, undef, Value.pointer (some { block := w.heap.size, off := 0 }), Value.pointer (some { block := w.heap.size + 1, off := 0 }), Value.pointer (some { block := w.heap.size + 1 + 1, off := 0 }), Value.bool true, Value.pointer (some { block := w2.heap.size, off := 0 }), Value.pointer (some { block := tb, off := 0 }), Value.int IntKind.i64 0, Value.slice (some { block := w5.heap.size, off := 0 }) 4 ck, p1, Value.bool is, Value.int IntKind.i64 f, Value.int IntKind.i64 g, Value.int IntKind.i64 h, p, Value.bool is, Value.pointer (some { block := w13.heap.size, off := 0 }), .string (str xe.1.1), .slice xe.1.2.1 xe.1.2.2.1 xe.1.2.2.2, Value.bool true, Value.int IntKind.i64 x, Value.int IntKind.i64 y, Value.agg #[Value.string (str nm), Value.int IntKind.i64 1, Value.int IntKind.i64 ↑ky, Value.int IntKind.i64 ↑vl, Value.int IntKind.i64 ↑mx], Value.tuple #[Value.pointer (some { block := tb, off := 0 }), Value.int IntKind.i64 0], Value.agg #[Value.string (str nm), Value.int IntKind.i64 1, Value.int IntKind.i64 ↑ky, Value.int IntKind.i64 ↑vl, Value.int IntKind.i64 ↑mx], Value.tuple #[Value.pointer (some { block := tb, off := 0 }), Value.int IntKind.i64 0], Value.pointer (some { block := tb, off := 0 }), Value.int IntKind.i64 0, Value.pointer (some { block := tb, off := 0 }), Value.bool false, Value.bool false, Value.int IntKind.i64 0, Value.bool false, Value.bool false, Value.int IntKind.i64 z, Value.int IntKind.i64 ↑n, Value.int IntKind.i64 ↑n, Value.string (str (numK n)), Value.slice (some { block := w5.heap.size, off := 0 }) 4 ck, Value.string (str v0), Value.pointer (some { block := w2.heap.size, off := 3 }), Value.int IntKind.i64 ↑vl, Value.string (str fv), Value.tuple #[p1, Value.bool is], Value.pointer (some { block := tb, off := 0 }), Value.slice (some { block := w5.heap.size, off := 0 }) 4 ck, Value.tuple #[p1, Value.bool is], p1, Value.bool is, Value.pointer (some { block := tb, off := 0 }), Value.slice (some { block := w5.heap.size, off := 0 }) 4 ck, Value.string (str fv), Value.slice (some { block := w9.heap.size, off := 0 }) vl cv10, Value.int IntKind.i64 f, Value.pointer (some { block := tb, off := 0 }), Value.slice (some { block := w5.heap.size, off := 0 }) 4 ck, Value.string (str fv), Value.slice (some { block := w10.heap.size, off := 0 }) vl cv11, Value.int IntKind.i64 g, Value.pointer (some { block := tb, off := 0 }), Value.slice (some { block := w5.heap.size, off := 0 }) 4 ck, Value.string (str fv), Value.slice (some { block := w11.heap.size, off := 0 }) vl cv12, Value.int IntKind.i64 h, Value.tuple #[p, Value.bool is], Value.pointer (some { block := tb, off := 0 }), Value.slice (some { block := w5.heap.size, off := 0 }) 4 ck, Value.tuple #[p, Value.bool is], p, Value.bool is, Value.pointer (some { block := tb, off := 0 }), Value.func (Fn.func 72) #[] #[Value.pointer (some { block := w13.heap.size + 1, off := 0 })], .string (str xe.1.1), .slice xe.1.2.1 xe.1.2.2.1 xe.1.2.2.2, undef, undef, undef, undef, undef, undef, undef, undef, undef, undef, undef, undef, undef, undef, undef, undef, undef, undef, undef, undef, undef, undef, undef, undef, undef, undef, undef, undef, undef, undef, undef, undef, undef, undef, undef, undef, undef, undef, undef, undef, undef, undef, undef, undef, undef, undef, undef, undef, undef, undef, undef, undef, undef, undef, undef, undef, undef, undef, undef, undef, undef, undef, undef, undef, undef, undef, undef, undef, undef, undef, undef, undef, undef, undef, undef, undef, undef, undef, undef, undef, undef, undef, undef, undef, undef, undef, undef, undef, undef, undef, undef, undef, undef, undef, undef, undef, undef, undef, undef, undef, undef, undef, undef, undef, undef, undef, undef, undef, undef, undef, undef, undef, undef, undef, undef, undef], defers := [] }) ?assign ?body ?done ?stop
  case assign =>
    intro l x W K hK
    have HK := Lib.hid hK
    clear hK
    unfold encE
    gi_wp2
    exact HK.out
  case stop =>
    rintro D c pre W hD ⟨k, hk, e⟩ hn hK
    exact absurd ⟨k, hk, e⟩ hn
  case body =>
    rintro l pre ⟨⟨xk, xv⟩, hx⟩ W ⟨p1, p2, p3, t3, t3f⟩ hlen
    obtain ⟨i, hi⟩ : ∃ i, i = pre.length := ⟨_, rfl⟩
    rw [← hi] at p1 hlen t3
    rw [HEg.out.2.2] at hlen
    obtain ⟨bs, hbs⟩ : ∃ bs, bs = if i = n then fv else List.replicate vl 0 := ⟨_, rfl⟩
    obtain ⟨ge, hEi⟩ := arr_at (vl := vl) (n := n) (gs := gs) (v := fv) HMX.out.2.1 (by rw [HEg.out.2.1]; exact HMX.out.1) (j := i) (by rw [HEg.out.2.1]; exact hlen)
    rw [← hbs, ← HEg.out.1, HEE.out] at hEi
    have hRi : (rows vl EE)[i]? = some (numK i, lv vl ge) := by rw [rows_at, hEi]; rfl
    have hbx := HX8.out.calm (HT13.out.rest p2).calm_
    have QI : Hid (∀ w', Calm W w' → w'.cell? ⟨w13.heap.size, 0, none⟩ = some (.int .i64 (i : Int))) := Lib.hid (fun w' k => (k.cell (p := ⟨w13.heap.size, 0, none⟩) (by show w13.heap.size < W.heap.size; have := Hz5.out; omega) (fun e => e)).trans t3)
    have QN : Hid (∀ w', Calm W w' → w'.cell? ⟨w.heap.size, 0, none⟩ = some (.int .i64 (n : Int))) := Lib.hid (fun w' k => (hbx.calm k).cn)
    have QV : Hid (∀ w', Calm W w' → w'.cell? ⟨w.heap.size + 1, 0, none⟩ = some (.string (str fv))) := Lib.hid (fun w' k => (hbx.calm k).cv)
    have QM : Hid (∀ w', Calm W w' → w'.cell? ⟨w2.heap.size, 3, none⟩ = some (.int .i64 (vl : Int))) := Lib.hid (fun w' k => ((hbx.calm k).m.cell 3).trans rfl)
    have QR := Lib.hid hbx
    have HNu := Lib.hid (numbered_c i (by have := HMX.out; omega) (W.drewN 1))
    have HIT : Hid (W.cell? ⟨w13.heap.size, 0, none⟩ = some (.int .i64 (i : Int)) ∧ W.frozen? ⟨w13.heap.size, 0, none⟩ = false ∧ w13.heap.size < W.heap.size) := Lib.hid ⟨t3, t3f, by have := Hz5.out; omega⟩
    have P1 := Lib.hid p1
    have P2 := Lib.hid p2
    have P3 := Lib.hid p3
    have HI := Lib.hid hi
    have HLN := Lib.hid hlen
    have HRi := Lib.hid hRi
    have HEi := Lib.hid hEi
    have HBS := Lib.hid hbs
    clear p1 p2 p3 t3 t3f hbx hi hlen hRi hEi hbs s1 s1f s2 hev htl
    by_cases hk : xk = numK i
    · subst hk
      have hxe : (numK i, xv) = (numK i, lv vl ge) := rows_key HT13.out.keys hx (List.mem_of_getElem? HRi.out) rfl
      injection hxe with _ hxv
      subst hxv
      have hdt := (HT13.out.rest P2.out).data (List.mem_of_getElem? HEi.out)
      have hbl : bs.length = vl := hdt.2
      have QC : Hid (∀ w', Calm W w' → Sem.run Try.prog (convert 22 9 (.slice (some ⟨ge, 0, none⟩) vl vl)) w' = .ok (.string (str bs)) w') := Lib.hid (fun w' k => conv_rd ((row_rd hdt.1 hbl (by have := HMX.out; omega)).calm k))
      have hkx : ((str (numK i)).toList != (str (numK i)).toList) = false := by simp
      have HPR : Hid (pre ++ [⟨(numK i, lv vl ge), hx⟩] = (rows vl EE).attach.take (i + 1)) := Lib.hid (sy_pre P1.out (by rw [HEg.out.2.2]; exact HLN.out) HRi.out)
      have HLP : Hid ((pre ++ [⟨(numK i, lv vl ge), hx⟩] : List {x // x ∈ rows vl EE}).length = i + 1) := Lib.hid (by have := HI.out; simp; omega)
      clear hdt
      simp only [lv]
      by_cases hin : i = n
      · have hi1 : ((i : Int) == (n : Int)) = true := by rw [beq_iff_eq]; omega
        have hi2 : ((i : Int) != (n : Int)) = false := by rw [bne_eq_false_iff_eq]; omega
        have hbs := HBS.out
        rw [if_pos hin] at hbs
        subst hbs
        clear hin
        have hvx : ((str bs).toList != (str bs).toList) = false := by simp
        gi_wp2_with fail
        refine wpIn_round_held (S := fun w' => Calm W w') (by kernel_rfl) (by kernel_rfl) (by rintro ⟨_, _, h⟩; exact h) (Keep.refl _ W).drew (fun hHeld => ?_)
        refine take_at 0 79 (.string (str (numK i))) rfl rfl (by kernel_rfl) (by kernel_rfl) (by kernel_rfl) (fun _ _ _ h => h) (Or.inl ⟨by rfl, ?_⟩) hHeld ?_
        · intro w hSw; go_simp
        simp only [List.setIfInBounds_toArray, List.set_cons_zero, List.set_cons_succ]
        refine take_at 1 80 (.int .i64 (i : Int)) rfl rfl (by kernel_rfl) (by kernel_rfl) (by kernel_rfl) (fun _ _ _ h => h) (Or.inl ⟨by rfl, ?_⟩) hHeld ?_
        · intro w hSw; have e := QI.out w hSw; go_simp
        simp only [List.setIfInBounds_toArray, List.set_cons_zero, List.set_cons_succ]
        refine wpAnyH_ready (rs := [2]) (by kernel_rfl) (by simp) ?_
        refine AllReadyH.cons rfl (fun K hK => ?_) AllReadyH.nil
        go_simp
        refine HNu.out.mono ?_
        rintro e w7 ⟨rfl, c7⟩
        go_wp2_with fail
        refine hK.out _ _ (hHeld.trans c7) (fun hHeld => ?_)
        clear hK K
        try simp only [List.setIfInBounds_toArray, List.set_cons_zero, List.set_cons_succ]
        refine take_at 3 82 (.bool false) rfl rfl (by kernel_rfl) (by kernel_rfl) (by kernel_rfl) (fun _ _ _ h => h) (Or.inl ⟨by rfl, ?_⟩) hHeld ?_
        · intro w hSw; go_simp
        simp only [List.setIfInBounds_toArray, List.set_cons_zero, List.set_cons_succ]
        refine take_at 4 83 (.bool false) rfl rfl (by kernel_rfl) (by kernel_rfl) (by kernel_rfl) (fun _ _ _ h => h) (Or.inl ⟨by rfl, ?_⟩) hHeld ?_
        · intro w hSw; go_simp
        simp only [List.setIfInBounds_toArray, List.set_cons_zero, List.set_cons_succ]
        refine take_at 5 84 (.int .i64 (i : Int)) rfl rfl (by kernel_rfl) (by kernel_rfl) (by kernel_rfl) (fun _ _ _ h => h) (Or.inl ⟨by rfl, ?_⟩) hHeld ?_
        · intro w hSw; have e := QI.out w hSw; go_simp
        simp only [List.setIfInBounds_toArray, List.set_cons_zero, List.set_cons_succ]
        refine take_at 6 85 (.int .i64 (n : Int)) rfl rfl (by kernel_rfl) (by kernel_rfl) (by kernel_rfl) (fun _ _ _ h => h) (Or.inl ⟨by rfl, ?_⟩) hHeld ?_
        · intro w hSw; have e := QN.out w hSw; go_simp
        simp only [List.setIfInBounds_toArray, List.set_cons_zero, List.set_cons_succ]
        refine take_at 7 86 (.bool true) rfl rfl (by kernel_rfl) (by kernel_rfl) (by kernel_rfl) (fun _ _ _ h => h) (Or.inl ⟨by rfl, ?_⟩) hHeld ?_
        · intro w hSw; go_simp
        simp only [List.setIfInBounds_toArray, List.set_cons_zero, List.set_cons_succ]
        refine take_at 8 87 (.bool true) rfl rfl (by kernel_rfl) (by kernel_rfl) (by kernel_rfl) (fun _ _ _ h => h) (Or.inl ⟨by rfl, ?_⟩) hHeld ?_
        · intro w hSw; go_simp
        simp only [List.setIfInBounds_toArray, List.set_cons_zero, List.set_cons_succ]
        refine take_at 9 88 (.slice (some ⟨ge, 0, none⟩) vl vl) rfl rfl (by kernel_rfl) (by kernel_rfl) (by kernel_rfl) (fun _ _ _ h => h) (Or.inl ⟨by rfl, ?_⟩) hHeld ?_
        · intro w hSw; go_simp
        simp only [List.setIfInBounds_toArray, List.set_cons_zero, List.set_cons_succ]
        refine take_at 10 89 (.string (str bs)) rfl rfl (by kernel_rfl) (by kernel_rfl) (by kernel_rfl) (fun _ _ _ h => h) (Or.inl ⟨by rfl, ?_⟩) hHeld ?_
        · intro w hSw; have e := QC.out w hSw; go_simp
        simp only [List.setIfInBounds_toArray, List.set_cons_zero, List.set_cons_succ]
        refine take_at 11 90 (.string (str bs)) rfl rfl (by kernel_rfl) (by kernel_rfl) (by kernel_rfl) (fun _ _ _ h => h) (Or.inl ⟨by rfl, ?_⟩) hHeld ?_
        · intro w hSw; have e := QV.out w hSw; go_simp
        simp only [List.setIfInBounds_toArray, List.set_cons_zero, List.set_cons_succ]
        refine take_at 12 91 (.bool false) rfl rfl (by kernel_rfl) (by kernel_rfl) (by kernel_rfl) (fun _ _ _ h => h) (Or.inl ⟨by rfl, ?_⟩) hHeld ?_
        · intro w hSw; go_simp
        simp only [List.setIfInBounds_toArray, List.set_cons_zero, List.set_cons_succ]
        refine take_at 13 92 (.bool false) rfl rfl (by kernel_rfl) (by kernel_rfl) (by kernel_rfl) (fun _ _ _ h => h) (Or.inl ⟨by rfl, ?_⟩) hHeld ?_
        · intro w hSw; go_simp
        simp only [List.setIfInBounds_toArray, List.set_cons_zero, List.set_cons_succ]
        refine take_at 14 93 (.bool false) rfl rfl (by kernel_rfl) (by kernel_rfl) (by kernel_rfl) (fun _ _ _ h => h) (Or.inl ⟨by rfl, ?_⟩) hHeld ?_
        · intro w hSw; go_simp
        simp only [List.setIfInBounds_toArray, List.set_cons_zero, List.set_cons_succ]
        refine take_at 15 94 (.bool false) rfl rfl (by kernel_rfl) (by kernel_rfl) (by kernel_rfl) (fun _ _ _ h => h) (Or.inl ⟨by rfl, ?_⟩) hHeld ?_
        · intro w hSw; go_simp
        simp only [List.setIfInBounds_toArray, List.set_cons_zero, List.set_cons_succ]
        refine take_at 16 95 (.int .i64 (i : Int)) rfl rfl (by kernel_rfl) (by kernel_rfl) (by kernel_rfl) (fun _ _ _ h => h) (Or.inl ⟨by rfl, ?_⟩) hHeld ?_
        · intro w hSw; have e := QI.out w hSw; go_simp
        simp only [List.setIfInBounds_toArray, List.set_cons_zero, List.set_cons_succ]
        refine take_at 17 96 (.int .i64 (n : Int)) rfl rfl (by kernel_rfl) (by kernel_rfl) (by kernel_rfl) (fun _ _ _ h => h) (Or.inl ⟨by rfl, ?_⟩) hHeld ?_
        · intro w hSw; have e := QN.out w hSw; go_simp
        simp only [List.setIfInBounds_toArray, List.set_cons_zero, List.set_cons_succ]
        refine take_at 18 97 (.bool false) rfl rfl (by kernel_rfl) (by kernel_rfl) (by kernel_rfl) (fun _ _ _ h => h) (Or.inl ⟨by rfl, ?_⟩) hHeld ?_
        · intro w hSw; go_simp
        simp only [List.setIfInBounds_toArray, List.set_cons_zero, List.set_cons_succ]
        refine take_at 19 98 (.bool false) rfl rfl (by kernel_rfl) (by kernel_rfl) (by kernel_rfl) (fun _ _ _ h => h) (Or.inl ⟨by rfl, ?_⟩) hHeld ?_
        · intro w hSw; go_simp
        simp only [List.setIfInBounds_toArray, List.set_cons_zero, List.set_cons_succ]
        refine take_at 20 99 (undef) rfl rfl (by kernel_rfl) (by kernel_rfl) (by kernel_rfl) (fun _ _ _ h => h) (Or.inr ⟨by rfl, rfl⟩) hHeld ?_
        simp only [List.setIfInBounds_toArray, List.set_cons_zero, List.set_cons_succ]
        refine take_at 21 100 (undef) rfl rfl (by kernel_rfl) (by kernel_rfl) (by kernel_rfl) (fun _ _ _ h => h) (Or.inr ⟨by rfl, rfl⟩) hHeld ?_
        simp only [List.setIfInBounds_toArray, List.set_cons_zero, List.set_cons_succ]
        refine take_at 22 101 (undef) rfl rfl (by kernel_rfl) (by kernel_rfl) (by kernel_rfl) (fun _ _ _ h => h) (Or.inr ⟨by rfl, rfl⟩) hHeld ?_
        simp only [List.setIfInBounds_toArray, List.set_cons_zero, List.set_cons_succ]
        refine take_at 23 102 (undef) rfl rfl (by kernel_rfl) (by kernel_rfl) (by kernel_rfl) (fun _ _ _ h => h) (Or.inr ⟨by rfl, rfl⟩) hHeld ?_
        simp only [List.setIfInBounds_toArray, List.set_cons_zero, List.set_cons_succ]
        refine take_at 24 103 (undef) rfl rfl (by kernel_rfl) (by kernel_rfl) (by kernel_rfl) (fun _ _ _ h => h) (Or.inr ⟨by rfl, rfl⟩) hHeld ?_
        simp only [List.setIfInBounds_toArray, List.set_cons_zero, List.set_cons_succ]
        refine take_at 25 104 (undef) rfl rfl (by kernel_rfl) (by kernel_rfl) (by kernel_rfl) (fun _ _ _ h => h) (Or.inr ⟨by rfl, rfl⟩) hHeld ?_
        simp only [List.setIfInBounds_toArray, List.set_cons_zero, List.set_cons_succ]
        refine take_at 26 105 (undef) rfl rfl (by kernel_rfl) (by kernel_rfl) (by kernel_rfl) (fun _ _ _ h => h) (Or.inr ⟨by rfl, rfl⟩) hHeld ?_
        simp only [List.setIfInBounds_toArray, List.set_cons_zero, List.set_cons_succ]
        refine take_at 27 106 (.bool false) rfl rfl (by kernel_rfl) (by kernel_rfl) (by kernel_rfl) (fun _ _ _ h => h) (Or.inl ⟨by rfl, ?_⟩) hHeld ?_
        · intro w hSw; go_simp
        simp only [List.setIfInBounds_toArray, List.set_cons_zero, List.set_cons_succ]
        refine take_at 28 107 (.bool false) rfl rfl (by kernel_rfl) (by kernel_rfl) (by kernel_rfl) (fun _ _ _ h => h) (Or.inl ⟨by rfl, ?_⟩) hHeld ?_
        · intro w hSw; go_simp
        simp only [List.setIfInBounds_toArray, List.set_cons_zero, List.set_cons_succ]
        refine wpAnyH_done (by kernel_rfl) (NoPanic.normal ?_) _
        have hiw : wrap64 ((i : Int) + 1) = ((i + 1 : Nat) : Int) := by have := HLN.out; have := HMX.out.1; unfold wrap64; omega
        have ci := (hHeld.cell (p := ⟨w13.heap.size, 0, none⟩) HIT.out.2.2 (fun e => e)).trans HIT.out.1
        have cif := (hHeld.soft (p := ⟨w13.heap.size, 0, none⟩) HIT.out.2.2 (fun e => e)).trans HIT.out.2.1
        have HHd := Lib.hid hHeld
        clear hHeld
        gi_wp2
        exact aj_next HPR.out HLP.out HHd.out P2.out P3.out ci cif (Nat.le_refl _) (by have := Hz5.out; omega)
      · have hi1 : ((i : Int) == (n : Int)) = false := by rw [beq_eq_false_iff_ne]; omega
        have hi2 : ((i : Int) != (n : Int)) = true := by rw [bne_iff_ne]; omega
        have hbs := HBS.out
        rw [if_neg hin] at hbs
        have hvx : ((str bs).toList != (str bs).toList) = false := by simp
        gi_wp2_with fail
        refine wpIn_round_held (S := fun w' => Calm W w') (by kernel_rfl) (by kernel_rfl) (by rintro ⟨_, _, h⟩; exact h) (Keep.refl _ W).drew (fun hHeld => ?_)
        refine take_at 0 79 (.string (str (numK i))) rfl rfl (by kernel_rfl) (by kernel_rfl) (by kernel_rfl) (fun _ _ _ h => h) (Or.inl ⟨by rfl, ?_⟩) hHeld ?_
        · intro w hSw; go_simp
        simp only [List.setIfInBounds_toArray, List.set_cons_zero, List.set_cons_succ]
        refine take_at 1 80 (.int .i64 (i : Int)) rfl rfl (by kernel_rfl) (by kernel_rfl) (by kernel_rfl) (fun _ _ _ h => h) (Or.inl ⟨by rfl, ?_⟩) hHeld ?_
        · intro w hSw; have e := QI.out w hSw; go_simp
        simp only [List.setIfInBounds_toArray, List.set_cons_zero, List.set_cons_succ]
        refine wpAnyH_ready (rs := [2]) (by kernel_rfl) (by simp) ?_
        refine AllReadyH.cons rfl (fun K hK => ?_) AllReadyH.nil
        go_simp
        refine HNu.out.mono ?_
        rintro e w7 ⟨rfl, c7⟩
        go_wp2_with fail
        refine hK.out _ _ (hHeld.trans c7) (fun hHeld => ?_)
        clear hK K
        try simp only [List.setIfInBounds_toArray, List.set_cons_zero, List.set_cons_succ]
        refine take_at 3 82 (.bool false) rfl rfl (by kernel_rfl) (by kernel_rfl) (by kernel_rfl) (fun _ _ _ h => h) (Or.inl ⟨by rfl, ?_⟩) hHeld ?_
        · intro w hSw; go_simp
        simp only [List.setIfInBounds_toArray, List.set_cons_zero, List.set_cons_succ]
        refine take_at 4 83 (.bool false) rfl rfl (by kernel_rfl) (by kernel_rfl) (by kernel_rfl) (fun _ _ _ h => h) (Or.inl ⟨by rfl, ?_⟩) hHeld ?_
        · intro w hSw; go_simp
        simp only [List.setIfInBounds_toArray, List.set_cons_zero, List.set_cons_succ]
        refine take_at 5 84 (.int .i64 (i : Int)) rfl rfl (by kernel_rfl) (by kernel_rfl) (by kernel_rfl) (fun _ _ _ h => h) (Or.inl ⟨by rfl, ?_⟩) hHeld ?_
        · intro w hSw; have e := QI.out w hSw; go_simp
        simp only [List.setIfInBounds_toArray, List.set_cons_zero, List.set_cons_succ]
        refine take_at 6 85 (.int .i64 (n : Int)) rfl rfl (by kernel_rfl) (by kernel_rfl) (by kernel_rfl) (fun _ _ _ h => h) (Or.inl ⟨by rfl, ?_⟩) hHeld ?_
        · intro w hSw; have e := QN.out w hSw; go_simp
        simp only [List.setIfInBounds_toArray, List.set_cons_zero, List.set_cons_succ]
        refine take_at 7 86 (.bool false) rfl rfl (by kernel_rfl) (by kernel_rfl) (by kernel_rfl) (fun _ _ _ h => h) (Or.inl ⟨by rfl, ?_⟩) hHeld ?_
        · intro w hSw; go_simp
        simp only [List.setIfInBounds_toArray, List.set_cons_zero, List.set_cons_succ]
        refine take_at 8 87 (.bool false) rfl rfl (by kernel_rfl) (by kernel_rfl) (by kernel_rfl) (fun _ _ _ h => h) (Or.inl ⟨by rfl, ?_⟩) hHeld ?_
        · intro w hSw; go_simp
        simp only [List.setIfInBounds_toArray, List.set_cons_zero, List.set_cons_succ]
        refine take_at 9 88 (undef) rfl rfl (by kernel_rfl) (by kernel_rfl) (by kernel_rfl) (fun _ _ _ h => h) (Or.inr ⟨by rfl, rfl⟩) hHeld ?_
        simp only [List.setIfInBounds_toArray, List.set_cons_zero, List.set_cons_succ]
        refine take_at 10 89 (undef) rfl rfl (by kernel_rfl) (by kernel_rfl) (by kernel_rfl) (fun _ _ _ h => h) (Or.inr ⟨by rfl, rfl⟩) hHeld ?_
        simp only [List.setIfInBounds_toArray, List.set_cons_zero, List.set_cons_succ]
        refine take_at 11 90 (undef) rfl rfl (by kernel_rfl) (by kernel_rfl) (by kernel_rfl) (fun _ _ _ h => h) (Or.inr ⟨by rfl, rfl⟩) hHeld ?_
        simp only [List.setIfInBounds_toArray, List.set_cons_zero, List.set_cons_succ]
        refine take_at 12 91 (undef) rfl rfl (by kernel_rfl) (by kernel_rfl) (by kernel_rfl) (fun _ _ _ h => h) (Or.inr ⟨by rfl, rfl⟩) hHeld ?_
        simp only [List.setIfInBounds_toArray, List.set_cons_zero, List.set_cons_succ]
        refine take_at 13 92 (.bool false) rfl rfl (by kernel_rfl) (by kernel_rfl) (by kernel_rfl) (fun _ _ _ h => h) (Or.inl ⟨by rfl, ?_⟩) hHeld ?_
        · intro w hSw; go_simp
        simp only [List.setIfInBounds_toArray, List.set_cons_zero, List.set_cons_succ]
        refine take_at 14 93 (.bool false) rfl rfl (by kernel_rfl) (by kernel_rfl) (by kernel_rfl) (fun _ _ _ h => h) (Or.inl ⟨by rfl, ?_⟩) hHeld ?_
        · intro w hSw; go_simp
        simp only [List.setIfInBounds_toArray, List.set_cons_zero, List.set_cons_succ]
        refine take_at 15 94 (.bool false) rfl rfl (by kernel_rfl) (by kernel_rfl) (by kernel_rfl) (fun _ _ _ h => h) (Or.inl ⟨by rfl, ?_⟩) hHeld ?_
        · intro w hSw; go_simp
        simp only [List.setIfInBounds_toArray, List.set_cons_zero, List.set_cons_succ]
        refine take_at 16 95 (.int .i64 (i : Int)) rfl rfl (by kernel_rfl) (by kernel_rfl) (by kernel_rfl) (fun _ _ _ h => h) (Or.inl ⟨by rfl, ?_⟩) hHeld ?_
        · intro w hSw; have e := QI.out w hSw; go_simp
        simp only [List.setIfInBounds_toArray, List.set_cons_zero, List.set_cons_succ]
        refine take_at 17 96 (.int .i64 (n : Int)) rfl rfl (by kernel_rfl) (by kernel_rfl) (by kernel_rfl) (fun _ _ _ h => h) (Or.inl ⟨by rfl, ?_⟩) hHeld ?_
        · intro w hSw; have e := QN.out w hSw; go_simp
        simp only [List.setIfInBounds_toArray, List.set_cons_zero, List.set_cons_succ]
        refine take_at 18 97 (.bool true) rfl rfl (by kernel_rfl) (by kernel_rfl) (by kernel_rfl) (fun _ _ _ h => h) (Or.inl ⟨by rfl, ?_⟩) hHeld ?_
        · intro w hSw; go_simp
        simp only [List.setIfInBounds_toArray, List.set_cons_zero, List.set_cons_succ]
        refine take_at 19 98 (.bool true) rfl rfl (by kernel_rfl) (by kernel_rfl) (by kernel_rfl) (fun _ _ _ h => h) (Or.inl ⟨by rfl, ?_⟩) hHeld ?_
        · intro w hSw; go_simp
        simp only [List.setIfInBounds_toArray, List.set_cons_zero, List.set_cons_succ]
        refine take_at 20 99 (.slice (some ⟨ge, 0, none⟩) vl vl) rfl rfl (by kernel_rfl) (by kernel_rfl) (by kernel_rfl) (fun _ _ _ h => h) (Or.inl ⟨by rfl, ?_⟩) hHeld ?_
        · intro w hSw; go_simp
        simp only [List.setIfInBounds_toArray, List.set_cons_zero, List.set_cons_succ]
        refine take_at 21 100 (.string (str bs)) rfl rfl (by kernel_rfl) (by kernel_rfl) (by kernel_rfl) (fun _ _ _ h => h) (Or.inl ⟨by rfl, ?_⟩) hHeld ?_
        · intro w hSw; have e := QC.out w hSw; go_simp
        simp only [List.setIfInBounds_toArray, List.set_cons_zero, List.set_cons_succ]
        refine take_at 22 101 (.pointer (some ⟨w2.heap.size, 3, none⟩)) rfl rfl (by kernel_rfl) (by kernel_rfl) (by kernel_rfl) (fun _ _ _ h => h) (Or.inl ⟨by rfl, ?_⟩) hHeld ?_
        · intro w hSw; go_simp
        simp only [List.setIfInBounds_toArray, List.set_cons_zero, List.set_cons_succ]
        refine take_at 23 102 (.int .i64 (vl : Int)) rfl rfl (by kernel_rfl) (by kernel_rfl) (by kernel_rfl) (fun _ _ _ h => h) (Or.inl ⟨by rfl, ?_⟩) hHeld ?_
        · intro w hSw; have e := QM.out w hSw; go_simp
        simp only [List.setIfInBounds_toArray, List.set_cons_zero, List.set_cons_succ]
        have hmk : Sem.run Try.prog (Instr.makeSlice 22 (.int .i64 (vl : Int)) (.int .i64 (vl : Int))) w7 = .ok (.slice (some ⟨w7.heap.size, 0, none⟩) vl vl) (w7.alloc (.cells (zeros8 vl) 5)) := run_make8 w7 vl (by have := HMX.out; omega)
        have hcz : Sem.run Try.prog (convert 22 9 (.slice (some ⟨w7.heap.size, 0, none⟩) vl vl)) (w7.alloc (.cells (zeros8 vl) 5)) = .ok (.string (str bs)) (w7.alloc (.cells (zeros8 vl) 5)) := conv_rd (Rd.made w7 bs vl (zeros8 vl) hbl (by rw [hbs]; exact zeros8_bv vl) (by have := HMX.out; omega))
        refine wpAnyH_ready (rs := [24]) (by kernel_rfl) (by simp) ?_
        refine AllReadyH.cons rfl (fun K hK => ?_) AllReadyH.nil
        go_simp
        refine hK.out _ _ (hHeld.alloc _) (fun hHeld => ?_)
        clear hK K
        try simp only [List.setIfInBounds_toArray, List.set_cons_zero, List.set_cons_succ]
        refine wpAnyH_ready (rs := [25]) (by kernel_rfl) (by simp) ?_
        refine AllReadyH.cons rfl (fun K hK => ?_) AllReadyH.nil
        go_simp
        refine hK.out _ _ hHeld (fun hHeld => ?_)
        clear hK K
        try simp only [List.setIfInBounds_toArray, List.set_cons_zero, List.set_cons_succ]
        refine take_at 26 105 (.bool false) rfl rfl (by kernel_rfl) (by kernel_rfl) (by kernel_rfl) (fun _ _ _ h => h) (Or.inl ⟨by rfl, ?_⟩) hHeld ?_
        · intro w hSw; go_simp
        simp only [List.setIfInBounds_toArray, List.set_cons_zero, List.set_cons_succ]
        refine take_at 27 106 (.bool false) rfl rfl (by kernel_rfl) (by kernel_rfl) (by kernel_rfl) (fun _ _ _ h => h) (Or.inl ⟨by rfl, ?_⟩) hHeld ?_
        · intro w hSw; go_simp
        simp only [List.setIfInBounds_toArray, List.set_cons_zero, List.set_cons_succ]
        refine take_at 28 107 (.bool false) rfl rfl (by kernel_rfl) (by kernel_rfl) (by kernel_rfl) (fun _ _ _ h => h) (Or.inl ⟨by rfl, ?_⟩) hHeld ?_
        · intro w hSw; go_simp
        simp only [List.setIfInBounds_toArray, List.set_cons_zero, List.set_cons_succ]
        refine wpAnyH_done (by kernel_rfl) (NoPanic.normal ?_) _
        have hiw : wrap64 ((i : Int) + 1) = ((i + 1 : Nat) : Int) := by have := HLN.out; have := HMX.out.1; unfold wrap64; omega
        have ci := (hHeld.cell (p := ⟨w13.heap.size, 0, none⟩) HIT.out.2.2 (fun e => e)).trans HIT.out.1
        have cif := (hHeld.soft (p := ⟨w13.heap.size, 0, none⟩) HIT.out.2.2 (fun e => e)).trans HIT.out.2.1
        have HHd := Lib.hid hHeld
        clear hHeld
        gi_wp2
        exact aj_next HPR.out HLP.out HHd.out P2.out P3.out ci cif (Nat.le_refl _) (by have := Hz5.out; omega)
    · have hkx : ¬ (str xk).toList = (str (numK i)).toList := by
        rw [ByteArray.toList_eq, ByteArray.toList_eq, str_list, str_list]; exact hk
      have HNK := Lib.hid hk
      clear hk
      gi_wp2_with fail
      refine wpIn_round_held (S := fun w' => Calm W w') (by kernel_rfl) (by kernel_rfl) (by rintro ⟨_, _, h⟩; exact h) (Keep.refl _ W).drew (fun hHeld => ?_)
      refine take_at 0 79 (.string (str xk)) rfl rfl (by kernel_rfl) (by kernel_rfl) (by kernel_rfl) (fun _ _ _ h => h) (Or.inl ⟨by rfl, ?_⟩) hHeld ?_
      · intro w hSw; go_simp
      simp only [List.setIfInBounds_toArray, List.set_cons_zero, List.set_cons_succ]
      refine take_at 1 80 (.int .i64 (i : Int)) rfl rfl (by kernel_rfl) (by kernel_rfl) (by kernel_rfl) (fun _ _ _ h => h) (Or.inl ⟨by rfl, ?_⟩) hHeld ?_
      · intro w hSw; have e := QI.out w hSw; go_simp
      simp only [List.setIfInBounds_toArray, List.set_cons_zero, List.set_cons_succ]
      refine wpAnyH_ready (rs := [2]) (by kernel_rfl) (by simp) ?_
      refine AllReadyH.cons rfl (fun K hK => ?_) AllReadyH.nil
      go_simp
      refine HNu.out.mono ?_
      rintro e w7 ⟨rfl, c7⟩
      go_wp2_with fail
      refine hK.out _ _ (hHeld.trans c7) (fun hHeld => ?_)
      clear hK K
      try simp only [List.setIfInBounds_toArray, List.set_cons_zero, List.set_cons_succ]
      refine take_at 3 82 (.bool true) rfl rfl (by kernel_rfl) (by kernel_rfl) (by kernel_rfl) (fun _ _ _ h => h) (Or.inl ⟨by rfl, ?_⟩) hHeld ?_
      · intro w hSw; go_simp
      simp only [List.setIfInBounds_toArray, List.set_cons_zero, List.set_cons_succ]
      refine take_at 4 83 (.bool true) rfl rfl (by kernel_rfl) (by kernel_rfl) (by kernel_rfl) (fun _ _ _ h => h) (Or.inl ⟨by rfl, ?_⟩) hHeld ?_
      · intro w hSw; go_simp
      simp only [List.setIfInBounds_toArray, List.set_cons_zero, List.set_cons_succ]
      refine take_at 5 84 (undef) rfl rfl (by kernel_rfl) (by kernel_rfl) (by kernel_rfl) (fun _ _ _ h => h) (Or.inr ⟨by rfl, rfl⟩) hHeld ?_
      simp only [List.setIfInBounds_toArray, List.set_cons_zero, List.set_cons_succ]
      refine take_at 6 85 (undef) rfl rfl (by kernel_rfl) (by kernel_rfl) (by kernel_rfl) (fun _ _ _ h => h) (Or.inr ⟨by rfl, rfl⟩) hHeld ?_
      simp only [List.setIfInBounds_toArray, List.set_cons_zero, List.set_cons_succ]
      refine take_at 7 86 (undef) rfl rfl (by kernel_rfl) (by kernel_rfl) (by kernel_rfl) (fun _ _ _ h => h) (Or.inr ⟨by rfl, rfl⟩) hHeld ?_
      simp only [List.setIfInBounds_toArray, List.set_cons_zero, List.set_cons_succ]
      refine take_at 8 87 (undef) rfl rfl (by kernel_rfl) (by kernel_rfl) (by kernel_rfl) (fun _ _ _ h => h) (Or.inr ⟨by rfl, rfl⟩) hHeld ?_
      simp only [List.setIfInBounds_toArray, List.set_cons_zero, List.set_cons_succ]
      refine take_at 9 88 (undef) rfl rfl (by kernel_rfl) (by kernel_rfl) (by kernel_rfl) (fun _ _ _ h => h) (Or.inr ⟨by rfl, rfl⟩) hHeld ?_
      simp only [List.setIfInBounds_toArray, List.set_cons_zero, List.set_cons_succ]
      refine take_at 10 89 (undef) rfl rfl (by kernel_rfl) (by kernel_rfl) (by kernel_rfl) (fun _ _ _ h => h) (Or.inr ⟨by rfl, rfl⟩) hHeld ?_
      simp only [List.setIfInBounds_toArray, List.set_cons_zero, List.set_cons_succ]
      refine take_at 11 90 (undef) rfl rfl (by kernel_rfl) (by kernel_rfl) (by kernel_rfl) (fun _ _ _ h => h) (Or.inr ⟨by rfl, rfl⟩) hHeld ?_
      simp only [List.setIfInBounds_toArray, List.set_cons_zero, List.set_cons_succ]
      refine take_at 12 91 (undef) rfl rfl (by kernel_rfl) (by kernel_rfl) (by kernel_rfl) (fun _ _ _ h => h) (Or.inr ⟨by rfl, rfl⟩) hHeld ?_
      simp only [List.setIfInBounds_toArray, List.set_cons_zero, List.set_cons_succ]
      refine take_at 13 92 (undef) rfl rfl (by kernel_rfl) (by kernel_rfl) (by kernel_rfl) (fun _ _ _ h => h) (Or.inr ⟨by rfl, rfl⟩) hHeld ?_
      simp only [List.setIfInBounds_toArray, List.set_cons_zero, List.set_cons_succ]
      refine take_at 14 93 (.bool true) rfl rfl (by kernel_rfl) (by kernel_rfl) (by kernel_rfl) (fun _ _ _ h => h) (Or.inl ⟨by rfl, ?_⟩) hHeld ?_
      · intro w hSw; go_simp
      simp only [List.setIfInBounds_toArray, List.set_cons_zero, List.set_cons_succ]
      refine take_at 15 94 (.bool true) rfl rfl (by kernel_rfl) (by kernel_rfl) (by kernel_rfl) (fun _ _ _ h => h) (Or.inl ⟨by rfl, ?_⟩) hHeld ?_
      · intro w hSw; go_simp
      simp only [List.setIfInBounds_toArray, List.set_cons_zero, List.set_cons_succ]
      refine take_at 16 95 (undef) rfl rfl (by kernel_rfl) (by kernel_rfl) (by kernel_rfl) (fun _ _ _ h => h) (Or.inr ⟨by rfl, rfl⟩) hHeld ?_
      simp only [List.setIfInBounds_toArray, List.set_cons_zero, List.set_cons_succ]
      refine take_at 17 96 (undef) rfl rfl (by kernel_rfl) (by kernel_rfl) (by kernel_rfl) (fun _ _ _ h => h) (Or.inr ⟨by rfl, rfl⟩) hHeld ?_
      simp only [List.setIfInBounds_toArray, List.set_cons_zero, List.set_cons_succ]
      refine take_at 18 97 (undef) rfl rfl (by kernel_rfl) (by kernel_rfl) (by kernel_rfl) (fun _ _ _ h => h) (Or.inr ⟨by rfl, rfl⟩) hHeld ?_
      simp only [List.setIfInBounds_toArray, List.set_cons_zero, List.set_cons_succ]
      refine take_at 19 98 (undef) rfl rfl (by kernel_rfl) (by kernel_rfl) (by kernel_rfl) (fun _ _ _ h => h) (Or.inr ⟨by rfl, rfl⟩) hHeld ?_
      simp only [List.setIfInBounds_toArray, List.set_cons_zero, List.set_cons_succ]
      refine take_at 20 99 (undef) rfl rfl (by kernel_rfl) (by kernel_rfl) (by kernel_rfl) (fun _ _ _ h => h) (Or.inr ⟨by rfl, rfl⟩) hHeld ?_
      simp only [List.setIfInBounds_toArray, List.set_cons_zero, List.set_cons_succ]
      refine take_at 21 100 (undef) rfl rfl (by kernel_rfl) (by kernel_rfl) (by kernel_rfl) (fun _ _ _ h => h) (Or.inr ⟨by rfl, rfl⟩) hHeld ?_
      simp only [List.setIfInBounds_toArray, List.set_cons_zero, List.set_cons_succ]
      refine take_at 22 101 (undef) rfl rfl (by kernel_rfl) (by kernel_rfl) (by kernel_rfl) (fun _ _ _ h => h) (Or.inr ⟨by rfl, rfl⟩) hHeld ?_
      simp only [List.setIfInBounds_toArray, List.set_cons_zero, List.set_cons_succ]
      refine take_at 23 102 (undef) rfl rfl (by kernel_rfl) (by kernel_rfl) (by kernel_rfl) (fun _ _ _ h => h) (Or.inr ⟨by rfl, rfl⟩) hHeld ?_
      simp only [List.setIfInBounds_toArray, List.set_cons_zero, List.set_cons_succ]
      refine take_at 24 103 (undef) rfl rfl (by kernel_rfl) (by kernel_rfl) (by kernel_rfl) (fun _ _ _ h => h) (Or.inr ⟨by rfl, rfl⟩) hHeld ?_
      simp only [List.setIfInBounds_toArray, List.set_cons_zero, List.set_cons_succ]
      refine take_at 25 104 (undef) rfl rfl (by kernel_rfl) (by kernel_rfl) (by kernel_rfl) (fun _ _ _ h => h) (Or.inr ⟨by rfl, rfl⟩) hHeld ?_
      simp only [List.setIfInBounds_toArray, List.set_cons_zero, List.set_cons_succ]
      refine take_at 26 105 (undef) rfl rfl (by kernel_rfl) (by kernel_rfl) (by kernel_rfl) (fun _ _ _ h => h) (Or.inr ⟨by rfl, rfl⟩) hHeld ?_
      simp only [List.setIfInBounds_toArray, List.set_cons_zero, List.set_cons_succ]
      refine take_at 27 106 (undef) rfl rfl (by kernel_rfl) (by kernel_rfl) (by kernel_rfl) (fun _ _ _ h => h) (Or.inr ⟨by rfl, rfl⟩) hHeld ?_
      simp only [List.setIfInBounds_toArray, List.set_cons_zero, List.set_cons_succ]
      refine take_at 28 107 (.bool true) rfl rfl (by kernel_rfl) (by kernel_rfl) (by kernel_rfl) (fun _ _ _ h => h) (Or.inl ⟨by rfl, ?_⟩) hHeld ?_
      · intro w hSw; go_simp
      simp only [List.setIfInBounds_toArray, List.set_cons_zero, List.set_cons_succ]
      refine wpAnyH_done (by kernel_rfl) (NoPanic.normal ?_) _
      have hb7 := QR.out.calm hHeld
      have r7 := hb7.cr
      have r7f := hb7.r.soft 0
      have HHd := Lib.hid hHeld
      clear hHeld hb7
      gi_wp2
      have hnn := sy_not (L := rows vl EE) (x := ⟨(xk, xv), hx⟩) P1.out (by rw [HEg.out.2.2]; exact HLN.out) (by
        rw [HRi.out]
        intro e
        injection e with e
        injection e with e1 _
        exact HNK.out e1.symm)
      exact ⟨(from_calm HHd.out).trans ((KeepsOthers.setCell w7 _ _).from _), hnn⟩
  case done =>
    rintro D ys W hD rfl ⟨p1, p2, p3, t3, t3f⟩ hK
    rw [List.length_attach, HEg.out.2.2] at t3
    obtain ⟨S2, hS2⟩ : ∃ S2 : Nat → Prop, S2 = fun i => S3 i ∨ Btw w13.heap.size W.heap.size i := ⟨_, rfl⟩
    have hT2 := HT13.out.room p2
    rw [← hS2] at hT2
    have hDl : D < W.heap.size := (Array.getElem?_eq_some_iff.1 hK).1
    have hw13 : w.heap.size + 3 ≤ w13.heap.size := Nat.le_trans HBWb.out HT13.out.calm_.size
    have hi2 : S2 w13.heap.size := by rw [hS2]; exact .inr ⟨Nat.le_refl _, by have := Hz5.out; omega⟩
    have hd2 : S2 D := by rw [hS2]; exact .inr ⟨by have := Hz5.out; omega, hDl⟩
    have hk2 : S2 w5.heap.size := by rw [hS2]; exact .inl HS3.out.1
    have hr2 : ¬ S2 (w.heap.size + 1 + 1) := by
      rw [hS2]
      rintro (h | h)
      · have := HS3.out.2 _ h; omega
      · have := h.1; omega
    have hx2 : ∀ i, S3 i → S2 i := fun i h => by rw [hS2]; exact .inl h
    have hEl : EE.length = mx := by rw [← rows_len vl EE]; exact HEg.out.2.2
    have ss0 : SS w W S2 tb w.heap.size w2.heap.size ⟨nm, 1, ky, vl, mx⟩ EE (.int .i64 (n : Int)) (.string (str fv)) #[.string (str nm), .int .i64 1, .int .i64 (ky : Int), .int .i64 (vl : Int), .int .i64 (mx : Int)] W := ⟨Wb, hT2, Held.refl _ _, HX8.out.n, HX8.out.v, HX8.out.m, ⟨_, HX8.out.r⟩, HC8.out Wb (Keep.refl _ _)⟩
    have hkr := HR13.out.calm p2
    have HDE : Hid (∀ w', SS w W S2 tb w.heap.size w2.heap.size ⟨nm, 1, ky, vl, mx⟩ EE (.int .i64 (n : Int)) (.string (str fv)) #[.string (str nm), .int .i64 1, .int .i64 (ky : Int), .int .i64 (vl : Int), .int .i64 (mx : Int)] w' → _) := Lib.hid (fun w' h => h.del rfl hk2 hkr HKL.out)
    have HLE2 : Hid (∀ w', SS w W S2 tb w.heap.size w2.heap.size ⟨nm, 1, ky, vl, mx⟩ EE (.int .i64 (n : Int)) (.string (str fv)) #[.string (str nm), .int .i64 1, .int .i64 (ky : Int), .int .i64 (vl : Int), .int .i64 (mx : Int)] w' → _) := Lib.hid (fun w' h => h.len hEl)
    have QI : Hid (∀ w', SS w W S2 tb w.heap.size w2.heap.size ⟨nm, 1, ky, vl, mx⟩ EE (.int .i64 (n : Int)) (.string (str fv)) #[.string (str nm), .int .i64 1, .int .i64 (ky : Int), .int .i64 (vl : Int), .int .i64 (mx : Int)] w' → w'.cell? ⟨w13.heap.size, 0, none⟩ = some (.int .i64 (mx : Int))) := Lib.hid (fun w' h => h.at_ hi2 t3)
    have QV : Hid (∀ w', SS w W S2 tb w.heap.size w2.heap.size ⟨nm, 1, ky, vl, mx⟩ EE (.int .i64 (n : Int)) (.string (str fv)) #[.string (str nm), .int .i64 1, .int .i64 (ky : Int), .int .i64 (vl : Int), .int .i64 (mx : Int)] w' → w'.cell? ⟨w.heap.size + 1, 0, none⟩ = some (.string (str fv))) := Lib.hid (fun w' h => h.cv)
    have QM : Hid (∀ w', SS w W S2 tb w.heap.size w2.heap.size ⟨nm, 1, ky, vl, mx⟩ EE (.int .i64 (n : Int)) (.string (str fv)) #[.string (str nm), .int .i64 1, .int .i64 (ky : Int), .int .i64 (vl : Int), .int .i64 (mx : Int)] w' → w'.cell? ⟨w2.heap.size, 4, none⟩ = some (.int .i64 (mx : Int))) := Lib.hid (fun w' h => (h.cm 4).trans rfl)
    have QX : Hid (∀ w' k bs g, getL k EE = some (g, bs) → SS w W S2 tb w.heap.size w2.heap.size ⟨nm, 1, ky, vl, mx⟩ EE (.int .i64 (n : Int)) (.string (str fv)) #[.string (str nm), .int .i64 1, .int .i64 (ky : Int), .int .i64 (vl : Int), .int .i64 (mx : Int)] w' → Sem.run Try.prog (convert 22 9 (.slice (some ⟨g, 0, none⟩) vl vl)) w' = .ok (.string (str bs)) w') := Lib.hid (fun w' k bs g hg h => h.conv hg HMX.out.2.2)
    have QA : Hid (∀ w' g i u, S3 g → W.cell? ⟨g, i, none⟩ = some u → SS w W S2 tb w.heap.size w2.heap.size ⟨nm, 1, ky, vl, mx⟩ EE (.int .i64 (n : Int)) (.string (str fv)) #[.string (str nm), .int .i64 1, .int .i64 (ky : Int), .int .i64 (vl : Int), .int .i64 (mx : Int)] w' → w'.cell? ⟨g, i, none⟩ = some u) := Lib.hid (fun w' g i u hg hc h => h.at_ (hx2 g hg) hc)
    have HST : Hid (∀ w', SS w W S2 tb w.heap.size w2.heap.size ⟨nm, 1, ky, vl, mx⟩ EE (.int .i64 (n : Int)) (.string (str fv)) #[.string (str nm), .int .i64 1, .int .i64 (ky : Int), .int .i64 (vl : Int), .int .i64 (mx : Int)] w' → SS w W S2 tb w.heap.size w2.heap.size ⟨nm, 1, ky, vl, mx⟩ EE (.int .i64 (n : Int)) (.string (str fv)) #[.string (str nm), .int .i64 1, .int .i64 (ky : Int), .int .i64 (vl : Int), .int .i64 (mx : Int)] (w'.setCell ⟨w.heap.size + 1 + 1, 0, none⟩ (.bool true))) := Lib.hid (fun w' h => h.store (Nat.le_refl _) HX8.out.apart hr2 _)
    have HRB : Hid (∀ w', SS w W S2 tb w.heap.size w2.heap.size ⟨nm, 1, ky, vl, mx⟩ EE (.int .i64 (n : Int)) (.string (str fv)) #[.string (str nm), .int .i64 1, .int .i64 (ky : Int), .int .i64 (vl : Int), .int .i64 (mx : Int)] w' → ∃ rv, w'.cell? ⟨w.heap.size + 1 + 1, 0, none⟩ = some rv ∧ w'.frozen? ⟨w.heap.size + 1 + 1, 0, none⟩ = false) := Lib.hid (fun w' h => h.rb)
    have HFN : Hid (∀ w', SS w W S2 tb w.heap.size w2.heap.size ⟨nm, 1, ky, vl, mx⟩ EE (.int .i64 (n : Int)) (.string (str fv)) #[.string (str nm), .int .i64 1, .int .i64 (ky : Int), .int .i64 (vl : Int), .int .i64 (mx : Int)] w' → Calm w w' ∧ w'.heap[D]? = some (.deferred (some []))) := Lib.hid (fun w' h => ⟨h.calm, (h.held D hd2).trans hK⟩)
    have q5 := ss0.cn
    have q6 : W.cell? ⟨w2.heap.size, 4, none⟩ = some (.int .i64 (mx : Int)) := (ss0.cm 4).trans rfl
    have HP2 := Lib.hid p2
    have HDl : Hid (w.heap.size ≤ D) := Lib.hid (by have := Hz5.out; omega)
    have SS0 := Lib.hid ss0.drew
    have SSW := Lib.hid ss0
    clear p1 p3 t3 t3f hK hT2 hDl hw13 hi2 hd2 hk2 hr2 hx2 hEl ss0 hkr hS2 hD s1 s1f s2 hev htl
    obtain ⟨SP, hSP⟩ : ∃ SP : World → Prop, SP = SS w W S2 tb w.heap.size w2.heap.size ⟨nm, 1, ky, vl, mx⟩ EE (.int .i64 (n : Int)) (.string (str fv)) #[.string (str nm), .int .i64 1, .int .i64 (ky : Int), .int .i64 (vl : Int), .int .i64 (mx : Int)] := ⟨_, rfl⟩
    simp only [← hSP] at *
    clear hSP
    by_cases hq : n < mx
    · obtain ⟨_, xx, gx, bx, hpe, hgx, hsx, hrx⟩ := HP.out.resolve_right (fun h => h.1 hq)
      subst hpe
      have hbx : bx = fv := by
        have h := hgx
        rw [← HEE.out, getL_set, if_pos rfl] at h
        obtain ⟨y, _, e⟩ := Option.map_eq_some_iff.1 h
        injection e with _ e
        exact e.symm
      subst hbx
      have hf := Hf.out
      have hg := Hg.out
      have hh := Hh.out
      rw [if_pos hq] at hf hg hh
      subst hf hg hh
      have his := HGI.out
      rw [decide_eq_true hq] at his
      subst his
      have QX1 : Hid (∀ w', SP w' → w'.cell? ⟨xx, 1, none⟩ = some (.slice (some ⟨gx, 0, none⟩) vl vl)) := Lib.hid (fun w' h => QA.out w' xx 1 _ hsx (((hrx.keep HP2.out (fun e => e)).cell 1).trans rfl) h)
      have QX2 : Hid (∀ w', SP w' → Sem.run Try.prog (convert 22 9 (.slice (some ⟨gx, 0, none⟩) vl vl)) w' = .ok (.string (str bx)) w') := Lib.hid (fun w' h => QX.out w' _ _ _ hgx h)
      have j1 : ¬ (mx : Int) ≤ (n : Int) := by omega
      have j2 : (n : Int) < (mx : Int) := by omega
      have hvx : ((str bx).toList == (str bx).toList) = true := by simp
      clear hq hgx hsx hrx
      gi_wp2_with fail
      refine wpIn_wide.2 ?_
      refine wp_region_noPanic ?_
      refine wp_region_held_drew (S := SP) (by kernel_rfl) SS0.out (fun hHeld => ?_)
      refine take_at 0 147 (.bool true) rfl rfl (by kernel_rfl) (by kernel_rfl) (by kernel_rfl) (fun _ _ _ h => h) (Or.inl ⟨by rfl, ?_⟩) hHeld ?_
      · intro w hSw; go_simp
      simp only [List.setIfInBounds_toArray, List.set_cons_zero, List.set_cons_succ]
      refine take_at 1 148 (.bool true) rfl rfl (by kernel_rfl) (by kernel_rfl) (by kernel_rfl) (fun _ _ _ h => h) (Or.inl ⟨by rfl, ?_⟩) hHeld ?_
      · intro w hSw; go_simp
      simp only [List.setIfInBounds_toArray, List.set_cons_zero, List.set_cons_succ]
      refine take_at 2 149 (.bool true) rfl rfl (by kernel_rfl) (by kernel_rfl) (by kernel_rfl) (fun _ _ _ h => h) (Or.inl ⟨by rfl, ?_⟩) hHeld ?_
      · intro w hSw; go_simp
      simp only [List.setIfInBounds_toArray, List.set_cons_zero, List.set_cons_succ]
      refine take_at 3 150 (.bool true) rfl rfl (by kernel_rfl) (by kernel_rfl) (by kernel_rfl) (fun _ _ _ h => h) (Or.inl ⟨by rfl, ?_⟩) hHeld ?_
      · intro w hSw; go_simp
      simp only [List.setIfInBounds_toArray, List.set_cons_zero, List.set_cons_succ]
      refine take_at 4 151 (.bool true) rfl rfl (by kernel_rfl) (by kernel_rfl) (by kernel_rfl) (fun _ _ _ h => h) (Or.inl ⟨by rfl, ?_⟩) hHeld ?_
      · intro w hSw; go_simp
      simp only [List.setIfInBounds_toArray, List.set_cons_zero, List.set_cons_succ]
      refine take_at 5 152 (.pointer (some ⟨xx, 0, none⟩)) rfl rfl (by kernel_rfl) (by kernel_rfl) (by kernel_rfl) (fun _ _ _ h => h) (Or.inl ⟨by rfl, ?_⟩) hHeld ?_
      · intro w hSw; go_simp
      simp only [List.setIfInBounds_toArray, List.set_cons_zero, List.set_cons_succ]
      refine take_at 6 153 (.bool true) rfl rfl (by kernel_rfl) (by kernel_rfl) (by kernel_rfl) (fun _ _ _ h => h) (Or.inl ⟨by rfl, ?_⟩) hHeld ?_
      · intro w hSw; go_simp
      simp only [List.setIfInBounds_toArray, List.set_cons_zero, List.set_cons_succ]
      refine take_at 7 154 (.bool true) rfl rfl (by kernel_rfl) (by kernel_rfl) (by kernel_rfl) (fun _ _ _ h => h) (Or.inl ⟨by rfl, ?_⟩) hHeld ?_
      · intro w hSw; go_simp
      simp only [List.setIfInBounds_toArray, List.set_cons_zero, List.set_cons_succ]
      refine take_at 8 155 (.bool true) rfl rfl (by kernel_rfl) (by kernel_rfl) (by kernel_rfl) (fun _ _ _ h => h) (Or.inl ⟨by rfl, ?_⟩) hHeld ?_
      · intro w hSw; go_simp
      simp only [List.setIfInBounds_toArray, List.set_cons_zero, List.set_cons_succ]
      refine take_at 9 156 (.pointer (some ⟨xx, 0, none⟩)) rfl rfl (by kernel_rfl) (by kernel_rfl) (by kernel_rfl) (fun _ _ _ h => h) (Or.inl ⟨by rfl, ?_⟩) hHeld ?_
      · intro w hSw; go_simp
      simp only [List.setIfInBounds_toArray, List.set_cons_zero, List.set_cons_succ]
      refine take_at 10 157 (.pointer (some ⟨xx, 0, none⟩)) rfl rfl (by kernel_rfl) (by kernel_rfl) (by kernel_rfl) (fun _ _ _ h => h) (Or.inl ⟨by rfl, ?_⟩) hHeld ?_
      · intro w hSw; go_simp
      simp only [List.setIfInBounds_toArray, List.set_cons_zero, List.set_cons_succ]
      refine take_at 11 158 (.pointer (some ⟨xx, 1, none⟩)) rfl rfl (by kernel_rfl) (by kernel_rfl) (by kernel_rfl) (fun _ _ _ h => h) (Or.inl ⟨by rfl, ?_⟩) hHeld ?_
      · intro w hSw; go_simp
      simp only [List.setIfInBounds_toArray, List.set_cons_zero, List.set_cons_succ]
      refine take_at 12 159 (.slice (some ⟨gx, 0, none⟩) vl vl) rfl rfl (by kernel_rfl) (by kernel_rfl) (by kernel_rfl) (fun _ _ _ h => h) (Or.inl ⟨by rfl, ?_⟩) hHeld ?_
      · intro w hSw; have e := QX1.out w hSw; go_simp
      simp only [List.setIfInBounds_toArray, List.set_cons_zero, List.set_cons_succ]
      refine take_at 13 160 (.string (str bx)) rfl rfl (by kernel_rfl) (by kernel_rfl) (by kernel_rfl) (fun _ _ _ h => h) (Or.inl ⟨by rfl, ?_⟩) hHeld ?_
      · intro w hSw; have e := QX2.out w hSw; go_simp
      simp only [List.setIfInBounds_toArray, List.set_cons_zero, List.set_cons_succ]
      refine take_at 14 161 (.string (str bx)) rfl rfl (by kernel_rfl) (by kernel_rfl) (by kernel_rfl) (fun _ _ _ h => h) (Or.inl ⟨by rfl, ?_⟩) hHeld ?_
      · intro w hSw; have e := QV.out w hSw; go_simp
      simp only [List.setIfInBounds_toArray, List.set_cons_zero, List.set_cons_succ]
      refine take_at 15 162 (.bool true) rfl rfl (by kernel_rfl) (by kernel_rfl) (by kernel_rfl) (fun _ _ _ h => h) (Or.inl ⟨by rfl, ?_⟩) hHeld ?_
      · intro w hSw; go_simp
      simp only [List.setIfInBounds_toArray, List.set_cons_zero, List.set_cons_succ]
      refine take_at 16 163 (.bool true) rfl rfl (by kernel_rfl) (by kernel_rfl) (by kernel_rfl) (fun _ _ _ h => h) (Or.inl ⟨by rfl, ?_⟩) hHeld ?_
      · intro w hSw; go_simp
      simp only [List.setIfInBounds_toArray, List.set_cons_zero, List.set_cons_succ]
      refine take_at 17 164 (.bool true) rfl rfl (by kernel_rfl) (by kernel_rfl) (by kernel_rfl) (fun _ _ _ h => h) (Or.inl ⟨by rfl, ?_⟩) hHeld ?_
      · intro w hSw; go_simp
      simp only [List.setIfInBounds_toArray, List.set_cons_zero, List.set_cons_succ]
      refine take_at 18 165 (.int .i64 4) rfl rfl (by kernel_rfl) (by kernel_rfl) (by kernel_rfl) (fun _ _ _ h => h) (Or.inl ⟨by rfl, ?_⟩) hHeld ?_
      · intro w hSw; go_simp
      simp only [List.setIfInBounds_toArray, List.set_cons_zero, List.set_cons_succ]
      refine take_at 19 166 (.bool true) rfl rfl (by kernel_rfl) (by kernel_rfl) (by kernel_rfl) (fun _ _ _ h => h) (Or.inl ⟨by rfl, ?_⟩) hHeld ?_
      · intro w hSw; go_simp
      simp only [List.setIfInBounds_toArray, List.set_cons_zero, List.set_cons_succ]
      refine take_at 20 167 (.bool true) rfl rfl (by kernel_rfl) (by kernel_rfl) (by kernel_rfl) (fun _ _ _ h => h) (Or.inl ⟨by rfl, ?_⟩) hHeld ?_
      · intro w hSw; go_simp
      simp only [List.setIfInBounds_toArray, List.set_cons_zero, List.set_cons_succ]
      refine take_at 21 168 (.bool true) rfl rfl (by kernel_rfl) (by kernel_rfl) (by kernel_rfl) (fun _ _ _ h => h) (Or.inl ⟨by rfl, ?_⟩) hHeld ?_
      · intro w hSw; go_simp
      simp only [List.setIfInBounds_toArray, List.set_cons_zero, List.set_cons_succ]
      refine take_at 22 169 (.int .i64 0) rfl rfl (by kernel_rfl) (by kernel_rfl) (by kernel_rfl) (fun _ _ _ h => h) (Or.inl ⟨by rfl, ?_⟩) hHeld ?_
      · intro w hSw; go_simp
      simp only [List.setIfInBounds_toArray, List.set_cons_zero, List.set_cons_succ]
      refine take_at 23 170 (.bool true) rfl rfl (by kernel_rfl) (by kernel_rfl) (by kernel_rfl) (fun _ _ _ h => h) (Or.inl ⟨by rfl, ?_⟩) hHeld ?_
      · intro w hSw; go_simp
      simp only [List.setIfInBounds_toArray, List.set_cons_zero, List.set_cons_succ]
      refine take_at 24 171 (.bool true) rfl rfl (by kernel_rfl) (by kernel_rfl) (by kernel_rfl) (fun _ _ _ h => h) (Or.inl ⟨by rfl, ?_⟩) hHeld ?_
      · intro w hSw; go_simp
      simp only [List.setIfInBounds_toArray, List.set_cons_zero, List.set_cons_succ]
      refine take_at 25 172 (.bool true) rfl rfl (by kernel_rfl) (by kernel_rfl) (by kernel_rfl) (fun _ _ _ h => h) (Or.inl ⟨by rfl, ?_⟩) hHeld ?_
      · intro w hSw; go_simp
      simp only [List.setIfInBounds_toArray, List.set_cons_zero, List.set_cons_succ]
      refine take_at 26 173 (.int .i64 0) rfl rfl (by kernel_rfl) (by kernel_rfl) (by kernel_rfl) (fun _ _ _ h => h) (Or.inl ⟨by rfl, ?_⟩) hHeld ?_
      · intro w hSw; go_simp
      simp only [List.setIfInBounds_toArray, List.set_cons_zero, List.set_cons_succ]
      refine take_at 27 174 (.bool true) rfl rfl (by kernel_rfl) (by kernel_rfl) (by kernel_rfl) (fun _ _ _ h => h) (Or.inl ⟨by rfl, ?_⟩) hHeld ?_
      · intro w hSw; go_simp
      simp only [List.setIfInBounds_toArray, List.set_cons_zero, List.set_cons_succ]
      refine take_at 28 175 (.bool true) rfl rfl (by kernel_rfl) (by kernel_rfl) (by kernel_rfl) (fun _ _ _ h => h) (Or.inl ⟨by rfl, ?_⟩) hHeld ?_
      · intro w hSw; go_simp
      simp only [List.setIfInBounds_toArray, List.set_cons_zero, List.set_cons_succ]
      refine take_at 29 176 (.bool true) rfl rfl (by kernel_rfl) (by kernel_rfl) (by kernel_rfl) (fun _ _ _ h => h) (Or.inl ⟨by rfl, ?_⟩) hHeld ?_
      · intro w hSw; go_simp
      simp only [List.setIfInBounds_toArray, List.set_cons_zero, List.set_cons_succ]
      refine take_at 30 177 (.int .i64 (mx : Int)) rfl rfl (by kernel_rfl) (by kernel_rfl) (by kernel_rfl) (fun _ _ _ h => h) (Or.inl ⟨by rfl, ?_⟩) hHeld ?_
      · intro w hSw; have e := QI.out w hSw; go_simp
      simp only [List.setIfInBounds_toArray, List.set_cons_zero, List.set_cons_succ]
      refine take_at 31 178 (.pointer (some ⟨w2.heap.size, 4, none⟩)) rfl rfl (by kernel_rfl) (by kernel_rfl) (by kernel_rfl) (fun _ _ _ h => h) (Or.inl ⟨by rfl, ?_⟩) hHeld ?_
      · intro w hSw; go_simp
      simp only [List.setIfInBounds_toArray, List.set_cons_zero, List.set_cons_succ]
      refine take_at 32 179 (.int .i64 (mx : Int)) rfl rfl (by kernel_rfl) (by kernel_rfl) (by kernel_rfl) (fun _ _ _ h => h) (Or.inl ⟨by rfl, ?_⟩) hHeld ?_
      · intro w hSw; have e := QM.out w hSw; go_simp
      simp only [List.setIfInBounds_toArray, List.set_cons_zero, List.set_cons_succ]
      refine take_at 33 180 (.bool true) rfl rfl (by kernel_rfl) (by kernel_rfl) (by kernel_rfl) (fun _ _ _ h => h) (Or.inl ⟨by rfl, ?_⟩) hHeld ?_
      · intro w hSw; go_simp
      simp only [List.setIfInBounds_toArray, List.set_cons_zero, List.set_cons_succ]
      refine take_at 34 181 (.bool true) rfl rfl (by kernel_rfl) (by kernel_rfl) (by kernel_rfl) (fun _ _ _ h => h) (Or.inl ⟨by rfl, ?_⟩) hHeld ?_
      · intro w hSw; go_simp
      simp only [List.setIfInBounds_toArray, List.set_cons_zero, List.set_cons_succ]
      refine take_at 35 182 (.bool true) rfl rfl (by kernel_rfl) (by kernel_rfl) (by kernel_rfl) (fun _ _ _ h => h) (Or.inl ⟨by rfl, ?_⟩) hHeld ?_
      · intro w hSw; go_simp
      simp only [List.setIfInBounds_toArray, List.set_cons_zero, List.set_cons_succ]
      refine take_at 36 183 (.pointer (some ⟨tb, 0, none⟩)) rfl rfl (by kernel_rfl) (by kernel_rfl) (by kernel_rfl) (fun _ _ _ h => h) (Or.inl ⟨by rfl, ?_⟩) hHeld ?_
      · intro w hSw; go_simp
      simp only [List.setIfInBounds_toArray, List.set_cons_zero, List.set_cons_succ]
      refine take_at 37 184 (.slice (some ⟨w5.heap.size, 0, none⟩) 4 ck) rfl rfl (by kernel_rfl) (by kernel_rfl) (by kernel_rfl) (fun _ _ _ h => h) (Or.inl ⟨by rfl, ?_⟩) hHeld ?_
      · intro w hSw; go_simp
      simp only [List.setIfInBounds_toArray, List.set_cons_zero, List.set_cons_succ]
      refine wpAnyH_ready (rs := [38]) (by kernel_rfl) (by simp) ?_
      refine AllReadyH.cons rfl (fun K hK => ?_) AllReadyH.nil
      go_simp
      refine (HDE.out _ hHeld).mono ?_
      rintro e w7 ⟨rfl, c7⟩
      go_wp2_with fail
      refine hK.out _ _ c7 (fun hHeld => ?_)
      clear hK K
      try simp only [List.setIfInBounds_toArray, List.set_cons_zero, List.set_cons_succ]
      refine take_at 39 186 (.bool true) rfl rfl (by kernel_rfl) (by kernel_rfl) (by kernel_rfl) (fun _ _ _ h => h) (Or.inl ⟨by rfl, ?_⟩) hHeld ?_
      · intro w hSw; go_simp
      simp only [List.setIfInBounds_toArray, List.set_cons_zero, List.set_cons_succ]
      refine take_at 40 187 (.bool true) rfl rfl (by kernel_rfl) (by kernel_rfl) (by kernel_rfl) (fun _ _ _ h => h) (Or.inl ⟨by rfl, ?_⟩) hHeld ?_
      · intro w hSw; go_simp
      simp only [List.setIfInBounds_toArray, List.set_cons_zero, List.set_cons_succ]
      refine take_at 41 188 (.bool true) rfl rfl (by kernel_rfl) (by kernel_rfl) (by kernel_rfl) (fun _ _ _ h => h) (Or.inl ⟨by rfl, ?_⟩) hHeld ?_
      · intro w hSw; go_simp
      simp only [List.setIfInBounds_toArray, List.set_cons_zero, List.set_cons_succ]
      refine take_at 42 189 (.pointer (some ⟨tb, 0, none⟩)) rfl rfl (by kernel_rfl) (by kernel_rfl) (by kernel_rfl) (fun _ _ _ h => h) (Or.inl ⟨by rfl, ?_⟩) hHeld ?_
      · intro w hSw; go_simp
      simp only [List.setIfInBounds_toArray, List.set_cons_zero, List.set_cons_succ]
      refine take_at 44 191 (.pointer (some ⟨w2.heap.size, 4, none⟩)) rfl rfl (by kernel_rfl) (by kernel_rfl) (by kernel_rfl) (fun _ _ _ h => h) (Or.inl ⟨by rfl, ?_⟩) hHeld ?_
      · intro w hSw; go_simp
      simp only [List.setIfInBounds_toArray, List.set_cons_zero, List.set_cons_succ]
      refine take_at 45 192 (.int .i64 (mx : Int)) rfl rfl (by kernel_rfl) (by kernel_rfl) (by kernel_rfl) (fun _ _ _ h => h) (Or.inl ⟨by rfl, ?_⟩) hHeld ?_
      · intro w hSw; have e := QM.out w hSw; go_simp
      simp only [List.setIfInBounds_toArray, List.set_cons_zero, List.set_cons_succ]
      refine wpAnyH_ready (rs := [43]) (by kernel_rfl) (by simp) ?_
      refine AllReadyH.cons rfl (fun K hK => ?_) AllReadyH.nil
      go_simp
      refine (HLE2.out _ hHeld).mono ?_
      rintro e w8 ⟨rfl, c8⟩
      obtain ⟨rv, r7, r7f⟩ := HRB.out _ c8
      go_wp2_with fail
      refine hK.out _ _ c8 (fun hHeld => ?_)
      clear hK K
      try simp only [List.setIfInBounds_toArray, List.set_cons_zero, List.set_cons_succ]
      refine take_at 46 193 (.bool true) rfl rfl (by kernel_rfl) (by kernel_rfl) (by kernel_rfl) (fun _ _ _ h => h) (Or.inl ⟨by rfl, ?_⟩) hHeld ?_
      · intro w hSw; go_simp
      simp only [List.setIfInBounds_toArray, List.set_cons_zero, List.set_cons_succ]
      refine take_at 47 194 (.bool true) rfl rfl (by kernel_rfl) (by kernel_rfl) (by kernel_rfl) (fun _ _ _ h => h) (Or.inl ⟨by rfl, ?_⟩) hHeld ?_
      · intro w hSw; go_simp
      simp only [List.setIfInBounds_toArray, List.set_cons_zero, List.set_cons_succ]
      refine wpAnyH_ready (rs := [48]) (by kernel_rfl) (by simp) ?_
      refine AllReadyH.cons rfl (fun K hK => ?_) AllReadyH.nil
      go_simp
      refine hK.out _ _ (HST.out _ hHeld) (fun hHeld => ?_)
      clear hK K
      try simp only [List.setIfInBounds_toArray, List.set_cons_zero, List.set_cons_succ]
      refine wpAnyH_done (by kernel_rfl) (NoPanic.normal ?_) _
      gi_wp2
      obtain ⟨hCf, hDf⟩ := HFN.out _ hHeld
      have hc5 : ((w8.setCell ⟨w.heap.size + 1 + 1, 0, none⟩ (.bool true)).putObj D (.deferred none)).cell? ⟨w.heap.size + 1 + 1, 0, none⟩ = some (.bool true) := cell_kept (W := w8.setCell ⟨w.heap.size + 1 + 1, 0, none⟩ (.bool true)) (World.cell?_setCell_same' w8 ⟨w.heap.size + 1 + 1, 0, none⟩ (.bool true) (by rw [r7]; rfl)) (grownBy_putObj' _ D (.deferred none)) (fun r e => by cases e; exact ⟨_, hDf, rfl⟩)
      refine ⟨by simp, .inl ⟨_, _, rfl, run_takeDeferred hDf, ?_⟩⟩
      exact ⟨.bool true, by simp [results, Try.f9, go_sem, hc5], rfl, calm_putT hCf HDl.out _⟩
    · obtain ⟨_, hpe⟩ := HP.out.resolve_left (fun h => hq h.1)
      subst hpe
      have hf := Hf.out
      have hg := Hg.out
      have hh := Hh.out
      rw [if_neg hq] at hf hg hh
      subst hf hg hh
      have his := HGI.out
      rw [decide_eq_false hq] at his
      subst his
      have j1 : (mx : Int) ≤ (n : Int) := by omega
      clear hq
      have ci : W.cell? ⟨w13.heap.size, 0, none⟩ = some (.int .i64 (mx : Int)) := QI.out _ SSW.out
      gi_wp2_with fail
      refine ⟨trivial, ?_⟩
      refine (callsIn_wide.2 (HDE.out _ SSW.out)).mono ?_
      rintro e w7 ⟨rfl, c7⟩
      obtain ⟨rv, r7, r7f⟩ := HRB.out _ c7
      have hHeld := HST.out _ c7
      have HHe := Lib.hid hHeld
      clear hHeld c7
      gi_wp2
      obtain ⟨hCf, hDf⟩ := HFN.out _ HHe.out
      have hc5 : ((w7.setCell ⟨w.heap.size + 1 + 1, 0, none⟩ (.bool true)).putObj D (.deferred none)).cell? ⟨w.heap.size + 1 + 1, 0, none⟩ = some (.bool true) := cell_kept (W := w7.setCell ⟨w.heap.size + 1 + 1, 0, none⟩ (.bool true)) (World.cell?_setCell_same' w7 ⟨w.heap.size + 1 + 1, 0, none⟩ (.bool true) (by rw [r7]; rfl)) (grownBy_putObj' _ D (.deferred none)) (fun r e => by cases e; exact ⟨_, hDf, rfl⟩)
      refine ⟨by simp, .inl ⟨_, _, rfl, run_takeDeferred hDf, ?_⟩⟩
      exact ⟨.bool true, by simp [results, Try.f9, go_sem, hc5], rfl, calm_putT hCf HDl.out _⟩
theorem tableArray_c (x y z : Int) (v0 : List UInt8) (w : World) (hv0 : v0.length ≤ maxLen) : Calls Try.prog 9 #[.int .i64 x, .int .i64 y, .int .i64 z, .string (str v0)] w fun e w' => e = .returned (.bool true) ∧ Calm w w' := callsIn_wide.1 (tableArray_in x y z v0 w hv0)
end Go.Proofs.Ytiipepiabeccpaa
