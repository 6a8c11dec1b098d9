/-
  TableInto: the walk.
-/
import Derived.Test.YtiipepiabeccpaaT20
namespace Go.Proofs.Ytiipepiabeccpaa
open Go.RowKit Go.Deep
set_option linter.all false
attribute [local go_sem] Oper.semAt_some

theorem bytes_of (w : World) (k : List UInt8) (n : Nat) (hk : k.length = n) (hn : n ≤ 1000) : ∃ c W, Sem.run Try.prog (convert 9 22 (.string (str k))) w = .ok (.slice (some ⟨w.heap.size, 0, none⟩) n c) W ∧ Rd W (.slice (some ⟨w.heap.size, 0, none⟩) n c) k ∧ Calm w W := by
  obtain ⟨c, W, h1, h2, h3, _⟩ := conv_bytes w k (by unfold maxLen; omega)
  rw [hk] at h1 h2
  exact ⟨c, W, h1, h2, h3⟩
theorem first_set (B : List UInt8) (b : UInt8) (h : 1 ≤ B.length) : (((B.set 0 b).map bv).toArray)[0]? = some (bv b) := by
  cases B with
  | nil => simp at h
  | cons x l => rfl
theorem set_row {w : World} {g : Nat} {B : List UInt8} (h : Row w g 5 (B.map bv).toArray) (b : UInt8) : Row (w.setCell ⟨g, 0, none⟩ (bv b)) g 5 ((B.set 0 b).map bv).toArray := by
  have e := h.store 0 (bv b)
  rw [List.map_set]
  simpa using e
theorem ks9 {a b : List UInt8} (h : a = b) : ((str a).toList == (str b).toList) = true := by subst h; simp

set_option maxRecDepth 100000 in
set_option maxHeartbeats 8000000 in
theorem tableInto_c (x y z : Int) (k0 a0 b0 : List UInt8) (w : World) (hk0 : k0.length ≤ maxLen) (ha0 : a0.length ≤ maxLen) (hb0 : b0.length ≤ maxLen) : Calls Try.prog 12 #[.int .i64 x, .int .i64 y, .int .i64 z, .string (str k0), .string (str a0), .string (str b0)] w fun e w' => e = .returned (.bool true) ∧ Calm w w' := by
  have HL0 := Lib.hid (And.intro hk0 (And.intro ha0 hb0))
  clear hk0 ha0 hb0
  go_enter Try.func12, Try.ntmps12
  go_wp2_with fail
  refine (shown10_c _).mono ?_
  rintro e w1 ⟨rfl, k1⟩
  have K1 := Lib.hid k1
  clear k1
  obtain ⟨sa, sb, sc, sd, hsb, hsc, x0, x1, x2, y0, y3, z0, u5, hs⟩ := small_c x y z 3 w1
  have hq := smallQ_ok (a := sa) (d := sd) hsb hsc
  have HQ := Lib.hid (And.intro hsb (And.intro hsc (And.intro x0 (And.intro x1 (And.intro x2 (And.intro y0 (And.intro y3 (And.intro z0 u5))))))))
  have HD : Hid ((smallQ sa sb sc sd) = ⟨[109], 1 + sa % 3, if sa % 3 = 0 then 4 else 1 + sb, 1 + sc, 1 + sd % 12⟩) := Lib.hid rfl
  generalize smallQ sa sb sc sd = q at *
  have hqn := HD.out
  obtain ⟨nm, kd, ky, vl, mx⟩ := q
  have HS : Hid (Calls Try.prog _ _ w1 fun e w' => e = .returned (.agg #[.string (str nm), .int .i64 (kd : Int), .int .i64 (ky : Int), .int .i64 (vl : Int), .int .i64 (mx : Int)]) ∧ Calm w1 w') := Lib.hid hs
  have HOK := Lib.hid hq
  have hql := hq.key
  have hqv := hq.val
  have hqm := hq.max
  simp only at hql hqv hqm
  have HB3 := Lib.hid (And.intro hql (And.intro hqv hqm))
  clear hs hq hsb hsc x0 x1 x2 y0 y3 z0 u5 hqn hql hqv hqm
  go_wp2_with fail
  refine HS.out.mono ?_
  rintro e w2 ⟨rfl, k2⟩
  have K2 := Lib.hid (K1.out.trans k2)
  clear k2 K1 HS
  go_upto_region 3 with fail
  have HB := Row.made w2 58 #[.string (str nm), .int .i64 (kd : Int), .int .i64 (ky : Int), .int .i64 (vl : Int), .int .i64 (mx : Int)]
  have hkb : Calm w2 (w2.alloc (.cells #[.string (str nm), .int .i64 (kd : Int), .int .i64 (ky : Int), .int .i64 (vl : Int), .int .i64 (mx : Int)] 58)) := (Keep.refl _ w2).alloc _
  have HW := Lib.hid (K2.out.trans hkb)
  have HWs := Lib.hid (show (w2.alloc (.cells #[.string (str nm), .int .i64 (kd : Int), .int .i64 (ky : Int), .int .i64 (vl : Int), .int .i64 (mx : Int)] 58)).heap.size = w2.heap.size + 1 by simp)
  generalize w2.alloc (.cells #[.string (str nm), .int .i64 (kd : Int), .int .i64 (ky : Int), .int .i64 (vl : Int), .int .i64 (mx : Int)] 58) = W at *
  have HRow : Hid (∀ W', Calm W W' → W'.cell? ⟨w2.heap.size, 0, none⟩ = some (.string (str nm)) ∧ W'.cell? ⟨w2.heap.size, 1, none⟩ = some (.int .i64 (kd : Int)) ∧ W'.cell? ⟨w2.heap.size, 2, none⟩ = some (.int .i64 (ky : Int)) ∧ W'.cell? ⟨w2.heap.size, 3, none⟩ = some (.int .i64 (vl : Int)) ∧ W'.cell? ⟨w2.heap.size, 4, none⟩ = some (.int .i64 (mx : Int))) :=
    Lib.hid (fun W' c => ⟨((HB.keep c (fun e => e)).cell 0).trans rfl, ((HB.keep c (fun e => e)).cell 1).trans rfl, ((HB.keep c (fun e => e)).cell 2).trans rfl, ((HB.keep c (fun e => e)).cell 3).trans rfl, ((HB.keep c (fun e => e)).cell 4).trans rfl⟩)
  clear HB hkb K2
  have HN : Hid (Calls Try.prog 33 #[.agg #[.string (str nm), .int .i64 (kd : Int), .int .i64 (ky : Int), .int .i64 (vl : Int), .int .i64 (mx : Int)]] W fun e w' => ∃ v : Value, e = .returned (.tuple #[v, .int .i64 0]) ∧ NewT ⟨nm, kd, ky, vl, mx⟩ W v w') := Lib.hid (tNew_yes ⟨nm, kd, ky, vl, mx⟩ HOK.out W)
  obtain ⟨d0, d1, d2, d3, d4⟩ := HRow.out W (Keep.refl _ W)
  go_wp2_with fail
  refine HN.out.mono ?_
  rintro e w3 ⟨v, rfl, tb, E, rfl, hE, hT⟩
  have HT := Lib.hid (tab_no hT)
  have HE := Lib.hid hE
  clear hT hE HN d0 d1 d2 d3 d4
  obtain ⟨d0, d1, d2, d3, d4⟩ := HRow.out w3 HT.out.calm_
  have HF := Lib.hid (fit_c k0 ky (by have := HB3.out; omega) HL0.out.1 w3)
  go_wp2_with fail
  refine HF.out.mono ?_
  rintro e w4 ⟨rfl, k4⟩
  have K4 := Lib.hid k4
  have HT4 := Lib.hid (HT.out.rest k4)
  obtain ⟨f0, f1, f2, f3, f4⟩ := HRow.out w4 HT4.out.calm_
  clear k4 HF d0 d1 d2 d3 d4 HT
  by_cases hka : kd = 1
  · have hkq : ky = 4 := by have := HOK.out.kind; simp only at this; omega
    have i1 : ((kd : Int) == 1) = true := by rw [beq_iff_eq]; omega
    have hmk : Sem.run Try.prog (Instr.makeSlice 22 (.int .i64 4) (.int .i64 4)) w4 = .ok (.slice (some ⟨w4.heap.size, 0, none⟩) 4 4) (w4.alloc (.cells (zeros8 4) 5)) := run_make8 w4 4 (by omega)
    have hcz : Sem.run Try.prog (convert 22 9 (.slice (some ⟨w4.heap.size, 0, none⟩) 4 4)) (w4.alloc (.cells (zeros8 4) 5)) = .ok (.string (str [0, 0, 0, 0])) (w4.alloc (.cells (zeros8 4) 5)) := conv_rd (Rd.made w4 [0, 0, 0, 0] 4 (zeros8 4) rfl (zeros8_bv 4) (by omega))
    have HKl : Hid (([0, 0, 0, 0] : List UInt8).length = ky) := Lib.hid hkq.symm
    have hc4 : Calm w4 (w4.alloc (.cells (zeros8 4) 5)) := (Keep.refl _ w4).alloc _
    have HTa := Lib.hid (HT4.out.rest hc4)
    obtain ⟨g0, g1, g2, g3, g4⟩ := HRow.out _ HTa.out.calm_
    clear hka hkq hc4 HT4
    go_upto_region 9 with fail
    clear f0 f1 f2 f3 f4 hmk hcz
    generalize w4.alloc (.cells (zeros8 4) 5) = w4a at *
    have HFa := Lib.hid (fit_c a0 vl (by have := HB3.out; omega) HL0.out.2.1 w4a)
    go_wp2_with fail
    refine HFa.out.mono ?_
    rintro e w5 ⟨rfl, k5⟩
    have HT5 := Lib.hid (HTa.out.rest k5)
    obtain ⟨d0, d1, d2, d3, d4⟩ := HRow.out w5 HT5.out.calm_
    have HFb := Lib.hid (fit_c b0 vl (by have := HB3.out; omega) HL0.out.2.2 w5)
    clear k5 HFa HTa g0 g1 g2 g3 g4
    go_wp2_with fail
    refine HFb.out.mono ?_
    rintro e w6 ⟨rfl, k6⟩
    have HT6 := Lib.hid (HT5.out.rest k6)
    have hA := fitL_len a0 vl
    have hB := fitL_len b0 vl
    generalize fitL a0 vl = A at *
    generalize fitL b0 vl = B at *
    have HA := Lib.hid hA
    have HBl := Lib.hid hB
    clear k6 HFb HT5 d0 d1 d2 d3 d4 hA hB
    obtain ⟨cK, U1, hc1, hr1, hk1⟩ := bytes_of w6 [0, 0, 0, 0] ky HKl.out (by have := HB3.out; omega)
    obtain ⟨cV, U2, hc2, hr2, hk2⟩ := bytes_of U1 A vl HA.out (by have := HB3.out; omega)
    have HU := Lib.hid (put_first (HT6.out.rest (hk1.trans hk2)) HE.out (hr1.calm hk2) hr2 HKl.out HA.out (fun _ => rfl))
    clear hr1 hk1 hr2 hk2 HT6
    go_wp2_with fail
    refine HU.out.mono ?_
    rintro e w7 ⟨rfl, E7, g, hT7, hg7⟩
    obtain ⟨cL, U3, hc3, hr3, hk3⟩ := bytes_of w7 [0, 0, 0, 0] ky HKl.out (by have := HB3.out; omega)
    have HLk := Lib.hid (lookup_yes (hT7.rest hk3) hr3 hg7)
    have HG8 := Lib.hid (get_use (kind := kd) (k := [0, 0, 0, 0]) (k' := [0, 0, 0, 0]) hT7.keys)
    have HG7 := Lib.hid hg7
    clear hr3 hk3 hT7 hg7 HU hc1 hc2
    go_wp2_with fail
    refine HLk.out.mono ?_
    rintro e w8 ⟨xx, rfl, _, rx, tx, _⟩
    have hT8 : Tab W w8 No tb ⟨nm, kd, ky, vl, mx⟩ (useN kd [0, 0, 0, 0] E7) := tab_no tx
    have hg8 : getL [0, 0, 0, 0] (useN kd [0, 0, 0, 0] E7) = some (g, A) := HG8.out.trans HG7.out
    have c1 : w8.cell? ⟨xx, 1, none⟩ = some (.slice (some ⟨g, 0, none⟩) vl vl) := (rx.cell 1).trans rfl
    obtain ⟨da, _⟩ := hT8.has hg8
    have cv1 : Sem.run Try.prog (convert 22 9 (.slice (some ⟨g, 0, none⟩) vl vl)) w8 = .ok (.string (str A)) w8 := conv_rd (row_rd da HA.out (by have := HB3.out; omega))
    obtain ⟨cM, U4, hc4, hr4, hk4⟩ := bytes_of w8 [0, 0, 0, 0] ky HKl.out (by have := HB3.out; omega)
    obtain ⟨cN, U5, hc5, hr5, hk5⟩ := bytes_of U4 B vl HBl.out (by have := HB3.out; omega)
    have HU2 := Lib.hid (update_over (hT8.rest (hk4.trans hk5)) (hr4.calm hk5) hr5 2 (by simp only [BadU, not_or, Decidable.not_not]; exact ⟨HKl.out, HBl.out, by decide, by decide⟩) hg8 (by decide))
    have HG9 := Lib.hid (get_over (kind := kd) (bs' := B) hT8.keys hg8)
    clear hr4 hk4 hr5 hk5 hT8 hg8 rx tx da HLk HG8 HG7 hc3
    go_wp2_with fail
    refine HU2.out.mono ?_
    rintro e w9 ⟨rfl, hT9, _⟩
    obtain ⟨db, hbl⟩ := hT9.has HG9.out
    have cv2 : Sem.run Try.prog (convert 22 9 (.slice (some ⟨g, 0, none⟩) vl vl)) w9 = .ok (.string (str B)) w9 := conv_rd (row_rd db HBl.out (by have := HB3.out; omega))
    have c9 : ∃ u, w9.cell? ⟨g, 0, none⟩ = some u := by rw [db.cell 0]; exact ⟨_, Array.getElem?_eq_getElem (by have := HBl.out; have := HB3.out; simp; omega)⟩
    obtain ⟨u9, c9⟩ := c9
    have f9 := db.soft 0
    have i9 : (0 : Int) < (vl : Int) := by have := HB3.out; omega
    have hTs := hT9.set (getL_some HG9.out) (bs' := B.set 0 119) ((Keep.refl (fun i => i = g) w9).store (p := ⟨g, 0, none⟩) (fun _ => rfl) (.int .u8 119)) (set_row db 119) (by rw [List.length_set]; exact HBl.out)
    have HG10 := Lib.hid (get_set (bs' := B.set 0 119) HG9.out)
    have HT10 := Lib.hid hTs.1
    have h0 := ks9 (a := A) rfl
    clear hT9 db hbl hTs c1 cv1 hc4 hc5 HU2
    go_upto_region 19 with fail
    generalize w9.setCell ⟨g, 0, none⟩ (.int .u8 119) = w10 at *
    clear c9 f9 cv2 HG9
    obtain ⟨cP, U6, hc6, hr6, hk6⟩ := bytes_of w10 [0, 0, 0, 0] ky HKl.out (by have := HB3.out; omega)
    have HLy := Lib.hid (lookup_yes (HT10.out.rest hk6) hr6 HG10.out)
    have HG11 := Lib.hid ((get_use (kind := kd) (k := [0, 0, 0, 0]) (k' := [0, 0, 0, 0]) HT10.out.keys).trans HG10.out)
    clear hr6 hk6 HT10 HG10
    go_wp2_with fail
    refine HLy.out.mono ?_
    rintro e w11 ⟨yy, rfl, _, ry, ty, _⟩
    have HT11 := Lib.hid (tab_no ty)
    obtain ⟨dy, _⟩ := HT11.out.has HG11.out
    have y0 : w11.cell? ⟨yy, 0, none⟩ = some (.string (str [0, 0, 0, 0])) := (ry.cell 0).trans rfl
    have y1 : w11.cell? ⟨yy, 1, none⟩ = some (.slice (some ⟨g, 0, none⟩) vl vl) := (ry.cell 1).trans rfl
    have y2 : w11.cell? ⟨g, 0, none⟩ = some (.int .u8 119) := by rw [dy.cell 0]; exact first_set B 119 (by rw [HBl.out]; exact HB3.out.2.1.1)
    obtain ⟨d0, d1, d2, d3, d4⟩ := HRow.out w11 HT11.out.calm_
    clear ry ty dy HLy hc6
    have HC := Lib.hid (HW.out.trans HT11.out.calm_)
    go_wp2
    go_ret
    exact ⟨rfl, HC.out⟩
  · have i1 : ((kd : Int) == 1) = false := by rw [beq_eq_false_iff_ne]; omega
    have hkl := fitL_len k0 ky
    generalize fitL k0 ky = K at *
    have HKl := Lib.hid hkl
    have HK1 : Hid (kd = 1 → K = [0, 0, 0, 0]) := Lib.hid (fun h => absurd h hka)
    have HNk := Lib.hid hka
    have HTa := HT4
    obtain ⟨g0, g1, g2, g3, g4⟩ := HRow.out _ HTa.out.calm_
    clear hka hkl HT4 f0 f1 f2 f3 f4
    have HFa := Lib.hid (fit_c a0 vl (by have := HB3.out; omega) HL0.out.2.1 w4)
    go_wp2_with fail
    refine HFa.out.mono ?_
    rintro e w5 ⟨rfl, k5⟩
    have HT5 := Lib.hid (HTa.out.rest k5)
    obtain ⟨d0, d1, d2, d3, d4⟩ := HRow.out w5 HT5.out.calm_
    have HFb := Lib.hid (fit_c b0 vl (by have := HB3.out; omega) HL0.out.2.2 w5)
    clear k5 HFa HTa g0 g1 g2 g3 g4
    go_wp2_with fail
    refine HFb.out.mono ?_
    rintro e w6 ⟨rfl, k6⟩
    have HT6 := Lib.hid (HT5.out.rest k6)
    have hA := fitL_len a0 vl
    have hB := fitL_len b0 vl
    generalize fitL a0 vl = A at *
    generalize fitL b0 vl = B at *
    have HA := Lib.hid hA
    have HBl := Lib.hid hB
    clear k6 HFb HT5 d0 d1 d2 d3 d4 hA hB
    obtain ⟨cK, U1, hc1, hr1, hk1⟩ := bytes_of w6 K ky HKl.out (by have := HB3.out; omega)
    obtain ⟨cV, U2, hc2, hr2, hk2⟩ := bytes_of U1 A vl HA.out (by have := HB3.out; omega)
    have HU := Lib.hid (put_first (HT6.out.rest (hk1.trans hk2)) HE.out (hr1.calm hk2) hr2 HKl.out HA.out HK1.out)
    clear hr1 hk1 hr2 hk2 HT6
    go_wp2_with fail
    refine HU.out.mono ?_
    rintro e w7 ⟨rfl, E7, g, hT7, hg7⟩
    obtain ⟨cL, U3, hc3, hr3, hk3⟩ := bytes_of w7 K ky HKl.out (by have := HB3.out; omega)
    have HLk := Lib.hid (lookup_yes (hT7.rest hk3) hr3 hg7)
    have HG8 := Lib.hid (get_use (kind := kd) (k := K) (k' := K) hT7.keys)
    have HG7 := Lib.hid hg7
    clear hr3 hk3 hT7 hg7 HU hc1 hc2
    go_wp2_with fail
    refine HLk.out.mono ?_
    rintro e w8 ⟨xx, rfl, _, rx, tx, _⟩
    have hT8 : Tab W w8 No tb ⟨nm, kd, ky, vl, mx⟩ (useN kd K E7) := tab_no tx
    have hg8 : getL K (useN kd K E7) = some (g, A) := HG8.out.trans HG7.out
    have c1 : w8.cell? ⟨xx, 1, none⟩ = some (.slice (some ⟨g, 0, none⟩) vl vl) := (rx.cell 1).trans rfl
    obtain ⟨da, _⟩ := hT8.has hg8
    have cv1 : Sem.run Try.prog (convert 22 9 (.slice (some ⟨g, 0, none⟩) vl vl)) w8 = .ok (.string (str A)) w8 := conv_rd (row_rd da HA.out (by have := HB3.out; omega))
    obtain ⟨cM, U4, hc4, hr4, hk4⟩ := bytes_of w8 K ky HKl.out (by have := HB3.out; omega)
    obtain ⟨cN, U5, hc5, hr5, hk5⟩ := bytes_of U4 B vl HBl.out (by have := HB3.out; omega)
    have HU2 := Lib.hid (update_over (hT8.rest (hk4.trans hk5)) (hr4.calm hk5) hr5 2 (by simp only [BadU, not_or, Decidable.not_not]; exact ⟨HKl.out, HBl.out, by decide, by decide⟩) hg8 (by decide))
    have HG9 := Lib.hid (get_over (kind := kd) (bs' := B) hT8.keys hg8)
    clear hr4 hk4 hr5 hk5 hT8 hg8 rx tx da HLk HG8 HG7 hc3
    go_wp2_with fail
    refine HU2.out.mono ?_
    rintro e w9 ⟨rfl, hT9, _⟩
    obtain ⟨db, hbl⟩ := hT9.has HG9.out
    have cv2 : Sem.run Try.prog (convert 22 9 (.slice (some ⟨g, 0, none⟩) vl vl)) w9 = .ok (.string (str B)) w9 := conv_rd (row_rd db HBl.out (by have := HB3.out; omega))
    have c9 : ∃ u, w9.cell? ⟨g, 0, none⟩ = some u := by rw [db.cell 0]; exact ⟨_, Array.getElem?_eq_getElem (by have := HBl.out; have := HB3.out; simp; omega)⟩
    obtain ⟨u9, c9⟩ := c9
    have f9 := db.soft 0
    have i9 : (0 : Int) < (vl : Int) := by have := HB3.out; omega
    have hTs := hT9.set (getL_some HG9.out) (bs' := B.set 0 119) ((Keep.refl (fun i => i = g) w9).store (p := ⟨g, 0, none⟩) (fun _ => rfl) (.int .u8 119)) (set_row db 119) (by rw [List.length_set]; exact HBl.out)
    have HG10 := Lib.hid (get_set (bs' := B.set 0 119) HG9.out)
    have HT10 := Lib.hid hTs.1
    have h0 := ks9 (a := A) rfl
    clear hT9 db hbl hTs c1 cv1 hc4 hc5 HU2
    go_upto_region 19 with fail
    generalize w9.setCell ⟨g, 0, none⟩ (.int .u8 119) = w10 at *
    clear c9 f9 cv2 HG9
    obtain ⟨cP, U6, hc6, hr6, hk6⟩ := bytes_of w10 K ky HKl.out (by have := HB3.out; omega)
    have HLy := Lib.hid (lookup_yes (HT10.out.rest hk6) hr6 HG10.out)
    have HG11 := Lib.hid ((get_use (kind := kd) (k := K) (k' := K) HT10.out.keys).trans HG10.out)
    clear hr6 hk6 HT10 HG10
    go_wp2_with fail
    refine HLy.out.mono ?_
    rintro e w11 ⟨yy, rfl, _, ry, ty, _⟩
    have HT11 := Lib.hid (tab_no ty)
    obtain ⟨dy, _⟩ := HT11.out.has HG11.out
    have y0 : w11.cell? ⟨yy, 0, none⟩ = some (.string (str K)) := (ry.cell 0).trans rfl
    have y1 : w11.cell? ⟨yy, 1, none⟩ = some (.slice (some ⟨g, 0, none⟩) vl vl) := (ry.cell 1).trans rfl
    have y2 : w11.cell? ⟨g, 0, none⟩ = some (.int .u8 119) := by rw [dy.cell 0]; exact first_set B 119 (by rw [HBl.out]; exact HB3.out.2.1.1)
    obtain ⟨d0, d1, d2, d3, d4⟩ := HRow.out w11 HT11.out.calm_
    clear ry ty dy HLy hc6
    obtain ⟨cQ, U7, hc7, hr7, hk7⟩ := bytes_of w11 K ky HKl.out (by have := HB3.out; omega)
    have HDl := Lib.hid (delete_c (HT11.out.rest hk7) hr7 HKl.out 0 _ (.inr ⟨HNk.out, by rw [HG11.out]; rfl, rfl, fun w' a => a⟩))
    have HB12 := Lib.hid (gone_blk HT11.out.nod HG11.out)
    have HL12 := Lib.hid (Nat.lt_of_lt_of_le (drop_lt HG11.out) HT11.out.few)
    have HO12 := Lib.hid (HT11.out.old HG11.out)
    have HR12 := Lib.hid ((HT11.out.rest hk7).has HG11.out)
    clear hr7 hk7 HT11
    go_wp2_with fail
    refine HDl.out.mono ?_
    rintro e w12 ⟨rfl, hT12, hh12⟩
    have r12 := hh12.row (.inr HB12.out) HR12.out.1
    have HT12 := Lib.hid hT12
    have HR12 := Lib.hid (And.intro r12 HR12.out.2)
    clear hT12 hh12 r12 HDl hc7 y0 y1 y2 d0 d1 d2 d3 d4
    obtain ⟨cR, U8, hc8, hr8, hk8⟩ := bytes_of w12 K ky HKl.out (by have := HB3.out; omega)
    obtain ⟨cS, U9, hc9, hr9, hk9⟩ := bytes_of U8 A vl HA.out (by have := HB3.out; omega)
    have HU3 := Lib.hid (update_new (HT12.out.rest (hk8.trans hk9)) (hr8.calm hk9) hr9 1 (by simp only [BadU, not_or, Decidable.not_not]; exact ⟨HKl.out, HA.out, by decide, by decide⟩) get_gone (by decide) 0 _ (.inr ⟨HT12.out.kinds'.elim (fun h => absurd h HNk.out) (fun h => h.elim (fun h => .inl ⟨h, HL12.out⟩) .inr), rfl, fun w' a => a⟩))
    have HR13 := Lib.hid (And.intro (HR12.out.1.keep (hk8.trans hk9) (fun e => e)) HR12.out.2)
    clear hr8 hk8 hr9 hk9 HR12
    go_wp2_with fail
    refine HU3.out.mono ?_
    rintro e w13 ⟨rfl, g2, _, hT13, hh13⟩
    have r13 := hh13.row (.inl (.inr HB12.out)) HR13.out.1
    have c13 : w13.cell? ⟨g, 0, none⟩ = some (.int .u8 119) := by rw [r13.cell 0]; exact first_set B 119 (by rw [HBl.out]; exact HB3.out.2.1.1)
    have f13 := r13.soft 0
    have hg13 := get_add (kind := kd) (mx := mx) (g := g2) (bs := A) (get_gone (k := K)) (Nat.le_of_lt HL12.out) (fun _ => HL12.out) (by have := HB3.out; omega) hT13.keys
    have hT14 := (hT13.away ((Keep.refl (fun i => i = g) w13).store (p := ⟨g, 0, none⟩) (fun _ => rfl) (.int .u8 120)) (fun i e => by cases e; exact .inl (.inr HB12.out)) (fun i e => by cases e; exact HO12.out))
    have HT14 := Lib.hid (tab_no hT14)
    have HG14 := Lib.hid hg13
    clear hT13 hh13 r13 hg13 hT14 hc8 hc9 HU3 HT12 HR13
    go_upto_region 27 with fail
    generalize w13.setCell ⟨g, 0, none⟩ (.int .u8 120) = w14 at *
    clear c13 f13
    obtain ⟨cT, U10, hc10, hr10, hk10⟩ := bytes_of w14 K ky HKl.out (by have := HB3.out; omega)
    have HLz := Lib.hid (lookup_yes (HT14.out.rest hk10) hr10 HG14.out)
    have HG15 := Lib.hid ((get_use (kind := kd) (k := K) (k' := K) HT14.out.keys).trans HG14.out)
    clear hr10 hk10 HT14 HG14
    go_wp2_with fail
    refine HLz.out.mono ?_
    rintro e w15 ⟨zz, rfl, _, rz, tz, _⟩
    have HT15 := Lib.hid (tab_no tz)
    obtain ⟨dz, _⟩ := HT15.out.has HG15.out
    have z1 : w15.cell? ⟨zz, 1, none⟩ = some (.slice (some ⟨g2, 0, none⟩) vl vl) := (rz.cell 1).trans rfl
    have cv3 : Sem.run Try.prog (convert 22 9 (.slice (some ⟨g2, 0, none⟩) vl vl)) w15 = .ok (.string (str A)) w15 := conv_rd (row_rd dz HA.out (by have := HB3.out; omega))
    have HC := Lib.hid (HW.out.trans HT15.out.calm_)
    clear rz tz dz HLz hc10
    go_wp2
    go_ret
    exact ⟨rfl, HC.out⟩
end Go.Proofs.Ytiipepiabeccpaa
