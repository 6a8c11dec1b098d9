/-
  TableLengths: the walk.
-/
import Derived.Test.YtiipepiabeccpaaT19
namespace Go.Proofs.Ytiipepiabeccpaa
open Go.RowKit Go.Deep
set_option linter.all false
attribute [local go_sem] Oper.semAt_some

set_option maxRecDepth 100000 in
set_option maxHeartbeats 8000000 in
theorem tableLengths_c (x y z fl : Int) (kv vv : Value) (k v : List UInt8) (w : World) (hk : Rd w kv k) (hv : Rd w vv v) : Calls Try.prog 11 #[.int .i64 x, .int .i64 y, .int .i64 z, kv, vv, .int .i64 fl] w fun e w' => e = .returned (.bool true) ∧ Calm w w' := by
  obtain ⟨A, c1, rfl, i1, i2⟩ := hk.form
  obtain ⟨B, c2, rfl, j1, j2⟩ := hv.form
  obtain ⟨p, hp, p1, p2, p3⟩ := cut_len k.length 20
  obtain ⟨r, hr, r1, r2, r3⟩ := cut_len v.length 20
  have hpb : (if (20 : Int) < (k.length : Int) then (20 : Int) else (k.length : Int)) = (p : Int) := hp
  have hrb : (if (20 : Int) < (v.length : Int) then (20 : Int) else (v.length : Int)) = (r : Int) := hr
  have hck := hk.cut p p2
  have hcv := hv.cut r r2
  obtain ⟨K, hK⟩ : ∃ K, K = k.take p := ⟨_, rfl⟩
  obtain ⟨V, hV⟩ : ∃ V, V = v.take r := ⟨_, rfl⟩
  rw [← hK] at hck
  rw [← hV] at hcv
  have hKl : K.length = p := by rw [hK, List.length_take]; omega
  have hVl : V.length = r := by rw [hV, List.length_take]; omega
  have HK := Lib.hid hck
  have HV := Lib.hid hcv
  have HL := Lib.hid (And.intro hKl hVl)
  have HP := Lib.hid (And.intro hpb (And.intro hrb (And.intro p2 (And.intro r2 (And.intro i1 (And.intro j1 (And.intro i2 j2)))))))
  clear hk hv hck hcv p3 r3 hp hr i1 j1 i2 j2 p1 r1 p2 r2 hK hV hKl hVl hpb hrb
  go_enter Try.func11, Try.ntmps11
  go_wp2_with fail
  refine (shown10_c _).mono ?_
  rintro e w1 ⟨rfl, k1⟩
  have K1 := Lib.hid k1
  clear k1
  obtain ⟨sa, sb, sc, sd, hsb, hsc, x0, x1, x2, y0, y3, z0, u5, hs⟩ := small_c x y z 5 w1
  have hq := smallQ_ok (a := sa) (d := sd) hsb hsc
  have HQ := Lib.hid (And.intro hsb (And.intro hsc (And.intro x0 (And.intro x1 (And.intro x2 (And.intro y0 (And.intro y3 (And.intro z0 u5))))))))
  have HD : Hid ((smallQ sa sb sc sd) = ⟨[109], 1 + sa % 3, if sa % 3 = 0 then 4 else 1 + sb, 1 + sc, 1 + sd % 12⟩) := Lib.hid rfl
  generalize smallQ sa sb sc sd = q at *
  have hqn := HD.out
  obtain ⟨nm, kd, ky, vl, mx⟩ := q
  have HS : Hid (Calls Try.prog _ _ w1 fun e w' => e = .returned (.agg #[.string (str nm), .int .i64 (kd : Int), .int .i64 (ky : Int), .int .i64 (vl : Int), .int .i64 (mx : Int)]) ∧ Calm w1 w') := Lib.hid hs
  have HOK := Lib.hid hq
  have hql := hq.key
  have hqv := hq.val
  have hqm := hq.max
  simp only at hql hqv hqm
  have HB3 := Lib.hid (And.intro hql (And.intro hqv hqm))
  clear hs hq hsb hsc x0 x1 x2 y0 y3 z0 u5 hqn hql hqv hqm
  go_wp2_with fail
  refine HS.out.mono ?_
  rintro e w2 ⟨rfl, k2⟩
  have K2 := Lib.hid (K1.out.trans k2)
  clear k2 K1 HS
  go_upto_region 3 with fail
  have HB := Row.made w2 58 #[.string (str nm), .int .i64 (kd : Int), .int .i64 (ky : Int), .int .i64 (vl : Int), .int .i64 (mx : Int)]
  have hkb : Calm w2 (w2.alloc (.cells #[.string (str nm), .int .i64 (kd : Int), .int .i64 (ky : Int), .int .i64 (vl : Int), .int .i64 (mx : Int)] 58)) := (Keep.refl _ w2).alloc _
  have HW := Lib.hid (K2.out.trans hkb)
  have HWs := Lib.hid (show (w2.alloc (.cells #[.string (str nm), .int .i64 (kd : Int), .int .i64 (ky : Int), .int .i64 (vl : Int), .int .i64 (mx : Int)] 58)).heap.size = w2.heap.size + 1 by simp)
  generalize w2.alloc (.cells #[.string (str nm), .int .i64 (kd : Int), .int .i64 (ky : Int), .int .i64 (vl : Int), .int .i64 (mx : Int)] 58) = W at *
  have HRow : Hid (∀ W', Calm W W' → W'.cell? ⟨w2.heap.size, 0, none⟩ = some (.string (str nm)) ∧ W'.cell? ⟨w2.heap.size, 1, none⟩ = some (.int .i64 (kd : Int)) ∧ W'.cell? ⟨w2.heap.size, 2, none⟩ = some (.int .i64 (ky : Int)) ∧ W'.cell? ⟨w2.heap.size, 3, none⟩ = some (.int .i64 (vl : Int)) ∧ W'.cell? ⟨w2.heap.size, 4, none⟩ = some (.int .i64 (mx : Int))) :=
    Lib.hid (fun W' c => ⟨((HB.keep c (fun e => e)).cell 0).trans rfl, ((HB.keep c (fun e => e)).cell 1).trans rfl, ((HB.keep c (fun e => e)).cell 2).trans rfl, ((HB.keep c (fun e => e)).cell 3).trans rfl, ((HB.keep c (fun e => e)).cell 4).trans rfl⟩)
  clear HB hkb K2
  have HN : Hid (Calls Try.prog 33 #[.agg #[.string (str nm), .int .i64 (kd : Int), .int .i64 (ky : Int), .int .i64 (vl : Int), .int .i64 (mx : Int)]] W fun e w' => ∃ v : Value, e = .returned (.tuple #[v, .int .i64 0]) ∧ NewT ⟨nm, kd, ky, vl, mx⟩ W v w') := Lib.hid (tNew_yes ⟨nm, kd, ky, vl, mx⟩ HOK.out W)
  obtain ⟨d0, d1, d2, d3, d4⟩ := HRow.out W (Keep.refl _ W)
  go_wp2_with fail
  refine HN.out.mono ?_
  rintro e w3 ⟨v, rfl, tb, E, rfl, hE, hT⟩
  have HT := Lib.hid (tab_no hT)
  have HE := Lib.hid hE
  clear hT hE HN d0 d1 d2 d3 d4
  have HU := Lib.hid (update_any HT.out (HK.out.calm (HW.out.trans HT.out.calm_)) (HV.out.calm (HW.out.trans HT.out.calm_)) fl)
  obtain ⟨hp, hr, p2, r2, i1, j1, i2, j2⟩ := HP.out
  unfold maxLen at i2 j2
  go_wp2_with fail
  refine HU.out.mono ?_
  rintro e w4 ⟨n, rfl, hn, E4, hT4⟩
  have hn' : n = 1 ↔ (p ≠ ky ∨ r ≠ vl ∨ ¬ (0 ≤ fl ∧ fl ≤ 2)) := by
    rw [← HL.out.1, ← HL.out.2]
    exact hn
  have HT4 := Lib.hid hT4
  have HN := Lib.hid hn'
  obtain ⟨d0, d1, d2, d3, d4⟩ := HRow.out w4 hT4.calm_
  have HL4 := Lib.hid (lookup_any hT4 (HK.out.calm (HW.out.trans hT4.calm_)))
  clear hT4 hn hn' HU HT HE hp hr p2 r2 i1 j1 i2 j2
  by_cases g1 : p = ky
  · have e1 : ((p : Int) != (ky : Int)) = false := by rw [bne_eq_false_iff_eq]; omega
    have e2 : ((p : Int) == (ky : Int)) = true := by rw [beq_iff_eq]; omega
    have G1 := Lib.hid g1
    clear g1
    by_cases g2 : r = vl
    · have e3 : ((r : Int) != (vl : Int)) = false := by rw [bne_eq_false_iff_eq]; omega
      by_cases g3 : 0 ≤ fl ∧ fl ≤ 2
      · obtain ⟨g4, g5⟩ := g3
        have hne : n ≠ 1 := fun e => (HN.out.1 e).elim (fun h => h G1.out) (fun h => h.elim (fun h => h g2) (fun h => h ⟨g4, g5⟩))
        have h6 : (n == 1) = false := by rw [beq_eq_false_iff_ne]; exact hne
        clear hne g2
        have g4' : ¬ fl < 0 := by omega
        have g5' : ¬ 2 < fl := by omega
        clear HN
        go_wp2_with fail
        refine HL4.out.mono ?_
        rintro e w5 ⟨pt, bb, rfl, hbb, E5, hT5⟩
        have HD5 := Lib.hid (delete_any hT5 (HK.out.calm (HW.out.trans hT5.calm_)))
        obtain ⟨f0, f1, f2, f3, f4⟩ := HRow.out w5 hT5.calm_
        clear hT5 hbb HL4 d0 d1 d2 d3 d4
        go_wp2_with fail
        refine HD5.out.mono ?_
        rintro e w6 ⟨n6, rfl, hn6, E6, hT6⟩
        have hn7 : n6 ≠ 1 := fun e => (hn6.1 e) (HL.out.1.trans G1.out)
        have h7 : (n6 != 1) = true := by rw [bne_iff_ne]; exact hn7
        have HC := Lib.hid (HW.out.trans hT6.calm_)
        obtain ⟨g0, g1, g2, g3, g4⟩ := HRow.out w6 hT6.calm_
        clear hT6 hn6 HD5 f0 f1 f2 f3 f4
        go_wp2
        go_ret
        exact ⟨rfl, HC.out⟩
      · obtain rfl : n = 1 := HN.out.2 (.inr (.inr g3))
        clear g2
        by_cases g4 : fl < 0
        · skip
          clear HN
          go_wp2_with fail
          refine HL4.out.mono ?_
          rintro e w5 ⟨pt, bb, rfl, hbb, E5, hT5⟩
          have HD5 := Lib.hid (delete_any hT5 (HK.out.calm (HW.out.trans hT5.calm_)))
          obtain ⟨f0, f1, f2, f3, f4⟩ := HRow.out w5 hT5.calm_
          clear hT5 hbb HL4 d0 d1 d2 d3 d4
          go_wp2_with fail
          refine HD5.out.mono ?_
          rintro e w6 ⟨n6, rfl, hn6, E6, hT6⟩
          have hn7 : n6 ≠ 1 := fun e => (hn6.1 e) (HL.out.1.trans G1.out)
          have h7 : (n6 != 1) = true := by rw [bne_iff_ne]; exact hn7
          have HC := Lib.hid (HW.out.trans hT6.calm_)
          obtain ⟨g0, g1, g2, g3, g4⟩ := HRow.out w6 hT6.calm_
          clear hT6 hn6 HD5 f0 f1 f2 f3 f4
          go_wp2
          go_ret
          exact ⟨rfl, HC.out⟩
        · have g5 : 2 < fl := by omega
          have g4' : 0 ≤ fl := by omega
          clear HN
          go_wp2_with fail
          refine HL4.out.mono ?_
          rintro e w5 ⟨pt, bb, rfl, hbb, E5, hT5⟩
          have HD5 := Lib.hid (delete_any hT5 (HK.out.calm (HW.out.trans hT5.calm_)))
          obtain ⟨f0, f1, f2, f3, f4⟩ := HRow.out w5 hT5.calm_
          clear hT5 hbb HL4 d0 d1 d2 d3 d4
          go_wp2_with fail
          refine HD5.out.mono ?_
          rintro e w6 ⟨n6, rfl, hn6, E6, hT6⟩
          have hn7 : n6 ≠ 1 := fun e => (hn6.1 e) (HL.out.1.trans G1.out)
          have h7 : (n6 != 1) = true := by rw [bne_iff_ne]; exact hn7
          have HC := Lib.hid (HW.out.trans hT6.calm_)
          obtain ⟨g0, g1, g2, g3, g4⟩ := HRow.out w6 hT6.calm_
          clear hT6 hn6 HD5 f0 f1 f2 f3 f4
          go_wp2
          go_ret
          exact ⟨rfl, HC.out⟩
    · have e3 : ((r : Int) != (vl : Int)) = true := by rw [bne_iff_ne]; omega
      obtain rfl : n = 1 := HN.out.2 (.inr (.inl g2))
      clear g2
      clear HN
      go_wp2_with fail
      refine HL4.out.mono ?_
      rintro e w5 ⟨pt, bb, rfl, hbb, E5, hT5⟩
      have HD5 := Lib.hid (delete_any hT5 (HK.out.calm (HW.out.trans hT5.calm_)))
      obtain ⟨f0, f1, f2, f3, f4⟩ := HRow.out w5 hT5.calm_
      clear hT5 hbb HL4 d0 d1 d2 d3 d4
      go_wp2_with fail
      refine HD5.out.mono ?_
      rintro e w6 ⟨n6, rfl, hn6, E6, hT6⟩
      have hn7 : n6 ≠ 1 := fun e => (hn6.1 e) (HL.out.1.trans G1.out)
      have h7 : (n6 != 1) = true := by rw [bne_iff_ne]; exact hn7
      have HC := Lib.hid (HW.out.trans hT6.calm_)
      obtain ⟨g0, g1, g2, g3, g4⟩ := HRow.out w6 hT6.calm_
      clear hT6 hn6 HD5 f0 f1 f2 f3 f4
      go_wp2
      go_ret
      exact ⟨rfl, HC.out⟩
  · have e1 : ((p : Int) != (ky : Int)) = true := by rw [bne_iff_ne]; omega
    have e2 : ((p : Int) == (ky : Int)) = false := by rw [beq_eq_false_iff_ne]; omega
    obtain rfl : n = 1 := HN.out.2 (.inl g1)
    clear HN
    go_wp2_with fail
    refine HL4.out.mono ?_
    rintro e w5 ⟨pt, bb, rfl, hbb, E5, hT5⟩
    obtain rfl : bb = false := hbb (by have := HL.out.1; show ¬ K.length = ky; omega)
    have HD5 := Lib.hid (delete_any hT5 (HK.out.calm (HW.out.trans hT5.calm_)))
    obtain ⟨f0, f1, f2, f3, f4⟩ := HRow.out w5 hT5.calm_
    clear hT5 hbb HL4 d0 d1 d2 d3 d4
    go_wp2_with fail
    refine HD5.out.mono ?_
    rintro e w6 ⟨n6, rfl, hn6, E6, hT6⟩
    obtain rfl : n6 = 1 := hn6.2 (by have := HL.out.1; show ¬ K.length = ky; omega)
    have HC := Lib.hid (HW.out.trans hT6.calm_)
    obtain ⟨g0, g1, g2, g3, g4⟩ := HRow.out w6 hT6.calm_
    clear hT6 hn6 HD5 f0 f1 f2 f3 f4
    go_wp2
    go_ret
    exact ⟨rfl, HC.out⟩
end Go.Proofs.Ytiipepiabeccpaa
