/-
  TableMaps: the walk.
-/
import Derived.Test.YtiipepiabeccpaaTE
import Derived.Test.YtiipepiabeccpaaT2
namespace Go.Proofs.Ytiipepiabeccpaa
open Go.RowKit Go.Deep
set_option linter.all false
attribute [local go_sem] Oper.semAt_some

theorem newE_len {q : MN} {E : List Ent} (h : NewE q E) : E.length = if q.kind = 1 then q.max else 0 := by
  unfold NewE at h
  split at h
  · rename_i hk
    obtain ⟨gs, hl, rfl⟩ := h
    rw [if_pos hk]
    simp [arrE, hl]
  · rename_i hk
    rw [if_neg hk, h]
    rfl
set_option maxRecDepth 100000 in
set_option maxHeartbeats 8000000 in
theorem tableMaps_c (m : MP) (hs : m.name.length ≤ maxLen) (w : World) : Calls Try.prog 8 #[m.agg] w fun e w' => e = .returned (.bool true) ∧ Calm w w' := by
  have HB := Row.made w 58 m.vals.toArray
  have hc0 : Calm w (w.alloc (.cells m.vals.toArray 58)) := (Keep.refl _ w).alloc _
  have HR1 := Lib.hid (fun W => tRight_c m hs W)
  have HR2 := Lib.hid (fun W => rRight_c m hs W)
  cases hr : m.right with
  | false =>
    have HN := Lib.hid (fun W => tNew_no m hs hr W)
    rw [hr] at HR1 HR2
    obtain ⟨nm, kd, ky, vl, mx⟩ := m
    have HRow : Hid (∀ W, Calm (w.alloc (.cells #[.string (str nm), .int .i64 kd, .int .i64 ky, .int .i64 vl, .int .i64 mx] 58)) W → W.cell? ⟨w.heap.size, 0, none⟩ = some (.string (str nm)) ∧ W.cell? ⟨w.heap.size, 1, none⟩ = some (.int .i64 kd) ∧ W.cell? ⟨w.heap.size, 2, none⟩ = some (.int .i64 ky) ∧ W.cell? ⟨w.heap.size, 3, none⟩ = some (.int .i64 vl) ∧ W.cell? ⟨w.heap.size, 4, none⟩ = some (.int .i64 mx)) :=
      Lib.hid (fun W c => ⟨((HB.keep c (fun e => e)).cell 0).trans rfl, ((HB.keep c (fun e => e)).cell 1).trans rfl, ((HB.keep c (fun e => e)).cell 2).trans rfl, ((HB.keep c (fun e => e)).cell 3).trans rfl, ((HB.keep c (fun e => e)).cell 4).trans rfl⟩)
    have HC := Lib.hid hc0
    clear HB hc0 hs hr
    show Calls Try.prog 8 #[.agg #[.string (str nm), .int .i64 kd, .int .i64 ky, .int .i64 vl, .int .i64 mx]] w _
    go_enter Try.func8, Try.ntmps8
    go_wp2_with fail
    refine (shown10_c _).mono ?_
    rintro e w1 ⟨rfl, k1⟩
    obtain ⟨d0, d1, d2, d3, d4⟩ := HRow.out w1 k1
    have K1 := Lib.hid k1
    clear k1
    go_wp2_with fail
    refine (HN.out _).mono ?_
    rintro e w2 ⟨rfl, k2⟩
    obtain ⟨d0', d1', d2', d3', d4'⟩ := HRow.out w2 (K1.out.trans k2)
    have K2 := Lib.hid (K1.out.trans k2)
    clear k2 d0 d1 d2 d3 d4 K1
    go_wp2_with fail
    refine (HR2.out _).mono ?_
    rintro e w3 ⟨rfl, k3⟩
    obtain ⟨d0, d1, d2, d3, d4⟩ := HRow.out w3 (K2.out.trans k3)
    have K3 := Lib.hid (K2.out.trans k3)
    clear k3 d0' d1' d2' d3' d4' K2
    go_wp2_with fail
    refine (HR1.out _).mono ?_
    rintro e w4 ⟨rfl, k4⟩
    have K4 := Lib.hid (HC.out.trans (K3.out.trans k4))
    clear k4 d0 d1 d2 d3 d4 K3
    go_wp2
    go_ret
    exact ⟨rfl, K4.out⟩
  | true =>
    obtain ⟨q, rfl, hq⟩ := MP.ok m hr
    have HN := Lib.hid (fun W => tNew_yes q hq W)
    rw [hr] at HR1 HR2
    have hql := hq.max
    obtain ⟨nm, kd, ky, vl, mx⟩ := q
    simp only at hql
    have HRow : Hid (∀ W, Calm (w.alloc (.cells #[.string (str nm), .int .i64 (kd : Int), .int .i64 (ky : Int), .int .i64 (vl : Int), .int .i64 (mx : Int)] 58)) W → W.cell? ⟨w.heap.size, 0, none⟩ = some (.string (str nm)) ∧ W.cell? ⟨w.heap.size, 1, none⟩ = some (.int .i64 (kd : Int)) ∧ W.cell? ⟨w.heap.size, 2, none⟩ = some (.int .i64 (ky : Int)) ∧ W.cell? ⟨w.heap.size, 3, none⟩ = some (.int .i64 (vl : Int)) ∧ W.cell? ⟨w.heap.size, 4, none⟩ = some (.int .i64 (mx : Int))) :=
      Lib.hid (fun W c => ⟨((HB.keep c (fun e => e)).cell 0).trans rfl, ((HB.keep c (fun e => e)).cell 1).trans rfl, ((HB.keep c (fun e => e)).cell 2).trans rfl, ((HB.keep c (fun e => e)).cell 3).trans rfl, ((HB.keep c (fun e => e)).cell 4).trans rfl⟩)
    have HC := Lib.hid hc0
    clear HB hc0 hs hr hq
    show Calls Try.prog 8 #[.agg #[.string (str nm), .int .i64 (kd : Int), .int .i64 (ky : Int), .int .i64 (vl : Int), .int .i64 (mx : Int)]] w _
    go_enter Try.func8, Try.ntmps8
    go_wp2_with fail
    refine (shown10_c _).mono ?_
    rintro e w1 ⟨rfl, k1⟩
    obtain ⟨d0, d1, d2, d3, d4⟩ := HRow.out w1 k1
    have K1 := Lib.hid k1
    clear k1
    go_wp2_with fail
    refine (HN.out _).mono ?_
    rintro e w2 ⟨v, rfl, tb, E, rfl, hE, hT⟩
    obtain ⟨d0', d1', d2', d3', d4'⟩ := HRow.out w2 (K1.out.trans hT.calm_)
    have K2 := Lib.hid (K1.out.trans hT.calm_)
    have HT := Lib.hid (tab_no hT)
    have HE := Lib.hid (newE_len hE)
    clear hT hE d0 d1 d2 d3 d4
    go_wp2_with fail
    refine (HR2.out _).mono ?_
    rintro e w3 ⟨rfl, k3⟩
    obtain ⟨d0, d1, d2, d3, d4⟩ := HRow.out w3 (K2.out.trans k3)
    have K3 := Lib.hid (K2.out.trans k3)
    have HT3 := Lib.hid (HT.out.rest k3)
    clear k3 d0' d1' d2' d3' d4' K2 HT
    go_wp2_with fail
    refine (HR1.out _).mono ?_
    rintro e w4 ⟨rfl, k4⟩
    obtain ⟨d0', d1', d2', d3', d4'⟩ := HRow.out w4 (K3.out.trans k4)
    have K4 := Lib.hid (K3.out.trans k4)
    have HT4 := Lib.hid (HT3.out.rest k4)
    clear k4 d0 d1 d2 d3 d4 K3 HT3
    have HL := Lib.hid (len_c (HT4.out.rest ((Keep.refl (fun _ => False) w4).drew)))
    have he : E.length = if kd = 1 then mx else 0 := HE.out
    have hgd := eqGuardMap
    have heq := eqMap nm (kd : Int) (ky : Int) (vl : Int) (mx : Int)
    by_cases hk : kd = 1
    · rw [if_pos hk] at he
      rw [he] at HL
      have i1 : ((kd : Int) == 1) = true := by rw [beq_iff_eq]; omega
      clear he hk
      go_wp2_with fail
      go_region_with (first | (refine HL.out.mono ?_; rintro e w5 ⟨rfl, hT5, _⟩; have HM : Hid (Calls Try.prog 46 #[.pointer (some ⟨tb, 0, none⟩)] w5 fun e w' => e = .returned (.agg #[.string (str nm), .int .i64 (kd : Int), .int .i64 (ky : Int), .int .i64 (vl : Int), .int .i64 (mx : Int)]) ∧ _) := Lib.hid (map_c hT5); have K5 := Lib.hid (HRow.out w5 (K1.out.trans hT5.calm_)); obtain ⟨f0, f1, f2, f3, f4⟩ := K5.out; clear K5 hT5) | (refine HM.out.mono ?_; rintro e w6 ⟨rfl, hT6, _⟩; have K6 := Lib.hid (HRow.out w6 (K1.out.trans hT6.calm_)); obtain ⟨g0, g1, g2, g3, g4⟩ := K6.out; have HT6 := Lib.hid hT6; clear K6 hT6))
      all_goals
        go_wp2
        go_ret
        exact ⟨rfl, HC.out.trans (K1.out.trans HT6.out.calm_)⟩
    · rw [if_neg hk] at he
      rw [he] at HL
      have i1 : ((kd : Int) == 1) = false := by rw [beq_eq_false_iff_ne]; omega
      clear he hk
      go_wp2_with fail
      go_region_with (first | (refine HL.out.mono ?_; rintro e w5 ⟨rfl, hT5, _⟩; have HM : Hid (Calls Try.prog 46 #[.pointer (some ⟨tb, 0, none⟩)] w5 fun e w' => e = .returned (.agg #[.string (str nm), .int .i64 (kd : Int), .int .i64 (ky : Int), .int .i64 (vl : Int), .int .i64 (mx : Int)]) ∧ _) := Lib.hid (map_c hT5); have K5 := Lib.hid (HRow.out w5 (K1.out.trans hT5.calm_)); obtain ⟨f0, f1, f2, f3, f4⟩ := K5.out; clear K5 hT5) | (refine HM.out.mono ?_; rintro e w6 ⟨rfl, hT6, _⟩; have K6 := Lib.hid (HRow.out w6 (K1.out.trans hT6.calm_)); obtain ⟨g0, g1, g2, g3, g4⟩ := K6.out; have HT6 := Lib.hid hT6; clear K6 hT6))
      all_goals
        go_wp2
        go_ret
        exact ⟨rfl, HC.out.trans (K1.out.trans HT6.out.calm_)⟩
end Go.Proofs.Ytiipepiabeccpaa
