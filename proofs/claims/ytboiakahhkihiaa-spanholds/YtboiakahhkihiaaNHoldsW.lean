/-
  The walk of SpanHolds.
-/
import Derived.Test.YtboiakahhkihiaaN9
import Derived.Test.YtboiakahhkihiaaNQ
namespace Go.Proofs.Ytboiakahhkihiaa
open Go.RowKit
set_option linter.all false

set_option maxHeartbeats 6400000 in
set_option maxRecDepth 20000 in
theorem spanHolds_true {op f0 f1 f2 f3 m n : Nat} (hf0 : f0 < 18446744073709551616) (hf1 : f1 < 18446744073709551616) (hf2 : f2 < 18446744073709551616) (hf3 : f3 < 18446744073709551616) (hm : m < 18446744073709551616) (hn : n < 18446744073709551616) (w : World) : Calls Try.prog 5 #[.int .u8 (op : Int), .bool true, .agg #[.int .u64 (f0 : Int), .int .u64 (f1 : Int), .int .u64 (f2 : Int), .int .u64 (f3 : Int)], .int .u64 (m : Int), .int .u64 (n : Int)] w fun e w' => e = .returned (.bool true) ∧ Calm w w' := by
  obtain ⟨a, ea⟩ : ∃ a, a = rS f0 f1 := ⟨_, rfl⟩
  obtain ⟨b, eb⟩ : ∃ b, b = rS f2 f3 := ⟨_, rfl⟩
  have oka : a.Ok := by rw [ea]; exact rS_ok hf0 hf1
  have okb : b.Ok := by rw [eb]; exact rS_ok hf2 hf3
  obtain ⟨x, ex⟩ : ∃ x, x = inN a m := ⟨_, rfl⟩
  obtain ⟨y, ey⟩ : ∃ y, y = inN b n := ⟨_, rfl⟩
  have inx : Sp.In x a := by rw [ex]; exact inN_in oka hm
  have iny : Sp.In y b := by rw [ey]; exact inN_in okb hn
  have lx : x < 18446744073709551616 := Nat.lt_of_le_of_lt inx.2 oka.h
  have ly : y < 18446744073709551616 := Nat.lt_of_le_of_lt iny.2 okb.h
  obtain ⟨z, ez⟩ : ∃ z, z = D (bW true) op x y := ⟨_, rfl⟩
  obtain ⟨k, ek⟩ : ∃ k, k = isO op := ⟨_, rfl⟩
  obtain ⟨s, es⟩ : ∃ s, s = doS true op a b := ⟨_, rfl⟩
  have H1 : Hid (k = true → Sp.In z s) := Lib.hid (by rw [ek, ez, es]; exact fun h => do_in true op h oka okb inx iny)
  have H2 : s.lo ≤ s.hi := by rw [es]; exact (do_ok true op oka okb).1.r
  have H3 : s.hi < 2 ^ bW true := by rw [es]; exact (do_ok true op oka okb).2
  have KA : Hid (∀ w, Calls Try.prog 12 #[.agg #[.int .u64 (f0 : Int), .int .u64 (f1 : Int), .int .u64 (f2 : Int), .int .u64 (f3 : Int)]] w fun x w' => x = .returned (.tuple #[.agg #[.int .u64 (a.lo : Int), .int .u64 (a.hi : Int)], .agg #[.int .u64 (b.lo : Int), .int .u64 (b.hi : Int)]]) ∧ Calm w w') := Lib.hid (by rw [ea, eb]; exact fun w => spans8_c w f0 f1 f2 f3)
  have KX : Hid (∀ w, Calls Try.prog 28 #[.agg #[.int .u64 (a.lo : Int), .int .u64 (a.hi : Int)], .int .u64 (m : Int)] w fun z w' => z = .returned (.int .u64 (x : Int)) ∧ Calm w w') := Lib.hid (by rw [ex]; exact fun w => in8_c w oka hm)
  have KY : Hid (∀ w, Calls Try.prog 28 #[.agg #[.int .u64 (b.lo : Int), .int .u64 (b.hi : Int)], .int .u64 (n : Int)] w fun z w' => z = .returned (.int .u64 (y : Int)) ∧ Calm w w') := Lib.hid (by rw [ey]; exact fun w => in8_c w okb hn)
  have KD : Hid (∀ w, Calls Try.prog 27 #[.int .u8 (op : Int), .bool true, .int .u64 (x : Int), .int .u64 (y : Int)] w fun e w' => e = .returned (.tuple #[.int .u64 (z : Int), .bool k]) ∧ Calm w w') := Lib.hid (by rw [ez, ek]; exact fun w => do_c true w lx ly)
  have KS : Hid (∀ w, Calls Try.prog 14 #[.int .u8 (op : Int), .bool true, .agg #[.int .u64 (a.lo : Int), .int .u64 (a.hi : Int)], .agg #[.int .u64 (b.lo : Int), .int .u64 (b.hi : Int)]] w fun e w' => e = .returned (.agg #[.int .u64 (s.lo : Int), .int .u64 (s.hi : Int)]) ∧ Calm w w') := Lib.hid (by rw [es]; exact fun w => pdo_c true oka okb w)
  have KH : Hid (Sp.In z s → ∀ w, Calls Try.prog 26 #[.agg #[.int .u64 (s.lo : Int), .int .u64 (s.hi : Int)], .int .u64 (z : Int)] w fun e w' => e = .returned (.bool true) ∧ Calm w w') := Lib.hid fun hi w => by
    have k := phas_c s z w
    rw [decide_eq_true (show s.lo ≤ z ∧ z ≤ s.hi from hi)] at k
    exact k
  have KR : Hid (∀ w, Calls Try.prog 25 #[.agg #[.int .u64 (s.lo : Int), .int .u64 (s.hi : Int)]] w fun e w' => e = .returned (.bool true) ∧ w' = w.alloc (.cells #[.int .u64 (s.lo : Int), .int .u64 (s.hi : Int)] 27)) := Lib.hid fun w => by
    have k := pright_c s.lo s.hi w
    rw [decide_eq_true H2] at k
    exact k
  clear hf0 hf1 hf2 hf3 hm hn ea eb oka okb ex ey inx iny lx ly ez ek es H2 H3
  go_enter Try.func5, Try.ntmps5
  have E := Lib.hid (show Calm w w from Keep.refl _ _)
  go_upto_region 1 with fail
  have hC : Calm w (w.alloc (.cells #[.int .u64 (f0 : Int), .int .u64 (f1 : Int), .int .u64 (f2 : Int), .int .u64 (f3 : Int)] 24)) := (Keep.refl _ _).alloc _
  have hA : Af (w.alloc (.cells #[.int .u64 (f0 : Int), .int .u64 (f1 : Int), .int .u64 (f2 : Int), .int .u64 (f3 : Int)] 24)) w.heap.size f0 f1 f2 f3 := Row.made w _ _
  have hO : w.heap.size ≤ w.heap.size := E.out.size
  obtain ⟨g1, hg1⟩ : ∃ zg, zg = w.heap.size := ⟨_, rfl⟩
  obtain ⟨w1, hw1⟩ : ∃ zz, zz = w.alloc (.cells #[.int .u64 (f0 : Int), .int .u64 (f1 : Int), .int .u64 (f2 : Int), .int .u64 (f3 : Int)] 24) := ⟨_, rfl⟩
  replace hO : w.heap.size ≤ g1 := by rw [hg1]; exact hO
  rw [← hg1] at hA ⊢
  rw [← hw1] at hA hC ⊢
  clear hg1 hw1
  have O1 := Lib.hid hO
  clear hO
  replace E := Lib.hid (show Calm w w1 from E.out.trans (hC))
  replace E := Lib.hid (show Calm w w1 ∧ Af w1 g1 f0 f1 f2 f3 from ⟨E.out, hA⟩)
  clear hC hA
  obtain ⟨g1_0, g1_1, g1_2, g1_3⟩ := Af.four (E.out.2)
  go_wp2_with fail
  clear g1_0 g1_1 g1_2 g1_3
  refine (shown8_c _).mono ?_
  rintro ze w2 ⟨rfl, hc⟩
  replace E := Lib.hid (show Calm w w2 ∧ Af w2 g1 f0 f1 f2 f3 from ⟨E.out.1.trans (hc), Af.calm (E.out.2) (hc)⟩)
  clear hc
  obtain ⟨g1_0, g1_1, g1_2, g1_3⟩ := Af.four (E.out.2)
  go_wp2_with fail
  clear g1_0 g1_1 g1_2 g1_3
  refine (KA.out _).mono ?_
  rintro ze w3 ⟨rfl, hc⟩
  replace E := Lib.hid (show Calm w w3 ∧ Af w3 g1 f0 f1 f2 f3 from ⟨E.out.1.trans (hc), Af.calm (E.out.2) (hc)⟩)
  clear hc
  obtain ⟨g1_0, g1_1, g1_2, g1_3⟩ := Af.four (E.out.2)
  go_upto_region 3 with fail
  clear g1_0 g1_1 g1_2 g1_3
  have hC : Calm w3 ((w3.alloc (.cells #[.int .u64 (a.lo : Int), .int .u64 (a.hi : Int)] 27)).alloc (.cells #[.int .u64 (b.lo : Int), .int .u64 (b.hi : Int)] 27)) := ((Keep.refl _ _).alloc _).alloc _
  have hA : At ((w3.alloc (.cells #[.int .u64 (a.lo : Int), .int .u64 (a.hi : Int)] 27)).alloc (.cells #[.int .u64 (b.lo : Int), .int .u64 (b.hi : Int)] 27)) w3.heap.size a := (Row.made w3 _ _).alloc _
  have hB : At ((w3.alloc (.cells #[.int .u64 (a.lo : Int), .int .u64 (a.hi : Int)] 27)).alloc (.cells #[.int .u64 (b.lo : Int), .int .u64 (b.hi : Int)] 27)) (w3.heap.size + 1) b := by
    have e : At ((w3.alloc (.cells #[.int .u64 (a.lo : Int), .int .u64 (a.hi : Int)] 27)).alloc (.cells #[.int .u64 (b.lo : Int), .int .u64 (b.hi : Int)] 27)) (w3.alloc (.cells #[.int .u64 (a.lo : Int), .int .u64 (a.hi : Int)] 27)).heap.size b := Row.made _ _ _
    simp only [World.size_alloc] at e
    exact e
  have hO : w.heap.size ≤ w3.heap.size ∧ g1 < w3.heap.size := ⟨E.out.1.size, Af.lt (E.out.2)⟩
  obtain ⟨g2, hg2⟩ : ∃ zg, zg = w3.heap.size := ⟨_, rfl⟩
  obtain ⟨w4, hw4⟩ : ∃ zz, zz = (w3.alloc (.cells #[.int .u64 (a.lo : Int), .int .u64 (a.hi : Int)] 27)).alloc (.cells #[.int .u64 (b.lo : Int), .int .u64 (b.hi : Int)] 27) := ⟨_, rfl⟩
  replace hO : w.heap.size ≤ g2 ∧ g1 < g2 := by rw [hg2]; exact hO
  rw [← hg2] at hA hB ⊢
  rw [← hw4] at hA hB hC ⊢
  clear hg2 hw4
  obtain ⟨g3, hg3⟩ : ∃ zg, zg = g2 + 1 := ⟨_, rfl⟩
  rw [← hg3] at hB ⊢
  have O2 := Lib.hid hO
  have O3 : Hid (w.heap.size ≤ g3 ∧ g1 < g3 ∧ g2 < g3) := Lib.hid (by have := O2.out; omega)
  clear hO
  clear hg3
  replace E := Lib.hid (show Calm w w4 ∧ Af w4 g1 f0 f1 f2 f3 from ⟨E.out.1.trans (hC), Af.calm (E.out.2) (hC)⟩)
  replace E := Lib.hid (show Calm w w4 ∧ Af w4 g1 f0 f1 f2 f3 ∧ At w4 g2 a ∧ At w4 g3 b from ⟨E.out.1, E.out.2, hA, hB⟩)
  clear hC hA hB
  refine wp_region_noPanic ?_
  refine wp_region_held_drew (S := fun w' => Calm w w' ∧ Af w' g1 f0 f1 f2 f3 ∧ At w' g2 a ∧ At w' g3 b) (by kernel_rfl) ⟨E.out.1.drew, E.out.2.1, E.out.2.2.1, E.out.2.2.2⟩ (fun hHeld => ?_)
  refine take_at 0 24 (.int .u8 (op : Int)) rfl rfl (by kernel_rfl) (by kernel_rfl) (by kernel_rfl) (fun _ _ _ h => h) (Or.inl ⟨by rfl, ?_⟩) hHeld ?_
  · intro w hSw; go_simp
  simp only [List.setIfInBounds_toArray, List.set_cons_zero, List.set_cons_succ]
  refine take_at 1 25 (.bool true) rfl rfl (by kernel_rfl) (by kernel_rfl) (by kernel_rfl) (fun _ _ _ h => h) (Or.inl ⟨by rfl, ?_⟩) hHeld ?_
  · intro w hSw; go_simp
  simp only [List.setIfInBounds_toArray, List.set_cons_zero, List.set_cons_succ]
  refine take_at 2 26 (.agg #[.int .u64 (a.lo : Int), .int .u64 (a.hi : Int)]) rfl rfl (by kernel_rfl) (by kernel_rfl) (by kernel_rfl) (fun _ _ _ h => h) (Or.inl ⟨by rfl, ?_⟩) hHeld ?_
  · intro w hSw; have c := At.two (hSw.2.2.1); go_simp
  simp only [List.setIfInBounds_toArray, List.set_cons_zero, List.set_cons_succ]
  refine take_at 3 27 (.int .u64 (m : Int)) rfl rfl (by kernel_rfl) (by kernel_rfl) (by kernel_rfl) (fun _ _ _ h => h) (Or.inl ⟨by rfl, ?_⟩) hHeld ?_
  · intro w hSw; go_simp
  simp only [List.setIfInBounds_toArray, List.set_cons_zero, List.set_cons_succ]
  refine take_at 5 29 (.agg #[.int .u64 (b.lo : Int), .int .u64 (b.hi : Int)]) rfl rfl (by kernel_rfl) (by kernel_rfl) (by kernel_rfl) (fun _ _ _ h => h) (Or.inl ⟨by rfl, ?_⟩) hHeld ?_
  · intro w hSw; have c := At.two (hSw.2.2.2); go_simp
  simp only [List.setIfInBounds_toArray, List.set_cons_zero, List.set_cons_succ]
  refine take_at 6 30 (.int .u64 (n : Int)) rfl rfl (by kernel_rfl) (by kernel_rfl) (by kernel_rfl) (fun _ _ _ h => h) (Or.inl ⟨by rfl, ?_⟩) hHeld ?_
  · intro w hSw; go_simp
  simp only [List.setIfInBounds_toArray, List.set_cons_zero, List.set_cons_succ]
  refine wpAnyH_ready (rs := [4]) (by kernel_rfl) (by simp) ?_
  refine AllReadyH.cons rfl (fun K hK => ?_) AllReadyH.nil
  go_simp
  refine (KX.out _).mono ?_
  rintro ze wr1 ⟨rfl, hc⟩
  refine hK.out _ _ ⟨hHeld.1.trans hc, Af.calm (hHeld.2.1) hc, At.calm (hHeld.2.2.1) hc, At.calm (hHeld.2.2.2) hc⟩ (fun hHeld => ?_)
  clear hK K
  try simp only [List.setIfInBounds_toArray, List.set_cons_zero, List.set_cons_succ]
  refine wpAnyH_ready (rs := [7]) (by kernel_rfl) (by simp) ?_
  refine AllReadyH.cons rfl (fun K hK => ?_) AllReadyH.nil
  go_simp
  refine (KY.out _).mono ?_
  rintro ze wr2 ⟨rfl, hc⟩
  refine hK.out _ _ ⟨hHeld.1.trans hc, Af.calm (hHeld.2.1) hc, At.calm (hHeld.2.2.1) hc, At.calm (hHeld.2.2.2) hc⟩ (fun hHeld => ?_)
  clear hK K
  try simp only [List.setIfInBounds_toArray, List.set_cons_zero, List.set_cons_succ]
  refine wpAnyH_ready (rs := [8]) (by kernel_rfl) (by simp) ?_
  refine AllReadyH.cons rfl (fun K hK => ?_) AllReadyH.nil
  go_simp
  refine (KD.out _).mono ?_
  rintro ze wr3 ⟨rfl, hc⟩
  refine hK.out _ _ ⟨hHeld.1.trans hc, Af.calm (hHeld.2.1) hc, At.calm (hHeld.2.2.1) hc, At.calm (hHeld.2.2.2) hc⟩ (fun hHeld => ?_)
  clear hK K
  try simp only [List.setIfInBounds_toArray, List.set_cons_zero, List.set_cons_succ]
  refine take_at 9 23 (.tuple #[.int .u64 (z : Int), .bool k]) rfl rfl (by kernel_rfl) (by kernel_rfl) (by kernel_rfl) (fun _ _ _ h => h) (Or.inl ⟨by rfl, ?_⟩) hHeld ?_
  · intro w hSw; go_simp
  simp only [List.setIfInBounds_toArray, List.set_cons_zero, List.set_cons_succ]
  refine take_at 10 33 (.int .u64 (z : Int)) rfl rfl (by kernel_rfl) (by kernel_rfl) (by kernel_rfl) (fun _ _ _ h => h) (Or.inl ⟨by rfl, ?_⟩) hHeld ?_
  · intro w hSw; go_simp
  simp only [List.setIfInBounds_toArray, List.set_cons_zero, List.set_cons_succ]
  refine take_at 11 34 (.bool k) rfl rfl (by kernel_rfl) (by kernel_rfl) (by kernel_rfl) (fun _ _ _ h => h) (Or.inl ⟨by rfl, ?_⟩) hHeld ?_
  · intro w hSw; go_simp
  simp only [List.setIfInBounds_toArray, List.set_cons_zero, List.set_cons_succ]
  refine take_at 12 14 (.int .u64 (z : Int)) rfl rfl (by kernel_rfl) (by kernel_rfl) (by kernel_rfl) (fun _ _ _ h => h) (Or.inl ⟨by rfl, ?_⟩) hHeld ?_
  · intro w hSw; go_simp
  simp only [List.setIfInBounds_toArray, List.set_cons_zero, List.set_cons_succ]
  refine take_at 13 15 (.bool k) rfl rfl (by kernel_rfl) (by kernel_rfl) (by kernel_rfl) (fun _ _ _ h => h) (Or.inl ⟨by rfl, ?_⟩) hHeld ?_
  · intro w hSw; go_simp
  simp only [List.setIfInBounds_toArray, List.set_cons_zero, List.set_cons_succ]
  refine wpAnyH_done (by kernel_rfl) (NoPanic.normal ?_) _
  replace E := Lib.hid (show Calm w wr3 ∧ Af wr3 g1 f0 f1 f2 f3 ∧ At wr3 g2 a ∧ At wr3 g3 b from hHeld)
  clear hHeld
  obtain ⟨g1_0, g1_1, g1_2, g1_3⟩ := Af.four (E.out.2.1)
  obtain ⟨g2_0, g2_1, g2_2, g2_3⟩ := At.two (E.out.2.2.1)
  obtain ⟨g3_0, g3_1, g3_2, g3_3⟩ := At.two (E.out.2.2.2)
  go_wp2_with fail
  clear g1_0 g1_1 g1_2 g1_3 g2_0 g2_1 g2_2 g2_3 g3_0 g3_1 g3_2 g3_3
  refine (KS.out _).mono ?_
  rintro ze w5 ⟨rfl, hc⟩
  replace E := Lib.hid (show Calm w w5 ∧ Af w5 g1 f0 f1 f2 f3 ∧ At w5 g2 a ∧ At w5 g3 b from ⟨E.out.1.trans (hc), Af.calm (E.out.2.1) (hc), At.calm (E.out.2.2.1) (hc), At.calm (E.out.2.2.2) (hc)⟩)
  clear hc
  obtain ⟨g1_0, g1_1, g1_2, g1_3⟩ := Af.four (E.out.2.1)
  obtain ⟨g2_0, g2_1, g2_2, g2_3⟩ := At.two (E.out.2.2.1)
  obtain ⟨g3_0, g3_1, g3_2, g3_3⟩ := At.two (E.out.2.2.2)
  go_upto_region 5 with fail
  clear g1_0 g1_1 g1_2 g1_3 g2_0 g2_1 g2_2 g2_3 g3_0 g3_1 g3_2 g3_3
  have hC : Calm w5 (w5.alloc (.cells #[.int .u64 (s.lo : Int), .int .u64 (s.hi : Int)] 27)) := (Keep.refl _ _).alloc _
  have hA : At (w5.alloc (.cells #[.int .u64 (s.lo : Int), .int .u64 (s.hi : Int)] 27)) w5.heap.size s := Row.made w5 _ _
  have hO : w.heap.size ≤ w5.heap.size ∧ g1 < w5.heap.size ∧ g2 < w5.heap.size ∧ g3 < w5.heap.size := ⟨E.out.1.size, Af.lt (E.out.2.1), At.lt (E.out.2.2.1), At.lt (E.out.2.2.2)⟩
  obtain ⟨g4, hg4⟩ : ∃ zg, zg = w5.heap.size := ⟨_, rfl⟩
  obtain ⟨w6, hw6⟩ : ∃ zz, zz = w5.alloc (.cells #[.int .u64 (s.lo : Int), .int .u64 (s.hi : Int)] 27) := ⟨_, rfl⟩
  replace hO : w.heap.size ≤ g4 ∧ g1 < g4 ∧ g2 < g4 ∧ g3 < g4 := by rw [hg4]; exact hO
  rw [← hg4] at hA ⊢
  rw [← hw6] at hA hC ⊢
  clear hg4 hw6
  have O4 := Lib.hid hO
  clear hO
  replace E := Lib.hid (show Calm w w6 ∧ Af w6 g1 f0 f1 f2 f3 ∧ At w6 g2 a ∧ At w6 g3 b from ⟨E.out.1.trans (hC), Af.calm (E.out.2.1) (hC), At.calm (E.out.2.2.1) (hC), At.calm (E.out.2.2.2) (hC)⟩)
  replace E := Lib.hid (show Calm w w6 ∧ Af w6 g1 f0 f1 f2 f3 ∧ At w6 g2 a ∧ At w6 g3 b ∧ At w6 g4 s from ⟨E.out.1, E.out.2.1, E.out.2.2.1, E.out.2.2.2, hA⟩)
  clear hC hA
  cases k with
  | false =>
    obtain ⟨g1_0, g1_1, g1_2, g1_3⟩ := Af.four (E.out.2.1)
    obtain ⟨g2_0, g2_1, g2_2, g2_3⟩ := At.two (E.out.2.2.1)
    obtain ⟨g3_0, g3_1, g3_2, g3_3⟩ := At.two (E.out.2.2.2.1)
    obtain ⟨g4_0, g4_1, g4_2, g4_3⟩ := At.two (E.out.2.2.2.2)
    go_wp2_with fail
    clear g1_0 g1_1 g1_2 g1_3 g2_0 g2_1 g2_2 g2_3 g3_0 g3_1 g3_2 g3_3 g4_0 g4_1 g4_2 g4_3
    refine (KR.out _).mono ?_
    rintro ze w7 ⟨rfl, hc⟩
    replace hc : Calm w6 w7 := by rw [hc]; exact (Keep.refl _ _).alloc _
    replace E := Lib.hid (show Calm w w7 ∧ Af w7 g1 f0 f1 f2 f3 ∧ At w7 g2 a ∧ At w7 g3 b ∧ At w7 g4 s from ⟨E.out.1.trans (hc), Af.calm (E.out.2.1) (hc), At.calm (E.out.2.2.1) (hc), At.calm (E.out.2.2.2.1) (hc), At.calm (E.out.2.2.2.2) (hc)⟩)
    clear hc
    obtain ⟨g1_0, g1_1, g1_2, g1_3⟩ := Af.four (E.out.2.1)
    obtain ⟨g2_0, g2_1, g2_2, g2_3⟩ := At.two (E.out.2.2.1)
    obtain ⟨g3_0, g3_1, g3_2, g3_3⟩ := At.two (E.out.2.2.2.1)
    obtain ⟨g4_0, g4_1, g4_2, g4_3⟩ := At.two (E.out.2.2.2.2)
    go_wp2_with fail
    clear g1_0 g1_1 g1_2 g1_3 g2_0 g2_1 g2_2 g2_3 g3_0 g3_1 g3_2 g3_3 g4_0 g4_1 g4_2 g4_3
    go_returns
    exact ⟨rfl, E.out.1⟩
  | true =>
    have HH := Lib.hid (KH.out (H1.out rfl))
    obtain ⟨g1_0, g1_1, g1_2, g1_3⟩ := Af.four (E.out.2.1)
    obtain ⟨g2_0, g2_1, g2_2, g2_3⟩ := At.two (E.out.2.2.1)
    obtain ⟨g3_0, g3_1, g3_2, g3_3⟩ := At.two (E.out.2.2.2.1)
    obtain ⟨g4_0, g4_1, g4_2, g4_3⟩ := At.two (E.out.2.2.2.2)
    go_wp2_with fail
    clear g1_0 g1_1 g1_2 g1_3 g2_0 g2_1 g2_2 g2_3 g3_0 g3_1 g3_2 g3_3 g4_0 g4_1 g4_2 g4_3
    refine (KR.out _).mono ?_
    rintro ze w7 ⟨rfl, hc⟩
    replace hc : Calm w6 w7 := by rw [hc]; exact (Keep.refl _ _).alloc _
    replace E := Lib.hid (show Calm w w7 ∧ Af w7 g1 f0 f1 f2 f3 ∧ At w7 g2 a ∧ At w7 g3 b ∧ At w7 g4 s from ⟨E.out.1.trans (hc), Af.calm (E.out.2.1) (hc), At.calm (E.out.2.2.1) (hc), At.calm (E.out.2.2.2.1) (hc), At.calm (E.out.2.2.2.2) (hc)⟩)
    clear hc
    obtain ⟨g1_0, g1_1, g1_2, g1_3⟩ := Af.four (E.out.2.1)
    obtain ⟨g2_0, g2_1, g2_2, g2_3⟩ := At.two (E.out.2.2.1)
    obtain ⟨g3_0, g3_1, g3_2, g3_3⟩ := At.two (E.out.2.2.2.1)
    obtain ⟨g4_0, g4_1, g4_2, g4_3⟩ := At.two (E.out.2.2.2.2)
    go_wp2_with fail
    clear g1_0 g1_1 g1_2 g1_3 g2_0 g2_1 g2_2 g2_3 g3_0 g3_1 g3_2 g3_3 g4_0 g4_1 g4_2 g4_3
    refine (HH.out _).mono ?_
    rintro ze w8 ⟨rfl, hc⟩
    replace E := Lib.hid (show Calm w w8 ∧ Af w8 g1 f0 f1 f2 f3 ∧ At w8 g2 a ∧ At w8 g3 b ∧ At w8 g4 s from ⟨E.out.1.trans (hc), Af.calm (E.out.2.1) (hc), At.calm (E.out.2.2.1) (hc), At.calm (E.out.2.2.2.1) (hc), At.calm (E.out.2.2.2.2) (hc)⟩)
    clear hc
    obtain ⟨g1_0, g1_1, g1_2, g1_3⟩ := Af.four (E.out.2.1)
    obtain ⟨g2_0, g2_1, g2_2, g2_3⟩ := At.two (E.out.2.2.1)
    obtain ⟨g3_0, g3_1, g3_2, g3_3⟩ := At.two (E.out.2.2.2.1)
    obtain ⟨g4_0, g4_1, g4_2, g4_3⟩ := At.two (E.out.2.2.2.2)
    go_wp2_with fail
    clear g1_0 g1_1 g1_2 g1_3 g2_0 g2_1 g2_2 g2_3 g3_0 g3_1 g3_2 g3_3 g4_0 g4_1 g4_2 g4_3
    go_returns
    exact ⟨rfl, E.out.1⟩

set_option maxHeartbeats 6400000 in
set_option maxRecDepth 20000 in
theorem spanHolds_false {op f0 f1 f2 f3 m n : Nat} (hf0 : f0 < 18446744073709551616) (hf1 : f1 < 18446744073709551616) (hf2 : f2 < 18446744073709551616) (hf3 : f3 < 18446744073709551616) (hm : m < 18446744073709551616) (hn : n < 18446744073709551616) (w : World) : Calls Try.prog 5 #[.int .u8 (op : Int), .bool false, .agg #[.int .u64 (f0 : Int), .int .u64 (f1 : Int), .int .u64 (f2 : Int), .int .u64 (f3 : Int)], .int .u64 (m : Int), .int .u64 (n : Int)] w fun e w' => e = .returned (.bool true) ∧ Calm w w' := by
  obtain ⟨a, ea⟩ : ∃ a, a = rS f0 f1 := ⟨_, rfl⟩
  obtain ⟨b, eb⟩ : ∃ b, b = rS f2 f3 := ⟨_, rfl⟩
  have oka : a.Ok := by rw [ea]; exact rS_ok hf0 hf1
  have okb : b.Ok := by rw [eb]; exact rS_ok hf2 hf3
  obtain ⟨x, ex⟩ : ∃ x, x = inN a m := ⟨_, rfl⟩
  obtain ⟨y, ey⟩ : ∃ y, y = inN b n := ⟨_, rfl⟩
  have inx : Sp.In x a := by rw [ex]; exact inN_in oka hm
  have iny : Sp.In y b := by rw [ey]; exact inN_in okb hn
  have lx : x < 18446744073709551616 := Nat.lt_of_le_of_lt inx.2 oka.h
  have ly : y < 18446744073709551616 := Nat.lt_of_le_of_lt iny.2 okb.h
  obtain ⟨z, ez⟩ : ∃ z, z = D (bW false) op x y := ⟨_, rfl⟩
  obtain ⟨k, ek⟩ : ∃ k, k = isO op := ⟨_, rfl⟩
  obtain ⟨s, es⟩ : ∃ s, s = doS false op a b := ⟨_, rfl⟩
  have H1 : Hid (k = true → Sp.In z s) := Lib.hid (by rw [ek, ez, es]; exact fun h => do_in false op h oka okb inx iny)
  have H2 : s.lo ≤ s.hi := by rw [es]; exact (do_ok false op oka okb).1.r
  have H3 : s.hi < 2 ^ bW false := by rw [es]; exact (do_ok false op oka okb).2
  have KA : Hid (∀ w, Calls Try.prog 12 #[.agg #[.int .u64 (f0 : Int), .int .u64 (f1 : Int), .int .u64 (f2 : Int), .int .u64 (f3 : Int)]] w fun x w' => x = .returned (.tuple #[.agg #[.int .u64 (a.lo : Int), .int .u64 (a.hi : Int)], .agg #[.int .u64 (b.lo : Int), .int .u64 (b.hi : Int)]]) ∧ Calm w w') := Lib.hid (by rw [ea, eb]; exact fun w => spans8_c w f0 f1 f2 f3)
  have KX : Hid (∀ w, Calls Try.prog 28 #[.agg #[.int .u64 (a.lo : Int), .int .u64 (a.hi : Int)], .int .u64 (m : Int)] w fun z w' => z = .returned (.int .u64 (x : Int)) ∧ Calm w w') := Lib.hid (by rw [ex]; exact fun w => in8_c w oka hm)
  have KY : Hid (∀ w, Calls Try.prog 28 #[.agg #[.int .u64 (b.lo : Int), .int .u64 (b.hi : Int)], .int .u64 (n : Int)] w fun z w' => z = .returned (.int .u64 (y : Int)) ∧ Calm w w') := Lib.hid (by rw [ey]; exact fun w => in8_c w okb hn)
  have KD : Hid (∀ w, Calls Try.prog 27 #[.int .u8 (op : Int), .bool false, .int .u64 (x : Int), .int .u64 (y : Int)] w fun e w' => e = .returned (.tuple #[.int .u64 (z : Int), .bool k]) ∧ Calm w w') := Lib.hid (by rw [ez, ek]; exact fun w => do_c false w lx ly)
  have KS : Hid (∀ w, Calls Try.prog 14 #[.int .u8 (op : Int), .bool false, .agg #[.int .u64 (a.lo : Int), .int .u64 (a.hi : Int)], .agg #[.int .u64 (b.lo : Int), .int .u64 (b.hi : Int)]] w fun e w' => e = .returned (.agg #[.int .u64 (s.lo : Int), .int .u64 (s.hi : Int)]) ∧ Calm w w') := Lib.hid (by rw [es]; exact fun w => pdo_c false oka okb w)
  have KH : Hid (Sp.In z s → ∀ w, Calls Try.prog 26 #[.agg #[.int .u64 (s.lo : Int), .int .u64 (s.hi : Int)], .int .u64 (z : Int)] w fun e w' => e = .returned (.bool true) ∧ Calm w w') := Lib.hid fun hi w => by
    have k := phas_c s z w
    rw [decide_eq_true (show s.lo ≤ z ∧ z ≤ s.hi from hi)] at k
    exact k
  have KR : Hid (∀ w, Calls Try.prog 25 #[.agg #[.int .u64 (s.lo : Int), .int .u64 (s.hi : Int)]] w fun e w' => e = .returned (.bool true) ∧ w' = w.alloc (.cells #[.int .u64 (s.lo : Int), .int .u64 (s.hi : Int)] 27)) := Lib.hid fun w => by
    have k := pright_c s.lo s.hi w
    rw [decide_eq_true H2] at k
    exact k
  have H4 : (s.hi : Int) / 4294967296 = 0 := by have : s.hi < 4294967296 := H3; omega
  clear hf0 hf1 hf2 hf3 hm hn ea eb oka okb ex ey inx iny lx ly ez ek es H2 H3
  go_enter Try.func5, Try.ntmps5
  have E := Lib.hid (show Calm w w from Keep.refl _ _)
  go_upto_region 1 with fail
  have hC : Calm w (w.alloc (.cells #[.int .u64 (f0 : Int), .int .u64 (f1 : Int), .int .u64 (f2 : Int), .int .u64 (f3 : Int)] 24)) := (Keep.refl _ _).alloc _
  have hA : Af (w.alloc (.cells #[.int .u64 (f0 : Int), .int .u64 (f1 : Int), .int .u64 (f2 : Int), .int .u64 (f3 : Int)] 24)) w.heap.size f0 f1 f2 f3 := Row.made w _ _
  have hO : w.heap.size ≤ w.heap.size := E.out.size
  obtain ⟨g1, hg1⟩ : ∃ zg, zg = w.heap.size := ⟨_, rfl⟩
  obtain ⟨w1, hw1⟩ : ∃ zz, zz = w.alloc (.cells #[.int .u64 (f0 : Int), .int .u64 (f1 : Int), .int .u64 (f2 : Int), .int .u64 (f3 : Int)] 24) := ⟨_, rfl⟩
  replace hO : w.heap.size ≤ g1 := by rw [hg1]; exact hO
  rw [← hg1] at hA ⊢
  rw [← hw1] at hA hC ⊢
  clear hg1 hw1
  have O1 := Lib.hid hO
  clear hO
  replace E := Lib.hid (show Calm w w1 from E.out.trans (hC))
  replace E := Lib.hid (show Calm w w1 ∧ Af w1 g1 f0 f1 f2 f3 from ⟨E.out, hA⟩)
  clear hC hA
  obtain ⟨g1_0, g1_1, g1_2, g1_3⟩ := Af.four (E.out.2)
  go_wp2_with fail
  clear g1_0 g1_1 g1_2 g1_3
  refine (shown8_c _).mono ?_
  rintro ze w2 ⟨rfl, hc⟩
  replace E := Lib.hid (show Calm w w2 ∧ Af w2 g1 f0 f1 f2 f3 from ⟨E.out.1.trans (hc), Af.calm (E.out.2) (hc)⟩)
  clear hc
  obtain ⟨g1_0, g1_1, g1_2, g1_3⟩ := Af.four (E.out.2)
  go_wp2_with fail
  clear g1_0 g1_1 g1_2 g1_3
  refine (KA.out _).mono ?_
  rintro ze w3 ⟨rfl, hc⟩
  replace E := Lib.hid (show Calm w w3 ∧ Af w3 g1 f0 f1 f2 f3 from ⟨E.out.1.trans (hc), Af.calm (E.out.2) (hc)⟩)
  clear hc
  obtain ⟨g1_0, g1_1, g1_2, g1_3⟩ := Af.four (E.out.2)
  go_upto_region 3 with fail
  clear g1_0 g1_1 g1_2 g1_3
  have hC : Calm w3 ((w3.alloc (.cells #[.int .u64 (a.lo : Int), .int .u64 (a.hi : Int)] 27)).alloc (.cells #[.int .u64 (b.lo : Int), .int .u64 (b.hi : Int)] 27)) := ((Keep.refl _ _).alloc _).alloc _
  have hA : At ((w3.alloc (.cells #[.int .u64 (a.lo : Int), .int .u64 (a.hi : Int)] 27)).alloc (.cells #[.int .u64 (b.lo : Int), .int .u64 (b.hi : Int)] 27)) w3.heap.size a := (Row.made w3 _ _).alloc _
  have hB : At ((w3.alloc (.cells #[.int .u64 (a.lo : Int), .int .u64 (a.hi : Int)] 27)).alloc (.cells #[.int .u64 (b.lo : Int), .int .u64 (b.hi : Int)] 27)) (w3.heap.size + 1) b := by
    have e : At ((w3.alloc (.cells #[.int .u64 (a.lo : Int), .int .u64 (a.hi : Int)] 27)).alloc (.cells #[.int .u64 (b.lo : Int), .int .u64 (b.hi : Int)] 27)) (w3.alloc (.cells #[.int .u64 (a.lo : Int), .int .u64 (a.hi : Int)] 27)).heap.size b := Row.made _ _ _
    simp only [World.size_alloc] at e
    exact e
  have hO : w.heap.size ≤ w3.heap.size ∧ g1 < w3.heap.size := ⟨E.out.1.size, Af.lt (E.out.2)⟩
  obtain ⟨g2, hg2⟩ : ∃ zg, zg = w3.heap.size := ⟨_, rfl⟩
  obtain ⟨w4, hw4⟩ : ∃ zz, zz = (w3.alloc (.cells #[.int .u64 (a.lo : Int), .int .u64 (a.hi : Int)] 27)).alloc (.cells #[.int .u64 (b.lo : Int), .int .u64 (b.hi : Int)] 27) := ⟨_, rfl⟩
  replace hO : w.heap.size ≤ g2 ∧ g1 < g2 := by rw [hg2]; exact hO
  rw [← hg2] at hA hB ⊢
  rw [← hw4] at hA hB hC ⊢
  clear hg2 hw4
  obtain ⟨g3, hg3⟩ : ∃ zg, zg = g2 + 1 := ⟨_, rfl⟩
  rw [← hg3] at hB ⊢
  have O2 := Lib.hid hO
  have O3 : Hid (w.heap.size ≤ g3 ∧ g1 < g3 ∧ g2 < g3) := Lib.hid (by have := O2.out; omega)
  clear hO
  clear hg3
  replace E := Lib.hid (show Calm w w4 ∧ Af w4 g1 f0 f1 f2 f3 from ⟨E.out.1.trans (hC), Af.calm (E.out.2) (hC)⟩)
  replace E := Lib.hid (show Calm w w4 ∧ Af w4 g1 f0 f1 f2 f3 ∧ At w4 g2 a ∧ At w4 g3 b from ⟨E.out.1, E.out.2, hA, hB⟩)
  clear hC hA hB
  refine wp_region_noPanic ?_
  refine wp_region_held_drew (S := fun w' => Calm w w' ∧ Af w' g1 f0 f1 f2 f3 ∧ At w' g2 a ∧ At w' g3 b) (by kernel_rfl) ⟨E.out.1.drew, E.out.2.1, E.out.2.2.1, E.out.2.2.2⟩ (fun hHeld => ?_)
  refine take_at 0 24 (.int .u8 (op : Int)) rfl rfl (by kernel_rfl) (by kernel_rfl) (by kernel_rfl) (fun _ _ _ h => h) (Or.inl ⟨by rfl, ?_⟩) hHeld ?_
  · intro w hSw; go_simp
  simp only [List.setIfInBounds_toArray, List.set_cons_zero, List.set_cons_succ]
  refine take_at 1 25 (.bool false) rfl rfl (by kernel_rfl) (by kernel_rfl) (by kernel_rfl) (fun _ _ _ h => h) (Or.inl ⟨by rfl, ?_⟩) hHeld ?_
  · intro w hSw; go_simp
  simp only [List.setIfInBounds_toArray, List.set_cons_zero, List.set_cons_succ]
  refine take_at 2 26 (.agg #[.int .u64 (a.lo : Int), .int .u64 (a.hi : Int)]) rfl rfl (by kernel_rfl) (by kernel_rfl) (by kernel_rfl) (fun _ _ _ h => h) (Or.inl ⟨by rfl, ?_⟩) hHeld ?_
  · intro w hSw; have c := At.two (hSw.2.2.1); go_simp
  simp only [List.setIfInBounds_toArray, List.set_cons_zero, List.set_cons_succ]
  refine take_at 3 27 (.int .u64 (m : Int)) rfl rfl (by kernel_rfl) (by kernel_rfl) (by kernel_rfl) (fun _ _ _ h => h) (Or.inl ⟨by rfl, ?_⟩) hHeld ?_
  · intro w hSw; go_simp
  simp only [List.setIfInBounds_toArray, List.set_cons_zero, List.set_cons_succ]
  refine take_at 5 29 (.agg #[.int .u64 (b.lo : Int), .int .u64 (b.hi : Int)]) rfl rfl (by kernel_rfl) (by kernel_rfl) (by kernel_rfl) (fun _ _ _ h => h) (Or.inl ⟨by rfl, ?_⟩) hHeld ?_
  · intro w hSw; have c := At.two (hSw.2.2.2); go_simp
  simp only [List.setIfInBounds_toArray, List.set_cons_zero, List.set_cons_succ]
  refine take_at 6 30 (.int .u64 (n : Int)) rfl rfl (by kernel_rfl) (by kernel_rfl) (by kernel_rfl) (fun _ _ _ h => h) (Or.inl ⟨by rfl, ?_⟩) hHeld ?_
  · intro w hSw; go_simp
  simp only [List.setIfInBounds_toArray, List.set_cons_zero, List.set_cons_succ]
  refine wpAnyH_ready (rs := [4]) (by kernel_rfl) (by simp) ?_
  refine AllReadyH.cons rfl (fun K hK => ?_) AllReadyH.nil
  go_simp
  refine (KX.out _).mono ?_
  rintro ze wr1 ⟨rfl, hc⟩
  refine hK.out _ _ ⟨hHeld.1.trans hc, Af.calm (hHeld.2.1) hc, At.calm (hHeld.2.2.1) hc, At.calm (hHeld.2.2.2) hc⟩ (fun hHeld => ?_)
  clear hK K
  try simp only [List.setIfInBounds_toArray, List.set_cons_zero, List.set_cons_succ]
  refine wpAnyH_ready (rs := [7]) (by kernel_rfl) (by simp) ?_
  refine AllReadyH.cons rfl (fun K hK => ?_) AllReadyH.nil
  go_simp
  refine (KY.out _).mono ?_
  rintro ze wr2 ⟨rfl, hc⟩
  refine hK.out _ _ ⟨hHeld.1.trans hc, Af.calm (hHeld.2.1) hc, At.calm (hHeld.2.2.1) hc, At.calm (hHeld.2.2.2) hc⟩ (fun hHeld => ?_)
  clear hK K
  try simp only [List.setIfInBounds_toArray, List.set_cons_zero, List.set_cons_succ]
  refine wpAnyH_ready (rs := [8]) (by kernel_rfl) (by simp) ?_
  refine AllReadyH.cons rfl (fun K hK => ?_) AllReadyH.nil
  go_simp
  refine (KD.out _).mono ?_
  rintro ze wr3 ⟨rfl, hc⟩
  refine hK.out _ _ ⟨hHeld.1.trans hc, Af.calm (hHeld.2.1) hc, At.calm (hHeld.2.2.1) hc, At.calm (hHeld.2.2.2) hc⟩ (fun hHeld => ?_)
  clear hK K
  try simp only [List.setIfInBounds_toArray, List.set_cons_zero, List.set_cons_succ]
  refine take_at 9 23 (.tuple #[.int .u64 (z : Int), .bool k]) rfl rfl (by kernel_rfl) (by kernel_rfl) (by kernel_rfl) (fun _ _ _ h => h) (Or.inl ⟨by rfl, ?_⟩) hHeld ?_
  · intro w hSw; go_simp
  simp only [List.setIfInBounds_toArray, List.set_cons_zero, List.set_cons_succ]
  refine take_at 10 33 (.int .u64 (z : Int)) rfl rfl (by kernel_rfl) (by kernel_rfl) (by kernel_rfl) (fun _ _ _ h => h) (Or.inl ⟨by rfl, ?_⟩) hHeld ?_
  · intro w hSw; go_simp
  simp only [List.setIfInBounds_toArray, List.set_cons_zero, List.set_cons_succ]
  refine take_at 11 34 (.bool k) rfl rfl (by kernel_rfl) (by kernel_rfl) (by kernel_rfl) (fun _ _ _ h => h) (Or.inl ⟨by rfl, ?_⟩) hHeld ?_
  · intro w hSw; go_simp
  simp only [List.setIfInBounds_toArray, List.set_cons_zero, List.set_cons_succ]
  refine take_at 12 14 (.int .u64 (z : Int)) rfl rfl (by kernel_rfl) (by kernel_rfl) (by kernel_rfl) (fun _ _ _ h => h) (Or.inl ⟨by rfl, ?_⟩) hHeld ?_
  · intro w hSw; go_simp
  simp only [List.setIfInBounds_toArray, List.set_cons_zero, List.set_cons_succ]
  refine take_at 13 15 (.bool k) rfl rfl (by kernel_rfl) (by kernel_rfl) (by kernel_rfl) (fun _ _ _ h => h) (Or.inl ⟨by rfl, ?_⟩) hHeld ?_
  · intro w hSw; go_simp
  simp only [List.setIfInBounds_toArray, List.set_cons_zero, List.set_cons_succ]
  refine wpAnyH_done (by kernel_rfl) (NoPanic.normal ?_) _
  replace E := Lib.hid (show Calm w wr3 ∧ Af wr3 g1 f0 f1 f2 f3 ∧ At wr3 g2 a ∧ At wr3 g3 b from hHeld)
  clear hHeld
  obtain ⟨g1_0, g1_1, g1_2, g1_3⟩ := Af.four (E.out.2.1)
  obtain ⟨g2_0, g2_1, g2_2, g2_3⟩ := At.two (E.out.2.2.1)
  obtain ⟨g3_0, g3_1, g3_2, g3_3⟩ := At.two (E.out.2.2.2)
  go_wp2_with fail
  clear g1_0 g1_1 g1_2 g1_3 g2_0 g2_1 g2_2 g2_3 g3_0 g3_1 g3_2 g3_3
  refine (KS.out _).mono ?_
  rintro ze w5 ⟨rfl, hc⟩
  replace E := Lib.hid (show Calm w w5 ∧ Af w5 g1 f0 f1 f2 f3 ∧ At w5 g2 a ∧ At w5 g3 b from ⟨E.out.1.trans (hc), Af.calm (E.out.2.1) (hc), At.calm (E.out.2.2.1) (hc), At.calm (E.out.2.2.2) (hc)⟩)
  clear hc
  obtain ⟨g1_0, g1_1, g1_2, g1_3⟩ := Af.four (E.out.2.1)
  obtain ⟨g2_0, g2_1, g2_2, g2_3⟩ := At.two (E.out.2.2.1)
  obtain ⟨g3_0, g3_1, g3_2, g3_3⟩ := At.two (E.out.2.2.2)
  go_upto_region 5 with fail
  clear g1_0 g1_1 g1_2 g1_3 g2_0 g2_1 g2_2 g2_3 g3_0 g3_1 g3_2 g3_3
  have hC : Calm w5 (w5.alloc (.cells #[.int .u64 (s.lo : Int), .int .u64 (s.hi : Int)] 27)) := (Keep.refl _ _).alloc _
  have hA : At (w5.alloc (.cells #[.int .u64 (s.lo : Int), .int .u64 (s.hi : Int)] 27)) w5.heap.size s := Row.made w5 _ _
  have hO : w.heap.size ≤ w5.heap.size ∧ g1 < w5.heap.size ∧ g2 < w5.heap.size ∧ g3 < w5.heap.size := ⟨E.out.1.size, Af.lt (E.out.2.1), At.lt (E.out.2.2.1), At.lt (E.out.2.2.2)⟩
  obtain ⟨g4, hg4⟩ : ∃ zg, zg = w5.heap.size := ⟨_, rfl⟩
  obtain ⟨w6, hw6⟩ : ∃ zz, zz = w5.alloc (.cells #[.int .u64 (s.lo : Int), .int .u64 (s.hi : Int)] 27) := ⟨_, rfl⟩
  replace hO : w.heap.size ≤ g4 ∧ g1 < g4 ∧ g2 < g4 ∧ g3 < g4 := by rw [hg4]; exact hO
  rw [← hg4] at hA ⊢
  rw [← hw6] at hA hC ⊢
  clear hg4 hw6
  have O4 := Lib.hid hO
  clear hO
  replace E := Lib.hid (show Calm w w6 ∧ Af w6 g1 f0 f1 f2 f3 ∧ At w6 g2 a ∧ At w6 g3 b from ⟨E.out.1.trans (hC), Af.calm (E.out.2.1) (hC), At.calm (E.out.2.2.1) (hC), At.calm (E.out.2.2.2) (hC)⟩)
  replace E := Lib.hid (show Calm w w6 ∧ Af w6 g1 f0 f1 f2 f3 ∧ At w6 g2 a ∧ At w6 g3 b ∧ At w6 g4 s from ⟨E.out.1, E.out.2.1, E.out.2.2.1, E.out.2.2.2, hA⟩)
  clear hC hA
  cases k with
  | false =>
    obtain ⟨g1_0, g1_1, g1_2, g1_3⟩ := Af.four (E.out.2.1)
    obtain ⟨g2_0, g2_1, g2_2, g2_3⟩ := At.two (E.out.2.2.1)
    obtain ⟨g3_0, g3_1, g3_2, g3_3⟩ := At.two (E.out.2.2.2.1)
    obtain ⟨g4_0, g4_1, g4_2, g4_3⟩ := At.two (E.out.2.2.2.2)
    go_wp2_with fail
    clear g1_0 g1_1 g1_2 g1_3 g2_0 g2_1 g2_2 g2_3 g3_0 g3_1 g3_2 g3_3 g4_0 g4_1 g4_2 g4_3
    refine (KR.out _).mono ?_
    rintro ze w7 ⟨rfl, hc⟩
    replace hc : Calm w6 w7 := by rw [hc]; exact (Keep.refl _ _).alloc _
    replace E := Lib.hid (show Calm w w7 ∧ Af w7 g1 f0 f1 f2 f3 ∧ At w7 g2 a ∧ At w7 g3 b ∧ At w7 g4 s from ⟨E.out.1.trans (hc), Af.calm (E.out.2.1) (hc), At.calm (E.out.2.2.1) (hc), At.calm (E.out.2.2.2.1) (hc), At.calm (E.out.2.2.2.2) (hc)⟩)
    clear hc
    obtain ⟨g1_0, g1_1, g1_2, g1_3⟩ := Af.four (E.out.2.1)
    obtain ⟨g2_0, g2_1, g2_2, g2_3⟩ := At.two (E.out.2.2.1)
    obtain ⟨g3_0, g3_1, g3_2, g3_3⟩ := At.two (E.out.2.2.2.1)
    obtain ⟨g4_0, g4_1, g4_2, g4_3⟩ := At.two (E.out.2.2.2.2)
    go_wp2_with fail
    clear g1_0 g1_1 g1_2 g1_3 g2_0 g2_1 g2_2 g2_3 g3_0 g3_1 g3_2 g3_3 g4_0 g4_1 g4_2 g4_3
    go_returns
    exact ⟨rfl, E.out.1⟩
  | true =>
    have HH := Lib.hid (KH.out (H1.out rfl))
    obtain ⟨g1_0, g1_1, g1_2, g1_3⟩ := Af.four (E.out.2.1)
    obtain ⟨g2_0, g2_1, g2_2, g2_3⟩ := At.two (E.out.2.2.1)
    obtain ⟨g3_0, g3_1, g3_2, g3_3⟩ := At.two (E.out.2.2.2.1)
    obtain ⟨g4_0, g4_1, g4_2, g4_3⟩ := At.two (E.out.2.2.2.2)
    go_wp2_with fail
    clear g1_0 g1_1 g1_2 g1_3 g2_0 g2_1 g2_2 g2_3 g3_0 g3_1 g3_2 g3_3 g4_0 g4_1 g4_2 g4_3
    refine (KR.out _).mono ?_
    rintro ze w7 ⟨rfl, hc⟩
    replace hc : Calm w6 w7 := by rw [hc]; exact (Keep.refl _ _).alloc _
    replace E := Lib.hid (show Calm w w7 ∧ Af w7 g1 f0 f1 f2 f3 ∧ At w7 g2 a ∧ At w7 g3 b ∧ At w7 g4 s from ⟨E.out.1.trans (hc), Af.calm (E.out.2.1) (hc), At.calm (E.out.2.2.1) (hc), At.calm (E.out.2.2.2.1) (hc), At.calm (E.out.2.2.2.2) (hc)⟩)
    clear hc
    obtain ⟨g1_0, g1_1, g1_2, g1_3⟩ := Af.four (E.out.2.1)
    obtain ⟨g2_0, g2_1, g2_2, g2_3⟩ := At.two (E.out.2.2.1)
    obtain ⟨g3_0, g3_1, g3_2, g3_3⟩ := At.two (E.out.2.2.2.1)
    obtain ⟨g4_0, g4_1, g4_2, g4_3⟩ := At.two (E.out.2.2.2.2)
    go_wp2_with fail
    clear g1_0 g1_1 g1_2 g1_3 g2_0 g2_1 g2_2 g2_3 g3_0 g3_1 g3_2 g3_3 g4_0 g4_1 g4_2 g4_3
    refine (HH.out _).mono ?_
    rintro ze w8 ⟨rfl, hc⟩
    replace E := Lib.hid (show Calm w w8 ∧ Af w8 g1 f0 f1 f2 f3 ∧ At w8 g2 a ∧ At w8 g3 b ∧ At w8 g4 s from ⟨E.out.1.trans (hc), Af.calm (E.out.2.1) (hc), At.calm (E.out.2.2.1) (hc), At.calm (E.out.2.2.2.1) (hc), At.calm (E.out.2.2.2.2) (hc)⟩)
    clear hc
    obtain ⟨g1_0, g1_1, g1_2, g1_3⟩ := Af.four (E.out.2.1)
    obtain ⟨g2_0, g2_1, g2_2, g2_3⟩ := At.two (E.out.2.2.1)
    obtain ⟨g3_0, g3_1, g3_2, g3_3⟩ := At.two (E.out.2.2.2.1)
    obtain ⟨g4_0, g4_1, g4_2, g4_3⟩ := At.two (E.out.2.2.2.2)
    go_wp2_with fail
    clear g1_0 g1_1 g1_2 g1_3 g2_0 g2_1 g2_2 g2_3 g3_0 g3_1 g3_2 g3_3 g4_0 g4_1 g4_2 g4_3
    go_returns
    exact ⟨rfl, E.out.1⟩

theorem spanHolds_w (wide : Bool) {op f0 f1 f2 f3 m n : Nat} (hf0 : f0 < 18446744073709551616) (hf1 : f1 < 18446744073709551616) (hf2 : f2 < 18446744073709551616) (hf3 : f3 < 18446744073709551616) (hm : m < 18446744073709551616) (hn : n < 18446744073709551616) (w : World) : Calls Try.prog 5 #[.int .u8 (op : Int), .bool wide, .agg #[.int .u64 (f0 : Int), .int .u64 (f1 : Int), .int .u64 (f2 : Int), .int .u64 (f3 : Int)], .int .u64 (m : Int), .int .u64 (n : Int)] w fun e w' => e = .returned (.bool true) ∧ Calm w w' := by
  cases wide
  · exact spanHolds_false hf0 hf1 hf2 hf3 hm hn w
  · exact spanHolds_true hf0 hf1 hf2 hf3 hm hn w

end Go.Proofs.Ytboiakahhkihiaa
