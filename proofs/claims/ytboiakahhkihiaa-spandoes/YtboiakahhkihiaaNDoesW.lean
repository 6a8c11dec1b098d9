/-
  The walk of SpanDoes.
-/
import Derived.Test.YtboiakahhkihiaaN9
import Derived.Test.YtboiakahhkihiaaNQ
import Derived.Test.YtboiakahhkihiaaNR4
namespace Go.Proofs.Ytboiakahhkihiaa
open Go.RowKit
set_option linter.all false

set_option maxHeartbeats 6400000 in
set_option maxRecDepth 20000 in
theorem spanDoes_true {op f0 f1 f2 f3 : Nat} (hf0 : f0 < 18446744073709551616) (hf1 : f1 < 18446744073709551616) (hf2 : f2 < 18446744073709551616) (hf3 : f3 < 18446744073709551616) (w : World) : Calls Try.prog 3 #[.int .u8 (op : Int), .bool true, .agg #[.int .u64 (f0 : Int), .int .u64 (f1 : Int), .int .u64 (f2 : Int), .int .u64 (f3 : Int)]] w fun e w' => e = .returned (.bool true) ∧ Calm w w' := by
  obtain ⟨a, ea⟩ : ∃ a, a = rS f0 f1 := ⟨_, rfl⟩
  obtain ⟨b, eb⟩ : ∃ b, b = rS f2 f3 := ⟨_, rfl⟩
  have oka : a.Ok := by rw [ea]; exact rS_ok hf0 hf1
  have okb : b.Ok := by rw [eb]; exact rS_ok hf2 hf3
  obtain ⟨r, er⟩ : ∃ r, r = doS true op a b := ⟨_, rfl⟩
  have KA : Hid (∀ w, Calls Try.prog 12 #[.agg #[.int .u64 (f0 : Int), .int .u64 (f1 : Int), .int .u64 (f2 : Int), .int .u64 (f3 : Int)]] w fun x w' => x = .returned (.tuple #[.agg #[.int .u64 (a.lo : Int), .int .u64 (a.hi : Int)], .agg #[.int .u64 (b.lo : Int), .int .u64 (b.hi : Int)]]) ∧ Calm w w') := Lib.hid (by rw [ea, eb]; exact fun w => spans8_c w f0 f1 f2 f3)
  have KD : Hid (∀ w, Calls Try.prog 14 #[.int .u8 (op : Int), .bool true, .agg #[.int .u64 (a.lo : Int), .int .u64 (a.hi : Int)], .agg #[.int .u64 (b.lo : Int), .int .u64 (b.hi : Int)]] w fun e w' => e = .returned (.agg #[.int .u64 (r.lo : Int), .int .u64 (r.hi : Int)]) ∧ Calm w w') := Lib.hid (by rw [er]; exact fun w => pdo_c true oka okb w)
  have KR : Hid (∀ w, Calls Try.prog 15 #[.int .u8 (op : Int), .bool true, .agg #[.int .u64 (a.lo : Int), .int .u64 (a.hi : Int)], .agg #[.int .u64 (b.lo : Int), .int .u64 (b.hi : Int)]] w fun e w' => e = .returned (.agg #[.int .u64 (r.lo : Int), .int .u64 (r.hi : Int)]) ∧ Calm w w') := Lib.hid (by rw [er]; exact fun w => rDo_c true oka okb w)
  have OF : Hid (∀ s : Sp, ∀ w, Calls Try.prog 13 #[.agg #[.int .u64 (s.lo : Int), .int .u64 (s.hi : Int)]] w fun e w' => e = .returned (.agg #[.int .u64 (s.lo : Int), .int .u64 (s.hi : Int)]) ∧ Calm w w') := Lib.hid of8_c
  clear hf0 hf1 hf2 hf3 ea eb oka okb er
  go_enter Try.func3, Try.ntmps3
  have E := Lib.hid (show Calm w w from Keep.refl _ _)
  go_upto_region 1 with fail
  have hC : Calm w (w.alloc (.cells #[.int .u64 (f0 : Int), .int .u64 (f1 : Int), .int .u64 (f2 : Int), .int .u64 (f3 : Int)] 24)) := (Keep.refl _ _).alloc _
  have hA : Af (w.alloc (.cells #[.int .u64 (f0 : Int), .int .u64 (f1 : Int), .int .u64 (f2 : Int), .int .u64 (f3 : Int)] 24)) w.heap.size f0 f1 f2 f3 := Row.made w _ _
  have hO : w.heap.size ≤ w.heap.size := E.out.size
  obtain ⟨g1, hg1⟩ : ∃ zg, zg = w.heap.size := ⟨_, rfl⟩
  obtain ⟨w1, hw1⟩ : ∃ zz, zz = w.alloc (.cells #[.int .u64 (f0 : Int), .int .u64 (f1 : Int), .int .u64 (f2 : Int), .int .u64 (f3 : Int)] 24) := ⟨_, rfl⟩
  replace hO : w.heap.size ≤ g1 := by rw [hg1]; exact hO
  rw [← hg1] at hA ⊢
  rw [← hw1] at hA hC ⊢
  clear hg1 hw1
  have O1 := Lib.hid hO
  clear hO
  replace E := Lib.hid (show Calm w w1 from E.out.trans (hC))
  replace E := Lib.hid (show Calm w w1 ∧ Af w1 g1 f0 f1 f2 f3 from ⟨E.out, hA⟩)
  clear hC hA
  obtain ⟨g1_0, g1_1, g1_2, g1_3⟩ := Af.four (E.out.2)
  go_wp2_with fail
  clear g1_0 g1_1 g1_2 g1_3
  refine (shown8_c _).mono ?_
  rintro ze w2 ⟨rfl, hc⟩
  replace E := Lib.hid (show Calm w w2 ∧ Af w2 g1 f0 f1 f2 f3 from ⟨E.out.1.trans (hc), Af.calm (E.out.2) (hc)⟩)
  clear hc
  obtain ⟨g1_0, g1_1, g1_2, g1_3⟩ := Af.four (E.out.2)
  go_wp2_with fail
  clear g1_0 g1_1 g1_2 g1_3
  refine (KA.out _).mono ?_
  rintro ze w3 ⟨rfl, hc⟩
  replace E := Lib.hid (show Calm w w3 ∧ Af w3 g1 f0 f1 f2 f3 from ⟨E.out.1.trans (hc), Af.calm (E.out.2) (hc)⟩)
  clear hc
  obtain ⟨g1_0, g1_1, g1_2, g1_3⟩ := Af.four (E.out.2)
  go_upto_region 3 with fail
  clear g1_0 g1_1 g1_2 g1_3
  have hC : Calm w3 ((w3.alloc (.cells #[.int .u64 (a.lo : Int), .int .u64 (a.hi : Int)] 27)).alloc (.cells #[.int .u64 (b.lo : Int), .int .u64 (b.hi : Int)] 27)) := ((Keep.refl _ _).alloc _).alloc _
  have hA : At ((w3.alloc (.cells #[.int .u64 (a.lo : Int), .int .u64 (a.hi : Int)] 27)).alloc (.cells #[.int .u64 (b.lo : Int), .int .u64 (b.hi : Int)] 27)) w3.heap.size a := (Row.made w3 _ _).alloc _
  have hB : At ((w3.alloc (.cells #[.int .u64 (a.lo : Int), .int .u64 (a.hi : Int)] 27)).alloc (.cells #[.int .u64 (b.lo : Int), .int .u64 (b.hi : Int)] 27)) (w3.heap.size + 1) b := by
    have e : At ((w3.alloc (.cells #[.int .u64 (a.lo : Int), .int .u64 (a.hi : Int)] 27)).alloc (.cells #[.int .u64 (b.lo : Int), .int .u64 (b.hi : Int)] 27)) (w3.alloc (.cells #[.int .u64 (a.lo : Int), .int .u64 (a.hi : Int)] 27)).heap.size b := Row.made _ _ _
    simp only [World.size_alloc] at e
    exact e
  have hO : w.heap.size ≤ w3.heap.size ∧ g1 < w3.heap.size := ⟨E.out.1.size, Af.lt (E.out.2)⟩
  obtain ⟨g2, hg2⟩ : ∃ zg, zg = w3.heap.size := ⟨_, rfl⟩
  obtain ⟨w4, hw4⟩ : ∃ zz, zz = (w3.alloc (.cells #[.int .u64 (a.lo : Int), .int .u64 (a.hi : Int)] 27)).alloc (.cells #[.int .u64 (b.lo : Int), .int .u64 (b.hi : Int)] 27) := ⟨_, rfl⟩
  replace hO : w.heap.size ≤ g2 ∧ g1 < g2 := by rw [hg2]; exact hO
  rw [← hg2] at hA hB ⊢
  rw [← hw4] at hA hB hC ⊢
  clear hg2 hw4
  obtain ⟨g3, hg3⟩ : ∃ zg, zg = g2 + 1 := ⟨_, rfl⟩
  rw [← hg3] at hB ⊢
  have O2 := Lib.hid hO
  have O3 : Hid (w.heap.size ≤ g3 ∧ g1 < g3 ∧ g2 < g3) := Lib.hid (by have := O2.out; omega)
  clear hO
  clear hg3
  replace E := Lib.hid (show Calm w w4 ∧ Af w4 g1 f0 f1 f2 f3 from ⟨E.out.1.trans (hC), Af.calm (E.out.2) (hC)⟩)
  replace E := Lib.hid (show Calm w w4 ∧ Af w4 g1 f0 f1 f2 f3 ∧ At w4 g2 a ∧ At w4 g3 b from ⟨E.out.1, E.out.2, hA, hB⟩)
  clear hC hA hB
  refine wp_region_noPanic ?_
  refine wp_region_held_drew (S := fun w' => Calm w w' ∧ Af w' g1 f0 f1 f2 f3 ∧ At w' g2 a ∧ At w' g3 b) (by kernel_rfl) ⟨E.out.1.drew, E.out.2.1, E.out.2.2.1, E.out.2.2.2⟩ (fun hHeld => ?_)
  refine take_at 0 16 (.bool true) rfl rfl (by kernel_rfl) (by kernel_rfl) (by kernel_rfl) (fun _ _ _ h => h) (Or.inl ⟨by rfl, ?_⟩) hHeld ?_
  · intro w hSw; go_simp
  simp only [List.setIfInBounds_toArray, List.set_cons_zero, List.set_cons_succ]
  refine take_at 1 17 (.bool true) rfl rfl (by kernel_rfl) (by kernel_rfl) (by kernel_rfl) (fun _ _ _ h => h) (Or.inl ⟨by rfl, ?_⟩) hHeld ?_
  · intro w hSw; go_simp
  simp only [List.setIfInBounds_toArray, List.set_cons_zero, List.set_cons_succ]
  refine take_at 2 18 (.int .u8 (op : Int)) rfl rfl (by kernel_rfl) (by kernel_rfl) (by kernel_rfl) (fun _ _ _ h => h) (Or.inl ⟨by rfl, ?_⟩) hHeld ?_
  · intro w hSw; go_simp
  simp only [List.setIfInBounds_toArray, List.set_cons_zero, List.set_cons_succ]
  refine take_at 3 19 (.bool true) rfl rfl (by kernel_rfl) (by kernel_rfl) (by kernel_rfl) (fun _ _ _ h => h) (Or.inl ⟨by rfl, ?_⟩) hHeld ?_
  · intro w hSw; go_simp
  simp only [List.setIfInBounds_toArray, List.set_cons_zero, List.set_cons_succ]
  refine take_at 4 20 (.agg #[.int .u64 (a.lo : Int), .int .u64 (a.hi : Int)]) rfl rfl (by kernel_rfl) (by kernel_rfl) (by kernel_rfl) (fun _ _ _ h => h) (Or.inl ⟨by rfl, ?_⟩) hHeld ?_
  · intro w hSw; have c := At.two (hSw.2.2.1); go_simp
  simp only [List.setIfInBounds_toArray, List.set_cons_zero, List.set_cons_succ]
  refine take_at 5 21 (.agg #[.int .u64 (b.lo : Int), .int .u64 (b.hi : Int)]) rfl rfl (by kernel_rfl) (by kernel_rfl) (by kernel_rfl) (fun _ _ _ h => h) (Or.inl ⟨by rfl, ?_⟩) hHeld ?_
  · intro w hSw; have c := At.two (hSw.2.2.2); go_simp
  simp only [List.setIfInBounds_toArray, List.set_cons_zero, List.set_cons_succ]
  refine take_at 8 24 (.int .u8 (op : Int)) rfl rfl (by kernel_rfl) (by kernel_rfl) (by kernel_rfl) (fun _ _ _ h => h) (Or.inl ⟨by rfl, ?_⟩) hHeld ?_
  · intro w hSw; go_simp
  simp only [List.setIfInBounds_toArray, List.set_cons_zero, List.set_cons_succ]
  refine take_at 9 25 (.bool true) rfl rfl (by kernel_rfl) (by kernel_rfl) (by kernel_rfl) (fun _ _ _ h => h) (Or.inl ⟨by rfl, ?_⟩) hHeld ?_
  · intro w hSw; go_simp
  simp only [List.setIfInBounds_toArray, List.set_cons_zero, List.set_cons_succ]
  refine take_at 10 26 (.agg #[.int .u64 (a.lo : Int), .int .u64 (a.hi : Int)]) rfl rfl (by kernel_rfl) (by kernel_rfl) (by kernel_rfl) (fun _ _ _ h => h) (Or.inl ⟨by rfl, ?_⟩) hHeld ?_
  · intro w hSw; have c := At.two (hSw.2.2.1); go_simp
  simp only [List.setIfInBounds_toArray, List.set_cons_zero, List.set_cons_succ]
  refine take_at 12 28 (.agg #[.int .u64 (b.lo : Int), .int .u64 (b.hi : Int)]) rfl rfl (by kernel_rfl) (by kernel_rfl) (by kernel_rfl) (fun _ _ _ h => h) (Or.inl ⟨by rfl, ?_⟩) hHeld ?_
  · intro w hSw; have c := At.two (hSw.2.2.2); go_simp
  simp only [List.setIfInBounds_toArray, List.set_cons_zero, List.set_cons_succ]
  refine wpAnyH_ready (rs := [6]) (by kernel_rfl) (by simp) ?_
  refine AllReadyH.cons rfl (fun K hK => ?_) AllReadyH.nil
  go_simp
  refine (KD.out _).mono ?_
  rintro ze wr1 ⟨rfl, hc⟩
  refine hK.out _ _ ⟨hHeld.1.trans hc, Af.calm (hHeld.2.1) hc, At.calm (hHeld.2.2.1) hc, At.calm (hHeld.2.2.2) hc⟩ (fun hHeld => ?_)
  clear hK K
  try simp only [List.setIfInBounds_toArray, List.set_cons_zero, List.set_cons_succ]
  refine wpAnyH_ready (rs := [7]) (by kernel_rfl) (by simp) ?_
  refine AllReadyH.cons rfl (fun K hK => ?_) AllReadyH.nil
  go_simp
  refine (OF.out r _).mono ?_
  rintro ze wr2 ⟨rfl, hc⟩
  refine hK.out _ _ ⟨hHeld.1.trans hc, Af.calm (hHeld.2.1) hc, At.calm (hHeld.2.2.1) hc, At.calm (hHeld.2.2.2) hc⟩ (fun hHeld => ?_)
  clear hK K
  try simp only [List.setIfInBounds_toArray, List.set_cons_zero, List.set_cons_succ]
  refine wpAnyH_ready (rs := [11]) (by kernel_rfl) (by simp) ?_
  refine AllReadyH.cons rfl (fun K hK => ?_) AllReadyH.nil
  go_simp
  refine (OF.out a _).mono ?_
  rintro ze wr3 ⟨rfl, hc⟩
  refine hK.out _ _ ⟨hHeld.1.trans hc, Af.calm (hHeld.2.1) hc, At.calm (hHeld.2.2.1) hc, At.calm (hHeld.2.2.2) hc⟩ (fun hHeld => ?_)
  clear hK K
  try simp only [List.setIfInBounds_toArray, List.set_cons_zero, List.set_cons_succ]
  refine wpAnyH_ready (rs := [13]) (by kernel_rfl) (by simp) ?_
  refine AllReadyH.cons rfl (fun K hK => ?_) AllReadyH.nil
  go_simp
  refine (OF.out b _).mono ?_
  rintro ze wr4 ⟨rfl, hc⟩
  refine hK.out _ _ ⟨hHeld.1.trans hc, Af.calm (hHeld.2.1) hc, At.calm (hHeld.2.2.1) hc, At.calm (hHeld.2.2.2) hc⟩ (fun hHeld => ?_)
  clear hK K
  try simp only [List.setIfInBounds_toArray, List.set_cons_zero, List.set_cons_succ]
  refine wpAnyH_ready (rs := [14]) (by kernel_rfl) (by simp) ?_
  refine AllReadyH.cons rfl (fun K hK => ?_) AllReadyH.nil
  go_simp
  refine (KR.out _).mono ?_
  rintro ze wr5 ⟨rfl, hc⟩
  refine hK.out _ _ ⟨hHeld.1.trans hc, Af.calm (hHeld.2.1) hc, At.calm (hHeld.2.2.1) hc, At.calm (hHeld.2.2.2) hc⟩ (fun hHeld => ?_)
  clear hK K
  try simp only [List.setIfInBounds_toArray, List.set_cons_zero, List.set_cons_succ]
  refine take_at 15 31 (.bool true) rfl rfl (by kernel_rfl) (by kernel_rfl) (by kernel_rfl) (fun _ _ _ h => h) (Or.inl ⟨by rfl, ?_⟩) hHeld ?_
  · intro w hSw; go_simp
  simp only [List.setIfInBounds_toArray, List.set_cons_zero, List.set_cons_succ]
  refine take_at 16 32 (.bool true) rfl rfl (by kernel_rfl) (by kernel_rfl) (by kernel_rfl) (fun _ _ _ h => h) (Or.inl ⟨by rfl, ?_⟩) hHeld ?_
  · intro w hSw; go_simp
  simp only [List.setIfInBounds_toArray, List.set_cons_zero, List.set_cons_succ]
  refine take_at 17 6 (.bool true) rfl rfl (by kernel_rfl) (by kernel_rfl) (by kernel_rfl) (fun _ _ _ h => h) (Or.inl ⟨by rfl, ?_⟩) hHeld ?_
  · intro w hSw; go_simp
  simp only [List.setIfInBounds_toArray, List.set_cons_zero, List.set_cons_succ]
  refine wpAnyH_done (by kernel_rfl) (NoPanic.normal ?_) _
  replace E := Lib.hid (show Calm w wr5 ∧ Af wr5 g1 f0 f1 f2 f3 ∧ At wr5 g2 a ∧ At wr5 g3 b from hHeld)
  clear hHeld
  obtain ⟨g1_0, g1_1, g1_2, g1_3⟩ := Af.four (E.out.2.1)
  obtain ⟨g2_0, g2_1, g2_2, g2_3⟩ := At.two (E.out.2.2.1)
  obtain ⟨g3_0, g3_1, g3_2, g3_3⟩ := At.two (E.out.2.2.2)
  go_wp2_with fail
  clear g1_0 g1_1 g1_2 g1_3 g2_0 g2_1 g2_2 g2_3 g3_0 g3_1 g3_2 g3_3
  go_returns
  exact ⟨rfl, E.out.1⟩

set_option maxHeartbeats 6400000 in
set_option maxRecDepth 20000 in
theorem spanDoes_false {op f0 f1 f2 f3 : Nat} (hf0 : f0 < 18446744073709551616) (hf1 : f1 < 18446744073709551616) (hf2 : f2 < 18446744073709551616) (hf3 : f3 < 18446744073709551616) (w : World) : Calls Try.prog 3 #[.int .u8 (op : Int), .bool false, .agg #[.int .u64 (f0 : Int), .int .u64 (f1 : Int), .int .u64 (f2 : Int), .int .u64 (f3 : Int)]] w fun e w' => e = .returned (.bool true) ∧ Calm w w' := by
  obtain ⟨a, ea⟩ : ∃ a, a = rS f0 f1 := ⟨_, rfl⟩
  obtain ⟨b, eb⟩ : ∃ b, b = rS f2 f3 := ⟨_, rfl⟩
  have oka : a.Ok := by rw [ea]; exact rS_ok hf0 hf1
  have okb : b.Ok := by rw [eb]; exact rS_ok hf2 hf3
  obtain ⟨r, er⟩ : ∃ r, r = doS false op a b := ⟨_, rfl⟩
  have KA : Hid (∀ w, Calls Try.prog 12 #[.agg #[.int .u64 (f0 : Int), .int .u64 (f1 : Int), .int .u64 (f2 : Int), .int .u64 (f3 : Int)]] w fun x w' => x = .returned (.tuple #[.agg #[.int .u64 (a.lo : Int), .int .u64 (a.hi : Int)], .agg #[.int .u64 (b.lo : Int), .int .u64 (b.hi : Int)]]) ∧ Calm w w') := Lib.hid (by rw [ea, eb]; exact fun w => spans8_c w f0 f1 f2 f3)
  have KD : Hid (∀ w, Calls Try.prog 14 #[.int .u8 (op : Int), .bool false, .agg #[.int .u64 (a.lo : Int), .int .u64 (a.hi : Int)], .agg #[.int .u64 (b.lo : Int), .int .u64 (b.hi : Int)]] w fun e w' => e = .returned (.agg #[.int .u64 (r.lo : Int), .int .u64 (r.hi : Int)]) ∧ Calm w w') := Lib.hid (by rw [er]; exact fun w => pdo_c false oka okb w)
  have KR : Hid (∀ w, Calls Try.prog 15 #[.int .u8 (op : Int), .bool false, .agg #[.int .u64 (a.lo : Int), .int .u64 (a.hi : Int)], .agg #[.int .u64 (b.lo : Int), .int .u64 (b.hi : Int)]] w fun e w' => e = .returned (.agg #[.int .u64 (r.lo : Int), .int .u64 (r.hi : Int)]) ∧ Calm w w') := Lib.hid (by rw [er]; exact fun w => rDo_c false oka okb w)
  have OF : Hid (∀ s : Sp, ∀ w, Calls Try.prog 13 #[.agg #[.int .u64 (s.lo : Int), .int .u64 (s.hi : Int)]] w fun e w' => e = .returned (.agg #[.int .u64 (s.lo : Int), .int .u64 (s.hi : Int)]) ∧ Calm w w') := Lib.hid of8_c
  clear hf0 hf1 hf2 hf3 ea eb oka okb er
  go_enter Try.func3, Try.ntmps3
  have E := Lib.hid (show Calm w w from Keep.refl _ _)
  go_upto_region 1 with fail
  have hC : Calm w (w.alloc (.cells #[.int .u64 (f0 : Int), .int .u64 (f1 : Int), .int .u64 (f2 : Int), .int .u64 (f3 : Int)] 24)) := (Keep.refl _ _).alloc _
  have hA : Af (w.alloc (.cells #[.int .u64 (f0 : Int), .int .u64 (f1 : Int), .int .u64 (f2 : Int), .int .u64 (f3 : Int)] 24)) w.heap.size f0 f1 f2 f3 := Row.made w _ _
  have hO : w.heap.size ≤ w.heap.size := E.out.size
  obtain ⟨g1, hg1⟩ : ∃ zg, zg = w.heap.size := ⟨_, rfl⟩
  obtain ⟨w1, hw1⟩ : ∃ zz, zz = w.alloc (.cells #[.int .u64 (f0 : Int), .int .u64 (f1 : Int), .int .u64 (f2 : Int), .int .u64 (f3 : Int)] 24) := ⟨_, rfl⟩
  replace hO : w.heap.size ≤ g1 := by rw [hg1]; exact hO
  rw [← hg1] at hA ⊢
  rw [← hw1] at hA hC ⊢
  clear hg1 hw1
  have O1 := Lib.hid hO
  clear hO
  replace E := Lib.hid (show Calm w w1 from E.out.trans (hC))
  replace E := Lib.hid (show Calm w w1 ∧ Af w1 g1 f0 f1 f2 f3 from ⟨E.out, hA⟩)
  clear hC hA
  obtain ⟨g1_0, g1_1, g1_2, g1_3⟩ := Af.four (E.out.2)
  go_wp2_with fail
  clear g1_0 g1_1 g1_2 g1_3
  refine (shown8_c _).mono ?_
  rintro ze w2 ⟨rfl, hc⟩
  replace E := Lib.hid (show Calm w w2 ∧ Af w2 g1 f0 f1 f2 f3 from ⟨E.out.1.trans (hc), Af.calm (E.out.2) (hc)⟩)
  clear hc
  obtain ⟨g1_0, g1_1, g1_2, g1_3⟩ := Af.four (E.out.2)
  go_wp2_with fail
  clear g1_0 g1_1 g1_2 g1_3
  refine (KA.out _).mono ?_
  rintro ze w3 ⟨rfl, hc⟩
  replace E := Lib.hid (show Calm w w3 ∧ Af w3 g1 f0 f1 f2 f3 from ⟨E.out.1.trans (hc), Af.calm (E.out.2) (hc)⟩)
  clear hc
  obtain ⟨g1_0, g1_1, g1_2, g1_3⟩ := Af.four (E.out.2)
  go_upto_region 3 with fail
  clear g1_0 g1_1 g1_2 g1_3
  have hC : Calm w3 ((w3.alloc (.cells #[.int .u64 (a.lo : Int), .int .u64 (a.hi : Int)] 27)).alloc (.cells #[.int .u64 (b.lo : Int), .int .u64 (b.hi : Int)] 27)) := ((Keep.refl _ _).alloc _).alloc _
  have hA : At ((w3.alloc (.cells #[.int .u64 (a.lo : Int), .int .u64 (a.hi : Int)] 27)).alloc (.cells #[.int .u64 (b.lo : Int), .int .u64 (b.hi : Int)] 27)) w3.heap.size a := (Row.made w3 _ _).alloc _
  have hB : At ((w3.alloc (.cells #[.int .u64 (a.lo : Int), .int .u64 (a.hi : Int)] 27)).alloc (.cells #[.int .u64 (b.lo : Int), .int .u64 (b.hi : Int)] 27)) (w3.heap.size + 1) b := by
    have e : At ((w3.alloc (.cells #[.int .u64 (a.lo : Int), .int .u64 (a.hi : Int)] 27)).alloc (.cells #[.int .u64 (b.lo : Int), .int .u64 (b.hi : Int)] 27)) (w3.alloc (.cells #[.int .u64 (a.lo : Int), .int .u64 (a.hi : Int)] 27)).heap.size b := Row.made _ _ _
    simp only [World.size_alloc] at e
    exact e
  have hO : w.heap.size ≤ w3.heap.size ∧ g1 < w3.heap.size := ⟨E.out.1.size, Af.lt (E.out.2)⟩
  obtain ⟨g2, hg2⟩ : ∃ zg, zg = w3.heap.size := ⟨_, rfl⟩
  obtain ⟨w4, hw4⟩ : ∃ zz, zz = (w3.alloc (.cells #[.int .u64 (a.lo : Int), .int .u64 (a.hi : Int)] 27)).alloc (.cells #[.int .u64 (b.lo : Int), .int .u64 (b.hi : Int)] 27) := ⟨_, rfl⟩
  replace hO : w.heap.size ≤ g2 ∧ g1 < g2 := by rw [hg2]; exact hO
  rw [← hg2] at hA hB ⊢
  rw [← hw4] at hA hB hC ⊢
  clear hg2 hw4
  obtain ⟨g3, hg3⟩ : ∃ zg, zg = g2 + 1 := ⟨_, rfl⟩
  rw [← hg3] at hB ⊢
  have O2 := Lib.hid hO
  have O3 : Hid (w.heap.size ≤ g3 ∧ g1 < g3 ∧ g2 < g3) := Lib.hid (by have := O2.out; omega)
  clear hO
  clear hg3
  replace E := Lib.hid (show Calm w w4 ∧ Af w4 g1 f0 f1 f2 f3 from ⟨E.out.1.trans (hC), Af.calm (E.out.2) (hC)⟩)
  replace E := Lib.hid (show Calm w w4 ∧ Af w4 g1 f0 f1 f2 f3 ∧ At w4 g2 a ∧ At w4 g3 b from ⟨E.out.1, E.out.2, hA, hB⟩)
  clear hC hA hB
  refine wp_region_noPanic ?_
  refine wp_region_held_drew (S := fun w' => Calm w w' ∧ Af w' g1 f0 f1 f2 f3 ∧ At w' g2 a ∧ At w' g3 b) (by kernel_rfl) ⟨E.out.1.drew, E.out.2.1, E.out.2.2.1, E.out.2.2.2⟩ (fun hHeld => ?_)
  refine take_at 0 16 (.bool true) rfl rfl (by kernel_rfl) (by kernel_rfl) (by kernel_rfl) (fun _ _ _ h => h) (Or.inl ⟨by rfl, ?_⟩) hHeld ?_
  · intro w hSw; go_simp
  simp only [List.setIfInBounds_toArray, List.set_cons_zero, List.set_cons_succ]
  refine take_at 1 17 (.bool true) rfl rfl (by kernel_rfl) (by kernel_rfl) (by kernel_rfl) (fun _ _ _ h => h) (Or.inl ⟨by rfl, ?_⟩) hHeld ?_
  · intro w hSw; go_simp
  simp only [List.setIfInBounds_toArray, List.set_cons_zero, List.set_cons_succ]
  refine take_at 2 18 (.int .u8 (op : Int)) rfl rfl (by kernel_rfl) (by kernel_rfl) (by kernel_rfl) (fun _ _ _ h => h) (Or.inl ⟨by rfl, ?_⟩) hHeld ?_
  · intro w hSw; go_simp
  simp only [List.setIfInBounds_toArray, List.set_cons_zero, List.set_cons_succ]
  refine take_at 3 19 (.bool false) rfl rfl (by kernel_rfl) (by kernel_rfl) (by kernel_rfl) (fun _ _ _ h => h) (Or.inl ⟨by rfl, ?_⟩) hHeld ?_
  · intro w hSw; go_simp
  simp only [List.setIfInBounds_toArray, List.set_cons_zero, List.set_cons_succ]
  refine take_at 4 20 (.agg #[.int .u64 (a.lo : Int), .int .u64 (a.hi : Int)]) rfl rfl (by kernel_rfl) (by kernel_rfl) (by kernel_rfl) (fun _ _ _ h => h) (Or.inl ⟨by rfl, ?_⟩) hHeld ?_
  · intro w hSw; have c := At.two (hSw.2.2.1); go_simp
  simp only [List.setIfInBounds_toArray, List.set_cons_zero, List.set_cons_succ]
  refine take_at 5 21 (.agg #[.int .u64 (b.lo : Int), .int .u64 (b.hi : Int)]) rfl rfl (by kernel_rfl) (by kernel_rfl) (by kernel_rfl) (fun _ _ _ h => h) (Or.inl ⟨by rfl, ?_⟩) hHeld ?_
  · intro w hSw; have c := At.two (hSw.2.2.2); go_simp
  simp only [List.setIfInBounds_toArray, List.set_cons_zero, List.set_cons_succ]
  refine take_at 8 24 (.int .u8 (op : Int)) rfl rfl (by kernel_rfl) (by kernel_rfl) (by kernel_rfl) (fun _ _ _ h => h) (Or.inl ⟨by rfl, ?_⟩) hHeld ?_
  · intro w hSw; go_simp
  simp only [List.setIfInBounds_toArray, List.set_cons_zero, List.set_cons_succ]
  refine take_at 9 25 (.bool false) rfl rfl (by kernel_rfl) (by kernel_rfl) (by kernel_rfl) (fun _ _ _ h => h) (Or.inl ⟨by rfl, ?_⟩) hHeld ?_
  · intro w hSw; go_simp
  simp only [List.setIfInBounds_toArray, List.set_cons_zero, List.set_cons_succ]
  refine take_at 10 26 (.agg #[.int .u64 (a.lo : Int), .int .u64 (a.hi : Int)]) rfl rfl (by kernel_rfl) (by kernel_rfl) (by kernel_rfl) (fun _ _ _ h => h) (Or.inl ⟨by rfl, ?_⟩) hHeld ?_
  · intro w hSw; have c := At.two (hSw.2.2.1); go_simp
  simp only [List.setIfInBounds_toArray, List.set_cons_zero, List.set_cons_succ]
  refine take_at 12 28 (.agg #[.int .u64 (b.lo : Int), .int .u64 (b.hi : Int)]) rfl rfl (by kernel_rfl) (by kernel_rfl) (by kernel_rfl) (fun _ _ _ h => h) (Or.inl ⟨by rfl, ?_⟩) hHeld ?_
  · intro w hSw; have c := At.two (hSw.2.2.2); go_simp
  simp only [List.setIfInBounds_toArray, List.set_cons_zero, List.set_cons_succ]
  refine wpAnyH_ready (rs := [6]) (by kernel_rfl) (by simp) ?_
  refine AllReadyH.cons rfl (fun K hK => ?_) AllReadyH.nil
  go_simp
  refine (KD.out _).mono ?_
  rintro ze wr1 ⟨rfl, hc⟩
  refine hK.out _ _ ⟨hHeld.1.trans hc, Af.calm (hHeld.2.1) hc, At.calm (hHeld.2.2.1) hc, At.calm (hHeld.2.2.2) hc⟩ (fun hHeld => ?_)
  clear hK K
  try simp only [List.setIfInBounds_toArray, List.set_cons_zero, List.set_cons_succ]
  refine wpAnyH_ready (rs := [7]) (by kernel_rfl) (by simp) ?_
  refine AllReadyH.cons rfl (fun K hK => ?_) AllReadyH.nil
  go_simp
  refine (OF.out r _).mono ?_
  rintro ze wr2 ⟨rfl, hc⟩
  refine hK.out _ _ ⟨hHeld.1.trans hc, Af.calm (hHeld.2.1) hc, At.calm (hHeld.2.2.1) hc, At.calm (hHeld.2.2.2) hc⟩ (fun hHeld => ?_)
  clear hK K
  try simp only [List.setIfInBounds_toArray, List.set_cons_zero, List.set_cons_succ]
  refine wpAnyH_ready (rs := [11]) (by kernel_rfl) (by simp) ?_
  refine AllReadyH.cons rfl (fun K hK => ?_) AllReadyH.nil
  go_simp
  refine (OF.out a _).mono ?_
  rintro ze wr3 ⟨rfl, hc⟩
  refine hK.out _ _ ⟨hHeld.1.trans hc, Af.calm (hHeld.2.1) hc, At.calm (hHeld.2.2.1) hc, At.calm (hHeld.2.2.2) hc⟩ (fun hHeld => ?_)
  clear hK K
  try simp only [List.setIfInBounds_toArray, List.set_cons_zero, List.set_cons_succ]
  refine wpAnyH_ready (rs := [13]) (by kernel_rfl) (by simp) ?_
  refine AllReadyH.cons rfl (fun K hK => ?_) AllReadyH.nil
  go_simp
  refine (OF.out b _).mono ?_
  rintro ze wr4 ⟨rfl, hc⟩
  refine hK.out _ _ ⟨hHeld.1.trans hc, Af.calm (hHeld.2.1) hc, At.calm (hHeld.2.2.1) hc, At.calm (hHeld.2.2.2) hc⟩ (fun hHeld => ?_)
  clear hK K
  try simp only [List.setIfInBounds_toArray, List.set_cons_zero, List.set_cons_succ]
  refine wpAnyH_ready (rs := [14]) (by kernel_rfl) (by simp) ?_
  refine AllReadyH.cons rfl (fun K hK => ?_) AllReadyH.nil
  go_simp
  refine (KR.out _).mono ?_
  rintro ze wr5 ⟨rfl, hc⟩
  refine hK.out _ _ ⟨hHeld.1.trans hc, Af.calm (hHeld.2.1) hc, At.calm (hHeld.2.2.1) hc, At.calm (hHeld.2.2.2) hc⟩ (fun hHeld => ?_)
  clear hK K
  try simp only [List.setIfInBounds_toArray, List.set_cons_zero, List.set_cons_succ]
  refine take_at 15 31 (.bool true) rfl rfl (by kernel_rfl) (by kernel_rfl) (by kernel_rfl) (fun _ _ _ h => h) (Or.inl ⟨by rfl, ?_⟩) hHeld ?_
  · intro w hSw; go_simp
  simp only [List.setIfInBounds_toArray, List.set_cons_zero, List.set_cons_succ]
  refine take_at 16 32 (.bool true) rfl rfl (by kernel_rfl) (by kernel_rfl) (by kernel_rfl) (fun _ _ _ h => h) (Or.inl ⟨by rfl, ?_⟩) hHeld ?_
  · intro w hSw; go_simp
  simp only [List.setIfInBounds_toArray, List.set_cons_zero, List.set_cons_succ]
  refine take_at 17 6 (.bool true) rfl rfl (by kernel_rfl) (by kernel_rfl) (by kernel_rfl) (fun _ _ _ h => h) (Or.inl ⟨by rfl, ?_⟩) hHeld ?_
  · intro w hSw; go_simp
  simp only [List.setIfInBounds_toArray, List.set_cons_zero, List.set_cons_succ]
  refine wpAnyH_done (by kernel_rfl) (NoPanic.normal ?_) _
  replace E := Lib.hid (show Calm w wr5 ∧ Af wr5 g1 f0 f1 f2 f3 ∧ At wr5 g2 a ∧ At wr5 g3 b from hHeld)
  clear hHeld
  obtain ⟨g1_0, g1_1, g1_2, g1_3⟩ := Af.four (E.out.2.1)
  obtain ⟨g2_0, g2_1, g2_2, g2_3⟩ := At.two (E.out.2.2.1)
  obtain ⟨g3_0, g3_1, g3_2, g3_3⟩ := At.two (E.out.2.2.2)
  go_wp2_with fail
  clear g1_0 g1_1 g1_2 g1_3 g2_0 g2_1 g2_2 g2_3 g3_0 g3_1 g3_2 g3_3
  go_returns
  exact ⟨rfl, E.out.1⟩

theorem spanDoes_w (wide : Bool) {op f0 f1 f2 f3 : Nat} (hf0 : f0 < 18446744073709551616) (hf1 : f1 < 18446744073709551616) (hf2 : f2 < 18446744073709551616) (hf3 : f3 < 18446744073709551616) (w : World) : Calls Try.prog 3 #[.int .u8 (op : Int), .bool wide, .agg #[.int .u64 (f0 : Int), .int .u64 (f1 : Int), .int .u64 (f2 : Int), .int .u64 (f3 : Int)]] w fun e w' => e = .returned (.bool true) ∧ Calm w w' := by
  cases wide
  · exact spanDoes_false hf0 hf1 hf2 hf3 w
  · exact spanDoes_true hf0 hf1 hf2 hf3 w

end Go.Proofs.Ytboiakahhkihiaa
