/-
  The walk of SpanLeaves.
-/
import Derived.Test.YtboiakahhkihiaaN9
import Derived.Test.YtboiakahhkihiaaNQ
namespace Go.Proofs.Ytboiakahhkihiaa
open Go.RowKit
set_option linter.all false

set_option maxHeartbeats 6400000 in
set_option maxRecDepth 20000 in
theorem spanLeaves_w {op f0 f1 f2 f3 m n : Nat} (hf0 : f0 < 18446744073709551616) (hf1 : f1 < 18446744073709551616) (hf2 : f2 < 18446744073709551616) (hf3 : f3 < 18446744073709551616) (hm : m < 18446744073709551616) (hn : n < 18446744073709551616) (w : World) : Calls Try.prog 6 #[.int .u8 (op : Int), .agg #[.int .u64 (f0 : Int), .int .u64 (f1 : Int), .int .u64 (f2 : Int), .int .u64 (f3 : Int)], .int .u64 (m : Int), .int .u64 (n : Int)] w fun e w' => e = .returned (.bool true) ∧ Calm w w' := by
  obtain ⟨a, ea⟩ : ∃ a, a = rS f0 f1 := ⟨_, rfl⟩
  obtain ⟨b, eb⟩ : ∃ b, b = rS f2 f3 := ⟨_, rfl⟩
  have oka : a.Ok := by rw [ea]; exact rS_ok hf0 hf1
  have okb : b.Ok := by rw [eb]; exact rS_ok hf2 hf3
  obtain ⟨x, ex⟩ : ∃ x, x = inN a m := ⟨_, rfl⟩
  obtain ⟨y, ey⟩ : ∃ y, y = inN b n := ⟨_, rfl⟩
  have inx : Sp.In x a := by rw [ex]; exact inN_in oka hm
  have iny : Sp.In y b := by rw [ey]; exact inN_in okb hn
  have lx : x < 18446744073709551616 := Nat.lt_of_le_of_lt inx.2 oka.h
  have ly : y < 18446744073709551616 := Nat.lt_of_le_of_lt iny.2 okb.h
  obtain ⟨h, eh⟩ : ∃ h, h = T 64 op x y := ⟨_, rfl⟩
  obtain ⟨k, ek⟩ : ∃ k, k = isT op := ⟨_, rfl⟩
  obtain ⟨s, es⟩ : ∃ s, s = (whereS op a b).1 := ⟨_, rfl⟩
  obtain ⟨u, eu⟩ : ∃ u, u = (whereS op a b).2 := ⟨_, rfl⟩
  have H1 : Hid (h = true → u = true ∧ Sp.In x s) := Lib.hid (by rw [eh, eu, es]; exact where_in op inx iny oka.h okb.h)
  have H2 : Hid (u = true → s.lo ≤ s.hi ∧ a.lo ≤ s.lo ∧ s.hi ≤ a.hi) := Lib.hid (by rw [eu, es]; exact where_ok op oka)
  have KA : Hid (∀ w, Calls Try.prog 12 #[.agg #[.int .u64 (f0 : Int), .int .u64 (f1 : Int), .int .u64 (f2 : Int), .int .u64 (f3 : Int)]] w fun x w' => x = .returned (.tuple #[.agg #[.int .u64 (a.lo : Int), .int .u64 (a.hi : Int)], .agg #[.int .u64 (b.lo : Int), .int .u64 (b.hi : Int)]]) ∧ Calm w w') := Lib.hid (by rw [ea, eb]; exact fun w => spans8_c w f0 f1 f2 f3)
  have KX : Hid (∀ w, Calls Try.prog 28 #[.agg #[.int .u64 (a.lo : Int), .int .u64 (a.hi : Int)], .int .u64 (m : Int)] w fun z w' => z = .returned (.int .u64 (x : Int)) ∧ Calm w w') := Lib.hid (by rw [ex]; exact fun w => in8_c w oka hm)
  have KY : Hid (∀ w, Calls Try.prog 28 #[.agg #[.int .u64 (b.lo : Int), .int .u64 (b.hi : Int)], .int .u64 (n : Int)] w fun z w' => z = .returned (.int .u64 (y : Int)) ∧ Calm w w') := Lib.hid (by rw [ey]; exact fun w => in8_c w okb hn)
  have KT : Hid (∀ w, Calls Try.prog 29 #[.int .u8 (op : Int), .bool true, .int .u64 (x : Int), .int .u64 (y : Int)] w fun z w' => z = .returned (.tuple #[.bool h, .bool k]) ∧ Calm w w') := Lib.hid (by rw [eh, ek]; exact fun w => test_c true w lx ly)
  have KS : Hid (∀ w, Calls Try.prog 16 #[.int .u8 (op : Int), .agg #[.int .u64 (a.lo : Int), .int .u64 (a.hi : Int)], .agg #[.int .u64 (b.lo : Int), .int .u64 (b.hi : Int)]] w fun z w' => z = .returned (.tuple #[.agg #[.int .u64 (s.lo : Int), .int .u64 (s.hi : Int)], .bool u]) ∧ Calm w w') := Lib.hid (by rw [es, eu]; exact fun w => pwhere_c w oka okb)
  have KH : Hid (Sp.In x s → ∀ w, Calls Try.prog 26 #[.agg #[.int .u64 (s.lo : Int), .int .u64 (s.hi : Int)], .int .u64 (x : Int)] w fun z w' => z = .returned (.bool true) ∧ Calm w w') := Lib.hid fun hi w => by
    have k := phas_c s x w
    rw [decide_eq_true (show s.lo ≤ x ∧ x ≤ s.hi from hi)] at k
    exact k
  have KR : Hid (s.lo ≤ s.hi → ∀ w, Calls Try.prog 25 #[.agg #[.int .u64 (s.lo : Int), .int .u64 (s.hi : Int)]] w fun z w' => z = .returned (.bool true) ∧ w' = w.alloc (.cells #[.int .u64 (s.lo : Int), .int .u64 (s.hi : Int)] 27)) := Lib.hid fun hi w => by
    have k := pright_c s.lo s.hi w
    rw [decide_eq_true hi] at k
    exact k
  clear hf0 hf1 hf2 hf3 hm hn ea eb oka okb ex ey inx iny lx ly eh ek es eu
  go_enter Try.func6, Try.ntmps6
  have E := Lib.hid (show Calm w w from Keep.refl _ _)
  go_upto_region 1 with fail
  have hC : Calm w (w.alloc (.cells #[.int .u64 (f0 : Int), .int .u64 (f1 : Int), .int .u64 (f2 : Int), .int .u64 (f3 : Int)] 24)) := (Keep.refl _ _).alloc _
  have hA : Af (w.alloc (.cells #[.int .u64 (f0 : Int), .int .u64 (f1 : Int), .int .u64 (f2 : Int), .int .u64 (f3 : Int)] 24)) w.heap.size f0 f1 f2 f3 := Row.made w _ _
  have hO : w.heap.size ≤ w.heap.size := E.out.size
  obtain ⟨g1, hg1⟩ : ∃ zg, zg = w.heap.size := ⟨_, rfl⟩
  obtain ⟨w1, hw1⟩ : ∃ zz, zz = w.alloc (.cells #[.int .u64 (f0 : Int), .int .u64 (f1 : Int), .int .u64 (f2 : Int), .int .u64 (f3 : Int)] 24) := ⟨_, rfl⟩
  replace hO : w.heap.size ≤ g1 := by rw [hg1]; exact hO
  rw [← hg1] at hA ⊢
  rw [← hw1] at hA hC ⊢
  clear hg1 hw1
  have O1 := Lib.hid hO
  clear hO
  replace E := Lib.hid (show Calm w w1 from E.out.trans (hC))
  replace E := Lib.hid (show Calm w w1 ∧ Af w1 g1 f0 f1 f2 f3 from ⟨E.out, hA⟩)
  clear hC hA
  obtain ⟨g1_0, g1_1, g1_2, g1_3⟩ := Af.four (E.out.2)
  go_wp2_with fail
  clear g1_0 g1_1 g1_2 g1_3
  refine (shown8_c _).mono ?_
  rintro ze w2 ⟨rfl, hc⟩
  replace E := Lib.hid (show Calm w w2 ∧ Af w2 g1 f0 f1 f2 f3 from ⟨E.out.1.trans (hc), Af.calm (E.out.2) (hc)⟩)
  clear hc
  obtain ⟨g1_0, g1_1, g1_2, g1_3⟩ := Af.four (E.out.2)
  go_wp2_with fail
  clear g1_0 g1_1 g1_2 g1_3
  refine (KA.out _).mono ?_
  rintro ze w3 ⟨rfl, hc⟩
  replace E := Lib.hid (show Calm w w3 ∧ Af w3 g1 f0 f1 f2 f3 from ⟨E.out.1.trans (hc), Af.calm (E.out.2) (hc)⟩)
  clear hc
  obtain ⟨g1_0, g1_1, g1_2, g1_3⟩ := Af.four (E.out.2)
  go_upto_region 3 with fail
  clear g1_0 g1_1 g1_2 g1_3
  have hC : Calm w3 ((w3.alloc (.cells #[.int .u64 (a.lo : Int), .int .u64 (a.hi : Int)] 27)).alloc (.cells #[.int .u64 (b.lo : Int), .int .u64 (b.hi : Int)] 27)) := ((Keep.refl _ _).alloc _).alloc _
  have hA : At ((w3.alloc (.cells #[.int .u64 (a.lo : Int), .int .u64 (a.hi : Int)] 27)).alloc (.cells #[.int .u64 (b.lo : Int), .int .u64 (b.hi : Int)] 27)) w3.heap.size a := (Row.made w3 _ _).alloc _
  have hB : At ((w3.alloc (.cells #[.int .u64 (a.lo : Int), .int .u64 (a.hi : Int)] 27)).alloc (.cells #[.int .u64 (b.lo : Int), .int .u64 (b.hi : Int)] 27)) (w3.heap.size + 1) b := by
    have e : At ((w3.alloc (.cells #[.int .u64 (a.lo : Int), .int .u64 (a.hi : Int)] 27)).alloc (.cells #[.int .u64 (b.lo : Int), .int .u64 (b.hi : Int)] 27)) (w3.alloc (.cells #[.int .u64 (a.lo : Int), .int .u64 (a.hi : Int)] 27)).heap.size b := Row.made _ _ _
    simp only [World.size_alloc] at e
    exact e
  have hO : w.heap.size ≤ w3.heap.size ∧ g1 < w3.heap.size := ⟨E.out.1.size, Af.lt (E.out.2)⟩
  obtain ⟨g2, hg2⟩ : ∃ zg, zg = w3.heap.size := ⟨_, rfl⟩
  obtain ⟨w4, hw4⟩ : ∃ zz, zz = (w3.alloc (.cells #[.int .u64 (a.lo : Int), .int .u64 (a.hi : Int)] 27)).alloc (.cells #[.int .u64 (b.lo : Int), .int .u64 (b.hi : Int)] 27) := ⟨_, rfl⟩
  replace hO : w.heap.size ≤ g2 ∧ g1 < g2 := by rw [hg2]; exact hO
  rw [← hg2] at hA hB ⊢
  rw [← hw4] at hA hB hC ⊢
  clear hg2 hw4
  obtain ⟨g3, hg3⟩ : ∃ zg, zg = g2 + 1 := ⟨_, rfl⟩
  rw [← hg3] at hB ⊢
  have O2 := Lib.hid hO
  have O3 : Hid (w.heap.size ≤ g3 ∧ g1 < g3 ∧ g2 < g3) := Lib.hid (by have := O2.out; omega)
  clear hO
  clear hg3
  replace E := Lib.hid (show Calm w w4 ∧ Af w4 g1 f0 f1 f2 f3 from ⟨E.out.1.trans (hC), Af.calm (E.out.2) (hC)⟩)
  replace E := Lib.hid (show Calm w w4 ∧ Af w4 g1 f0 f1 f2 f3 ∧ At w4 g2 a ∧ At w4 g3 b from ⟨E.out.1, E.out.2, hA, hB⟩)
  clear hC hA hB
  obtain ⟨g1_0, g1_1, g1_2, g1_3⟩ := Af.four (E.out.2.1)
  obtain ⟨g2_0, g2_1, g2_2, g2_3⟩ := At.two (E.out.2.2.1)
  obtain ⟨g3_0, g3_1, g3_2, g3_3⟩ := At.two (E.out.2.2.2)
  go_wp2_with fail
  clear g1_0 g1_1 g1_2 g1_3 g2_0 g2_1 g2_2 g2_3 g3_0 g3_1 g3_2 g3_3
  refine (KX.out _).mono ?_
  rintro ze w5 ⟨rfl, hc⟩
  replace E := Lib.hid (show Calm w w5 ∧ Af w5 g1 f0 f1 f2 f3 ∧ At w5 g2 a ∧ At w5 g3 b from ⟨E.out.1.trans (hc), Af.calm (E.out.2.1) (hc), At.calm (E.out.2.2.1) (hc), At.calm (E.out.2.2.2) (hc)⟩)
  clear hc
  obtain ⟨g1_0, g1_1, g1_2, g1_3⟩ := Af.four (E.out.2.1)
  obtain ⟨g2_0, g2_1, g2_2, g2_3⟩ := At.two (E.out.2.2.1)
  obtain ⟨g3_0, g3_1, g3_2, g3_3⟩ := At.two (E.out.2.2.2)
  go_wp2_with fail
  clear g1_0 g1_1 g1_2 g1_3 g2_0 g2_1 g2_2 g2_3 g3_0 g3_1 g3_2 g3_3
  refine (KY.out _).mono ?_
  rintro ze w6 ⟨rfl, hc⟩
  replace E := Lib.hid (show Calm w w6 ∧ Af w6 g1 f0 f1 f2 f3 ∧ At w6 g2 a ∧ At w6 g3 b from ⟨E.out.1.trans (hc), Af.calm (E.out.2.1) (hc), At.calm (E.out.2.2.1) (hc), At.calm (E.out.2.2.2) (hc)⟩)
  clear hc
  obtain ⟨g1_0, g1_1, g1_2, g1_3⟩ := Af.four (E.out.2.1)
  obtain ⟨g2_0, g2_1, g2_2, g2_3⟩ := At.two (E.out.2.2.1)
  obtain ⟨g3_0, g3_1, g3_2, g3_3⟩ := At.two (E.out.2.2.2)
  go_wp2_with fail
  clear g1_0 g1_1 g1_2 g1_3 g2_0 g2_1 g2_2 g2_3 g3_0 g3_1 g3_2 g3_3
  refine (KT.out _).mono ?_
  rintro ze w7 ⟨rfl, hc⟩
  replace E := Lib.hid (show Calm w w7 ∧ Af w7 g1 f0 f1 f2 f3 ∧ At w7 g2 a ∧ At w7 g3 b from ⟨E.out.1.trans (hc), Af.calm (E.out.2.1) (hc), At.calm (E.out.2.2.1) (hc), At.calm (E.out.2.2.2) (hc)⟩)
  clear hc
  obtain ⟨g1_0, g1_1, g1_2, g1_3⟩ := Af.four (E.out.2.1)
  obtain ⟨g2_0, g2_1, g2_2, g2_3⟩ := At.two (E.out.2.2.1)
  obtain ⟨g3_0, g3_1, g3_2, g3_3⟩ := At.two (E.out.2.2.2)
  go_wp2_with fail
  clear g1_0 g1_1 g1_2 g1_3 g2_0 g2_1 g2_2 g2_3 g3_0 g3_1 g3_2 g3_3
  refine (KS.out _).mono ?_
  rintro ze w8 ⟨rfl, hc⟩
  replace E := Lib.hid (show Calm w w8 ∧ Af w8 g1 f0 f1 f2 f3 ∧ At w8 g2 a ∧ At w8 g3 b from ⟨E.out.1.trans (hc), Af.calm (E.out.2.1) (hc), At.calm (E.out.2.2.1) (hc), At.calm (E.out.2.2.2) (hc)⟩)
  clear hc
  obtain ⟨g1_0, g1_1, g1_2, g1_3⟩ := Af.four (E.out.2.1)
  obtain ⟨g2_0, g2_1, g2_2, g2_3⟩ := At.two (E.out.2.2.1)
  obtain ⟨g3_0, g3_1, g3_2, g3_3⟩ := At.two (E.out.2.2.2)
  go_upto_region 6 with fail
  clear g1_0 g1_1 g1_2 g1_3 g2_0 g2_1 g2_2 g2_3 g3_0 g3_1 g3_2 g3_3
  have hC : Calm w8 (w8.alloc (.cells #[.int .u64 (s.lo : Int), .int .u64 (s.hi : Int)] 27)) := (Keep.refl _ _).alloc _
  have hA : At (w8.alloc (.cells #[.int .u64 (s.lo : Int), .int .u64 (s.hi : Int)] 27)) w8.heap.size s := Row.made w8 _ _
  have hO : w.heap.size ≤ w8.heap.size ∧ g1 < w8.heap.size ∧ g2 < w8.heap.size ∧ g3 < w8.heap.size := ⟨E.out.1.size, Af.lt (E.out.2.1), At.lt (E.out.2.2.1), At.lt (E.out.2.2.2)⟩
  obtain ⟨g4, hg4⟩ : ∃ zg, zg = w8.heap.size := ⟨_, rfl⟩
  obtain ⟨w9, hw9⟩ : ∃ zz, zz = w8.alloc (.cells #[.int .u64 (s.lo : Int), .int .u64 (s.hi : Int)] 27) := ⟨_, rfl⟩
  replace hO : w.heap.size ≤ g4 ∧ g1 < g4 ∧ g2 < g4 ∧ g3 < g4 := by rw [hg4]; exact hO
  rw [← hg4] at hA ⊢
  rw [← hw9] at hA hC ⊢
  clear hg4 hw9
  have O4 := Lib.hid hO
  clear hO
  replace E := Lib.hid (show Calm w w9 ∧ Af w9 g1 f0 f1 f2 f3 ∧ At w9 g2 a ∧ At w9 g3 b from ⟨E.out.1.trans (hC), Af.calm (E.out.2.1) (hC), At.calm (E.out.2.2.1) (hC), At.calm (E.out.2.2.2) (hC)⟩)
  replace E := Lib.hid (show Calm w w9 ∧ Af w9 g1 f0 f1 f2 f3 ∧ At w9 g2 a ∧ At w9 g3 b ∧ At w9 g4 s from ⟨E.out.1, E.out.2.1, E.out.2.2.1, E.out.2.2.2, hA⟩)
  clear hC hA
  cases k with
  | false =>
    cases u with
    | false =>
      obtain ⟨g1_0, g1_1, g1_2, g1_3⟩ := Af.four (E.out.2.1)
      obtain ⟨g2_0, g2_1, g2_2, g2_3⟩ := At.two (E.out.2.2.1)
      obtain ⟨g3_0, g3_1, g3_2, g3_3⟩ := At.two (E.out.2.2.2.1)
      obtain ⟨g4_0, g4_1, g4_2, g4_3⟩ := At.two (E.out.2.2.2.2)
      go_wp2_with fail
      clear g1_0 g1_1 g1_2 g1_3 g2_0 g2_1 g2_2 g2_3 g3_0 g3_1 g3_2 g3_3 g4_0 g4_1 g4_2 g4_3
      go_returns
      exact ⟨rfl, E.out.1⟩
    | true =>
      obtain ⟨r1, r2, r3⟩ := H2.out rfl
      have R := Lib.hid (KR.out r1)
      have r2' : a.lo ≤ s.lo := r2
      obtain ⟨g1_0, g1_1, g1_2, g1_3⟩ := Af.four (E.out.2.1)
      obtain ⟨g2_0, g2_1, g2_2, g2_3⟩ := At.two (E.out.2.2.1)
      obtain ⟨g3_0, g3_1, g3_2, g3_3⟩ := At.two (E.out.2.2.2.1)
      obtain ⟨g4_0, g4_1, g4_2, g4_3⟩ := At.two (E.out.2.2.2.2)
      go_wp2_with fail
      clear g1_0 g1_1 g1_2 g1_3 g2_0 g2_1 g2_2 g2_3 g3_0 g3_1 g3_2 g3_3 g4_0 g4_1 g4_2 g4_3
      refine (R.out _).mono ?_
      rintro ze w10 ⟨rfl, hc⟩
      replace hc : Calm w9 w10 := by rw [hc]; exact (Keep.refl _ _).alloc _
      replace E := Lib.hid (show Calm w w10 ∧ Af w10 g1 f0 f1 f2 f3 ∧ At w10 g2 a ∧ At w10 g3 b ∧ At w10 g4 s from ⟨E.out.1.trans (hc), Af.calm (E.out.2.1) (hc), At.calm (E.out.2.2.1) (hc), At.calm (E.out.2.2.2.1) (hc), At.calm (E.out.2.2.2.2) (hc)⟩)
      clear hc
      obtain ⟨g1_0, g1_1, g1_2, g1_3⟩ := Af.four (E.out.2.1)
      obtain ⟨g2_0, g2_1, g2_2, g2_3⟩ := At.two (E.out.2.2.1)
      obtain ⟨g3_0, g3_1, g3_2, g3_3⟩ := At.two (E.out.2.2.2.1)
      obtain ⟨g4_0, g4_1, g4_2, g4_3⟩ := At.two (E.out.2.2.2.2)
      go_wp2_with fail
      clear g1_0 g1_1 g1_2 g1_3 g2_0 g2_1 g2_2 g2_3 g3_0 g3_1 g3_2 g3_3 g4_0 g4_1 g4_2 g4_3
      go_returns
      exact ⟨rfl, E.out.1⟩
  | true =>
    cases h with
    | false =>
      cases u with
      | false =>
        obtain ⟨g1_0, g1_1, g1_2, g1_3⟩ := Af.four (E.out.2.1)
        obtain ⟨g2_0, g2_1, g2_2, g2_3⟩ := At.two (E.out.2.2.1)
        obtain ⟨g3_0, g3_1, g3_2, g3_3⟩ := At.two (E.out.2.2.2.1)
        obtain ⟨g4_0, g4_1, g4_2, g4_3⟩ := At.two (E.out.2.2.2.2)
        go_wp2_with fail
        clear g1_0 g1_1 g1_2 g1_3 g2_0 g2_1 g2_2 g2_3 g3_0 g3_1 g3_2 g3_3 g4_0 g4_1 g4_2 g4_3
        go_returns
        exact ⟨rfl, E.out.1⟩
      | true =>
        obtain ⟨r1, r2, r3⟩ := H2.out rfl
        have R := Lib.hid (KR.out r1)
        have r2' : a.lo ≤ s.lo := r2
        obtain ⟨g1_0, g1_1, g1_2, g1_3⟩ := Af.four (E.out.2.1)
        obtain ⟨g2_0, g2_1, g2_2, g2_3⟩ := At.two (E.out.2.2.1)
        obtain ⟨g3_0, g3_1, g3_2, g3_3⟩ := At.two (E.out.2.2.2.1)
        obtain ⟨g4_0, g4_1, g4_2, g4_3⟩ := At.two (E.out.2.2.2.2)
        go_wp2_with fail
        clear g1_0 g1_1 g1_2 g1_3 g2_0 g2_1 g2_2 g2_3 g3_0 g3_1 g3_2 g3_3 g4_0 g4_1 g4_2 g4_3
        refine (R.out _).mono ?_
        rintro ze w10 ⟨rfl, hc⟩
        replace hc : Calm w9 w10 := by rw [hc]; exact (Keep.refl _ _).alloc _
        replace E := Lib.hid (show Calm w w10 ∧ Af w10 g1 f0 f1 f2 f3 ∧ At w10 g2 a ∧ At w10 g3 b ∧ At w10 g4 s from ⟨E.out.1.trans (hc), Af.calm (E.out.2.1) (hc), At.calm (E.out.2.2.1) (hc), At.calm (E.out.2.2.2.1) (hc), At.calm (E.out.2.2.2.2) (hc)⟩)
        clear hc
        obtain ⟨g1_0, g1_1, g1_2, g1_3⟩ := Af.four (E.out.2.1)
        obtain ⟨g2_0, g2_1, g2_2, g2_3⟩ := At.two (E.out.2.2.1)
        obtain ⟨g3_0, g3_1, g3_2, g3_3⟩ := At.two (E.out.2.2.2.1)
        obtain ⟨g4_0, g4_1, g4_2, g4_3⟩ := At.two (E.out.2.2.2.2)
        go_wp2_with fail
        clear g1_0 g1_1 g1_2 g1_3 g2_0 g2_1 g2_2 g2_3 g3_0 g3_1 g3_2 g3_3 g4_0 g4_1 g4_2 g4_3
        go_returns
        exact ⟨rfl, E.out.1⟩
    | true =>
      obtain ⟨hu, hi⟩ := H1.out rfl
      subst hu
      have HH := Lib.hid (KH.out hi)
      clear hi
      obtain ⟨r1, r2, r3⟩ := H2.out rfl
      have R := Lib.hid (KR.out r1)
      obtain ⟨g1_0, g1_1, g1_2, g1_3⟩ := Af.four (E.out.2.1)
      obtain ⟨g2_0, g2_1, g2_2, g2_3⟩ := At.two (E.out.2.2.1)
      obtain ⟨g3_0, g3_1, g3_2, g3_3⟩ := At.two (E.out.2.2.2.1)
      obtain ⟨g4_0, g4_1, g4_2, g4_3⟩ := At.two (E.out.2.2.2.2)
      go_wp2_with fail
      clear g1_0 g1_1 g1_2 g1_3 g2_0 g2_1 g2_2 g2_3 g3_0 g3_1 g3_2 g3_3 g4_0 g4_1 g4_2 g4_3
      refine (HH.out _).mono ?_
      rintro ze w10 ⟨rfl, hc⟩
      replace E := Lib.hid (show Calm w w10 ∧ Af w10 g1 f0 f1 f2 f3 ∧ At w10 g2 a ∧ At w10 g3 b ∧ At w10 g4 s from ⟨E.out.1.trans (hc), Af.calm (E.out.2.1) (hc), At.calm (E.out.2.2.1) (hc), At.calm (E.out.2.2.2.1) (hc), At.calm (E.out.2.2.2.2) (hc)⟩)
      clear hc
      obtain ⟨g1_0, g1_1, g1_2, g1_3⟩ := Af.four (E.out.2.1)
      obtain ⟨g2_0, g2_1, g2_2, g2_3⟩ := At.two (E.out.2.2.1)
      obtain ⟨g3_0, g3_1, g3_2, g3_3⟩ := At.two (E.out.2.2.2.1)
      obtain ⟨g4_0, g4_1, g4_2, g4_3⟩ := At.two (E.out.2.2.2.2)
      go_wp2_with fail
      clear g1_0 g1_1 g1_2 g1_3 g2_0 g2_1 g2_2 g2_3 g3_0 g3_1 g3_2 g3_3 g4_0 g4_1 g4_2 g4_3
      refine (R.out _).mono ?_
      rintro ze w11 ⟨rfl, hc⟩
      replace hc : Calm w10 w11 := by rw [hc]; exact (Keep.refl _ _).alloc _
      replace E := Lib.hid (show Calm w w11 ∧ Af w11 g1 f0 f1 f2 f3 ∧ At w11 g2 a ∧ At w11 g3 b ∧ At w11 g4 s from ⟨E.out.1.trans (hc), Af.calm (E.out.2.1) (hc), At.calm (E.out.2.2.1) (hc), At.calm (E.out.2.2.2.1) (hc), At.calm (E.out.2.2.2.2) (hc)⟩)
      clear hc
      obtain ⟨g1_0, g1_1, g1_2, g1_3⟩ := Af.four (E.out.2.1)
      obtain ⟨g2_0, g2_1, g2_2, g2_3⟩ := At.two (E.out.2.2.1)
      obtain ⟨g3_0, g3_1, g3_2, g3_3⟩ := At.two (E.out.2.2.2.1)
      obtain ⟨g4_0, g4_1, g4_2, g4_3⟩ := At.two (E.out.2.2.2.2)
      go_wp2_with fail
      clear g1_0 g1_1 g1_2 g1_3 g2_0 g2_1 g2_2 g2_3 g3_0 g3_1 g3_2 g3_3 g4_0 g4_1 g4_2 g4_3
      go_returns
      exact ⟨rfl, E.out.1⟩

end Go.Proofs.Ytboiakahhkihiaa
