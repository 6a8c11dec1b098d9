/-
  The walk of SpanJoins.
-/
import Derived.Test.YtboiakahhkihiaaN9
import Derived.Test.YtboiakahhkihiaaNQ
namespace Go.Proofs.Ytboiakahhkihiaa
open Go.RowKit
set_option linter.all false

set_option maxHeartbeats 6400000 in
set_option maxRecDepth 20000 in
theorem spanJoins_ttt {a b : Sp} {f0 f1 f2 f3 n n' : Nat} (en : bits .and .u64 (n : Int) 4294967295 = (n' : Int)) (ea : a = rS f0 f1) (eb : b = rS f2 f3) (hp : Sp.In n a) (hq : Sp.In n b) (hm : (meetS a b).2 = true) (hl : Sp.In n' (lowS a)) (w : World) : Calls Try.prog 8 #[.agg #[.int .u64 (f0 : Int), .int .u64 (f1 : Int), .int .u64 (f2 : Int), .int .u64 (f3 : Int)], .int .u64 (n : Int)] w fun e w' => e = .returned (.bool true) ∧ Calm w w' := by
  obtain ⟨j, ej⟩ : ∃ j, j = joinS a b := ⟨_, rfl⟩
  have ej' : joinS b a = j := by rw [ej]; simp only [joinS, Sp.mk.injEq]; omega
  obtain ⟨m, em⟩ : ∃ m, m = (meetS a b).1 := ⟨_, rfl⟩
  obtain ⟨l, el⟩ : ∃ l, l = lowS a := ⟨_, rfl⟩
  have KA : Hid (∀ w, Calls Try.prog 12 #[.agg #[.int .u64 (f0 : Int), .int .u64 (f1 : Int), .int .u64 (f2 : Int), .int .u64 (f3 : Int)]] w fun x w' => x = .returned (.tuple #[.agg #[.int .u64 (a.lo : Int), .int .u64 (a.hi : Int)], .agg #[.int .u64 (b.lo : Int), .int .u64 (b.hi : Int)]]) ∧ Calm w w') := Lib.hid (by rw [ea, eb]; exact fun w => spans8_c w f0 f1 f2 f3)
  have KJ : Hid (∀ w, Calls Try.prog 20 #[.agg #[.int .u64 (a.lo : Int), .int .u64 (a.hi : Int)], .agg #[.int .u64 (b.lo : Int), .int .u64 (b.hi : Int)]] w fun x w' => x = .returned (.agg #[.int .u64 (j.lo : Int), .int .u64 (j.hi : Int)]) ∧ Calm w w') := Lib.hid (by rw [ej]; exact fun w => pjoin_c a b w)
  have KB : Hid (∀ w, Calls Try.prog 20 #[.agg #[.int .u64 (b.lo : Int), .int .u64 (b.hi : Int)], .agg #[.int .u64 (a.lo : Int), .int .u64 (a.hi : Int)]] w fun x w' => x = .returned (.agg #[.int .u64 (j.lo : Int), .int .u64 (j.hi : Int)]) ∧ Calm w w') := Lib.hid (by rw [← ej']; exact fun w => pjoin_c b a w)
  have KK : Hid (∀ w, Calls Try.prog 20 #[.agg #[.int .u64 (a.lo : Int), .int .u64 (a.hi : Int)], .agg #[.int .u64 (a.lo : Int), .int .u64 (a.hi : Int)]] w fun x w' => x = .returned (.agg #[.int .u64 (a.lo : Int), .int .u64 (a.hi : Int)]) ∧ Calm w w') := Lib.hid fun w => by
    have k := pjoin_c a a w
    rw [show joinS a a = a by cases a; simp [joinS]] at k
    exact k
  have KM : Hid (∀ w, Calls Try.prog 18 #[.agg #[.int .u64 (a.lo : Int), .int .u64 (a.hi : Int)], .agg #[.int .u64 (b.lo : Int), .int .u64 (b.hi : Int)]] w fun x w' => x = .returned (.tuple #[.agg #[.int .u64 (m.lo : Int), .int .u64 (m.hi : Int)], .bool true]) ∧ Calm w w') := Lib.hid (by rw [em, ← hm]; exact fun w => pmeet_c a b w)
  have KL : Hid (∀ w, Calls Try.prog 23 #[.agg #[.int .u64 (a.lo : Int), .int .u64 (a.hi : Int)]] w fun x w' => x = .returned (.agg #[.int .u64 (l.lo : Int), .int .u64 (l.hi : Int)]) ∧ Calm w w') := Lib.hid (by rw [el]; exact fun w => plow_c a w)
  have HP : Hid (∀ w, Calls Try.prog 26 #[.agg #[.int .u64 (a.lo : Int), .int .u64 (a.hi : Int)], .int .u64 (n : Int)] w fun z w' => z = .returned (.bool true) ∧ Calm w w') := Lib.hid fun w => by
    have k := phas_c a n w
    rw [decide_eq_true (p := a.lo ≤ n ∧ n ≤ a.hi) hp] at k
    exact k
  have HQ : Hid (∀ w, Calls Try.prog 26 #[.agg #[.int .u64 (b.lo : Int), .int .u64 (b.hi : Int)], .int .u64 (n : Int)] w fun z w' => z = .returned (.bool true) ∧ Calm w w') := Lib.hid fun w => by
    have k := phas_c b n w
    rw [decide_eq_true (p := b.lo ≤ n ∧ n ≤ b.hi) hq] at k
    exact k
  have HJ : Hid (∀ w, Calls Try.prog 26 #[.agg #[.int .u64 (j.lo : Int), .int .u64 (j.hi : Int)], .int .u64 (n : Int)] w fun z w' => z = .returned (.bool true) ∧ Calm w w') := Lib.hid fun w => by
    have k := phas_c j n w
    rw [decide_eq_true (p := j.lo ≤ n ∧ n ≤ j.hi) (by rw [ej]; unfold Sp.In at hp hq; show min a.lo b.lo ≤ n ∧ n ≤ max a.hi b.hi; omega)] at k
    exact k
  have HM : Hid (∀ w, Calls Try.prog 26 #[.agg #[.int .u64 (m.lo : Int), .int .u64 (m.hi : Int)], .int .u64 (n : Int)] w fun z w' => z = .returned (.bool true) ∧ Calm w w') := Lib.hid fun w => by
    have k := phas_c m n w
    rw [decide_eq_true (p := m.lo ≤ n ∧ n ≤ m.hi) (by
      have c : max a.lo b.lo ≤ min a.hi b.hi := by
        rcases Nat.lt_or_ge (min a.hi b.hi) (max a.lo b.lo) with h | h
        · rw [meet_no (by omega)] at hm; cases hm
        · exact h
      rw [em, meet_yes c]; unfold Sp.In at hp hq; show (max a.lo b.lo ≤ n ∧ n ≤ min a.hi b.hi); omega)] at k
    exact k
  have HL : Hid (∀ w, Calls Try.prog 26 #[.agg #[.int .u64 (l.lo : Int), .int .u64 (l.hi : Int)], .int .u64 (n' : Int)] w fun z w' => z = .returned (.bool true) ∧ Calm w w') := Lib.hid fun w => by
    have k := phas_c l n' w
    rw [decide_eq_true (p := l.lo ≤ n' ∧ n' ≤ l.hi) (by rw [el]; exact hl)] at k
    exact k
  clear ea eb hp hq hm ej ej' em el hl
  go_enter Try.func8, Try.ntmps8
  have E := Lib.hid (show Calm w w from Keep.refl _ _)
  go_upto_region 1 with fail
  have hC : Calm w (w.alloc (.cells #[.int .u64 (f0 : Int), .int .u64 (f1 : Int), .int .u64 (f2 : Int), .int .u64 (f3 : Int)] 24)) := (Keep.refl _ _).alloc _
  have hA : Af (w.alloc (.cells #[.int .u64 (f0 : Int), .int .u64 (f1 : Int), .int .u64 (f2 : Int), .int .u64 (f3 : Int)] 24)) w.heap.size f0 f1 f2 f3 := Row.made w _ _
  have hO : w.heap.size ≤ w.heap.size := E.out.size
  obtain ⟨g1, hg1⟩ : ∃ zg, zg = w.heap.size := ⟨_, rfl⟩
  obtain ⟨w1, hw1⟩ : ∃ zz, zz = w.alloc (.cells #[.int .u64 (f0 : Int), .int .u64 (f1 : Int), .int .u64 (f2 : Int), .int .u64 (f3 : Int)] 24) := ⟨_, rfl⟩
  replace hO : w.heap.size ≤ g1 := by rw [hg1]; exact hO
  rw [← hg1] at hA ⊢
  rw [← hw1] at hA hC ⊢
  clear hg1 hw1
  have O1 := Lib.hid hO
  clear hO
  replace E := Lib.hid (show Calm w w1 from E.out.trans (hC))
  replace E := Lib.hid (show Calm w w1 ∧ Af w1 g1 f0 f1 f2 f3 from ⟨E.out, hA⟩)
  clear hC hA
  obtain ⟨g1_0, g1_1, g1_2, g1_3⟩ := Af.four (E.out.2)
  go_wp2_with fail
  clear g1_0 g1_1 g1_2 g1_3
  refine (shown8_c _).mono ?_
  rintro ze w2 ⟨rfl, hc⟩
  replace E := Lib.hid (show Calm w w2 ∧ Af w2 g1 f0 f1 f2 f3 from ⟨E.out.1.trans (hc), Af.calm (E.out.2) (hc)⟩)
  clear hc
  obtain ⟨g1_0, g1_1, g1_2, g1_3⟩ := Af.four (E.out.2)
  go_wp2_with fail
  clear g1_0 g1_1 g1_2 g1_3
  refine (KA.out _).mono ?_
  rintro ze w3 ⟨rfl, hc⟩
  replace E := Lib.hid (show Calm w w3 ∧ Af w3 g1 f0 f1 f2 f3 from ⟨E.out.1.trans (hc), Af.calm (E.out.2) (hc)⟩)
  clear hc
  obtain ⟨g1_0, g1_1, g1_2, g1_3⟩ := Af.four (E.out.2)
  go_upto_region 3 with fail
  clear g1_0 g1_1 g1_2 g1_3
  have hC : Calm w3 ((w3.alloc (.cells #[.int .u64 (a.lo : Int), .int .u64 (a.hi : Int)] 27)).alloc (.cells #[.int .u64 (b.lo : Int), .int .u64 (b.hi : Int)] 27)) := ((Keep.refl _ _).alloc _).alloc _
  have hA : At ((w3.alloc (.cells #[.int .u64 (a.lo : Int), .int .u64 (a.hi : Int)] 27)).alloc (.cells #[.int .u64 (b.lo : Int), .int .u64 (b.hi : Int)] 27)) w3.heap.size a := (Row.made w3 _ _).alloc _
  have hB : At ((w3.alloc (.cells #[.int .u64 (a.lo : Int), .int .u64 (a.hi : Int)] 27)).alloc (.cells #[.int .u64 (b.lo : Int), .int .u64 (b.hi : Int)] 27)) (w3.heap.size + 1) b := by
    have e : At ((w3.alloc (.cells #[.int .u64 (a.lo : Int), .int .u64 (a.hi : Int)] 27)).alloc (.cells #[.int .u64 (b.lo : Int), .int .u64 (b.hi : Int)] 27)) (w3.alloc (.cells #[.int .u64 (a.lo : Int), .int .u64 (a.hi : Int)] 27)).heap.size b := Row.made _ _ _
    simp only [World.size_alloc] at e
    exact e
  have hO : w.heap.size ≤ w3.heap.size ∧ g1 < w3.heap.size := ⟨E.out.1.size, Af.lt (E.out.2)⟩
  obtain ⟨g2, hg2⟩ : ∃ zg, zg = w3.heap.size := ⟨_, rfl⟩
  obtain ⟨w4, hw4⟩ : ∃ zz, zz = (w3.alloc (.cells #[.int .u64 (a.lo : Int), .int .u64 (a.hi : Int)] 27)).alloc (.cells #[.int .u64 (b.lo : Int), .int .u64 (b.hi : Int)] 27) := ⟨_, rfl⟩
  replace hO : w.heap.size ≤ g2 ∧ g1 < g2 := by rw [hg2]; exact hO
  rw [← hg2] at hA hB ⊢
  rw [← hw4] at hA hB hC ⊢
  clear hg2 hw4
  obtain ⟨g3, hg3⟩ : ∃ zg, zg = g2 + 1 := ⟨_, rfl⟩
  rw [← hg3] at hB ⊢
  have O2 := Lib.hid hO
  have O3 : Hid (w.heap.size ≤ g3 ∧ g1 < g3 ∧ g2 < g3) := Lib.hid (by have := O2.out; omega)
  clear hO
  clear hg3
  replace E := Lib.hid (show Calm w w4 ∧ Af w4 g1 f0 f1 f2 f3 from ⟨E.out.1.trans (hC), Af.calm (E.out.2) (hC)⟩)
  replace E := Lib.hid (show Calm w w4 ∧ Af w4 g1 f0 f1 f2 f3 ∧ At w4 g2 a ∧ At w4 g3 b from ⟨E.out.1, E.out.2, hA, hB⟩)
  clear hC hA hB
  obtain ⟨g1_0, g1_1, g1_2, g1_3⟩ := Af.four (E.out.2.1)
  obtain ⟨g2_0, g2_1, g2_2, g2_3⟩ := At.two (E.out.2.2.1)
  obtain ⟨g3_0, g3_1, g3_2, g3_3⟩ := At.two (E.out.2.2.2)
  go_wp2_with fail
  clear g1_0 g1_1 g1_2 g1_3 g2_0 g2_1 g2_2 g2_3 g3_0 g3_1 g3_2 g3_3
  refine (KJ.out _).mono ?_
  rintro ze w5 ⟨rfl, hc⟩
  replace E := Lib.hid (show Calm w w5 ∧ Af w5 g1 f0 f1 f2 f3 ∧ At w5 g2 a ∧ At w5 g3 b from ⟨E.out.1.trans (hc), Af.calm (E.out.2.1) (hc), At.calm (E.out.2.2.1) (hc), At.calm (E.out.2.2.2) (hc)⟩)
  clear hc
  obtain ⟨g1_0, g1_1, g1_2, g1_3⟩ := Af.four (E.out.2.1)
  obtain ⟨g2_0, g2_1, g2_2, g2_3⟩ := At.two (E.out.2.2.1)
  obtain ⟨g3_0, g3_1, g3_2, g3_3⟩ := At.two (E.out.2.2.2)
  go_upto_region 4 with fail
  clear g1_0 g1_1 g1_2 g1_3 g2_0 g2_1 g2_2 g2_3 g3_0 g3_1 g3_2 g3_3
  have hC : Calm w5 (w5.alloc (.cells #[.int .u64 (j.lo : Int), .int .u64 (j.hi : Int)] 27)) := (Keep.refl _ _).alloc _
  have hA : At (w5.alloc (.cells #[.int .u64 (j.lo : Int), .int .u64 (j.hi : Int)] 27)) w5.heap.size j := Row.made w5 _ _
  have hO : w.heap.size ≤ w5.heap.size ∧ g1 < w5.heap.size ∧ g2 < w5.heap.size ∧ g3 < w5.heap.size := ⟨E.out.1.size, Af.lt (E.out.2.1), At.lt (E.out.2.2.1), At.lt (E.out.2.2.2)⟩
  obtain ⟨g4, hg4⟩ : ∃ zg, zg = w5.heap.size := ⟨_, rfl⟩
  obtain ⟨w6, hw6⟩ : ∃ zz, zz = w5.alloc (.cells #[.int .u64 (j.lo : Int), .int .u64 (j.hi : Int)] 27) := ⟨_, rfl⟩
  replace hO : w.heap.size ≤ g4 ∧ g1 < g4 ∧ g2 < g4 ∧ g3 < g4 := by rw [hg4]; exact hO
  rw [← hg4] at hA ⊢
  rw [← hw6] at hA hC ⊢
  clear hg4 hw6
  have O4 := Lib.hid hO
  clear hO
  replace E := Lib.hid (show Calm w w6 ∧ Af w6 g1 f0 f1 f2 f3 ∧ At w6 g2 a ∧ At w6 g3 b from ⟨E.out.1.trans (hC), Af.calm (E.out.2.1) (hC), At.calm (E.out.2.2.1) (hC), At.calm (E.out.2.2.2) (hC)⟩)
  replace E := Lib.hid (show Calm w w6 ∧ Af w6 g1 f0 f1 f2 f3 ∧ At w6 g2 a ∧ At w6 g3 b ∧ At w6 g4 j from ⟨E.out.1, E.out.2.1, E.out.2.2.1, E.out.2.2.2, hA⟩)
  clear hC hA
  obtain ⟨g1_0, g1_1, g1_2, g1_3⟩ := Af.four (E.out.2.1)
  obtain ⟨g2_0, g2_1, g2_2, g2_3⟩ := At.two (E.out.2.2.1)
  obtain ⟨g3_0, g3_1, g3_2, g3_3⟩ := At.two (E.out.2.2.2.1)
  obtain ⟨g4_0, g4_1, g4_2, g4_3⟩ := At.two (E.out.2.2.2.2)
  go_wp2_with fail
  clear g1_0 g1_1 g1_2 g1_3 g2_0 g2_1 g2_2 g2_3 g3_0 g3_1 g3_2 g3_3 g4_0 g4_1 g4_2 g4_3
  refine (KM.out _).mono ?_
  rintro ze w7 ⟨rfl, hc⟩
  replace E := Lib.hid (show Calm w w7 ∧ Af w7 g1 f0 f1 f2 f3 ∧ At w7 g2 a ∧ At w7 g3 b ∧ At w7 g4 j from ⟨E.out.1.trans (hc), Af.calm (E.out.2.1) (hc), At.calm (E.out.2.2.1) (hc), At.calm (E.out.2.2.2.1) (hc), At.calm (E.out.2.2.2.2) (hc)⟩)
  clear hc
  obtain ⟨g1_0, g1_1, g1_2, g1_3⟩ := Af.four (E.out.2.1)
  obtain ⟨g2_0, g2_1, g2_2, g2_3⟩ := At.two (E.out.2.2.1)
  obtain ⟨g3_0, g3_1, g3_2, g3_3⟩ := At.two (E.out.2.2.2.1)
  obtain ⟨g4_0, g4_1, g4_2, g4_3⟩ := At.two (E.out.2.2.2.2)
  go_upto_region 5 with fail
  clear g1_0 g1_1 g1_2 g1_3 g2_0 g2_1 g2_2 g2_3 g3_0 g3_1 g3_2 g3_3 g4_0 g4_1 g4_2 g4_3
  have hC : Calm w7 (w7.alloc (.cells #[.int .u64 (m.lo : Int), .int .u64 (m.hi : Int)] 27)) := (Keep.refl _ _).alloc _
  have hA : At (w7.alloc (.cells #[.int .u64 (m.lo : Int), .int .u64 (m.hi : Int)] 27)) w7.heap.size m := Row.made w7 _ _
  have hO : w.heap.size ≤ w7.heap.size ∧ g1 < w7.heap.size ∧ g2 < w7.heap.size ∧ g3 < w7.heap.size ∧ g4 < w7.heap.size := ⟨E.out.1.size, Af.lt (E.out.2.1), At.lt (E.out.2.2.1), At.lt (E.out.2.2.2.1), At.lt (E.out.2.2.2.2)⟩
  obtain ⟨g5, hg5⟩ : ∃ zg, zg = w7.heap.size := ⟨_, rfl⟩
  obtain ⟨w8, hw8⟩ : ∃ zz, zz = w7.alloc (.cells #[.int .u64 (m.lo : Int), .int .u64 (m.hi : Int)] 27) := ⟨_, rfl⟩
  replace hO : w.heap.size ≤ g5 ∧ g1 < g5 ∧ g2 < g5 ∧ g3 < g5 ∧ g4 < g5 := by rw [hg5]; exact hO
  rw [← hg5] at hA ⊢
  rw [← hw8] at hA hC ⊢
  clear hg5 hw8
  have O5 := Lib.hid hO
  clear hO
  replace E := Lib.hid (show Calm w w8 ∧ Af w8 g1 f0 f1 f2 f3 ∧ At w8 g2 a ∧ At w8 g3 b ∧ At w8 g4 j from ⟨E.out.1.trans (hC), Af.calm (E.out.2.1) (hC), At.calm (E.out.2.2.1) (hC), At.calm (E.out.2.2.2.1) (hC), At.calm (E.out.2.2.2.2) (hC)⟩)
  replace E := Lib.hid (show Calm w w8 ∧ Af w8 g1 f0 f1 f2 f3 ∧ At w8 g2 a ∧ At w8 g3 b ∧ At w8 g4 j ∧ At w8 g5 m from ⟨E.out.1, E.out.2.1, E.out.2.2.1, E.out.2.2.2.1, E.out.2.2.2.2, hA⟩)
  clear hC hA
  obtain ⟨g1_0, g1_1, g1_2, g1_3⟩ := Af.four (E.out.2.1)
  obtain ⟨g2_0, g2_1, g2_2, g2_3⟩ := At.two (E.out.2.2.1)
  obtain ⟨g3_0, g3_1, g3_2, g3_3⟩ := At.two (E.out.2.2.2.1)
  obtain ⟨g4_0, g4_1, g4_2, g4_3⟩ := At.two (E.out.2.2.2.2.1)
  obtain ⟨g5_0, g5_1, g5_2, g5_3⟩ := At.two (E.out.2.2.2.2.2)
  go_wp2_with fail
  clear g1_0 g1_1 g1_2 g1_3 g2_0 g2_1 g2_2 g2_3 g3_0 g3_1 g3_2 g3_3 g4_0 g4_1 g4_2 g4_3 g5_0 g5_1 g5_2 g5_3
  refine (KB.out _).mono ?_
  rintro ze w9 ⟨rfl, hc⟩
  replace E := Lib.hid (show Calm w w9 ∧ Af w9 g1 f0 f1 f2 f3 ∧ At w9 g2 a ∧ At w9 g3 b ∧ At w9 g4 j ∧ At w9 g5 m from ⟨E.out.1.trans (hc), Af.calm (E.out.2.1) (hc), At.calm (E.out.2.2.1) (hc), At.calm (E.out.2.2.2.1) (hc), At.calm (E.out.2.2.2.2.1) (hc), At.calm (E.out.2.2.2.2.2) (hc)⟩)
  clear hc
  obtain ⟨g1_0, g1_1, g1_2, g1_3⟩ := Af.four (E.out.2.1)
  obtain ⟨g2_0, g2_1, g2_2, g2_3⟩ := At.two (E.out.2.2.1)
  obtain ⟨g3_0, g3_1, g3_2, g3_3⟩ := At.two (E.out.2.2.2.1)
  obtain ⟨g4_0, g4_1, g4_2, g4_3⟩ := At.two (E.out.2.2.2.2.1)
  obtain ⟨g5_0, g5_1, g5_2, g5_3⟩ := At.two (E.out.2.2.2.2.2)
  go_upto_region 6 with fail
  clear g1_0 g1_1 g1_2 g1_3 g2_0 g2_1 g2_2 g2_3 g3_0 g3_1 g3_2 g3_3 g4_0 g4_1 g4_2 g4_3 g5_0 g5_1 g5_2 g5_3
  have hC : Calm w9 (w9.alloc (.cells #[.int .u64 (j.lo : Int), .int .u64 (j.hi : Int)] 27)) := (Keep.refl _ _).alloc _
  have hA : At (w9.alloc (.cells #[.int .u64 (j.lo : Int), .int .u64 (j.hi : Int)] 27)) w9.heap.size j := Row.made w9 _ _
  have hO : w.heap.size ≤ w9.heap.size ∧ g1 < w9.heap.size ∧ g2 < w9.heap.size ∧ g3 < w9.heap.size ∧ g4 < w9.heap.size ∧ g5 < w9.heap.size := ⟨E.out.1.size, Af.lt (E.out.2.1), At.lt (E.out.2.2.1), At.lt (E.out.2.2.2.1), At.lt (E.out.2.2.2.2.1), At.lt (E.out.2.2.2.2.2)⟩
  obtain ⟨g6, hg6⟩ : ∃ zg, zg = w9.heap.size := ⟨_, rfl⟩
  obtain ⟨w10, hw10⟩ : ∃ zz, zz = w9.alloc (.cells #[.int .u64 (j.lo : Int), .int .u64 (j.hi : Int)] 27) := ⟨_, rfl⟩
  replace hO : w.heap.size ≤ g6 ∧ g1 < g6 ∧ g2 < g6 ∧ g3 < g6 ∧ g4 < g6 ∧ g5 < g6 := by rw [hg6]; exact hO
  rw [← hg6] at hA ⊢
  rw [← hw10] at hA hC ⊢
  clear hg6 hw10
  have O6 := Lib.hid hO
  clear hO
  replace E := Lib.hid (show Calm w w10 ∧ Af w10 g1 f0 f1 f2 f3 ∧ At w10 g2 a ∧ At w10 g3 b ∧ At w10 g4 j ∧ At w10 g5 m from ⟨E.out.1.trans (hC), Af.calm (E.out.2.1) (hC), At.calm (E.out.2.2.1) (hC), At.calm (E.out.2.2.2.1) (hC), At.calm (E.out.2.2.2.2.1) (hC), At.calm (E.out.2.2.2.2.2) (hC)⟩)
  replace E := Lib.hid (show Calm w w10 ∧ Af w10 g1 f0 f1 f2 f3 ∧ At w10 g2 a ∧ At w10 g3 b ∧ At w10 g4 j ∧ At w10 g5 m ∧ At w10 g6 j from ⟨E.out.1, E.out.2.1, E.out.2.2.1, E.out.2.2.2.1, E.out.2.2.2.2.1, E.out.2.2.2.2.2, hA⟩)
  clear hC hA
  obtain ⟨g1_0, g1_1, g1_2, g1_3⟩ := Af.four (E.out.2.1)
  obtain ⟨g2_0, g2_1, g2_2, g2_3⟩ := At.two (E.out.2.2.1)
  obtain ⟨g3_0, g3_1, g3_2, g3_3⟩ := At.two (E.out.2.2.2.1)
  obtain ⟨g4_0, g4_1, g4_2, g4_3⟩ := At.two (E.out.2.2.2.2.1)
  obtain ⟨g5_0, g5_1, g5_2, g5_3⟩ := At.two (E.out.2.2.2.2.2.1)
  obtain ⟨g6_0, g6_1, g6_2, g6_3⟩ := At.two (E.out.2.2.2.2.2.2)
  go_wp2_with fail
  clear g1_0 g1_1 g1_2 g1_3 g2_0 g2_1 g2_2 g2_3 g3_0 g3_1 g3_2 g3_3 g4_0 g4_1 g4_2 g4_3 g5_0 g5_1 g5_2 g5_3 g6_0 g6_1 g6_2 g6_3
  refine (HP.out _).mono ?_
  rintro ze w11 ⟨rfl, hc⟩
  replace E := Lib.hid (show Calm w w11 ∧ Af w11 g1 f0 f1 f2 f3 ∧ At w11 g2 a ∧ At w11 g3 b ∧ At w11 g4 j ∧ At w11 g5 m ∧ At w11 g6 j from ⟨E.out.1.trans (hc), Af.calm (E.out.2.1) (hc), At.calm (E.out.2.2.1) (hc), At.calm (E.out.2.2.2.1) (hc), At.calm (E.out.2.2.2.2.1) (hc), At.calm (E.out.2.2.2.2.2.1) (hc), At.calm (E.out.2.2.2.2.2.2) (hc)⟩)
  clear hc
  obtain ⟨g1_0, g1_1, g1_2, g1_3⟩ := Af.four (E.out.2.1)
  obtain ⟨g2_0, g2_1, g2_2, g2_3⟩ := At.two (E.out.2.2.1)
  obtain ⟨g3_0, g3_1, g3_2, g3_3⟩ := At.two (E.out.2.2.2.1)
  obtain ⟨g4_0, g4_1, g4_2, g4_3⟩ := At.two (E.out.2.2.2.2.1)
  obtain ⟨g5_0, g5_1, g5_2, g5_3⟩ := At.two (E.out.2.2.2.2.2.1)
  obtain ⟨g6_0, g6_1, g6_2, g6_3⟩ := At.two (E.out.2.2.2.2.2.2)
  go_wp2_with fail
  clear g1_0 g1_1 g1_2 g1_3 g2_0 g2_1 g2_2 g2_3 g3_0 g3_1 g3_2 g3_3 g4_0 g4_1 g4_2 g4_3 g5_0 g5_1 g5_2 g5_3 g6_0 g6_1 g6_2 g6_3
  refine (HQ.out _).mono ?_
  rintro ze w12 ⟨rfl, hc⟩
  replace E := Lib.hid (show Calm w w12 ∧ Af w12 g1 f0 f1 f2 f3 ∧ At w12 g2 a ∧ At w12 g3 b ∧ At w12 g4 j ∧ At w12 g5 m ∧ At w12 g6 j from ⟨E.out.1.trans (hc), Af.calm (E.out.2.1) (hc), At.calm (E.out.2.2.1) (hc), At.calm (E.out.2.2.2.1) (hc), At.calm (E.out.2.2.2.2.1) (hc), At.calm (E.out.2.2.2.2.2.1) (hc), At.calm (E.out.2.2.2.2.2.2) (hc)⟩)
  clear hc
  obtain ⟨g1_0, g1_1, g1_2, g1_3⟩ := Af.four (E.out.2.1)
  obtain ⟨g2_0, g2_1, g2_2, g2_3⟩ := At.two (E.out.2.2.1)
  obtain ⟨g3_0, g3_1, g3_2, g3_3⟩ := At.two (E.out.2.2.2.1)
  obtain ⟨g4_0, g4_1, g4_2, g4_3⟩ := At.two (E.out.2.2.2.2.1)
  obtain ⟨g5_0, g5_1, g5_2, g5_3⟩ := At.two (E.out.2.2.2.2.2.1)
  obtain ⟨g6_0, g6_1, g6_2, g6_3⟩ := At.two (E.out.2.2.2.2.2.2)
  go_upto_region 7 with fail
  clear g1_0 g1_1 g1_2 g1_3 g2_0 g2_1 g2_2 g2_3 g3_0 g3_1 g3_2 g3_3 g4_0 g4_1 g4_2 g4_3 g5_0 g5_1 g5_2 g5_3 g6_0 g6_1 g6_2 g6_3
  refine wp_region_noPanic ?_
  refine wp_region_held_drew (S := fun w' => Calm w w' ∧ Af w' g1 f0 f1 f2 f3 ∧ At w' g2 a ∧ At w' g3 b ∧ At w' g4 j ∧ At w' g5 m ∧ At w' g6 j) (by kernel_rfl) ⟨E.out.1.drew, E.out.2.1, E.out.2.2.1, E.out.2.2.2.1, E.out.2.2.2.2.1, E.out.2.2.2.2.2.1, E.out.2.2.2.2.2.2⟩ (fun hHeld => ?_)
  refine take_at 0 39 (.bool true) rfl rfl (by kernel_rfl) (by kernel_rfl) (by kernel_rfl) (fun _ _ _ h => h) (Or.inl ⟨by rfl, ?_⟩) hHeld ?_
  · intro w hSw; go_simp
  simp only [List.setIfInBounds_toArray, List.set_cons_zero, List.set_cons_succ]
  refine take_at 1 40 (.bool true) rfl rfl (by kernel_rfl) (by kernel_rfl) (by kernel_rfl) (fun _ _ _ h => h) (Or.inl ⟨by rfl, ?_⟩) hHeld ?_
  · intro w hSw; go_simp
  simp only [List.setIfInBounds_toArray, List.set_cons_zero, List.set_cons_succ]
  refine take_at 2 41 (.agg #[.int .u64 (a.lo : Int), .int .u64 (a.hi : Int)]) rfl rfl (by kernel_rfl) (by kernel_rfl) (by kernel_rfl) (fun _ _ _ h => h) (Or.inl ⟨by rfl, ?_⟩) hHeld ?_
  · intro w hSw; have c := At.two (hSw.2.2.1); go_simp
  simp only [List.setIfInBounds_toArray, List.set_cons_zero, List.set_cons_succ]
  refine take_at 3 42 (.int .u64 (n : Int)) rfl rfl (by kernel_rfl) (by kernel_rfl) (by kernel_rfl) (fun _ _ _ h => h) (Or.inl ⟨by rfl, ?_⟩) hHeld ?_
  · intro w hSw; go_simp
  simp only [List.setIfInBounds_toArray, List.set_cons_zero, List.set_cons_succ]
  refine wpAnyH_ready (rs := [4]) (by kernel_rfl) (by simp) ?_
  refine AllReadyH.cons rfl (fun K hK => ?_) AllReadyH.nil
  go_simp
  refine (HP.out _).mono ?_
  rintro ze wr1 ⟨rfl, hc⟩
  refine hK.out _ _ ⟨hHeld.1.trans hc, Af.calm (hHeld.2.1) hc, At.calm (hHeld.2.2.1) hc, At.calm (hHeld.2.2.2.1) hc, At.calm (hHeld.2.2.2.2.1) hc, At.calm (hHeld.2.2.2.2.2.1) hc, At.calm (hHeld.2.2.2.2.2.2) hc⟩ (fun hHeld => ?_)
  clear hK K
  try simp only [List.setIfInBounds_toArray, List.set_cons_zero, List.set_cons_succ]
  refine take_at 5 44 (.bool false) rfl rfl (by kernel_rfl) (by kernel_rfl) (by kernel_rfl) (fun _ _ _ h => h) (Or.inl ⟨by rfl, ?_⟩) hHeld ?_
  · intro w hSw; go_simp
  simp only [List.setIfInBounds_toArray, List.set_cons_zero, List.set_cons_succ]
  refine take_at 6 45 (.bool false) rfl rfl (by kernel_rfl) (by kernel_rfl) (by kernel_rfl) (fun _ _ _ h => h) (Or.inl ⟨by rfl, ?_⟩) hHeld ?_
  · intro w hSw; go_simp
  simp only [List.setIfInBounds_toArray, List.set_cons_zero, List.set_cons_succ]
  refine take_at 7 46 (undef) rfl rfl (by kernel_rfl) (by kernel_rfl) (by kernel_rfl) (fun _ _ _ h => h) (Or.inr ⟨by rfl, rfl⟩) hHeld ?_
  simp only [List.setIfInBounds_toArray, List.set_cons_zero, List.set_cons_succ]
  refine take_at 8 47 (undef) rfl rfl (by kernel_rfl) (by kernel_rfl) (by kernel_rfl) (fun _ _ _ h => h) (Or.inr ⟨by rfl, rfl⟩) hHeld ?_
  simp only [List.setIfInBounds_toArray, List.set_cons_zero, List.set_cons_succ]
  refine take_at 9 48 (undef) rfl rfl (by kernel_rfl) (by kernel_rfl) (by kernel_rfl) (fun _ _ _ h => h) (Or.inr ⟨by rfl, rfl⟩) hHeld ?_
  simp only [List.setIfInBounds_toArray, List.set_cons_zero, List.set_cons_succ]
  refine take_at 10 49 (undef) rfl rfl (by kernel_rfl) (by kernel_rfl) (by kernel_rfl) (fun _ _ _ h => h) (Or.inr ⟨by rfl, rfl⟩) hHeld ?_
  simp only [List.setIfInBounds_toArray, List.set_cons_zero, List.set_cons_succ]
  refine take_at 11 50 (.bool false) rfl rfl (by kernel_rfl) (by kernel_rfl) (by kernel_rfl) (fun _ _ _ h => h) (Or.inl ⟨by rfl, ?_⟩) hHeld ?_
  · intro w hSw; go_simp
  simp only [List.setIfInBounds_toArray, List.set_cons_zero, List.set_cons_succ]
  refine take_at 12 51 (.bool false) rfl rfl (by kernel_rfl) (by kernel_rfl) (by kernel_rfl) (fun _ _ _ h => h) (Or.inl ⟨by rfl, ?_⟩) hHeld ?_
  · intro w hSw; go_simp
  simp only [List.setIfInBounds_toArray, List.set_cons_zero, List.set_cons_succ]
  refine take_at 13 52 (.agg #[.int .u64 (j.lo : Int), .int .u64 (j.hi : Int)]) rfl rfl (by kernel_rfl) (by kernel_rfl) (by kernel_rfl) (fun _ _ _ h => h) (Or.inl ⟨by rfl, ?_⟩) hHeld ?_
  · intro w hSw; have c := At.two (hSw.2.2.2.2.1); go_simp
  simp only [List.setIfInBounds_toArray, List.set_cons_zero, List.set_cons_succ]
  refine take_at 14 53 (.int .u64 (n : Int)) rfl rfl (by kernel_rfl) (by kernel_rfl) (by kernel_rfl) (fun _ _ _ h => h) (Or.inl ⟨by rfl, ?_⟩) hHeld ?_
  · intro w hSw; go_simp
  simp only [List.setIfInBounds_toArray, List.set_cons_zero, List.set_cons_succ]
  refine wpAnyH_ready (rs := [15]) (by kernel_rfl) (by simp) ?_
  refine AllReadyH.cons rfl (fun K hK => ?_) AllReadyH.nil
  go_simp
  refine (HJ.out _).mono ?_
  rintro ze wr2 ⟨rfl, hc⟩
  refine hK.out _ _ ⟨hHeld.1.trans hc, Af.calm (hHeld.2.1) hc, At.calm (hHeld.2.2.1) hc, At.calm (hHeld.2.2.2.1) hc, At.calm (hHeld.2.2.2.2.1) hc, At.calm (hHeld.2.2.2.2.2.1) hc, At.calm (hHeld.2.2.2.2.2.2) hc⟩ (fun hHeld => ?_)
  clear hK K
  try simp only [List.setIfInBounds_toArray, List.set_cons_zero, List.set_cons_succ]
  refine take_at 16 55 (.bool true) rfl rfl (by kernel_rfl) (by kernel_rfl) (by kernel_rfl) (fun _ _ _ h => h) (Or.inl ⟨by rfl, ?_⟩) hHeld ?_
  · intro w hSw; go_simp
  simp only [List.setIfInBounds_toArray, List.set_cons_zero, List.set_cons_succ]
  refine take_at 17 56 (.bool true) rfl rfl (by kernel_rfl) (by kernel_rfl) (by kernel_rfl) (fun _ _ _ h => h) (Or.inl ⟨by rfl, ?_⟩) hHeld ?_
  · intro w hSw; go_simp
  simp only [List.setIfInBounds_toArray, List.set_cons_zero, List.set_cons_succ]
  refine take_at 18 57 (.bool true) rfl rfl (by kernel_rfl) (by kernel_rfl) (by kernel_rfl) (fun _ _ _ h => h) (Or.inl ⟨by rfl, ?_⟩) hHeld ?_
  · intro w hSw; go_simp
  simp only [List.setIfInBounds_toArray, List.set_cons_zero, List.set_cons_succ]
  refine take_at 19 58 (.bool true) rfl rfl (by kernel_rfl) (by kernel_rfl) (by kernel_rfl) (fun _ _ _ h => h) (Or.inl ⟨by rfl, ?_⟩) hHeld ?_
  · intro w hSw; go_simp
  simp only [List.setIfInBounds_toArray, List.set_cons_zero, List.set_cons_succ]
  refine take_at 20 59 (.bool true) rfl rfl (by kernel_rfl) (by kernel_rfl) (by kernel_rfl) (fun _ _ _ h => h) (Or.inl ⟨by rfl, ?_⟩) hHeld ?_
  · intro w hSw; go_simp
  simp only [List.setIfInBounds_toArray, List.set_cons_zero, List.set_cons_succ]
  refine take_at 21 60 (.bool true) rfl rfl (by kernel_rfl) (by kernel_rfl) (by kernel_rfl) (fun _ _ _ h => h) (Or.inl ⟨by rfl, ?_⟩) hHeld ?_
  · intro w hSw; go_simp
  simp only [List.setIfInBounds_toArray, List.set_cons_zero, List.set_cons_succ]
  refine take_at 22 61 (.agg #[.int .u64 (m.lo : Int), .int .u64 (m.hi : Int)]) rfl rfl (by kernel_rfl) (by kernel_rfl) (by kernel_rfl) (fun _ _ _ h => h) (Or.inl ⟨by rfl, ?_⟩) hHeld ?_
  · intro w hSw; have c := At.two (hSw.2.2.2.2.2.1); go_simp
  simp only [List.setIfInBounds_toArray, List.set_cons_zero, List.set_cons_succ]
  refine take_at 23 62 (.int .u64 (n : Int)) rfl rfl (by kernel_rfl) (by kernel_rfl) (by kernel_rfl) (fun _ _ _ h => h) (Or.inl ⟨by rfl, ?_⟩) hHeld ?_
  · intro w hSw; go_simp
  simp only [List.setIfInBounds_toArray, List.set_cons_zero, List.set_cons_succ]
  refine wpAnyH_ready (rs := [24]) (by kernel_rfl) (by simp) ?_
  refine AllReadyH.cons rfl (fun K hK => ?_) AllReadyH.nil
  go_simp
  refine (HM.out _).mono ?_
  rintro ze wr3 ⟨rfl, hc⟩
  refine hK.out _ _ ⟨hHeld.1.trans hc, Af.calm (hHeld.2.1) hc, At.calm (hHeld.2.2.1) hc, At.calm (hHeld.2.2.2.1) hc, At.calm (hHeld.2.2.2.2.1) hc, At.calm (hHeld.2.2.2.2.2.1) hc, At.calm (hHeld.2.2.2.2.2.2) hc⟩ (fun hHeld => ?_)
  clear hK K
  try simp only [List.setIfInBounds_toArray, List.set_cons_zero, List.set_cons_succ]
  refine take_at 25 64 (.bool true) rfl rfl (by kernel_rfl) (by kernel_rfl) (by kernel_rfl) (fun _ _ _ h => h) (Or.inl ⟨by rfl, ?_⟩) hHeld ?_
  · intro w hSw; go_simp
  simp only [List.setIfInBounds_toArray, List.set_cons_zero, List.set_cons_succ]
  refine take_at 26 65 (.bool true) rfl rfl (by kernel_rfl) (by kernel_rfl) (by kernel_rfl) (fun _ _ _ h => h) (Or.inl ⟨by rfl, ?_⟩) hHeld ?_
  · intro w hSw; go_simp
  simp only [List.setIfInBounds_toArray, List.set_cons_zero, List.set_cons_succ]
  refine take_at 27 66 (.bool true) rfl rfl (by kernel_rfl) (by kernel_rfl) (by kernel_rfl) (fun _ _ _ h => h) (Or.inl ⟨by rfl, ?_⟩) hHeld ?_
  · intro w hSw; go_simp
  simp only [List.setIfInBounds_toArray, List.set_cons_zero, List.set_cons_succ]
  refine take_at 28 67 (.bool true) rfl rfl (by kernel_rfl) (by kernel_rfl) (by kernel_rfl) (fun _ _ _ h => h) (Or.inl ⟨by rfl, ?_⟩) hHeld ?_
  · intro w hSw; go_simp
  simp only [List.setIfInBounds_toArray, List.set_cons_zero, List.set_cons_succ]
  refine take_at 29 68 (.agg #[.int .u64 (j.lo : Int), .int .u64 (j.hi : Int)]) rfl rfl (by kernel_rfl) (by kernel_rfl) (by kernel_rfl) (fun _ _ _ h => h) (Or.inl ⟨by rfl, ?_⟩) hHeld ?_
  · intro w hSw; have c := At.two (hSw.2.2.2.2.2.2); go_simp
  simp only [List.setIfInBounds_toArray, List.set_cons_zero, List.set_cons_succ]
  refine take_at 30 69 (.agg #[.int .u64 (j.lo : Int), .int .u64 (j.hi : Int)]) rfl rfl (by kernel_rfl) (by kernel_rfl) (by kernel_rfl) (fun _ _ _ h => h) (Or.inl ⟨by rfl, ?_⟩) hHeld ?_
  · intro w hSw; have c := At.two (hSw.2.2.2.2.1); go_simp
  simp only [List.setIfInBounds_toArray, List.set_cons_zero, List.set_cons_succ]
  refine take_at 31 70 (.bool true) rfl rfl (by kernel_rfl) (by kernel_rfl) (by kernel_rfl) (fun _ _ _ h => h) (Or.inl ⟨by rfl, ?_⟩) hHeld ?_
  · intro w hSw; go_simp
  simp only [List.setIfInBounds_toArray, List.set_cons_zero, List.set_cons_succ]
  refine take_at 32 71 (.bool true) rfl rfl (by kernel_rfl) (by kernel_rfl) (by kernel_rfl) (fun _ _ _ h => h) (Or.inl ⟨by rfl, ?_⟩) hHeld ?_
  · intro w hSw; go_simp
  simp only [List.setIfInBounds_toArray, List.set_cons_zero, List.set_cons_succ]
  refine take_at 33 72 (.bool true) rfl rfl (by kernel_rfl) (by kernel_rfl) (by kernel_rfl) (fun _ _ _ h => h) (Or.inl ⟨by rfl, ?_⟩) hHeld ?_
  · intro w hSw; go_simp
  simp only [List.setIfInBounds_toArray, List.set_cons_zero, List.set_cons_succ]
  refine take_at 34 73 (.agg #[.int .u64 (a.lo : Int), .int .u64 (a.hi : Int)]) rfl rfl (by kernel_rfl) (by kernel_rfl) (by kernel_rfl) (fun _ _ _ h => h) (Or.inl ⟨by rfl, ?_⟩) hHeld ?_
  · intro w hSw; have c := At.two (hSw.2.2.1); go_simp
  simp only [List.setIfInBounds_toArray, List.set_cons_zero, List.set_cons_succ]
  refine take_at 35 74 (.agg #[.int .u64 (a.lo : Int), .int .u64 (a.hi : Int)]) rfl rfl (by kernel_rfl) (by kernel_rfl) (by kernel_rfl) (fun _ _ _ h => h) (Or.inl ⟨by rfl, ?_⟩) hHeld ?_
  · intro w hSw; have c := At.two (hSw.2.2.1); go_simp
  simp only [List.setIfInBounds_toArray, List.set_cons_zero, List.set_cons_succ]
  refine take_at 37 76 (.agg #[.int .u64 (a.lo : Int), .int .u64 (a.hi : Int)]) rfl rfl (by kernel_rfl) (by kernel_rfl) (by kernel_rfl) (fun _ _ _ h => h) (Or.inl ⟨by rfl, ?_⟩) hHeld ?_
  · intro w hSw; have c := At.two (hSw.2.2.1); go_simp
  simp only [List.setIfInBounds_toArray, List.set_cons_zero, List.set_cons_succ]
  refine wpAnyH_ready (rs := [36]) (by kernel_rfl) (by simp) ?_
  refine AllReadyH.cons rfl (fun K hK => ?_) AllReadyH.nil
  go_simp
  refine (KK.out _).mono ?_
  rintro ze wr4 ⟨rfl, hc⟩
  refine hK.out _ _ ⟨hHeld.1.trans hc, Af.calm (hHeld.2.1) hc, At.calm (hHeld.2.2.1) hc, At.calm (hHeld.2.2.2.1) hc, At.calm (hHeld.2.2.2.2.1) hc, At.calm (hHeld.2.2.2.2.2.1) hc, At.calm (hHeld.2.2.2.2.2.2) hc⟩ (fun hHeld => ?_)
  clear hK K
  try simp only [List.setIfInBounds_toArray, List.set_cons_zero, List.set_cons_succ]
  refine take_at 38 77 (.bool true) rfl rfl (by kernel_rfl) (by kernel_rfl) (by kernel_rfl) (fun _ _ _ h => h) (Or.inl ⟨by rfl, ?_⟩) hHeld ?_
  · intro w hSw; go_simp
  simp only [List.setIfInBounds_toArray, List.set_cons_zero, List.set_cons_succ]
  refine take_at 39 78 (.bool true) rfl rfl (by kernel_rfl) (by kernel_rfl) (by kernel_rfl) (fun _ _ _ h => h) (Or.inl ⟨by rfl, ?_⟩) hHeld ?_
  · intro w hSw; go_simp
  simp only [List.setIfInBounds_toArray, List.set_cons_zero, List.set_cons_succ]
  refine take_at 40 79 (.bool true) rfl rfl (by kernel_rfl) (by kernel_rfl) (by kernel_rfl) (fun _ _ _ h => h) (Or.inl ⟨by rfl, ?_⟩) hHeld ?_
  · intro w hSw; go_simp
  simp only [List.setIfInBounds_toArray, List.set_cons_zero, List.set_cons_succ]
  refine take_at 41 80 (.agg #[.int .u64 (a.lo : Int), .int .u64 (a.hi : Int)]) rfl rfl (by kernel_rfl) (by kernel_rfl) (by kernel_rfl) (fun _ _ _ h => h) (Or.inl ⟨by rfl, ?_⟩) hHeld ?_
  · intro w hSw; have c := At.two (hSw.2.2.1); go_simp
  simp only [List.setIfInBounds_toArray, List.set_cons_zero, List.set_cons_succ]
  refine take_at 42 81 (.int .u64 (n : Int)) rfl rfl (by kernel_rfl) (by kernel_rfl) (by kernel_rfl) (fun _ _ _ h => h) (Or.inl ⟨by rfl, ?_⟩) hHeld ?_
  · intro w hSw; go_simp
  simp only [List.setIfInBounds_toArray, List.set_cons_zero, List.set_cons_succ]
  refine wpAnyH_ready (rs := [43]) (by kernel_rfl) (by simp) ?_
  refine AllReadyH.cons rfl (fun K hK => ?_) AllReadyH.nil
  go_simp
  refine (HP.out _).mono ?_
  rintro ze wr5 ⟨rfl, hc⟩
  refine hK.out _ _ ⟨hHeld.1.trans hc, Af.calm (hHeld.2.1) hc, At.calm (hHeld.2.2.1) hc, At.calm (hHeld.2.2.2.1) hc, At.calm (hHeld.2.2.2.2.1) hc, At.calm (hHeld.2.2.2.2.2.1) hc, At.calm (hHeld.2.2.2.2.2.2) hc⟩ (fun hHeld => ?_)
  clear hK K
  try simp only [List.setIfInBounds_toArray, List.set_cons_zero, List.set_cons_succ]
  refine take_at 44 83 (.bool false) rfl rfl (by kernel_rfl) (by kernel_rfl) (by kernel_rfl) (fun _ _ _ h => h) (Or.inl ⟨by rfl, ?_⟩) hHeld ?_
  · intro w hSw; go_simp
  simp only [List.setIfInBounds_toArray, List.set_cons_zero, List.set_cons_succ]
  refine take_at 45 84 (.bool false) rfl rfl (by kernel_rfl) (by kernel_rfl) (by kernel_rfl) (fun _ _ _ h => h) (Or.inl ⟨by rfl, ?_⟩) hHeld ?_
  · intro w hSw; go_simp
  simp only [List.setIfInBounds_toArray, List.set_cons_zero, List.set_cons_succ]
  refine take_at 46 85 (.agg #[.int .u64 (a.lo : Int), .int .u64 (a.hi : Int)]) rfl rfl (by kernel_rfl) (by kernel_rfl) (by kernel_rfl) (fun _ _ _ h => h) (Or.inl ⟨by rfl, ?_⟩) hHeld ?_
  · intro w hSw; have c := At.two (hSw.2.2.1); go_simp
  simp only [List.setIfInBounds_toArray, List.set_cons_zero, List.set_cons_succ]
  refine take_at 48 87 (.int .u64 (n : Int)) rfl rfl (by kernel_rfl) (by kernel_rfl) (by kernel_rfl) (fun _ _ _ h => h) (Or.inl ⟨by rfl, ?_⟩) hHeld ?_
  · intro w hSw; go_simp
  simp only [List.setIfInBounds_toArray, List.set_cons_zero, List.set_cons_succ]
  refine take_at 49 88 (.int .u64 (n' : Int)) rfl rfl (by kernel_rfl) (by kernel_rfl) (by kernel_rfl) (fun _ _ _ h => h) (Or.inl ⟨by rfl, ?_⟩) hHeld ?_
  · intro w hSw; go_simp
  simp only [List.setIfInBounds_toArray, List.set_cons_zero, List.set_cons_succ]
  refine wpAnyH_ready (rs := [47]) (by kernel_rfl) (by simp) ?_
  refine AllReadyH.cons rfl (fun K hK => ?_) AllReadyH.nil
  go_simp
  refine (KL.out _).mono ?_
  rintro ze wr6 ⟨rfl, hc⟩
  refine hK.out _ _ ⟨hHeld.1.trans hc, Af.calm (hHeld.2.1) hc, At.calm (hHeld.2.2.1) hc, At.calm (hHeld.2.2.2.1) hc, At.calm (hHeld.2.2.2.2.1) hc, At.calm (hHeld.2.2.2.2.2.1) hc, At.calm (hHeld.2.2.2.2.2.2) hc⟩ (fun hHeld => ?_)
  clear hK K
  try simp only [List.setIfInBounds_toArray, List.set_cons_zero, List.set_cons_succ]
  refine wpAnyH_ready (rs := [50]) (by kernel_rfl) (by simp) ?_
  refine AllReadyH.cons rfl (fun K hK => ?_) AllReadyH.nil
  go_simp
  refine (HL.out _).mono ?_
  rintro ze wr7 ⟨rfl, hc⟩
  refine hK.out _ _ ⟨hHeld.1.trans hc, Af.calm (hHeld.2.1) hc, At.calm (hHeld.2.2.1) hc, At.calm (hHeld.2.2.2.1) hc, At.calm (hHeld.2.2.2.2.1) hc, At.calm (hHeld.2.2.2.2.2.1) hc, At.calm (hHeld.2.2.2.2.2.2) hc⟩ (fun hHeld => ?_)
  clear hK K
  try simp only [List.setIfInBounds_toArray, List.set_cons_zero, List.set_cons_succ]
  refine take_at 51 90 (.bool true) rfl rfl (by kernel_rfl) (by kernel_rfl) (by kernel_rfl) (fun _ _ _ h => h) (Or.inl ⟨by rfl, ?_⟩) hHeld ?_
  · intro w hSw; go_simp
  simp only [List.setIfInBounds_toArray, List.set_cons_zero, List.set_cons_succ]
  refine take_at 52 91 (.bool true) rfl rfl (by kernel_rfl) (by kernel_rfl) (by kernel_rfl) (fun _ _ _ h => h) (Or.inl ⟨by rfl, ?_⟩) hHeld ?_
  · intro w hSw; go_simp
  simp only [List.setIfInBounds_toArray, List.set_cons_zero, List.set_cons_succ]
  refine take_at 53 4 (.bool true) rfl rfl (by kernel_rfl) (by kernel_rfl) (by kernel_rfl) (fun _ _ _ h => h) (Or.inl ⟨by rfl, ?_⟩) hHeld ?_
  · intro w hSw; go_simp
  simp only [List.setIfInBounds_toArray, List.set_cons_zero, List.set_cons_succ]
  refine wpAnyH_done (by kernel_rfl) (NoPanic.normal ?_) _
  replace E := Lib.hid (show Calm w wr7 ∧ Af wr7 g1 f0 f1 f2 f3 ∧ At wr7 g2 a ∧ At wr7 g3 b ∧ At wr7 g4 j ∧ At wr7 g5 m ∧ At wr7 g6 j from hHeld)
  clear hHeld
  obtain ⟨g1_0, g1_1, g1_2, g1_3⟩ := Af.four (E.out.2.1)
  obtain ⟨g2_0, g2_1, g2_2, g2_3⟩ := At.two (E.out.2.2.1)
  obtain ⟨g3_0, g3_1, g3_2, g3_3⟩ := At.two (E.out.2.2.2.1)
  obtain ⟨g4_0, g4_1, g4_2, g4_3⟩ := At.two (E.out.2.2.2.2.1)
  obtain ⟨g5_0, g5_1, g5_2, g5_3⟩ := At.two (E.out.2.2.2.2.2.1)
  obtain ⟨g6_0, g6_1, g6_2, g6_3⟩ := At.two (E.out.2.2.2.2.2.2)
  go_wp2_with fail
  clear g1_0 g1_1 g1_2 g1_3 g2_0 g2_1 g2_2 g2_3 g3_0 g3_1 g3_2 g3_3 g4_0 g4_1 g4_2 g4_3 g5_0 g5_1 g5_2 g5_3 g6_0 g6_1 g6_2 g6_3
  go_returns
  exact ⟨rfl, E.out.1⟩

set_option maxHeartbeats 6400000 in
set_option maxRecDepth 20000 in
theorem spanJoins_tft {a b : Sp} {f0 f1 f2 f3 n n' : Nat} (en : bits .and .u64 (n : Int) 4294967295 = (n' : Int)) (ea : a = rS f0 f1) (eb : b = rS f2 f3) (hp : Sp.In n a) (hq : ¬ Sp.In n b) (hm : (meetS a b).2 = true) (hl : Sp.In n' (lowS a)) (w : World) : Calls Try.prog 8 #[.agg #[.int .u64 (f0 : Int), .int .u64 (f1 : Int), .int .u64 (f2 : Int), .int .u64 (f3 : Int)], .int .u64 (n : Int)] w fun e w' => e = .returned (.bool true) ∧ Calm w w' := by
  obtain ⟨j, ej⟩ : ∃ j, j = joinS a b := ⟨_, rfl⟩
  have ej' : joinS b a = j := by rw [ej]; simp only [joinS, Sp.mk.injEq]; omega
  obtain ⟨m, em⟩ : ∃ m, m = (meetS a b).1 := ⟨_, rfl⟩
  obtain ⟨l, el⟩ : ∃ l, l = lowS a := ⟨_, rfl⟩
  have KA : Hid (∀ w, Calls Try.prog 12 #[.agg #[.int .u64 (f0 : Int), .int .u64 (f1 : Int), .int .u64 (f2 : Int), .int .u64 (f3 : Int)]] w fun x w' => x = .returned (.tuple #[.agg #[.int .u64 (a.lo : Int), .int .u64 (a.hi : Int)], .agg #[.int .u64 (b.lo : Int), .int .u64 (b.hi : Int)]]) ∧ Calm w w') := Lib.hid (by rw [ea, eb]; exact fun w => spans8_c w f0 f1 f2 f3)
  have KJ : Hid (∀ w, Calls Try.prog 20 #[.agg #[.int .u64 (a.lo : Int), .int .u64 (a.hi : Int)], .agg #[.int .u64 (b.lo : Int), .int .u64 (b.hi : Int)]] w fun x w' => x = .returned (.agg #[.int .u64 (j.lo : Int), .int .u64 (j.hi : Int)]) ∧ Calm w w') := Lib.hid (by rw [ej]; exact fun w => pjoin_c a b w)
  have KB : Hid (∀ w, Calls Try.prog 20 #[.agg #[.int .u64 (b.lo : Int), .int .u64 (b.hi : Int)], .agg #[.int .u64 (a.lo : Int), .int .u64 (a.hi : Int)]] w fun x w' => x = .returned (.agg #[.int .u64 (j.lo : Int), .int .u64 (j.hi : Int)]) ∧ Calm w w') := Lib.hid (by rw [← ej']; exact fun w => pjoin_c b a w)
  have KK : Hid (∀ w, Calls Try.prog 20 #[.agg #[.int .u64 (a.lo : Int), .int .u64 (a.hi : Int)], .agg #[.int .u64 (a.lo : Int), .int .u64 (a.hi : Int)]] w fun x w' => x = .returned (.agg #[.int .u64 (a.lo : Int), .int .u64 (a.hi : Int)]) ∧ Calm w w') := Lib.hid fun w => by
    have k := pjoin_c a a w
    rw [show joinS a a = a by cases a; simp [joinS]] at k
    exact k
  have KM : Hid (∀ w, Calls Try.prog 18 #[.agg #[.int .u64 (a.lo : Int), .int .u64 (a.hi : Int)], .agg #[.int .u64 (b.lo : Int), .int .u64 (b.hi : Int)]] w fun x w' => x = .returned (.tuple #[.agg #[.int .u64 (m.lo : Int), .int .u64 (m.hi : Int)], .bool true]) ∧ Calm w w') := Lib.hid (by rw [em, ← hm]; exact fun w => pmeet_c a b w)
  have KL : Hid (∀ w, Calls Try.prog 23 #[.agg #[.int .u64 (a.lo : Int), .int .u64 (a.hi : Int)]] w fun x w' => x = .returned (.agg #[.int .u64 (l.lo : Int), .int .u64 (l.hi : Int)]) ∧ Calm w w') := Lib.hid (by rw [el]; exact fun w => plow_c a w)
  have HP : Hid (∀ w, Calls Try.prog 26 #[.agg #[.int .u64 (a.lo : Int), .int .u64 (a.hi : Int)], .int .u64 (n : Int)] w fun z w' => z = .returned (.bool true) ∧ Calm w w') := Lib.hid fun w => by
    have k := phas_c a n w
    rw [decide_eq_true (p := a.lo ≤ n ∧ n ≤ a.hi) hp] at k
    exact k
  have HQ : Hid (∀ w, Calls Try.prog 26 #[.agg #[.int .u64 (b.lo : Int), .int .u64 (b.hi : Int)], .int .u64 (n : Int)] w fun z w' => z = .returned (.bool false) ∧ Calm w w') := Lib.hid fun w => by
    have k := phas_c b n w
    rw [decide_eq_false (p := b.lo ≤ n ∧ n ≤ b.hi) hq] at k
    exact k
  have HJ : Hid (∀ w, Calls Try.prog 26 #[.agg #[.int .u64 (j.lo : Int), .int .u64 (j.hi : Int)], .int .u64 (n : Int)] w fun z w' => z = .returned (.bool true) ∧ Calm w w') := Lib.hid fun w => by
    have k := phas_c j n w
    rw [decide_eq_true (p := j.lo ≤ n ∧ n ≤ j.hi) (by rw [ej]; unfold Sp.In at hp hq; show min a.lo b.lo ≤ n ∧ n ≤ max a.hi b.hi; omega)] at k
    exact k
  have HM : Hid (∀ w, Calls Try.prog 26 #[.agg #[.int .u64 (m.lo : Int), .int .u64 (m.hi : Int)], .int .u64 (n : Int)] w fun z w' => z = .returned (.bool false) ∧ Calm w w') := Lib.hid fun w => by
    have k := phas_c m n w
    rw [decide_eq_false (p := m.lo ≤ n ∧ n ≤ m.hi) (by
      have c : max a.lo b.lo ≤ min a.hi b.hi := by
        rcases Nat.lt_or_ge (min a.hi b.hi) (max a.lo b.lo) with h | h
        · rw [meet_no (by omega)] at hm; cases hm
        · exact h
      rw [em, meet_yes c]; unfold Sp.In at hp hq; show ¬ (max a.lo b.lo ≤ n ∧ n ≤ min a.hi b.hi); omega)] at k
    exact k
  have HL : Hid (∀ w, Calls Try.prog 26 #[.agg #[.int .u64 (l.lo : Int), .int .u64 (l.hi : Int)], .int .u64 (n' : Int)] w fun z w' => z = .returned (.bool true) ∧ Calm w w') := Lib.hid fun w => by
    have k := phas_c l n' w
    rw [decide_eq_true (p := l.lo ≤ n' ∧ n' ≤ l.hi) (by rw [el]; exact hl)] at k
    exact k
  clear ea eb hp hq hm ej ej' em el hl
  go_enter Try.func8, Try.ntmps8
  have E := Lib.hid (show Calm w w from Keep.refl _ _)
  go_upto_region 1 with fail
  have hC : Calm w (w.alloc (.cells #[.int .u64 (f0 : Int), .int .u64 (f1 : Int), .int .u64 (f2 : Int), .int .u64 (f3 : Int)] 24)) := (Keep.refl _ _).alloc _
  have hA : Af (w.alloc (.cells #[.int .u64 (f0 : Int), .int .u64 (f1 : Int), .int .u64 (f2 : Int), .int .u64 (f3 : Int)] 24)) w.heap.size f0 f1 f2 f3 := Row.made w _ _
  have hO : w.heap.size ≤ w.heap.size := E.out.size
  obtain ⟨g1, hg1⟩ : ∃ zg, zg = w.heap.size := ⟨_, rfl⟩
  obtain ⟨w1, hw1⟩ : ∃ zz, zz = w.alloc (.cells #[.int .u64 (f0 : Int), .int .u64 (f1 : Int), .int .u64 (f2 : Int), .int .u64 (f3 : Int)] 24) := ⟨_, rfl⟩
  replace hO : w.heap.size ≤ g1 := by rw [hg1]; exact hO
  rw [← hg1] at hA ⊢
  rw [← hw1] at hA hC ⊢
  clear hg1 hw1
  have O1 := Lib.hid hO
  clear hO
  replace E := Lib.hid (show Calm w w1 from E.out.trans (hC))
  replace E := Lib.hid (show Calm w w1 ∧ Af w1 g1 f0 f1 f2 f3 from ⟨E.out, hA⟩)
  clear hC hA
  obtain ⟨g1_0, g1_1, g1_2, g1_3⟩ := Af.four (E.out.2)
  go_wp2_with fail
  clear g1_0 g1_1 g1_2 g1_3
  refine (shown8_c _).mono ?_
  rintro ze w2 ⟨rfl, hc⟩
  replace E := Lib.hid (show Calm w w2 ∧ Af w2 g1 f0 f1 f2 f3 from ⟨E.out.1.trans (hc), Af.calm (E.out.2) (hc)⟩)
  clear hc
  obtain ⟨g1_0, g1_1, g1_2, g1_3⟩ := Af.four (E.out.2)
  go_wp2_with fail
  clear g1_0 g1_1 g1_2 g1_3
  refine (KA.out _).mono ?_
  rintro ze w3 ⟨rfl, hc⟩
  replace E := Lib.hid (show Calm w w3 ∧ Af w3 g1 f0 f1 f2 f3 from ⟨E.out.1.trans (hc), Af.calm (E.out.2) (hc)⟩)
  clear hc
  obtain ⟨g1_0, g1_1, g1_2, g1_3⟩ := Af.four (E.out.2)
  go_upto_region 3 with fail
  clear g1_0 g1_1 g1_2 g1_3
  have hC : Calm w3 ((w3.alloc (.cells #[.int .u64 (a.lo : Int), .int .u64 (a.hi : Int)] 27)).alloc (.cells #[.int .u64 (b.lo : Int), .int .u64 (b.hi : Int)] 27)) := ((Keep.refl _ _).alloc _).alloc _
  have hA : At ((w3.alloc (.cells #[.int .u64 (a.lo : Int), .int .u64 (a.hi : Int)] 27)).alloc (.cells #[.int .u64 (b.lo : Int), .int .u64 (b.hi : Int)] 27)) w3.heap.size a := (Row.made w3 _ _).alloc _
  have hB : At ((w3.alloc (.cells #[.int .u64 (a.lo : Int), .int .u64 (a.hi : Int)] 27)).alloc (.cells #[.int .u64 (b.lo : Int), .int .u64 (b.hi : Int)] 27)) (w3.heap.size + 1) b := by
    have e : At ((w3.alloc (.cells #[.int .u64 (a.lo : Int), .int .u64 (a.hi : Int)] 27)).alloc (.cells #[.int .u64 (b.lo : Int), .int .u64 (b.hi : Int)] 27)) (w3.alloc (.cells #[.int .u64 (a.lo : Int), .int .u64 (a.hi : Int)] 27)).heap.size b := Row.made _ _ _
    simp only [World.size_alloc] at e
    exact e
  have hO : w.heap.size ≤ w3.heap.size ∧ g1 < w3.heap.size := ⟨E.out.1.size, Af.lt (E.out.2)⟩
  obtain ⟨g2, hg2⟩ : ∃ zg, zg = w3.heap.size := ⟨_, rfl⟩
  obtain ⟨w4, hw4⟩ : ∃ zz, zz = (w3.alloc (.cells #[.int .u64 (a.lo : Int), .int .u64 (a.hi : Int)] 27)).alloc (.cells #[.int .u64 (b.lo : Int), .int .u64 (b.hi : Int)] 27) := ⟨_, rfl⟩
  replace hO : w.heap.size ≤ g2 ∧ g1 < g2 := by rw [hg2]; exact hO
  rw [← hg2] at hA hB ⊢
  rw [← hw4] at hA hB hC ⊢
  clear hg2 hw4
  obtain ⟨g3, hg3⟩ : ∃ zg, zg = g2 + 1 := ⟨_, rfl⟩
  rw [← hg3] at hB ⊢
  have O2 := Lib.hid hO
  have O3 : Hid (w.heap.size ≤ g3 ∧ g1 < g3 ∧ g2 < g3) := Lib.hid (by have := O2.out; omega)
  clear hO
  clear hg3
  replace E := Lib.hid (show Calm w w4 ∧ Af w4 g1 f0 f1 f2 f3 from ⟨E.out.1.trans (hC), Af.calm (E.out.2) (hC)⟩)
  replace E := Lib.hid (show Calm w w4 ∧ Af w4 g1 f0 f1 f2 f3 ∧ At w4 g2 a ∧ At w4 g3 b from ⟨E.out.1, E.out.2, hA, hB⟩)
  clear hC hA hB
  obtain ⟨g1_0, g1_1, g1_2, g1_3⟩ := Af.four (E.out.2.1)
  obtain ⟨g2_0, g2_1, g2_2, g2_3⟩ := At.two (E.out.2.2.1)
  obtain ⟨g3_0, g3_1, g3_2, g3_3⟩ := At.two (E.out.2.2.2)
  go_wp2_with fail
  clear g1_0 g1_1 g1_2 g1_3 g2_0 g2_1 g2_2 g2_3 g3_0 g3_1 g3_2 g3_3
  refine (KJ.out _).mono ?_
  rintro ze w5 ⟨rfl, hc⟩
  replace E := Lib.hid (show Calm w w5 ∧ Af w5 g1 f0 f1 f2 f3 ∧ At w5 g2 a ∧ At w5 g3 b from ⟨E.out.1.trans (hc), Af.calm (E.out.2.1) (hc), At.calm (E.out.2.2.1) (hc), At.calm (E.out.2.2.2) (hc)⟩)
  clear hc
  obtain ⟨g1_0, g1_1, g1_2, g1_3⟩ := Af.four (E.out.2.1)
  obtain ⟨g2_0, g2_1, g2_2, g2_3⟩ := At.two (E.out.2.2.1)
  obtain ⟨g3_0, g3_1, g3_2, g3_3⟩ := At.two (E.out.2.2.2)
  go_upto_region 4 with fail
  clear g1_0 g1_1 g1_2 g1_3 g2_0 g2_1 g2_2 g2_3 g3_0 g3_1 g3_2 g3_3
  have hC : Calm w5 (w5.alloc (.cells #[.int .u64 (j.lo : Int), .int .u64 (j.hi : Int)] 27)) := (Keep.refl _ _).alloc _
  have hA : At (w5.alloc (.cells #[.int .u64 (j.lo : Int), .int .u64 (j.hi : Int)] 27)) w5.heap.size j := Row.made w5 _ _
  have hO : w.heap.size ≤ w5.heap.size ∧ g1 < w5.heap.size ∧ g2 < w5.heap.size ∧ g3 < w5.heap.size := ⟨E.out.1.size, Af.lt (E.out.2.1), At.lt (E.out.2.2.1), At.lt (E.out.2.2.2)⟩
  obtain ⟨g4, hg4⟩ : ∃ zg, zg = w5.heap.size := ⟨_, rfl⟩
  obtain ⟨w6, hw6⟩ : ∃ zz, zz = w5.alloc (.cells #[.int .u64 (j.lo : Int), .int .u64 (j.hi : Int)] 27) := ⟨_, rfl⟩
  replace hO : w.heap.size ≤ g4 ∧ g1 < g4 ∧ g2 < g4 ∧ g3 < g4 := by rw [hg4]; exact hO
  rw [← hg4] at hA ⊢
  rw [← hw6] at hA hC ⊢
  clear hg4 hw6
  have O4 := Lib.hid hO
  clear hO
  replace E := Lib.hid (show Calm w w6 ∧ Af w6 g1 f0 f1 f2 f3 ∧ At w6 g2 a ∧ At w6 g3 b from ⟨E.out.1.trans (hC), Af.calm (E.out.2.1) (hC), At.calm (E.out.2.2.1) (hC), At.calm (E.out.2.2.2) (hC)⟩)
  replace E := Lib.hid (show Calm w w6 ∧ Af w6 g1 f0 f1 f2 f3 ∧ At w6 g2 a ∧ At w6 g3 b ∧ At w6 g4 j from ⟨E.out.1, E.out.2.1, E.out.2.2.1, E.out.2.2.2, hA⟩)
  clear hC hA
  obtain ⟨g1_0, g1_1, g1_2, g1_3⟩ := Af.four (E.out.2.1)
  obtain ⟨g2_0, g2_1, g2_2, g2_3⟩ := At.two (E.out.2.2.1)
  obtain ⟨g3_0, g3_1, g3_2, g3_3⟩ := At.two (E.out.2.2.2.1)
  obtain ⟨g4_0, g4_1, g4_2, g4_3⟩ := At.two (E.out.2.2.2.2)
  go_wp2_with fail
  clear g1_0 g1_1 g1_2 g1_3 g2_0 g2_1 g2_2 g2_3 g3_0 g3_1 g3_2 g3_3 g4_0 g4_1 g4_2 g4_3
  refine (KM.out _).mono ?_
  rintro ze w7 ⟨rfl, hc⟩
  replace E := Lib.hid (show Calm w w7 ∧ Af w7 g1 f0 f1 f2 f3 ∧ At w7 g2 a ∧ At w7 g3 b ∧ At w7 g4 j from ⟨E.out.1.trans (hc), Af.calm (E.out.2.1) (hc), At.calm (E.out.2.2.1) (hc), At.calm (E.out.2.2.2.1) (hc), At.calm (E.out.2.2.2.2) (hc)⟩)
  clear hc
  obtain ⟨g1_0, g1_1, g1_2, g1_3⟩ := Af.four (E.out.2.1)
  obtain ⟨g2_0, g2_1, g2_2, g2_3⟩ := At.two (E.out.2.2.1)
  obtain ⟨g3_0, g3_1, g3_2, g3_3⟩ := At.two (E.out.2.2.2.1)
  obtain ⟨g4_0, g4_1, g4_2, g4_3⟩ := At.two (E.out.2.2.2.2)
  go_upto_region 5 with fail
  clear g1_0 g1_1 g1_2 g1_3 g2_0 g2_1 g2_2 g2_3 g3_0 g3_1 g3_2 g3_3 g4_0 g4_1 g4_2 g4_3
  have hC : Calm w7 (w7.alloc (.cells #[.int .u64 (m.lo : Int), .int .u64 (m.hi : Int)] 27)) := (Keep.refl _ _).alloc _
  have hA : At (w7.alloc (.cells #[.int .u64 (m.lo : Int), .int .u64 (m.hi : Int)] 27)) w7.heap.size m := Row.made w7 _ _
  have hO : w.heap.size ≤ w7.heap.size ∧ g1 < w7.heap.size ∧ g2 < w7.heap.size ∧ g3 < w7.heap.size ∧ g4 < w7.heap.size := ⟨E.out.1.size, Af.lt (E.out.2.1), At.lt (E.out.2.2.1), At.lt (E.out.2.2.2.1), At.lt (E.out.2.2.2.2)⟩
  obtain ⟨g5, hg5⟩ : ∃ zg, zg = w7.heap.size := ⟨_, rfl⟩
  obtain ⟨w8, hw8⟩ : ∃ zz, zz = w7.alloc (.cells #[.int .u64 (m.lo : Int), .int .u64 (m.hi : Int)] 27) := ⟨_, rfl⟩
  replace hO : w.heap.size ≤ g5 ∧ g1 < g5 ∧ g2 < g5 ∧ g3 < g5 ∧ g4 < g5 := by rw [hg5]; exact hO
  rw [← hg5] at hA ⊢
  rw [← hw8] at hA hC ⊢
  clear hg5 hw8
  have O5 := Lib.hid hO
  clear hO
  replace E := Lib.hid (show Calm w w8 ∧ Af w8 g1 f0 f1 f2 f3 ∧ At w8 g2 a ∧ At w8 g3 b ∧ At w8 g4 j from ⟨E.out.1.trans (hC), Af.calm (E.out.2.1) (hC), At.calm (E.out.2.2.1) (hC), At.calm (E.out.2.2.2.1) (hC), At.calm (E.out.2.2.2.2) (hC)⟩)
  replace E := Lib.hid (show Calm w w8 ∧ Af w8 g1 f0 f1 f2 f3 ∧ At w8 g2 a ∧ At w8 g3 b ∧ At w8 g4 j ∧ At w8 g5 m from ⟨E.out.1, E.out.2.1, E.out.2.2.1, E.out.2.2.2.1, E.out.2.2.2.2, hA⟩)
  clear hC hA
  obtain ⟨g1_0, g1_1, g1_2, g1_3⟩ := Af.four (E.out.2.1)
  obtain ⟨g2_0, g2_1, g2_2, g2_3⟩ := At.two (E.out.2.2.1)
  obtain ⟨g3_0, g3_1, g3_2, g3_3⟩ := At.two (E.out.2.2.2.1)
  obtain ⟨g4_0, g4_1, g4_2, g4_3⟩ := At.two (E.out.2.2.2.2.1)
  obtain ⟨g5_0, g5_1, g5_2, g5_3⟩ := At.two (E.out.2.2.2.2.2)
  go_wp2_with fail
  clear g1_0 g1_1 g1_2 g1_3 g2_0 g2_1 g2_2 g2_3 g3_0 g3_1 g3_2 g3_3 g4_0 g4_1 g4_2 g4_3 g5_0 g5_1 g5_2 g5_3
  refine (KB.out _).mono ?_
  rintro ze w9 ⟨rfl, hc⟩
  replace E := Lib.hid (show Calm w w9 ∧ Af w9 g1 f0 f1 f2 f3 ∧ At w9 g2 a ∧ At w9 g3 b ∧ At w9 g4 j ∧ At w9 g5 m from ⟨E.out.1.trans (hc), Af.calm (E.out.2.1) (hc), At.calm (E.out.2.2.1) (hc), At.calm (E.out.2.2.2.1) (hc), At.calm (E.out.2.2.2.2.1) (hc), At.calm (E.out.2.2.2.2.2) (hc)⟩)
  clear hc
  obtain ⟨g1_0, g1_1, g1_2, g1_3⟩ := Af.four (E.out.2.1)
  obtain ⟨g2_0, g2_1, g2_2, g2_3⟩ := At.two (E.out.2.2.1)
  obtain ⟨g3_0, g3_1, g3_2, g3_3⟩ := At.two (E.out.2.2.2.1)
  obtain ⟨g4_0, g4_1, g4_2, g4_3⟩ := At.two (E.out.2.2.2.2.1)
  obtain ⟨g5_0, g5_1, g5_2, g5_3⟩ := At.two (E.out.2.2.2.2.2)
  go_upto_region 6 with fail
  clear g1_0 g1_1 g1_2 g1_3 g2_0 g2_1 g2_2 g2_3 g3_0 g3_1 g3_2 g3_3 g4_0 g4_1 g4_2 g4_3 g5_0 g5_1 g5_2 g5_3
  have hC : Calm w9 (w9.alloc (.cells #[.int .u64 (j.lo : Int), .int .u64 (j.hi : Int)] 27)) := (Keep.refl _ _).alloc _
  have hA : At (w9.alloc (.cells #[.int .u64 (j.lo : Int), .int .u64 (j.hi : Int)] 27)) w9.heap.size j := Row.made w9 _ _
  have hO : w.heap.size ≤ w9.heap.size ∧ g1 < w9.heap.size ∧ g2 < w9.heap.size ∧ g3 < w9.heap.size ∧ g4 < w9.heap.size ∧ g5 < w9.heap.size := ⟨E.out.1.size, Af.lt (E.out.2.1), At.lt (E.out.2.2.1), At.lt (E.out.2.2.2.1), At.lt (E.out.2.2.2.2.1), At.lt (E.out.2.2.2.2.2)⟩
  obtain ⟨g6, hg6⟩ : ∃ zg, zg = w9.heap.size := ⟨_, rfl⟩
  obtain ⟨w10, hw10⟩ : ∃ zz, zz = w9.alloc (.cells #[.int .u64 (j.lo : Int), .int .u64 (j.hi : Int)] 27) := ⟨_, rfl⟩
  replace hO : w.heap.size ≤ g6 ∧ g1 < g6 ∧ g2 < g6 ∧ g3 < g6 ∧ g4 < g6 ∧ g5 < g6 := by rw [hg6]; exact hO
  rw [← hg6] at hA ⊢
  rw [← hw10] at hA hC ⊢
  clear hg6 hw10
  have O6 := Lib.hid hO
  clear hO
  replace E := Lib.hid (show Calm w w10 ∧ Af w10 g1 f0 f1 f2 f3 ∧ At w10 g2 a ∧ At w10 g3 b ∧ At w10 g4 j ∧ At w10 g5 m from ⟨E.out.1.trans (hC), Af.calm (E.out.2.1) (hC), At.calm (E.out.2.2.1) (hC), At.calm (E.out.2.2.2.1) (hC), At.calm (E.out.2.2.2.2.1) (hC), At.calm (E.out.2.2.2.2.2) (hC)⟩)
  replace E := Lib.hid (show Calm w w10 ∧ Af w10 g1 f0 f1 f2 f3 ∧ At w10 g2 a ∧ At w10 g3 b ∧ At w10 g4 j ∧ At w10 g5 m ∧ At w10 g6 j from ⟨E.out.1, E.out.2.1, E.out.2.2.1, E.out.2.2.2.1, E.out.2.2.2.2.1, E.out.2.2.2.2.2, hA⟩)
  clear hC hA
  obtain ⟨g1_0, g1_1, g1_2, g1_3⟩ := Af.four (E.out.2.1)
  obtain ⟨g2_0, g2_1, g2_2, g2_3⟩ := At.two (E.out.2.2.1)
  obtain ⟨g3_0, g3_1, g3_2, g3_3⟩ := At.two (E.out.2.2.2.1)
  obtain ⟨g4_0, g4_1, g4_2, g4_3⟩ := At.two (E.out.2.2.2.2.1)
  obtain ⟨g5_0, g5_1, g5_2, g5_3⟩ := At.two (E.out.2.2.2.2.2.1)
  obtain ⟨g6_0, g6_1, g6_2, g6_3⟩ := At.two (E.out.2.2.2.2.2.2)
  go_wp2_with fail
  clear g1_0 g1_1 g1_2 g1_3 g2_0 g2_1 g2_2 g2_3 g3_0 g3_1 g3_2 g3_3 g4_0 g4_1 g4_2 g4_3 g5_0 g5_1 g5_2 g5_3 g6_0 g6_1 g6_2 g6_3
  refine (HP.out _).mono ?_
  rintro ze w11 ⟨rfl, hc⟩
  replace E := Lib.hid (show Calm w w11 ∧ Af w11 g1 f0 f1 f2 f3 ∧ At w11 g2 a ∧ At w11 g3 b ∧ At w11 g4 j ∧ At w11 g5 m ∧ At w11 g6 j from ⟨E.out.1.trans (hc), Af.calm (E.out.2.1) (hc), At.calm (E.out.2.2.1) (hc), At.calm (E.out.2.2.2.1) (hc), At.calm (E.out.2.2.2.2.1) (hc), At.calm (E.out.2.2.2.2.2.1) (hc), At.calm (E.out.2.2.2.2.2.2) (hc)⟩)
  clear hc
  obtain ⟨g1_0, g1_1, g1_2, g1_3⟩ := Af.four (E.out.2.1)
  obtain ⟨g2_0, g2_1, g2_2, g2_3⟩ := At.two (E.out.2.2.1)
  obtain ⟨g3_0, g3_1, g3_2, g3_3⟩ := At.two (E.out.2.2.2.1)
  obtain ⟨g4_0, g4_1, g4_2, g4_3⟩ := At.two (E.out.2.2.2.2.1)
  obtain ⟨g5_0, g5_1, g5_2, g5_3⟩ := At.two (E.out.2.2.2.2.2.1)
  obtain ⟨g6_0, g6_1, g6_2, g6_3⟩ := At.two (E.out.2.2.2.2.2.2)
  go_wp2_with fail
  clear g1_0 g1_1 g1_2 g1_3 g2_0 g2_1 g2_2 g2_3 g3_0 g3_1 g3_2 g3_3 g4_0 g4_1 g4_2 g4_3 g5_0 g5_1 g5_2 g5_3 g6_0 g6_1 g6_2 g6_3
  refine (HQ.out _).mono ?_
  rintro ze w12 ⟨rfl, hc⟩
  replace E := Lib.hid (show Calm w w12 ∧ Af w12 g1 f0 f1 f2 f3 ∧ At w12 g2 a ∧ At w12 g3 b ∧ At w12 g4 j ∧ At w12 g5 m ∧ At w12 g6 j from ⟨E.out.1.trans (hc), Af.calm (E.out.2.1) (hc), At.calm (E.out.2.2.1) (hc), At.calm (E.out.2.2.2.1) (hc), At.calm (E.out.2.2.2.2.1) (hc), At.calm (E.out.2.2.2.2.2.1) (hc), At.calm (E.out.2.2.2.2.2.2) (hc)⟩)
  clear hc
  obtain ⟨g1_0, g1_1, g1_2, g1_3⟩ := Af.four (E.out.2.1)
  obtain ⟨g2_0, g2_1, g2_2, g2_3⟩ := At.two (E.out.2.2.1)
  obtain ⟨g3_0, g3_1, g3_2, g3_3⟩ := At.two (E.out.2.2.2.1)
  obtain ⟨g4_0, g4_1, g4_2, g4_3⟩ := At.two (E.out.2.2.2.2.1)
  obtain ⟨g5_0, g5_1, g5_2, g5_3⟩ := At.two (E.out.2.2.2.2.2.1)
  obtain ⟨g6_0, g6_1, g6_2, g6_3⟩ := At.two (E.out.2.2.2.2.2.2)
  go_upto_region 7 with fail
  clear g1_0 g1_1 g1_2 g1_3 g2_0 g2_1 g2_2 g2_3 g3_0 g3_1 g3_2 g3_3 g4_0 g4_1 g4_2 g4_3 g5_0 g5_1 g5_2 g5_3 g6_0 g6_1 g6_2 g6_3
  refine wp_region_noPanic ?_
  refine wp_region_held_drew (S := fun w' => Calm w w' ∧ Af w' g1 f0 f1 f2 f3 ∧ At w' g2 a ∧ At w' g3 b ∧ At w' g4 j ∧ At w' g5 m ∧ At w' g6 j) (by kernel_rfl) ⟨E.out.1.drew, E.out.2.1, E.out.2.2.1, E.out.2.2.2.1, E.out.2.2.2.2.1, E.out.2.2.2.2.2.1, E.out.2.2.2.2.2.2⟩ (fun hHeld => ?_)
  refine take_at 0 39 (.bool true) rfl rfl (by kernel_rfl) (by kernel_rfl) (by kernel_rfl) (fun _ _ _ h => h) (Or.inl ⟨by rfl, ?_⟩) hHeld ?_
  · intro w hSw; go_simp
  simp only [List.setIfInBounds_toArray, List.set_cons_zero, List.set_cons_succ]
  refine take_at 1 40 (.bool true) rfl rfl (by kernel_rfl) (by kernel_rfl) (by kernel_rfl) (fun _ _ _ h => h) (Or.inl ⟨by rfl, ?_⟩) hHeld ?_
  · intro w hSw; go_simp
  simp only [List.setIfInBounds_toArray, List.set_cons_zero, List.set_cons_succ]
  refine take_at 2 41 (.agg #[.int .u64 (a.lo : Int), .int .u64 (a.hi : Int)]) rfl rfl (by kernel_rfl) (by kernel_rfl) (by kernel_rfl) (fun _ _ _ h => h) (Or.inl ⟨by rfl, ?_⟩) hHeld ?_
  · intro w hSw; have c := At.two (hSw.2.2.1); go_simp
  simp only [List.setIfInBounds_toArray, List.set_cons_zero, List.set_cons_succ]
  refine take_at 3 42 (.int .u64 (n : Int)) rfl rfl (by kernel_rfl) (by kernel_rfl) (by kernel_rfl) (fun _ _ _ h => h) (Or.inl ⟨by rfl, ?_⟩) hHeld ?_
  · intro w hSw; go_simp
  simp only [List.setIfInBounds_toArray, List.set_cons_zero, List.set_cons_succ]
  refine wpAnyH_ready (rs := [4]) (by kernel_rfl) (by simp) ?_
  refine AllReadyH.cons rfl (fun K hK => ?_) AllReadyH.nil
  go_simp
  refine (HP.out _).mono ?_
  rintro ze wr1 ⟨rfl, hc⟩
  refine hK.out _ _ ⟨hHeld.1.trans hc, Af.calm (hHeld.2.1) hc, At.calm (hHeld.2.2.1) hc, At.calm (hHeld.2.2.2.1) hc, At.calm (hHeld.2.2.2.2.1) hc, At.calm (hHeld.2.2.2.2.2.1) hc, At.calm (hHeld.2.2.2.2.2.2) hc⟩ (fun hHeld => ?_)
  clear hK K
  try simp only [List.setIfInBounds_toArray, List.set_cons_zero, List.set_cons_succ]
  refine take_at 5 44 (.bool false) rfl rfl (by kernel_rfl) (by kernel_rfl) (by kernel_rfl) (fun _ _ _ h => h) (Or.inl ⟨by rfl, ?_⟩) hHeld ?_
  · intro w hSw; go_simp
  simp only [List.setIfInBounds_toArray, List.set_cons_zero, List.set_cons_succ]
  refine take_at 6 45 (.bool false) rfl rfl (by kernel_rfl) (by kernel_rfl) (by kernel_rfl) (fun _ _ _ h => h) (Or.inl ⟨by rfl, ?_⟩) hHeld ?_
  · intro w hSw; go_simp
  simp only [List.setIfInBounds_toArray, List.set_cons_zero, List.set_cons_succ]
  refine take_at 7 46 (undef) rfl rfl (by kernel_rfl) (by kernel_rfl) (by kernel_rfl) (fun _ _ _ h => h) (Or.inr ⟨by rfl, rfl⟩) hHeld ?_
  simp only [List.setIfInBounds_toArray, List.set_cons_zero, List.set_cons_succ]
  refine take_at 8 47 (undef) rfl rfl (by kernel_rfl) (by kernel_rfl) (by kernel_rfl) (fun _ _ _ h => h) (Or.inr ⟨by rfl, rfl⟩) hHeld ?_
  simp only [List.setIfInBounds_toArray, List.set_cons_zero, List.set_cons_succ]
  refine take_at 9 48 (undef) rfl rfl (by kernel_rfl) (by kernel_rfl) (by kernel_rfl) (fun _ _ _ h => h) (Or.inr ⟨by rfl, rfl⟩) hHeld ?_
  simp only [List.setIfInBounds_toArray, List.set_cons_zero, List.set_cons_succ]
  refine take_at 10 49 (undef) rfl rfl (by kernel_rfl) (by kernel_rfl) (by kernel_rfl) (fun _ _ _ h => h) (Or.inr ⟨by rfl, rfl⟩) hHeld ?_
  simp only [List.setIfInBounds_toArray, List.set_cons_zero, List.set_cons_succ]
  refine take_at 11 50 (.bool false) rfl rfl (by kernel_rfl) (by kernel_rfl) (by kernel_rfl) (fun _ _ _ h => h) (Or.inl ⟨by rfl, ?_⟩) hHeld ?_
  · intro w hSw; go_simp
  simp only [List.setIfInBounds_toArray, List.set_cons_zero, List.set_cons_succ]
  refine take_at 12 51 (.bool false) rfl rfl (by kernel_rfl) (by kernel_rfl) (by kernel_rfl) (fun _ _ _ h => h) (Or.inl ⟨by rfl, ?_⟩) hHeld ?_
  · intro w hSw; go_simp
  simp only [List.setIfInBounds_toArray, List.set_cons_zero, List.set_cons_succ]
  refine take_at 13 52 (.agg #[.int .u64 (j.lo : Int), .int .u64 (j.hi : Int)]) rfl rfl (by kernel_rfl) (by kernel_rfl) (by kernel_rfl) (fun _ _ _ h => h) (Or.inl ⟨by rfl, ?_⟩) hHeld ?_
  · intro w hSw; have c := At.two (hSw.2.2.2.2.1); go_simp
  simp only [List.setIfInBounds_toArray, List.set_cons_zero, List.set_cons_succ]
  refine take_at 14 53 (.int .u64 (n : Int)) rfl rfl (by kernel_rfl) (by kernel_rfl) (by kernel_rfl) (fun _ _ _ h => h) (Or.inl ⟨by rfl, ?_⟩) hHeld ?_
  · intro w hSw; go_simp
  simp only [List.setIfInBounds_toArray, List.set_cons_zero, List.set_cons_succ]
  refine wpAnyH_ready (rs := [15]) (by kernel_rfl) (by simp) ?_
  refine AllReadyH.cons rfl (fun K hK => ?_) AllReadyH.nil
  go_simp
  refine (HJ.out _).mono ?_
  rintro ze wr2 ⟨rfl, hc⟩
  refine hK.out _ _ ⟨hHeld.1.trans hc, Af.calm (hHeld.2.1) hc, At.calm (hHeld.2.2.1) hc, At.calm (hHeld.2.2.2.1) hc, At.calm (hHeld.2.2.2.2.1) hc, At.calm (hHeld.2.2.2.2.2.1) hc, At.calm (hHeld.2.2.2.2.2.2) hc⟩ (fun hHeld => ?_)
  clear hK K
  try simp only [List.setIfInBounds_toArray, List.set_cons_zero, List.set_cons_succ]
  refine take_at 16 55 (.bool true) rfl rfl (by kernel_rfl) (by kernel_rfl) (by kernel_rfl) (fun _ _ _ h => h) (Or.inl ⟨by rfl, ?_⟩) hHeld ?_
  · intro w hSw; go_simp
  simp only [List.setIfInBounds_toArray, List.set_cons_zero, List.set_cons_succ]
  refine take_at 17 56 (.bool true) rfl rfl (by kernel_rfl) (by kernel_rfl) (by kernel_rfl) (fun _ _ _ h => h) (Or.inl ⟨by rfl, ?_⟩) hHeld ?_
  · intro w hSw; go_simp
  simp only [List.setIfInBounds_toArray, List.set_cons_zero, List.set_cons_succ]
  refine take_at 18 57 (.bool true) rfl rfl (by kernel_rfl) (by kernel_rfl) (by kernel_rfl) (fun _ _ _ h => h) (Or.inl ⟨by rfl, ?_⟩) hHeld ?_
  · intro w hSw; go_simp
  simp only [List.setIfInBounds_toArray, List.set_cons_zero, List.set_cons_succ]
  refine take_at 19 58 (.bool false) rfl rfl (by kernel_rfl) (by kernel_rfl) (by kernel_rfl) (fun _ _ _ h => h) (Or.inl ⟨by rfl, ?_⟩) hHeld ?_
  · intro w hSw; go_simp
  simp only [List.setIfInBounds_toArray, List.set_cons_zero, List.set_cons_succ]
  refine take_at 20 59 (.bool true) rfl rfl (by kernel_rfl) (by kernel_rfl) (by kernel_rfl) (fun _ _ _ h => h) (Or.inl ⟨by rfl, ?_⟩) hHeld ?_
  · intro w hSw; go_simp
  simp only [List.setIfInBounds_toArray, List.set_cons_zero, List.set_cons_succ]
  refine take_at 21 60 (.bool true) rfl rfl (by kernel_rfl) (by kernel_rfl) (by kernel_rfl) (fun _ _ _ h => h) (Or.inl ⟨by rfl, ?_⟩) hHeld ?_
  · intro w hSw; go_simp
  simp only [List.setIfInBounds_toArray, List.set_cons_zero, List.set_cons_succ]
  refine take_at 22 61 (.agg #[.int .u64 (m.lo : Int), .int .u64 (m.hi : Int)]) rfl rfl (by kernel_rfl) (by kernel_rfl) (by kernel_rfl) (fun _ _ _ h => h) (Or.inl ⟨by rfl, ?_⟩) hHeld ?_
  · intro w hSw; have c := At.two (hSw.2.2.2.2.2.1); go_simp
  simp only [List.setIfInBounds_toArray, List.set_cons_zero, List.set_cons_succ]
  refine take_at 23 62 (.int .u64 (n : Int)) rfl rfl (by kernel_rfl) (by kernel_rfl) (by kernel_rfl) (fun _ _ _ h => h) (Or.inl ⟨by rfl, ?_⟩) hHeld ?_
  · intro w hSw; go_simp
  simp only [List.setIfInBounds_toArray, List.set_cons_zero, List.set_cons_succ]
  refine wpAnyH_ready (rs := [24]) (by kernel_rfl) (by simp) ?_
  refine AllReadyH.cons rfl (fun K hK => ?_) AllReadyH.nil
  go_simp
  refine (HM.out _).mono ?_
  rintro ze wr3 ⟨rfl, hc⟩
  refine hK.out _ _ ⟨hHeld.1.trans hc, Af.calm (hHeld.2.1) hc, At.calm (hHeld.2.2.1) hc, At.calm (hHeld.2.2.2.1) hc, At.calm (hHeld.2.2.2.2.1) hc, At.calm (hHeld.2.2.2.2.2.1) hc, At.calm (hHeld.2.2.2.2.2.2) hc⟩ (fun hHeld => ?_)
  clear hK K
  try simp only [List.setIfInBounds_toArray, List.set_cons_zero, List.set_cons_succ]
  refine take_at 25 64 (.bool false) rfl rfl (by kernel_rfl) (by kernel_rfl) (by kernel_rfl) (fun _ _ _ h => h) (Or.inl ⟨by rfl, ?_⟩) hHeld ?_
  · intro w hSw; go_simp
  simp only [List.setIfInBounds_toArray, List.set_cons_zero, List.set_cons_succ]
  refine take_at 26 65 (.bool true) rfl rfl (by kernel_rfl) (by kernel_rfl) (by kernel_rfl) (fun _ _ _ h => h) (Or.inl ⟨by rfl, ?_⟩) hHeld ?_
  · intro w hSw; go_simp
  simp only [List.setIfInBounds_toArray, List.set_cons_zero, List.set_cons_succ]
  refine take_at 27 66 (.bool true) rfl rfl (by kernel_rfl) (by kernel_rfl) (by kernel_rfl) (fun _ _ _ h => h) (Or.inl ⟨by rfl, ?_⟩) hHeld ?_
  · intro w hSw; go_simp
  simp only [List.setIfInBounds_toArray, List.set_cons_zero, List.set_cons_succ]
  refine take_at 28 67 (.bool true) rfl rfl (by kernel_rfl) (by kernel_rfl) (by kernel_rfl) (fun _ _ _ h => h) (Or.inl ⟨by rfl, ?_⟩) hHeld ?_
  · intro w hSw; go_simp
  simp only [List.setIfInBounds_toArray, List.set_cons_zero, List.set_cons_succ]
  refine take_at 29 68 (.agg #[.int .u64 (j.lo : Int), .int .u64 (j.hi : Int)]) rfl rfl (by kernel_rfl) (by kernel_rfl) (by kernel_rfl) (fun _ _ _ h => h) (Or.inl ⟨by rfl, ?_⟩) hHeld ?_
  · intro w hSw; have c := At.two (hSw.2.2.2.2.2.2); go_simp
  simp only [List.setIfInBounds_toArray, List.set_cons_zero, List.set_cons_succ]
  refine take_at 30 69 (.agg #[.int .u64 (j.lo : Int), .int .u64 (j.hi : Int)]) rfl rfl (by kernel_rfl) (by kernel_rfl) (by kernel_rfl) (fun _ _ _ h => h) (Or.inl ⟨by rfl, ?_⟩) hHeld ?_
  · intro w hSw; have c := At.two (hSw.2.2.2.2.1); go_simp
  simp only [List.setIfInBounds_toArray, List.set_cons_zero, List.set_cons_succ]
  refine take_at 31 70 (.bool true) rfl rfl (by kernel_rfl) (by kernel_rfl) (by kernel_rfl) (fun _ _ _ h => h) (Or.inl ⟨by rfl, ?_⟩) hHeld ?_
  · intro w hSw; go_simp
  simp only [List.setIfInBounds_toArray, List.set_cons_zero, List.set_cons_succ]
  refine take_at 32 71 (.bool true) rfl rfl (by kernel_rfl) (by kernel_rfl) (by kernel_rfl) (fun _ _ _ h => h) (Or.inl ⟨by rfl, ?_⟩) hHeld ?_
  · intro w hSw; go_simp
  simp only [List.setIfInBounds_toArray, List.set_cons_zero, List.set_cons_succ]
  refine take_at 33 72 (.bool true) rfl rfl (by kernel_rfl) (by kernel_rfl) (by kernel_rfl) (fun _ _ _ h => h) (Or.inl ⟨by rfl, ?_⟩) hHeld ?_
  · intro w hSw; go_simp
  simp only [List.setIfInBounds_toArray, List.set_cons_zero, List.set_cons_succ]
  refine take_at 34 73 (.agg #[.int .u64 (a.lo : Int), .int .u64 (a.hi : Int)]) rfl rfl (by kernel_rfl) (by kernel_rfl) (by kernel_rfl) (fun _ _ _ h => h) (Or.inl ⟨by rfl, ?_⟩) hHeld ?_
  · intro w hSw; have c := At.two (hSw.2.2.1); go_simp
  simp only [List.setIfInBounds_toArray, List.set_cons_zero, List.set_cons_succ]
  refine take_at 35 74 (.agg #[.int .u64 (a.lo : Int), .int .u64 (a.hi : Int)]) rfl rfl (by kernel_rfl) (by kernel_rfl) (by kernel_rfl) (fun _ _ _ h => h) (Or.inl ⟨by rfl, ?_⟩) hHeld ?_
  · intro w hSw; have c := At.two (hSw.2.2.1); go_simp
  simp only [List.setIfInBounds_toArray, List.set_cons_zero, List.set_cons_succ]
  refine take_at 37 76 (.agg #[.int .u64 (a.lo : Int), .int .u64 (a.hi : Int)]) rfl rfl (by kernel_rfl) (by kernel_rfl) (by kernel_rfl) (fun _ _ _ h => h) (Or.inl ⟨by rfl, ?_⟩) hHeld ?_
  · intro w hSw; have c := At.two (hSw.2.2.1); go_simp
  simp only [List.setIfInBounds_toArray, List.set_cons_zero, List.set_cons_succ]
  refine wpAnyH_ready (rs := [36]) (by kernel_rfl) (by simp) ?_
  refine AllReadyH.cons rfl (fun K hK => ?_) AllReadyH.nil
  go_simp
  refine (KK.out _).mono ?_
  rintro ze wr4 ⟨rfl, hc⟩
  refine hK.out _ _ ⟨hHeld.1.trans hc, Af.calm (hHeld.2.1) hc, At.calm (hHeld.2.2.1) hc, At.calm (hHeld.2.2.2.1) hc, At.calm (hHeld.2.2.2.2.1) hc, At.calm (hHeld.2.2.2.2.2.1) hc, At.calm (hHeld.2.2.2.2.2.2) hc⟩ (fun hHeld => ?_)
  clear hK K
  try simp only [List.setIfInBounds_toArray, List.set_cons_zero, List.set_cons_succ]
  refine take_at 38 77 (.bool true) rfl rfl (by kernel_rfl) (by kernel_rfl) (by kernel_rfl) (fun _ _ _ h => h) (Or.inl ⟨by rfl, ?_⟩) hHeld ?_
  · intro w hSw; go_simp
  simp only [List.setIfInBounds_toArray, List.set_cons_zero, List.set_cons_succ]
  refine take_at 39 78 (.bool true) rfl rfl (by kernel_rfl) (by kernel_rfl) (by kernel_rfl) (fun _ _ _ h => h) (Or.inl ⟨by rfl, ?_⟩) hHeld ?_
  · intro w hSw; go_simp
  simp only [List.setIfInBounds_toArray, List.set_cons_zero, List.set_cons_succ]
  refine take_at 40 79 (.bool true) rfl rfl (by kernel_rfl) (by kernel_rfl) (by kernel_rfl) (fun _ _ _ h => h) (Or.inl ⟨by rfl, ?_⟩) hHeld ?_
  · intro w hSw; go_simp
  simp only [List.setIfInBounds_toArray, List.set_cons_zero, List.set_cons_succ]
  refine take_at 41 80 (.agg #[.int .u64 (a.lo : Int), .int .u64 (a.hi : Int)]) rfl rfl (by kernel_rfl) (by kernel_rfl) (by kernel_rfl) (fun _ _ _ h => h) (Or.inl ⟨by rfl, ?_⟩) hHeld ?_
  · intro w hSw; have c := At.two (hSw.2.2.1); go_simp
  simp only [List.setIfInBounds_toArray, List.set_cons_zero, List.set_cons_succ]
  refine take_at 42 81 (.int .u64 (n : Int)) rfl rfl (by kernel_rfl) (by kernel_rfl) (by kernel_rfl) (fun _ _ _ h => h) (Or.inl ⟨by rfl, ?_⟩) hHeld ?_
  · intro w hSw; go_simp
  simp only [List.setIfInBounds_toArray, List.set_cons_zero, List.set_cons_succ]
  refine wpAnyH_ready (rs := [43]) (by kernel_rfl) (by simp) ?_
  refine AllReadyH.cons rfl (fun K hK => ?_) AllReadyH.nil
  go_simp
  refine (HP.out _).mono ?_
  rintro ze wr5 ⟨rfl, hc⟩
  refine hK.out _ _ ⟨hHeld.1.trans hc, Af.calm (hHeld.2.1) hc, At.calm (hHeld.2.2.1) hc, At.calm (hHeld.2.2.2.1) hc, At.calm (hHeld.2.2.2.2.1) hc, At.calm (hHeld.2.2.2.2.2.1) hc, At.calm (hHeld.2.2.2.2.2.2) hc⟩ (fun hHeld => ?_)
  clear hK K
  try simp only [List.setIfInBounds_toArray, List.set_cons_zero, List.set_cons_succ]
  refine take_at 44 83 (.bool false) rfl rfl (by kernel_rfl) (by kernel_rfl) (by kernel_rfl) (fun _ _ _ h => h) (Or.inl ⟨by rfl, ?_⟩) hHeld ?_
  · intro w hSw; go_simp
  simp only [List.setIfInBounds_toArray, List.set_cons_zero, List.set_cons_succ]
  refine take_at 45 84 (.bool false) rfl rfl (by kernel_rfl) (by kernel_rfl) (by kernel_rfl) (fun _ _ _ h => h) (Or.inl ⟨by rfl, ?_⟩) hHeld ?_
  · intro w hSw; go_simp
  simp only [List.setIfInBounds_toArray, List.set_cons_zero, List.set_cons_succ]
  refine take_at 46 85 (.agg #[.int .u64 (a.lo : Int), .int .u64 (a.hi : Int)]) rfl rfl (by kernel_rfl) (by kernel_rfl) (by kernel_rfl) (fun _ _ _ h => h) (Or.inl ⟨by rfl, ?_⟩) hHeld ?_
  · intro w hSw; have c := At.two (hSw.2.2.1); go_simp
  simp only [List.setIfInBounds_toArray, List.set_cons_zero, List.set_cons_succ]
  refine take_at 48 87 (.int .u64 (n : Int)) rfl rfl (by kernel_rfl) (by kernel_rfl) (by kernel_rfl) (fun _ _ _ h => h) (Or.inl ⟨by rfl, ?_⟩) hHeld ?_
  · intro w hSw; go_simp
  simp only [List.setIfInBounds_toArray, List.set_cons_zero, List.set_cons_succ]
  refine take_at 49 88 (.int .u64 (n' : Int)) rfl rfl (by kernel_rfl) (by kernel_rfl) (by kernel_rfl) (fun _ _ _ h => h) (Or.inl ⟨by rfl, ?_⟩) hHeld ?_
  · intro w hSw; go_simp
  simp only [List.setIfInBounds_toArray, List.set_cons_zero, List.set_cons_succ]
  refine wpAnyH_ready (rs := [47]) (by kernel_rfl) (by simp) ?_
  refine AllReadyH.cons rfl (fun K hK => ?_) AllReadyH.nil
  go_simp
  refine (KL.out _).mono ?_
  rintro ze wr6 ⟨rfl, hc⟩
  refine hK.out _ _ ⟨hHeld.1.trans hc, Af.calm (hHeld.2.1) hc, At.calm (hHeld.2.2.1) hc, At.calm (hHeld.2.2.2.1) hc, At.calm (hHeld.2.2.2.2.1) hc, At.calm (hHeld.2.2.2.2.2.1) hc, At.calm (hHeld.2.2.2.2.2.2) hc⟩ (fun hHeld => ?_)
  clear hK K
  try simp only [List.setIfInBounds_toArray, List.set_cons_zero, List.set_cons_succ]
  refine wpAnyH_ready (rs := [50]) (by kernel_rfl) (by simp) ?_
  refine AllReadyH.cons rfl (fun K hK => ?_) AllReadyH.nil
  go_simp
  refine (HL.out _).mono ?_
  rintro ze wr7 ⟨rfl, hc⟩
  refine hK.out _ _ ⟨hHeld.1.trans hc, Af.calm (hHeld.2.1) hc, At.calm (hHeld.2.2.1) hc, At.calm (hHeld.2.2.2.1) hc, At.calm (hHeld.2.2.2.2.1) hc, At.calm (hHeld.2.2.2.2.2.1) hc, At.calm (hHeld.2.2.2.2.2.2) hc⟩ (fun hHeld => ?_)
  clear hK K
  try simp only [List.setIfInBounds_toArray, List.set_cons_zero, List.set_cons_succ]
  refine take_at 51 90 (.bool true) rfl rfl (by kernel_rfl) (by kernel_rfl) (by kernel_rfl) (fun _ _ _ h => h) (Or.inl ⟨by rfl, ?_⟩) hHeld ?_
  · intro w hSw; go_simp
  simp only [List.setIfInBounds_toArray, List.set_cons_zero, List.set_cons_succ]
  refine take_at 52 91 (.bool true) rfl rfl (by kernel_rfl) (by kernel_rfl) (by kernel_rfl) (fun _ _ _ h => h) (Or.inl ⟨by rfl, ?_⟩) hHeld ?_
  · intro w hSw; go_simp
  simp only [List.setIfInBounds_toArray, List.set_cons_zero, List.set_cons_succ]
  refine take_at 53 4 (.bool true) rfl rfl (by kernel_rfl) (by kernel_rfl) (by kernel_rfl) (fun _ _ _ h => h) (Or.inl ⟨by rfl, ?_⟩) hHeld ?_
  · intro w hSw; go_simp
  simp only [List.setIfInBounds_toArray, List.set_cons_zero, List.set_cons_succ]
  refine wpAnyH_done (by kernel_rfl) (NoPanic.normal ?_) _
  replace E := Lib.hid (show Calm w wr7 ∧ Af wr7 g1 f0 f1 f2 f3 ∧ At wr7 g2 a ∧ At wr7 g3 b ∧ At wr7 g4 j ∧ At wr7 g5 m ∧ At wr7 g6 j from hHeld)
  clear hHeld
  obtain ⟨g1_0, g1_1, g1_2, g1_3⟩ := Af.four (E.out.2.1)
  obtain ⟨g2_0, g2_1, g2_2, g2_3⟩ := At.two (E.out.2.2.1)
  obtain ⟨g3_0, g3_1, g3_2, g3_3⟩ := At.two (E.out.2.2.2.1)
  obtain ⟨g4_0, g4_1, g4_2, g4_3⟩ := At.two (E.out.2.2.2.2.1)
  obtain ⟨g5_0, g5_1, g5_2, g5_3⟩ := At.two (E.out.2.2.2.2.2.1)
  obtain ⟨g6_0, g6_1, g6_2, g6_3⟩ := At.two (E.out.2.2.2.2.2.2)
  go_wp2_with fail
  clear g1_0 g1_1 g1_2 g1_3 g2_0 g2_1 g2_2 g2_3 g3_0 g3_1 g3_2 g3_3 g4_0 g4_1 g4_2 g4_3 g5_0 g5_1 g5_2 g5_3 g6_0 g6_1 g6_2 g6_3
  go_returns
  exact ⟨rfl, E.out.1⟩

set_option maxHeartbeats 6400000 in
set_option maxRecDepth 20000 in
theorem spanJoins_tff {a b : Sp} {f0 f1 f2 f3 n n' : Nat} (en : bits .and .u64 (n : Int) 4294967295 = (n' : Int)) (ea : a = rS f0 f1) (eb : b = rS f2 f3) (hp : Sp.In n a) (hq : ¬ Sp.In n b) (hm : (meetS a b).2 = false) (hl : Sp.In n' (lowS a)) (w : World) : Calls Try.prog 8 #[.agg #[.int .u64 (f0 : Int), .int .u64 (f1 : Int), .int .u64 (f2 : Int), .int .u64 (f3 : Int)], .int .u64 (n : Int)] w fun e w' => e = .returned (.bool true) ∧ Calm w w' := by
  obtain ⟨j, ej⟩ : ∃ j, j = joinS a b := ⟨_, rfl⟩
  have ej' : joinS b a = j := by rw [ej]; simp only [joinS, Sp.mk.injEq]; omega
  obtain ⟨m, em⟩ : ∃ m, m = (meetS a b).1 := ⟨_, rfl⟩
  obtain ⟨l, el⟩ : ∃ l, l = lowS a := ⟨_, rfl⟩
  have KA : Hid (∀ w, Calls Try.prog 12 #[.agg #[.int .u64 (f0 : Int), .int .u64 (f1 : Int), .int .u64 (f2 : Int), .int .u64 (f3 : Int)]] w fun x w' => x = .returned (.tuple #[.agg #[.int .u64 (a.lo : Int), .int .u64 (a.hi : Int)], .agg #[.int .u64 (b.lo : Int), .int .u64 (b.hi : Int)]]) ∧ Calm w w') := Lib.hid (by rw [ea, eb]; exact fun w => spans8_c w f0 f1 f2 f3)
  have KJ : Hid (∀ w, Calls Try.prog 20 #[.agg #[.int .u64 (a.lo : Int), .int .u64 (a.hi : Int)], .agg #[.int .u64 (b.lo : Int), .int .u64 (b.hi : Int)]] w fun x w' => x = .returned (.agg #[.int .u64 (j.lo : Int), .int .u64 (j.hi : Int)]) ∧ Calm w w') := Lib.hid (by rw [ej]; exact fun w => pjoin_c a b w)
  have KB : Hid (∀ w, Calls Try.prog 20 #[.agg #[.int .u64 (b.lo : Int), .int .u64 (b.hi : Int)], .agg #[.int .u64 (a.lo : Int), .int .u64 (a.hi : Int)]] w fun x w' => x = .returned (.agg #[.int .u64 (j.lo : Int), .int .u64 (j.hi : Int)]) ∧ Calm w w') := Lib.hid (by rw [← ej']; exact fun w => pjoin_c b a w)
  have KK : Hid (∀ w, Calls Try.prog 20 #[.agg #[.int .u64 (a.lo : Int), .int .u64 (a.hi : Int)], .agg #[.int .u64 (a.lo : Int), .int .u64 (a.hi : Int)]] w fun x w' => x = .returned (.agg #[.int .u64 (a.lo : Int), .int .u64 (a.hi : Int)]) ∧ Calm w w') := Lib.hid fun w => by
    have k := pjoin_c a a w
    rw [show joinS a a = a by cases a; simp [joinS]] at k
    exact k
  have KM : Hid (∀ w, Calls Try.prog 18 #[.agg #[.int .u64 (a.lo : Int), .int .u64 (a.hi : Int)], .agg #[.int .u64 (b.lo : Int), .int .u64 (b.hi : Int)]] w fun x w' => x = .returned (.tuple #[.agg #[.int .u64 (m.lo : Int), .int .u64 (m.hi : Int)], .bool false]) ∧ Calm w w') := Lib.hid (by rw [em, ← hm]; exact fun w => pmeet_c a b w)
  have KL : Hid (∀ w, Calls Try.prog 23 #[.agg #[.int .u64 (a.lo : Int), .int .u64 (a.hi : Int)]] w fun x w' => x = .returned (.agg #[.int .u64 (l.lo : Int), .int .u64 (l.hi : Int)]) ∧ Calm w w') := Lib.hid (by rw [el]; exact fun w => plow_c a w)
  have HP : Hid (∀ w, Calls Try.prog 26 #[.agg #[.int .u64 (a.lo : Int), .int .u64 (a.hi : Int)], .int .u64 (n : Int)] w fun z w' => z = .returned (.bool true) ∧ Calm w w') := Lib.hid fun w => by
    have k := phas_c a n w
    rw [decide_eq_true (p := a.lo ≤ n ∧ n ≤ a.hi) hp] at k
    exact k
  have HQ : Hid (∀ w, Calls Try.prog 26 #[.agg #[.int .u64 (b.lo : Int), .int .u64 (b.hi : Int)], .int .u64 (n : Int)] w fun z w' => z = .returned (.bool false) ∧ Calm w w') := Lib.hid fun w => by
    have k := phas_c b n w
    rw [decide_eq_false (p := b.lo ≤ n ∧ n ≤ b.hi) hq] at k
    exact k
  have HJ : Hid (∀ w, Calls Try.prog 26 #[.agg #[.int .u64 (j.lo : Int), .int .u64 (j.hi : Int)], .int .u64 (n : Int)] w fun z w' => z = .returned (.bool true) ∧ Calm w w') := Lib.hid fun w => by
    have k := phas_c j n w
    rw [decide_eq_true (p := j.lo ≤ n ∧ n ≤ j.hi) (by rw [ej]; unfold Sp.In at hp hq; show min a.lo b.lo ≤ n ∧ n ≤ max a.hi b.hi; omega)] at k
    exact k
  have HL : Hid (∀ w, Calls Try.prog 26 #[.agg #[.int .u64 (l.lo : Int), .int .u64 (l.hi : Int)], .int .u64 (n' : Int)] w fun z w' => z = .returned (.bool true) ∧ Calm w w') := Lib.hid fun w => by
    have k := phas_c l n' w
    rw [decide_eq_true (p := l.lo ≤ n' ∧ n' ≤ l.hi) (by rw [el]; exact hl)] at k
    exact k
  clear ea eb hp hq hm ej ej' em el hl
  go_enter Try.func8, Try.ntmps8
  have E := Lib.hid (show Calm w w from Keep.refl _ _)
  go_upto_region 1 with fail
  have hC : Calm w (w.alloc (.cells #[.int .u64 (f0 : Int), .int .u64 (f1 : Int), .int .u64 (f2 : Int), .int .u64 (f3 : Int)] 24)) := (Keep.refl _ _).alloc _
  have hA : Af (w.alloc (.cells #[.int .u64 (f0 : Int), .int .u64 (f1 : Int), .int .u64 (f2 : Int), .int .u64 (f3 : Int)] 24)) w.heap.size f0 f1 f2 f3 := Row.made w _ _
  have hO : w.heap.size ≤ w.heap.size := E.out.size
  obtain ⟨g1, hg1⟩ : ∃ zg, zg = w.heap.size := ⟨_, rfl⟩
  obtain ⟨w1, hw1⟩ : ∃ zz, zz = w.alloc (.cells #[.int .u64 (f0 : Int), .int .u64 (f1 : Int), .int .u64 (f2 : Int), .int .u64 (f3 : Int)] 24) := ⟨_, rfl⟩
  replace hO : w.heap.size ≤ g1 := by rw [hg1]; exact hO
  rw [← hg1] at hA ⊢
  rw [← hw1] at hA hC ⊢
  clear hg1 hw1
  have O1 := Lib.hid hO
  clear hO
  replace E := Lib.hid (show Calm w w1 from E.out.trans (hC))
  replace E := Lib.hid (show Calm w w1 ∧ Af w1 g1 f0 f1 f2 f3 from ⟨E.out, hA⟩)
  clear hC hA
  obtain ⟨g1_0, g1_1, g1_2, g1_3⟩ := Af.four (E.out.2)
  go_wp2_with fail
  clear g1_0 g1_1 g1_2 g1_3
  refine (shown8_c _).mono ?_
  rintro ze w2 ⟨rfl, hc⟩
  replace E := Lib.hid (show Calm w w2 ∧ Af w2 g1 f0 f1 f2 f3 from ⟨E.out.1.trans (hc), Af.calm (E.out.2) (hc)⟩)
  clear hc
  obtain ⟨g1_0, g1_1, g1_2, g1_3⟩ := Af.four (E.out.2)
  go_wp2_with fail
  clear g1_0 g1_1 g1_2 g1_3
  refine (KA.out _).mono ?_
  rintro ze w3 ⟨rfl, hc⟩
  replace E := Lib.hid (show Calm w w3 ∧ Af w3 g1 f0 f1 f2 f3 from ⟨E.out.1.trans (hc), Af.calm (E.out.2) (hc)⟩)
  clear hc
  obtain ⟨g1_0, g1_1, g1_2, g1_3⟩ := Af.four (E.out.2)
  go_upto_region 3 with fail
  clear g1_0 g1_1 g1_2 g1_3
  have hC : Calm w3 ((w3.alloc (.cells #[.int .u64 (a.lo : Int), .int .u64 (a.hi : Int)] 27)).alloc (.cells #[.int .u64 (b.lo : Int), .int .u64 (b.hi : Int)] 27)) := ((Keep.refl _ _).alloc _).alloc _
  have hA : At ((w3.alloc (.cells #[.int .u64 (a.lo : Int), .int .u64 (a.hi : Int)] 27)).alloc (.cells #[.int .u64 (b.lo : Int), .int .u64 (b.hi : Int)] 27)) w3.heap.size a := (Row.made w3 _ _).alloc _
  have hB : At ((w3.alloc (.cells #[.int .u64 (a.lo : Int), .int .u64 (a.hi : Int)] 27)).alloc (.cells #[.int .u64 (b.lo : Int), .int .u64 (b.hi : Int)] 27)) (w3.heap.size + 1) b := by
    have e : At ((w3.alloc (.cells #[.int .u64 (a.lo : Int), .int .u64 (a.hi : Int)] 27)).alloc (.cells #[.int .u64 (b.lo : Int), .int .u64 (b.hi : Int)] 27)) (w3.alloc (.cells #[.int .u64 (a.lo : Int), .int .u64 (a.hi : Int)] 27)).heap.size b := Row.made _ _ _
    simp only [World.size_alloc] at e
    exact e
  have hO : w.heap.size ≤ w3.heap.size ∧ g1 < w3.heap.size := ⟨E.out.1.size, Af.lt (E.out.2)⟩
  obtain ⟨g2, hg2⟩ : ∃ zg, zg = w3.heap.size := ⟨_, rfl⟩
  obtain ⟨w4, hw4⟩ : ∃ zz, zz = (w3.alloc (.cells #[.int .u64 (a.lo : Int), .int .u64 (a.hi : Int)] 27)).alloc (.cells #[.int .u64 (b.lo : Int), .int .u64 (b.hi : Int)] 27) := ⟨_, rfl⟩
  replace hO : w.heap.size ≤ g2 ∧ g1 < g2 := by rw [hg2]; exact hO
  rw [← hg2] at hA hB ⊢
  rw [← hw4] at hA hB hC ⊢
  clear hg2 hw4
  obtain ⟨g3, hg3⟩ : ∃ zg, zg = g2 + 1 := ⟨_, rfl⟩
  rw [← hg3] at hB ⊢
  have O2 := Lib.hid hO
  have O3 : Hid (w.heap.size ≤ g3 ∧ g1 < g3 ∧ g2 < g3) := Lib.hid (by have := O2.out; omega)
  clear hO
  clear hg3
  replace E := Lib.hid (show Calm w w4 ∧ Af w4 g1 f0 f1 f2 f3 from ⟨E.out.1.trans (hC), Af.calm (E.out.2) (hC)⟩)
  replace E := Lib.hid (show Calm w w4 ∧ Af w4 g1 f0 f1 f2 f3 ∧ At w4 g2 a ∧ At w4 g3 b from ⟨E.out.1, E.out.2, hA, hB⟩)
  clear hC hA hB
  obtain ⟨g1_0, g1_1, g1_2, g1_3⟩ := Af.four (E.out.2.1)
  obtain ⟨g2_0, g2_1, g2_2, g2_3⟩ := At.two (E.out.2.2.1)
  obtain ⟨g3_0, g3_1, g3_2, g3_3⟩ := At.two (E.out.2.2.2)
  go_wp2_with fail
  clear g1_0 g1_1 g1_2 g1_3 g2_0 g2_1 g2_2 g2_3 g3_0 g3_1 g3_2 g3_3
  refine (KJ.out _).mono ?_
  rintro ze w5 ⟨rfl, hc⟩
  replace E := Lib.hid (show Calm w w5 ∧ Af w5 g1 f0 f1 f2 f3 ∧ At w5 g2 a ∧ At w5 g3 b from ⟨E.out.1.trans (hc), Af.calm (E.out.2.1) (hc), At.calm (E.out.2.2.1) (hc), At.calm (E.out.2.2.2) (hc)⟩)
  clear hc
  obtain ⟨g1_0, g1_1, g1_2, g1_3⟩ := Af.four (E.out.2.1)
  obtain ⟨g2_0, g2_1, g2_2, g2_3⟩ := At.two (E.out.2.2.1)
  obtain ⟨g3_0, g3_1, g3_2, g3_3⟩ := At.two (E.out.2.2.2)
  go_upto_region 4 with fail
  clear g1_0 g1_1 g1_2 g1_3 g2_0 g2_1 g2_2 g2_3 g3_0 g3_1 g3_2 g3_3
  have hC : Calm w5 (w5.alloc (.cells #[.int .u64 (j.lo : Int), .int .u64 (j.hi : Int)] 27)) := (Keep.refl _ _).alloc _
  have hA : At (w5.alloc (.cells #[.int .u64 (j.lo : Int), .int .u64 (j.hi : Int)] 27)) w5.heap.size j := Row.made w5 _ _
  have hO : w.heap.size ≤ w5.heap.size ∧ g1 < w5.heap.size ∧ g2 < w5.heap.size ∧ g3 < w5.heap.size := ⟨E.out.1.size, Af.lt (E.out.2.1), At.lt (E.out.2.2.1), At.lt (E.out.2.2.2)⟩
  obtain ⟨g4, hg4⟩ : ∃ zg, zg = w5.heap.size := ⟨_, rfl⟩
  obtain ⟨w6, hw6⟩ : ∃ zz, zz = w5.alloc (.cells #[.int .u64 (j.lo : Int), .int .u64 (j.hi : Int)] 27) := ⟨_, rfl⟩
  replace hO : w.heap.size ≤ g4 ∧ g1 < g4 ∧ g2 < g4 ∧ g3 < g4 := by rw [hg4]; exact hO
  rw [← hg4] at hA ⊢
  rw [← hw6] at hA hC ⊢
  clear hg4 hw6
  have O4 := Lib.hid hO
  clear hO
  replace E := Lib.hid (show Calm w w6 ∧ Af w6 g1 f0 f1 f2 f3 ∧ At w6 g2 a ∧ At w6 g3 b from ⟨E.out.1.trans (hC), Af.calm (E.out.2.1) (hC), At.calm (E.out.2.2.1) (hC), At.calm (E.out.2.2.2) (hC)⟩)
  replace E := Lib.hid (show Calm w w6 ∧ Af w6 g1 f0 f1 f2 f3 ∧ At w6 g2 a ∧ At w6 g3 b ∧ At w6 g4 j from ⟨E.out.1, E.out.2.1, E.out.2.2.1, E.out.2.2.2, hA⟩)
  clear hC hA
  obtain ⟨g1_0, g1_1, g1_2, g1_3⟩ := Af.four (E.out.2.1)
  obtain ⟨g2_0, g2_1, g2_2, g2_3⟩ := At.two (E.out.2.2.1)
  obtain ⟨g3_0, g3_1, g3_2, g3_3⟩ := At.two (E.out.2.2.2.1)
  obtain ⟨g4_0, g4_1, g4_2, g4_3⟩ := At.two (E.out.2.2.2.2)
  go_wp2_with fail
  clear g1_0 g1_1 g1_2 g1_3 g2_0 g2_1 g2_2 g2_3 g3_0 g3_1 g3_2 g3_3 g4_0 g4_1 g4_2 g4_3
  refine (KM.out _).mono ?_
  rintro ze w7 ⟨rfl, hc⟩
  replace E := Lib.hid (show Calm w w7 ∧ Af w7 g1 f0 f1 f2 f3 ∧ At w7 g2 a ∧ At w7 g3 b ∧ At w7 g4 j from ⟨E.out.1.trans (hc), Af.calm (E.out.2.1) (hc), At.calm (E.out.2.2.1) (hc), At.calm (E.out.2.2.2.1) (hc), At.calm (E.out.2.2.2.2) (hc)⟩)
  clear hc
  obtain ⟨g1_0, g1_1, g1_2, g1_3⟩ := Af.four (E.out.2.1)
  obtain ⟨g2_0, g2_1, g2_2, g2_3⟩ := At.two (E.out.2.2.1)
  obtain ⟨g3_0, g3_1, g3_2, g3_3⟩ := At.two (E.out.2.2.2.1)
  obtain ⟨g4_0, g4_1, g4_2, g4_3⟩ := At.two (E.out.2.2.2.2)
  go_upto_region 5 with fail
  clear g1_0 g1_1 g1_2 g1_3 g2_0 g2_1 g2_2 g2_3 g3_0 g3_1 g3_2 g3_3 g4_0 g4_1 g4_2 g4_3
  have hC : Calm w7 (w7.alloc (.cells #[.int .u64 (m.lo : Int), .int .u64 (m.hi : Int)] 27)) := (Keep.refl _ _).alloc _
  have hA : At (w7.alloc (.cells #[.int .u64 (m.lo : Int), .int .u64 (m.hi : Int)] 27)) w7.heap.size m := Row.made w7 _ _
  have hO : w.heap.size ≤ w7.heap.size ∧ g1 < w7.heap.size ∧ g2 < w7.heap.size ∧ g3 < w7.heap.size ∧ g4 < w7.heap.size := ⟨E.out.1.size, Af.lt (E.out.2.1), At.lt (E.out.2.2.1), At.lt (E.out.2.2.2.1), At.lt (E.out.2.2.2.2)⟩
  obtain ⟨g5, hg5⟩ : ∃ zg, zg = w7.heap.size := ⟨_, rfl⟩
  obtain ⟨w8, hw8⟩ : ∃ zz, zz = w7.alloc (.cells #[.int .u64 (m.lo : Int), .int .u64 (m.hi : Int)] 27) := ⟨_, rfl⟩
  replace hO : w.heap.size ≤ g5 ∧ g1 < g5 ∧ g2 < g5 ∧ g3 < g5 ∧ g4 < g5 := by rw [hg5]; exact hO
  rw [← hg5] at hA ⊢
  rw [← hw8] at hA hC ⊢
  clear hg5 hw8
  have O5 := Lib.hid hO
  clear hO
  replace E := Lib.hid (show Calm w w8 ∧ Af w8 g1 f0 f1 f2 f3 ∧ At w8 g2 a ∧ At w8 g3 b ∧ At w8 g4 j from ⟨E.out.1.trans (hC), Af.calm (E.out.2.1) (hC), At.calm (E.out.2.2.1) (hC), At.calm (E.out.2.2.2.1) (hC), At.calm (E.out.2.2.2.2) (hC)⟩)
  replace E := Lib.hid (show Calm w w8 ∧ Af w8 g1 f0 f1 f2 f3 ∧ At w8 g2 a ∧ At w8 g3 b ∧ At w8 g4 j ∧ At w8 g5 m from ⟨E.out.1, E.out.2.1, E.out.2.2.1, E.out.2.2.2.1, E.out.2.2.2.2, hA⟩)
  clear hC hA
  obtain ⟨g1_0, g1_1, g1_2, g1_3⟩ := Af.four (E.out.2.1)
  obtain ⟨g2_0, g2_1, g2_2, g2_3⟩ := At.two (E.out.2.2.1)
  obtain ⟨g3_0, g3_1, g3_2, g3_3⟩ := At.two (E.out.2.2.2.1)
  obtain ⟨g4_0, g4_1, g4_2, g4_3⟩ := At.two (E.out.2.2.2.2.1)
  obtain ⟨g5_0, g5_1, g5_2, g5_3⟩ := At.two (E.out.2.2.2.2.2)
  go_wp2_with fail
  clear g1_0 g1_1 g1_2 g1_3 g2_0 g2_1 g2_2 g2_3 g3_0 g3_1 g3_2 g3_3 g4_0 g4_1 g4_2 g4_3 g5_0 g5_1 g5_2 g5_3
  refine (KB.out _).mono ?_
  rintro ze w9 ⟨rfl, hc⟩
  replace E := Lib.hid (show Calm w w9 ∧ Af w9 g1 f0 f1 f2 f3 ∧ At w9 g2 a ∧ At w9 g3 b ∧ At w9 g4 j ∧ At w9 g5 m from ⟨E.out.1.trans (hc), Af.calm (E.out.2.1) (hc), At.calm (E.out.2.2.1) (hc), At.calm (E.out.2.2.2.1) (hc), At.calm (E.out.2.2.2.2.1) (hc), At.calm (E.out.2.2.2.2.2) (hc)⟩)
  clear hc
  obtain ⟨g1_0, g1_1, g1_2, g1_3⟩ := Af.four (E.out.2.1)
  obtain ⟨g2_0, g2_1, g2_2, g2_3⟩ := At.two (E.out.2.2.1)
  obtain ⟨g3_0, g3_1, g3_2, g3_3⟩ := At.two (E.out.2.2.2.1)
  obtain ⟨g4_0, g4_1, g4_2, g4_3⟩ := At.two (E.out.2.2.2.2.1)
  obtain ⟨g5_0, g5_1, g5_2, g5_3⟩ := At.two (E.out.2.2.2.2.2)
  go_upto_region 6 with fail
  clear g1_0 g1_1 g1_2 g1_3 g2_0 g2_1 g2_2 g2_3 g3_0 g3_1 g3_2 g3_3 g4_0 g4_1 g4_2 g4_3 g5_0 g5_1 g5_2 g5_3
  have hC : Calm w9 (w9.alloc (.cells #[.int .u64 (j.lo : Int), .int .u64 (j.hi : Int)] 27)) := (Keep.refl _ _).alloc _
  have hA : At (w9.alloc (.cells #[.int .u64 (j.lo : Int), .int .u64 (j.hi : Int)] 27)) w9.heap.size j := Row.made w9 _ _
  have hO : w.heap.size ≤ w9.heap.size ∧ g1 < w9.heap.size ∧ g2 < w9.heap.size ∧ g3 < w9.heap.size ∧ g4 < w9.heap.size ∧ g5 < w9.heap.size := ⟨E.out.1.size, Af.lt (E.out.2.1), At.lt (E.out.2.2.1), At.lt (E.out.2.2.2.1), At.lt (E.out.2.2.2.2.1), At.lt (E.out.2.2.2.2.2)⟩
  obtain ⟨g6, hg6⟩ : ∃ zg, zg = w9.heap.size := ⟨_, rfl⟩
  obtain ⟨w10, hw10⟩ : ∃ zz, zz = w9.alloc (.cells #[.int .u64 (j.lo : Int), .int .u64 (j.hi : Int)] 27) := ⟨_, rfl⟩
  replace hO : w.heap.size ≤ g6 ∧ g1 < g6 ∧ g2 < g6 ∧ g3 < g6 ∧ g4 < g6 ∧ g5 < g6 := by rw [hg6]; exact hO
  rw [← hg6] at hA ⊢
  rw [← hw10] at hA hC ⊢
  clear hg6 hw10
  have O6 := Lib.hid hO
  clear hO
  replace E := Lib.hid (show Calm w w10 ∧ Af w10 g1 f0 f1 f2 f3 ∧ At w10 g2 a ∧ At w10 g3 b ∧ At w10 g4 j ∧ At w10 g5 m from ⟨E.out.1.trans (hC), Af.calm (E.out.2.1) (hC), At.calm (E.out.2.2.1) (hC), At.calm (E.out.2.2.2.1) (hC), At.calm (E.out.2.2.2.2.1) (hC), At.calm (E.out.2.2.2.2.2) (hC)⟩)
  replace E := Lib.hid (show Calm w w10 ∧ Af w10 g1 f0 f1 f2 f3 ∧ At w10 g2 a ∧ At w10 g3 b ∧ At w10 g4 j ∧ At w10 g5 m ∧ At w10 g6 j from ⟨E.out.1, E.out.2.1, E.out.2.2.1, E.out.2.2.2.1, E.out.2.2.2.2.1, E.out.2.2.2.2.2, hA⟩)
  clear hC hA
  obtain ⟨g1_0, g1_1, g1_2, g1_3⟩ := Af.four (E.out.2.1)
  obtain ⟨g2_0, g2_1, g2_2, g2_3⟩ := At.two (E.out.2.2.1)
  obtain ⟨g3_0, g3_1, g3_2, g3_3⟩ := At.two (E.out.2.2.2.1)
  obtain ⟨g4_0, g4_1, g4_2, g4_3⟩ := At.two (E.out.2.2.2.2.1)
  obtain ⟨g5_0, g5_1, g5_2, g5_3⟩ := At.two (E.out.2.2.2.2.2.1)
  obtain ⟨g6_0, g6_1, g6_2, g6_3⟩ := At.two (E.out.2.2.2.2.2.2)
  go_wp2_with fail
  clear g1_0 g1_1 g1_2 g1_3 g2_0 g2_1 g2_2 g2_3 g3_0 g3_1 g3_2 g3_3 g4_0 g4_1 g4_2 g4_3 g5_0 g5_1 g5_2 g5_3 g6_0 g6_1 g6_2 g6_3
  refine (HP.out _).mono ?_
  rintro ze w11 ⟨rfl, hc⟩
  replace E := Lib.hid (show Calm w w11 ∧ Af w11 g1 f0 f1 f2 f3 ∧ At w11 g2 a ∧ At w11 g3 b ∧ At w11 g4 j ∧ At w11 g5 m ∧ At w11 g6 j from ⟨E.out.1.trans (hc), Af.calm (E.out.2.1) (hc), At.calm (E.out.2.2.1) (hc), At.calm (E.out.2.2.2.1) (hc), At.calm (E.out.2.2.2.2.1) (hc), At.calm (E.out.2.2.2.2.2.1) (hc), At.calm (E.out.2.2.2.2.2.2) (hc)⟩)
  clear hc
  obtain ⟨g1_0, g1_1, g1_2, g1_3⟩ := Af.four (E.out.2.1)
  obtain ⟨g2_0, g2_1, g2_2, g2_3⟩ := At.two (E.out.2.2.1)
  obtain ⟨g3_0, g3_1, g3_2, g3_3⟩ := At.two (E.out.2.2.2.1)
  obtain ⟨g4_0, g4_1, g4_2, g4_3⟩ := At.two (E.out.2.2.2.2.1)
  obtain ⟨g5_0, g5_1, g5_2, g5_3⟩ := At.two (E.out.2.2.2.2.2.1)
  obtain ⟨g6_0, g6_1, g6_2, g6_3⟩ := At.two (E.out.2.2.2.2.2.2)
  go_wp2_with fail
  clear g1_0 g1_1 g1_2 g1_3 g2_0 g2_1 g2_2 g2_3 g3_0 g3_1 g3_2 g3_3 g4_0 g4_1 g4_2 g4_3 g5_0 g5_1 g5_2 g5_3 g6_0 g6_1 g6_2 g6_3
  refine (HQ.out _).mono ?_
  rintro ze w12 ⟨rfl, hc⟩
  replace E := Lib.hid (show Calm w w12 ∧ Af w12 g1 f0 f1 f2 f3 ∧ At w12 g2 a ∧ At w12 g3 b ∧ At w12 g4 j ∧ At w12 g5 m ∧ At w12 g6 j from ⟨E.out.1.trans (hc), Af.calm (E.out.2.1) (hc), At.calm (E.out.2.2.1) (hc), At.calm (E.out.2.2.2.1) (hc), At.calm (E.out.2.2.2.2.1) (hc), At.calm (E.out.2.2.2.2.2.1) (hc), At.calm (E.out.2.2.2.2.2.2) (hc)⟩)
  clear hc
  obtain ⟨g1_0, g1_1, g1_2, g1_3⟩ := Af.four (E.out.2.1)
  obtain ⟨g2_0, g2_1, g2_2, g2_3⟩ := At.two (E.out.2.2.1)
  obtain ⟨g3_0, g3_1, g3_2, g3_3⟩ := At.two (E.out.2.2.2.1)
  obtain ⟨g4_0, g4_1, g4_2, g4_3⟩ := At.two (E.out.2.2.2.2.1)
  obtain ⟨g5_0, g5_1, g5_2, g5_3⟩ := At.two (E.out.2.2.2.2.2.1)
  obtain ⟨g6_0, g6_1, g6_2, g6_3⟩ := At.two (E.out.2.2.2.2.2.2)
  go_upto_region 7 with fail
  clear g1_0 g1_1 g1_2 g1_3 g2_0 g2_1 g2_2 g2_3 g3_0 g3_1 g3_2 g3_3 g4_0 g4_1 g4_2 g4_3 g5_0 g5_1 g5_2 g5_3 g6_0 g6_1 g6_2 g6_3
  refine wp_region_noPanic ?_
  refine wp_region_held_drew (S := fun w' => Calm w w' ∧ Af w' g1 f0 f1 f2 f3 ∧ At w' g2 a ∧ At w' g3 b ∧ At w' g4 j ∧ At w' g5 m ∧ At w' g6 j) (by kernel_rfl) ⟨E.out.1.drew, E.out.2.1, E.out.2.2.1, E.out.2.2.2.1, E.out.2.2.2.2.1, E.out.2.2.2.2.2.1, E.out.2.2.2.2.2.2⟩ (fun hHeld => ?_)
  refine take_at 0 39 (.bool true) rfl rfl (by kernel_rfl) (by kernel_rfl) (by kernel_rfl) (fun _ _ _ h => h) (Or.inl ⟨by rfl, ?_⟩) hHeld ?_
  · intro w hSw; go_simp
  simp only [List.setIfInBounds_toArray, List.set_cons_zero, List.set_cons_succ]
  refine take_at 1 40 (.bool true) rfl rfl (by kernel_rfl) (by kernel_rfl) (by kernel_rfl) (fun _ _ _ h => h) (Or.inl ⟨by rfl, ?_⟩) hHeld ?_
  · intro w hSw; go_simp
  simp only [List.setIfInBounds_toArray, List.set_cons_zero, List.set_cons_succ]
  refine take_at 2 41 (.agg #[.int .u64 (a.lo : Int), .int .u64 (a.hi : Int)]) rfl rfl (by kernel_rfl) (by kernel_rfl) (by kernel_rfl) (fun _ _ _ h => h) (Or.inl ⟨by rfl, ?_⟩) hHeld ?_
  · intro w hSw; have c := At.two (hSw.2.2.1); go_simp
  simp only [List.setIfInBounds_toArray, List.set_cons_zero, List.set_cons_succ]
  refine take_at 3 42 (.int .u64 (n : Int)) rfl rfl (by kernel_rfl) (by kernel_rfl) (by kernel_rfl) (fun _ _ _ h => h) (Or.inl ⟨by rfl, ?_⟩) hHeld ?_
  · intro w hSw; go_simp
  simp only [List.setIfInBounds_toArray, List.set_cons_zero, List.set_cons_succ]
  refine wpAnyH_ready (rs := [4]) (by kernel_rfl) (by simp) ?_
  refine AllReadyH.cons rfl (fun K hK => ?_) AllReadyH.nil
  go_simp
  refine (HP.out _).mono ?_
  rintro ze wr1 ⟨rfl, hc⟩
  refine hK.out _ _ ⟨hHeld.1.trans hc, Af.calm (hHeld.2.1) hc, At.calm (hHeld.2.2.1) hc, At.calm (hHeld.2.2.2.1) hc, At.calm (hHeld.2.2.2.2.1) hc, At.calm (hHeld.2.2.2.2.2.1) hc, At.calm (hHeld.2.2.2.2.2.2) hc⟩ (fun hHeld => ?_)
  clear hK K
  try simp only [List.setIfInBounds_toArray, List.set_cons_zero, List.set_cons_succ]
  refine take_at 5 44 (.bool false) rfl rfl (by kernel_rfl) (by kernel_rfl) (by kernel_rfl) (fun _ _ _ h => h) (Or.inl ⟨by rfl, ?_⟩) hHeld ?_
  · intro w hSw; go_simp
  simp only [List.setIfInBounds_toArray, List.set_cons_zero, List.set_cons_succ]
  refine take_at 6 45 (.bool false) rfl rfl (by kernel_rfl) (by kernel_rfl) (by kernel_rfl) (fun _ _ _ h => h) (Or.inl ⟨by rfl, ?_⟩) hHeld ?_
  · intro w hSw; go_simp
  simp only [List.setIfInBounds_toArray, List.set_cons_zero, List.set_cons_succ]
  refine take_at 7 46 (undef) rfl rfl (by kernel_rfl) (by kernel_rfl) (by kernel_rfl) (fun _ _ _ h => h) (Or.inr ⟨by rfl, rfl⟩) hHeld ?_
  simp only [List.setIfInBounds_toArray, List.set_cons_zero, List.set_cons_succ]
  refine take_at 8 47 (undef) rfl rfl (by kernel_rfl) (by kernel_rfl) (by kernel_rfl) (fun _ _ _ h => h) (Or.inr ⟨by rfl, rfl⟩) hHeld ?_
  simp only [List.setIfInBounds_toArray, List.set_cons_zero, List.set_cons_succ]
  refine take_at 9 48 (undef) rfl rfl (by kernel_rfl) (by kernel_rfl) (by kernel_rfl) (fun _ _ _ h => h) (Or.inr ⟨by rfl, rfl⟩) hHeld ?_
  simp only [List.setIfInBounds_toArray, List.set_cons_zero, List.set_cons_succ]
  refine take_at 10 49 (undef) rfl rfl (by kernel_rfl) (by kernel_rfl) (by kernel_rfl) (fun _ _ _ h => h) (Or.inr ⟨by rfl, rfl⟩) hHeld ?_
  simp only [List.setIfInBounds_toArray, List.set_cons_zero, List.set_cons_succ]
  refine take_at 11 50 (.bool false) rfl rfl (by kernel_rfl) (by kernel_rfl) (by kernel_rfl) (fun _ _ _ h => h) (Or.inl ⟨by rfl, ?_⟩) hHeld ?_
  · intro w hSw; go_simp
  simp only [List.setIfInBounds_toArray, List.set_cons_zero, List.set_cons_succ]
  refine take_at 12 51 (.bool false) rfl rfl (by kernel_rfl) (by kernel_rfl) (by kernel_rfl) (fun _ _ _ h => h) (Or.inl ⟨by rfl, ?_⟩) hHeld ?_
  · intro w hSw; go_simp
  simp only [List.setIfInBounds_toArray, List.set_cons_zero, List.set_cons_succ]
  refine take_at 13 52 (.agg #[.int .u64 (j.lo : Int), .int .u64 (j.hi : Int)]) rfl rfl (by kernel_rfl) (by kernel_rfl) (by kernel_rfl) (fun _ _ _ h => h) (Or.inl ⟨by rfl, ?_⟩) hHeld ?_
  · intro w hSw; have c := At.two (hSw.2.2.2.2.1); go_simp
  simp only [List.setIfInBounds_toArray, List.set_cons_zero, List.set_cons_succ]
  refine take_at 14 53 (.int .u64 (n : Int)) rfl rfl (by kernel_rfl) (by kernel_rfl) (by kernel_rfl) (fun _ _ _ h => h) (Or.inl ⟨by rfl, ?_⟩) hHeld ?_
  · intro w hSw; go_simp
  simp only [List.setIfInBounds_toArray, List.set_cons_zero, List.set_cons_succ]
  refine wpAnyH_ready (rs := [15]) (by kernel_rfl) (by simp) ?_
  refine AllReadyH.cons rfl (fun K hK => ?_) AllReadyH.nil
  go_simp
  refine (HJ.out _).mono ?_
  rintro ze wr2 ⟨rfl, hc⟩
  refine hK.out _ _ ⟨hHeld.1.trans hc, Af.calm (hHeld.2.1) hc, At.calm (hHeld.2.2.1) hc, At.calm (hHeld.2.2.2.1) hc, At.calm (hHeld.2.2.2.2.1) hc, At.calm (hHeld.2.2.2.2.2.1) hc, At.calm (hHeld.2.2.2.2.2.2) hc⟩ (fun hHeld => ?_)
  clear hK K
  try simp only [List.setIfInBounds_toArray, List.set_cons_zero, List.set_cons_succ]
  refine take_at 16 55 (.bool true) rfl rfl (by kernel_rfl) (by kernel_rfl) (by kernel_rfl) (fun _ _ _ h => h) (Or.inl ⟨by rfl, ?_⟩) hHeld ?_
  · intro w hSw; go_simp
  simp only [List.setIfInBounds_toArray, List.set_cons_zero, List.set_cons_succ]
  refine take_at 17 56 (.bool true) rfl rfl (by kernel_rfl) (by kernel_rfl) (by kernel_rfl) (fun _ _ _ h => h) (Or.inl ⟨by rfl, ?_⟩) hHeld ?_
  · intro w hSw; go_simp
  simp only [List.setIfInBounds_toArray, List.set_cons_zero, List.set_cons_succ]
  refine take_at 18 57 (.bool true) rfl rfl (by kernel_rfl) (by kernel_rfl) (by kernel_rfl) (fun _ _ _ h => h) (Or.inl ⟨by rfl, ?_⟩) hHeld ?_
  · intro w hSw; go_simp
  simp only [List.setIfInBounds_toArray, List.set_cons_zero, List.set_cons_succ]
  refine take_at 19 58 (.bool false) rfl rfl (by kernel_rfl) (by kernel_rfl) (by kernel_rfl) (fun _ _ _ h => h) (Or.inl ⟨by rfl, ?_⟩) hHeld ?_
  · intro w hSw; go_simp
  simp only [List.setIfInBounds_toArray, List.set_cons_zero, List.set_cons_succ]
  refine take_at 20 59 (.bool false) rfl rfl (by kernel_rfl) (by kernel_rfl) (by kernel_rfl) (fun _ _ _ h => h) (Or.inl ⟨by rfl, ?_⟩) hHeld ?_
  · intro w hSw; go_simp
  simp only [List.setIfInBounds_toArray, List.set_cons_zero, List.set_cons_succ]
  refine take_at 21 60 (.bool false) rfl rfl (by kernel_rfl) (by kernel_rfl) (by kernel_rfl) (fun _ _ _ h => h) (Or.inl ⟨by rfl, ?_⟩) hHeld ?_
  · intro w hSw; go_simp
  simp only [List.setIfInBounds_toArray, List.set_cons_zero, List.set_cons_succ]
  refine take_at 22 61 (undef) rfl rfl (by kernel_rfl) (by kernel_rfl) (by kernel_rfl) (fun _ _ _ h => h) (Or.inr ⟨by rfl, rfl⟩) hHeld ?_
  simp only [List.setIfInBounds_toArray, List.set_cons_zero, List.set_cons_succ]
  refine take_at 23 62 (undef) rfl rfl (by kernel_rfl) (by kernel_rfl) (by kernel_rfl) (fun _ _ _ h => h) (Or.inr ⟨by rfl, rfl⟩) hHeld ?_
  simp only [List.setIfInBounds_toArray, List.set_cons_zero, List.set_cons_succ]
  refine take_at 24 63 (undef) rfl rfl (by kernel_rfl) (by kernel_rfl) (by kernel_rfl) (fun _ _ _ h => h) (Or.inr ⟨by rfl, rfl⟩) hHeld ?_
  simp only [List.setIfInBounds_toArray, List.set_cons_zero, List.set_cons_succ]
  refine take_at 25 64 (.bool false) rfl rfl (by kernel_rfl) (by kernel_rfl) (by kernel_rfl) (fun _ _ _ h => h) (Or.inl ⟨by rfl, ?_⟩) hHeld ?_
  · intro w hSw; go_simp
  simp only [List.setIfInBounds_toArray, List.set_cons_zero, List.set_cons_succ]
  refine take_at 26 65 (.bool true) rfl rfl (by kernel_rfl) (by kernel_rfl) (by kernel_rfl) (fun _ _ _ h => h) (Or.inl ⟨by rfl, ?_⟩) hHeld ?_
  · intro w hSw; go_simp
  simp only [List.setIfInBounds_toArray, List.set_cons_zero, List.set_cons_succ]
  refine take_at 27 66 (.bool true) rfl rfl (by kernel_rfl) (by kernel_rfl) (by kernel_rfl) (fun _ _ _ h => h) (Or.inl ⟨by rfl, ?_⟩) hHeld ?_
  · intro w hSw; go_simp
  simp only [List.setIfInBounds_toArray, List.set_cons_zero, List.set_cons_succ]
  refine take_at 28 67 (.bool true) rfl rfl (by kernel_rfl) (by kernel_rfl) (by kernel_rfl) (fun _ _ _ h => h) (Or.inl ⟨by rfl, ?_⟩) hHeld ?_
  · intro w hSw; go_simp
  simp only [List.setIfInBounds_toArray, List.set_cons_zero, List.set_cons_succ]
  refine take_at 29 68 (.agg #[.int .u64 (j.lo : Int), .int .u64 (j.hi : Int)]) rfl rfl (by kernel_rfl) (by kernel_rfl) (by kernel_rfl) (fun _ _ _ h => h) (Or.inl ⟨by rfl, ?_⟩) hHeld ?_
  · intro w hSw; have c := At.two (hSw.2.2.2.2.2.2); go_simp
  simp only [List.setIfInBounds_toArray, List.set_cons_zero, List.set_cons_succ]
  refine take_at 30 69 (.agg #[.int .u64 (j.lo : Int), .int .u64 (j.hi : Int)]) rfl rfl (by kernel_rfl) (by kernel_rfl) (by kernel_rfl) (fun _ _ _ h => h) (Or.inl ⟨by rfl, ?_⟩) hHeld ?_
  · intro w hSw; have c := At.two (hSw.2.2.2.2.1); go_simp
  simp only [List.setIfInBounds_toArray, List.set_cons_zero, List.set_cons_succ]
  refine take_at 31 70 (.bool true) rfl rfl (by kernel_rfl) (by kernel_rfl) (by kernel_rfl) (fun _ _ _ h => h) (Or.inl ⟨by rfl, ?_⟩) hHeld ?_
  · intro w hSw; go_simp
  simp only [List.setIfInBounds_toArray, List.set_cons_zero, List.set_cons_succ]
  refine take_at 32 71 (.bool true) rfl rfl (by kernel_rfl) (by kernel_rfl) (by kernel_rfl) (fun _ _ _ h => h) (Or.inl ⟨by rfl, ?_⟩) hHeld ?_
  · intro w hSw; go_simp
  simp only [List.setIfInBounds_toArray, List.set_cons_zero, List.set_cons_succ]
  refine take_at 33 72 (.bool true) rfl rfl (by kernel_rfl) (by kernel_rfl) (by kernel_rfl) (fun _ _ _ h => h) (Or.inl ⟨by rfl, ?_⟩) hHeld ?_
  · intro w hSw; go_simp
  simp only [List.setIfInBounds_toArray, List.set_cons_zero, List.set_cons_succ]
  refine take_at 34 73 (.agg #[.int .u64 (a.lo : Int), .int .u64 (a.hi : Int)]) rfl rfl (by kernel_rfl) (by kernel_rfl) (by kernel_rfl) (fun _ _ _ h => h) (Or.inl ⟨by rfl, ?_⟩) hHeld ?_
  · intro w hSw; have c := At.two (hSw.2.2.1); go_simp
  simp only [List.setIfInBounds_toArray, List.set_cons_zero, List.set_cons_succ]
  refine take_at 35 74 (.agg #[.int .u64 (a.lo : Int), .int .u64 (a.hi : Int)]) rfl rfl (by kernel_rfl) (by kernel_rfl) (by kernel_rfl) (fun _ _ _ h => h) (Or.inl ⟨by rfl, ?_⟩) hHeld ?_
  · intro w hSw; have c := At.two (hSw.2.2.1); go_simp
  simp only [List.setIfInBounds_toArray, List.set_cons_zero, List.set_cons_succ]
  refine take_at 37 76 (.agg #[.int .u64 (a.lo : Int), .int .u64 (a.hi : Int)]) rfl rfl (by kernel_rfl) (by kernel_rfl) (by kernel_rfl) (fun _ _ _ h => h) (Or.inl ⟨by rfl, ?_⟩) hHeld ?_
  · intro w hSw; have c := At.two (hSw.2.2.1); go_simp
  simp only [List.setIfInBounds_toArray, List.set_cons_zero, List.set_cons_succ]
  refine wpAnyH_ready (rs := [36]) (by kernel_rfl) (by simp) ?_
  refine AllReadyH.cons rfl (fun K hK => ?_) AllReadyH.nil
  go_simp
  refine (KK.out _).mono ?_
  rintro ze wr3 ⟨rfl, hc⟩
  refine hK.out _ _ ⟨hHeld.1.trans hc, Af.calm (hHeld.2.1) hc, At.calm (hHeld.2.2.1) hc, At.calm (hHeld.2.2.2.1) hc, At.calm (hHeld.2.2.2.2.1) hc, At.calm (hHeld.2.2.2.2.2.1) hc, At.calm (hHeld.2.2.2.2.2.2) hc⟩ (fun hHeld => ?_)
  clear hK K
  try simp only [List.setIfInBounds_toArray, List.set_cons_zero, List.set_cons_succ]
  refine take_at 38 77 (.bool true) rfl rfl (by kernel_rfl) (by kernel_rfl) (by kernel_rfl) (fun _ _ _ h => h) (Or.inl ⟨by rfl, ?_⟩) hHeld ?_
  · intro w hSw; go_simp
  simp only [List.setIfInBounds_toArray, List.set_cons_zero, List.set_cons_succ]
  refine take_at 39 78 (.bool true) rfl rfl (by kernel_rfl) (by kernel_rfl) (by kernel_rfl) (fun _ _ _ h => h) (Or.inl ⟨by rfl, ?_⟩) hHeld ?_
  · intro w hSw; go_simp
  simp only [List.setIfInBounds_toArray, List.set_cons_zero, List.set_cons_succ]
  refine take_at 40 79 (.bool true) rfl rfl (by kernel_rfl) (by kernel_rfl) (by kernel_rfl) (fun _ _ _ h => h) (Or.inl ⟨by rfl, ?_⟩) hHeld ?_
  · intro w hSw; go_simp
  simp only [List.setIfInBounds_toArray, List.set_cons_zero, List.set_cons_succ]
  refine take_at 41 80 (.agg #[.int .u64 (a.lo : Int), .int .u64 (a.hi : Int)]) rfl rfl (by kernel_rfl) (by kernel_rfl) (by kernel_rfl) (fun _ _ _ h => h) (Or.inl ⟨by rfl, ?_⟩) hHeld ?_
  · intro w hSw; have c := At.two (hSw.2.2.1); go_simp
  simp only [List.setIfInBounds_toArray, List.set_cons_zero, List.set_cons_succ]
  refine take_at 42 81 (.int .u64 (n : Int)) rfl rfl (by kernel_rfl) (by kernel_rfl) (by kernel_rfl) (fun _ _ _ h => h) (Or.inl ⟨by rfl, ?_⟩) hHeld ?_
  · intro w hSw; go_simp
  simp only [List.setIfInBounds_toArray, List.set_cons_zero, List.set_cons_succ]
  refine wpAnyH_ready (rs := [43]) (by kernel_rfl) (by simp) ?_
  refine AllReadyH.cons rfl (fun K hK => ?_) AllReadyH.nil
  go_simp
  refine (HP.out _).mono ?_
  rintro ze wr4 ⟨rfl, hc⟩
  refine hK.out _ _ ⟨hHeld.1.trans hc, Af.calm (hHeld.2.1) hc, At.calm (hHeld.2.2.1) hc, At.calm (hHeld.2.2.2.1) hc, At.calm (hHeld.2.2.2.2.1) hc, At.calm (hHeld.2.2.2.2.2.1) hc, At.calm (hHeld.2.2.2.2.2.2) hc⟩ (fun hHeld => ?_)
  clear hK K
  try simp only [List.setIfInBounds_toArray, List.set_cons_zero, List.set_cons_succ]
  refine take_at 44 83 (.bool false) rfl rfl (by kernel_rfl) (by kernel_rfl) (by kernel_rfl) (fun _ _ _ h => h) (Or.inl ⟨by rfl, ?_⟩) hHeld ?_
  · intro w hSw; go_simp
  simp only [List.setIfInBounds_toArray, List.set_cons_zero, List.set_cons_succ]
  refine take_at 45 84 (.bool false) rfl rfl (by kernel_rfl) (by kernel_rfl) (by kernel_rfl) (fun _ _ _ h => h) (Or.inl ⟨by rfl, ?_⟩) hHeld ?_
  · intro w hSw; go_simp
  simp only [List.setIfInBounds_toArray, List.set_cons_zero, List.set_cons_succ]
  refine take_at 46 85 (.agg #[.int .u64 (a.lo : Int), .int .u64 (a.hi : Int)]) rfl rfl (by kernel_rfl) (by kernel_rfl) (by kernel_rfl) (fun _ _ _ h => h) (Or.inl ⟨by rfl, ?_⟩) hHeld ?_
  · intro w hSw; have c := At.two (hSw.2.2.1); go_simp
  simp only [List.setIfInBounds_toArray, List.set_cons_zero, List.set_cons_succ]
  refine take_at 48 87 (.int .u64 (n : Int)) rfl rfl (by kernel_rfl) (by kernel_rfl) (by kernel_rfl) (fun _ _ _ h => h) (Or.inl ⟨by rfl, ?_⟩) hHeld ?_
  · intro w hSw; go_simp
  simp only [List.setIfInBounds_toArray, List.set_cons_zero, List.set_cons_succ]
  refine take_at 49 88 (.int .u64 (n' : Int)) rfl rfl (by kernel_rfl) (by kernel_rfl) (by kernel_rfl) (fun _ _ _ h => h) (Or.inl ⟨by rfl, ?_⟩) hHeld ?_
  · intro w hSw; go_simp
  simp only [List.setIfInBounds_toArray, List.set_cons_zero, List.set_cons_succ]
  refine wpAnyH_ready (rs := [47]) (by kernel_rfl) (by simp) ?_
  refine AllReadyH.cons rfl (fun K hK => ?_) AllReadyH.nil
  go_simp
  refine (KL.out _).mono ?_
  rintro ze wr5 ⟨rfl, hc⟩
  refine hK.out _ _ ⟨hHeld.1.trans hc, Af.calm (hHeld.2.1) hc, At.calm (hHeld.2.2.1) hc, At.calm (hHeld.2.2.2.1) hc, At.calm (hHeld.2.2.2.2.1) hc, At.calm (hHeld.2.2.2.2.2.1) hc, At.calm (hHeld.2.2.2.2.2.2) hc⟩ (fun hHeld => ?_)
  clear hK K
  try simp only [List.setIfInBounds_toArray, List.set_cons_zero, List.set_cons_succ]
  refine wpAnyH_ready (rs := [50]) (by kernel_rfl) (by simp) ?_
  refine AllReadyH.cons rfl (fun K hK => ?_) AllReadyH.nil
  go_simp
  refine (HL.out _).mono ?_
  rintro ze wr6 ⟨rfl, hc⟩
  refine hK.out _ _ ⟨hHeld.1.trans hc, Af.calm (hHeld.2.1) hc, At.calm (hHeld.2.2.1) hc, At.calm (hHeld.2.2.2.1) hc, At.calm (hHeld.2.2.2.2.1) hc, At.calm (hHeld.2.2.2.2.2.1) hc, At.calm (hHeld.2.2.2.2.2.2) hc⟩ (fun hHeld => ?_)
  clear hK K
  try simp only [List.setIfInBounds_toArray, List.set_cons_zero, List.set_cons_succ]
  refine take_at 51 90 (.bool true) rfl rfl (by kernel_rfl) (by kernel_rfl) (by kernel_rfl) (fun _ _ _ h => h) (Or.inl ⟨by rfl, ?_⟩) hHeld ?_
  · intro w hSw; go_simp
  simp only [List.setIfInBounds_toArray, List.set_cons_zero, List.set_cons_succ]
  refine take_at 52 91 (.bool true) rfl rfl (by kernel_rfl) (by kernel_rfl) (by kernel_rfl) (fun _ _ _ h => h) (Or.inl ⟨by rfl, ?_⟩) hHeld ?_
  · intro w hSw; go_simp
  simp only [List.setIfInBounds_toArray, List.set_cons_zero, List.set_cons_succ]
  refine take_at 53 4 (.bool true) rfl rfl (by kernel_rfl) (by kernel_rfl) (by kernel_rfl) (fun _ _ _ h => h) (Or.inl ⟨by rfl, ?_⟩) hHeld ?_
  · intro w hSw; go_simp
  simp only [List.setIfInBounds_toArray, List.set_cons_zero, List.set_cons_succ]
  refine wpAnyH_done (by kernel_rfl) (NoPanic.normal ?_) _
  replace E := Lib.hid (show Calm w wr6 ∧ Af wr6 g1 f0 f1 f2 f3 ∧ At wr6 g2 a ∧ At wr6 g3 b ∧ At wr6 g4 j ∧ At wr6 g5 m ∧ At wr6 g6 j from hHeld)
  clear hHeld
  obtain ⟨g1_0, g1_1, g1_2, g1_3⟩ := Af.four (E.out.2.1)
  obtain ⟨g2_0, g2_1, g2_2, g2_3⟩ := At.two (E.out.2.2.1)
  obtain ⟨g3_0, g3_1, g3_2, g3_3⟩ := At.two (E.out.2.2.2.1)
  obtain ⟨g4_0, g4_1, g4_2, g4_3⟩ := At.two (E.out.2.2.2.2.1)
  obtain ⟨g5_0, g5_1, g5_2, g5_3⟩ := At.two (E.out.2.2.2.2.2.1)
  obtain ⟨g6_0, g6_1, g6_2, g6_3⟩ := At.two (E.out.2.2.2.2.2.2)
  go_wp2_with fail
  clear g1_0 g1_1 g1_2 g1_3 g2_0 g2_1 g2_2 g2_3 g3_0 g3_1 g3_2 g3_3 g4_0 g4_1 g4_2 g4_3 g5_0 g5_1 g5_2 g5_3 g6_0 g6_1 g6_2 g6_3
  go_returns
  exact ⟨rfl, E.out.1⟩

end Go.Proofs.Ytboiakahhkihiaa
