/-
  The walk of SpanMeets.
-/
import Derived.Test.YtboiakahhkihiaaN9
import Derived.Test.YtboiakahhkihiaaNQ
namespace Go.Proofs.Ytboiakahhkihiaa
open Go.RowKit
set_option linter.all false

theorem meet_comm (a b : Sp) : meetS a b = meetS b a := by
  by_cases h : max a.lo b.lo ≤ min a.hi b.hi
  · rw [meet_yes h, meet_yes (s := b) (t := a) (by omega), Nat.max_comm, Nat.min_comm]
  · rw [meet_no h, meet_no (s := b) (t := a) (by omega)]
theorem meet_is {a b : Sp} (h : (meetS a b).2 = true) : max a.lo b.lo ≤ min a.hi b.hi := by
  rcases Nat.lt_or_ge (min a.hi b.hi) (max a.lo b.lo) with c | c
  · rw [meet_no (by omega)] at h; cases h
  · exact c
theorem meet_isnt {a b : Sp} (h : (meetS a b).2 = false) : ¬ max a.lo b.lo ≤ min a.hi b.hi := fun c => by rw [meet_yes c] at h; cases h
theorem join_meet1 {a b : Sp} (h : (meetS a b).2 = true) (oka : a.Ok) (okb : b.Ok) : joinS (meetS a b).1 a = a := by
  have c := meet_is h
  rw [meet_yes c]
  obtain ⟨al, ah⟩ := a
  simp only [joinS, Sp.mk.injEq] at c ⊢
  omega
theorem join_meet2 {a b : Sp} (h : (meetS a b).2 = true) (oka : a.Ok) (okb : b.Ok) : joinS (meetS a b).1 b = b := by
  have c := meet_is h
  rw [meet_yes c]
  obtain ⟨bl, bh⟩ := b
  simp only [joinS, Sp.mk.injEq] at c ⊢
  omega
theorem meet_none {a b c : Sp} (h : (meetS a b).2 = true) (h' : (meetS b c).2 = false) : (meetS (meetS a b).1 c).2 = false := by
  have h1 := meet_is h
  have h2 := meet_isnt h'
  rw [meet_yes h1, meet_no (s := ⟨max a.lo b.lo, min a.hi b.hi⟩) (by show ¬ max (max a.lo b.lo) c.lo ≤ min (min a.hi b.hi) c.hi; omega)]
theorem meet_assoc {a b c : Sp} (h : (meetS a b).2 = true) (h' : (meetS b c).2 = true) : meetS (meetS a b).1 c = meetS a (meetS b c).1 := by
  have h1 := meet_is h
  have h2 := meet_is h'
  rw [meet_yes h1, meet_yes h2]
  by_cases k : max (max a.lo b.lo) c.lo ≤ min (min a.hi b.hi) c.hi
  · rw [meet_yes (s := ⟨max a.lo b.lo, min a.hi b.hi⟩) (t := c) k, meet_yes (s := a) (t := ⟨max b.lo c.lo, min b.hi c.hi⟩) (by show max a.lo (max b.lo c.lo) ≤ min a.hi (min b.hi c.hi); omega)]
    simp only [Prod.mk.injEq, Sp.mk.injEq, and_true]
    omega
  · rw [meet_no (s := ⟨max a.lo b.lo, min a.hi b.hi⟩) (t := c) k, meet_no (s := a) (t := ⟨max b.lo c.lo, min b.hi c.hi⟩) (by show ¬ max a.lo (max b.lo c.lo) ≤ min a.hi (min b.hi c.hi); omega)]

set_option maxHeartbeats 6400000 in
set_option maxRecDepth 20000 in
theorem spanMeets_f1 {a b c : Sp} {f0 f1 f2 f3 e0 e1 e2 e3 : Nat} (oka : a.Ok) (okb : b.Ok) (ea : a = rS f0 f1) (eb : b = rS f2 f3) (ec : c = rS e0 e1) (h1 : (meetS a b).2 = false) (h2 : a.hi < b.lo) (w : World) : Calls Try.prog 10 #[.agg #[.int .u64 (f0 : Int), .int .u64 (f1 : Int), .int .u64 (f2 : Int), .int .u64 (f3 : Int)], .agg #[.int .u64 (e0 : Int), .int .u64 (e1 : Int), .int .u64 (e2 : Int), .int .u64 (e3 : Int)]] w fun e w' => e = .returned (.bool true) ∧ Calm w w' := by
  obtain ⟨d, ed⟩ : ∃ d, d = rS e2 e3 := ⟨_, rfl⟩
  obtain ⟨x, ex⟩ : ∃ x, x = (meetS a b).1 := ⟨_, rfl⟩
  have KA : Hid (∀ w, Calls Try.prog 12 #[.agg #[.int .u64 (f0 : Int), .int .u64 (f1 : Int), .int .u64 (f2 : Int), .int .u64 (f3 : Int)]] w fun z w' => z = .returned (.tuple #[.agg #[.int .u64 (a.lo : Int), .int .u64 (a.hi : Int)], .agg #[.int .u64 (b.lo : Int), .int .u64 (b.hi : Int)]]) ∧ Calm w w') := Lib.hid (by rw [ea, eb]; exact fun w => spans8_c w f0 f1 f2 f3)
  have KB : Hid (∀ w, Calls Try.prog 12 #[.agg #[.int .u64 (e0 : Int), .int .u64 (e1 : Int), .int .u64 (e2 : Int), .int .u64 (e3 : Int)]] w fun z w' => z = .returned (.tuple #[.agg #[.int .u64 (c.lo : Int), .int .u64 (c.hi : Int)], .agg #[.int .u64 (d.lo : Int), .int .u64 (d.hi : Int)]]) ∧ Calm w w') := Lib.hid (by rw [ec, ed]; exact fun w => spans8_c w e0 e1 e2 e3)
  have KX : Hid (∀ w, Calls Try.prog 18 #[.agg #[.int .u64 (a.lo : Int), .int .u64 (a.hi : Int)], .agg #[.int .u64 (b.lo : Int), .int .u64 (b.hi : Int)]] w fun z w' => z = .returned (.tuple #[.agg #[.int .u64 (x.lo : Int), .int .u64 (x.hi : Int)], .bool false]) ∧ Calm w w') := Lib.hid (by rw [ex, ← h1]; exact fun w => pmeet_c a b w)
  have KY : Hid (∀ w, Calls Try.prog 18 #[.agg #[.int .u64 (b.lo : Int), .int .u64 (b.hi : Int)], .agg #[.int .u64 (a.lo : Int), .int .u64 (a.hi : Int)]] w fun z w' => z = .returned (.tuple #[.agg #[.int .u64 (x.lo : Int), .int .u64 (x.hi : Int)], .bool false]) ∧ Calm w w') := Lib.hid (by rw [ex, ← h1, meet_comm a b]; exact fun w => pmeet_c b a w)
  clear h1 oka okb ea eb ec ed ex 
  go_enter Try.func10, Try.ntmps10
  have E := Lib.hid (show Calm w w from Keep.refl _ _)
  go_upto_region 1 with fail
  have hC : Calm w ((w.alloc (.cells #[.int .u64 (f0 : Int), .int .u64 (f1 : Int), .int .u64 (f2 : Int), .int .u64 (f3 : Int)] 24)).alloc (.cells #[.int .u64 (e0 : Int), .int .u64 (e1 : Int), .int .u64 (e2 : Int), .int .u64 (e3 : Int)] 24)) := ((Keep.refl _ _).alloc _).alloc _
  have hA : Af ((w.alloc (.cells #[.int .u64 (f0 : Int), .int .u64 (f1 : Int), .int .u64 (f2 : Int), .int .u64 (f3 : Int)] 24)).alloc (.cells #[.int .u64 (e0 : Int), .int .u64 (e1 : Int), .int .u64 (e2 : Int), .int .u64 (e3 : Int)] 24)) w.heap.size f0 f1 f2 f3 := (Row.made w _ _).alloc _
  have hB : Af ((w.alloc (.cells #[.int .u64 (f0 : Int), .int .u64 (f1 : Int), .int .u64 (f2 : Int), .int .u64 (f3 : Int)] 24)).alloc (.cells #[.int .u64 (e0 : Int), .int .u64 (e1 : Int), .int .u64 (e2 : Int), .int .u64 (e3 : Int)] 24)) (w.heap.size + 1) e0 e1 e2 e3 := by
    have e : Af ((w.alloc (.cells #[.int .u64 (f0 : Int), .int .u64 (f1 : Int), .int .u64 (f2 : Int), .int .u64 (f3 : Int)] 24)).alloc (.cells #[.int .u64 (e0 : Int), .int .u64 (e1 : Int), .int .u64 (e2 : Int), .int .u64 (e3 : Int)] 24)) (w.alloc (.cells #[.int .u64 (f0 : Int), .int .u64 (f1 : Int), .int .u64 (f2 : Int), .int .u64 (f3 : Int)] 24)).heap.size e0 e1 e2 e3 := Row.made _ _ _
    simp only [World.size_alloc] at e
    exact e
  have hO : w.heap.size ≤ w.heap.size := E.out.size
  obtain ⟨g1, hg1⟩ : ∃ zg, zg = w.heap.size := ⟨_, rfl⟩
  obtain ⟨w1, hw1⟩ : ∃ zz, zz = (w.alloc (.cells #[.int .u64 (f0 : Int), .int .u64 (f1 : Int), .int .u64 (f2 : Int), .int .u64 (f3 : Int)] 24)).alloc (.cells #[.int .u64 (e0 : Int), .int .u64 (e1 : Int), .int .u64 (e2 : Int), .int .u64 (e3 : Int)] 24) := ⟨_, rfl⟩
  replace hO : w.heap.size ≤ g1 := by rw [hg1]; exact hO
  rw [← hg1] at hA hB ⊢
  rw [← hw1] at hA hB hC ⊢
  clear hg1 hw1
  obtain ⟨g2, hg2⟩ : ∃ zg, zg = g1 + 1 := ⟨_, rfl⟩
  rw [← hg2] at hB ⊢
  have O1 := Lib.hid hO
  have O2 : Hid (w.heap.size ≤ g2 ∧ g1 < g2) := Lib.hid (by have := O1.out; omega)
  clear hO
  clear hg2
  replace E := Lib.hid (show Calm w w1 from E.out.trans (hC))
  replace E := Lib.hid (show Calm w w1 ∧ Af w1 g1 f0 f1 f2 f3 ∧ Af w1 g2 e0 e1 e2 e3 from ⟨E.out, hA, hB⟩)
  clear hC hA hB
  obtain ⟨g1_0, g1_1, g1_2, g1_3⟩ := Af.four (E.out.2.1)
  obtain ⟨g2_0, g2_1, g2_2, g2_3⟩ := Af.four (E.out.2.2)
  go_wp2_with fail
  clear g1_0 g1_1 g1_2 g1_3 g2_0 g2_1 g2_2 g2_3
  refine (shown8_c _).mono ?_
  rintro ze w2 ⟨rfl, hc⟩
  replace E := Lib.hid (show Calm w w2 ∧ Af w2 g1 f0 f1 f2 f3 ∧ Af w2 g2 e0 e1 e2 e3 from ⟨E.out.1.trans (hc), Af.calm (E.out.2.1) (hc), Af.calm (E.out.2.2) (hc)⟩)
  clear hc
  obtain ⟨g1_0, g1_1, g1_2, g1_3⟩ := Af.four (E.out.2.1)
  obtain ⟨g2_0, g2_1, g2_2, g2_3⟩ := Af.four (E.out.2.2)
  go_wp2_with fail
  clear g1_0 g1_1 g1_2 g1_3 g2_0 g2_1 g2_2 g2_3
  refine (KA.out _).mono ?_
  rintro ze w3 ⟨rfl, hc⟩
  replace E := Lib.hid (show Calm w w3 ∧ Af w3 g1 f0 f1 f2 f3 ∧ Af w3 g2 e0 e1 e2 e3 from ⟨E.out.1.trans (hc), Af.calm (E.out.2.1) (hc), Af.calm (E.out.2.2) (hc)⟩)
  clear hc
  obtain ⟨g1_0, g1_1, g1_2, g1_3⟩ := Af.four (E.out.2.1)
  obtain ⟨g2_0, g2_1, g2_2, g2_3⟩ := Af.four (E.out.2.2)
  go_upto_region 3 with fail
  clear g1_0 g1_1 g1_2 g1_3 g2_0 g2_1 g2_2 g2_3
  have hC : Calm w3 ((w3.alloc (.cells #[.int .u64 (a.lo : Int), .int .u64 (a.hi : Int)] 27)).alloc (.cells #[.int .u64 (b.lo : Int), .int .u64 (b.hi : Int)] 27)) := ((Keep.refl _ _).alloc _).alloc _
  have hA : At ((w3.alloc (.cells #[.int .u64 (a.lo : Int), .int .u64 (a.hi : Int)] 27)).alloc (.cells #[.int .u64 (b.lo : Int), .int .u64 (b.hi : Int)] 27)) w3.heap.size a := (Row.made w3 _ _).alloc _
  have hB : At ((w3.alloc (.cells #[.int .u64 (a.lo : Int), .int .u64 (a.hi : Int)] 27)).alloc (.cells #[.int .u64 (b.lo : Int), .int .u64 (b.hi : Int)] 27)) (w3.heap.size + 1) b := by
    have e : At ((w3.alloc (.cells #[.int .u64 (a.lo : Int), .int .u64 (a.hi : Int)] 27)).alloc (.cells #[.int .u64 (b.lo : Int), .int .u64 (b.hi : Int)] 27)) (w3.alloc (.cells #[.int .u64 (a.lo : Int), .int .u64 (a.hi : Int)] 27)).heap.size b := Row.made _ _ _
    simp only [World.size_alloc] at e
    exact e
  have hO : w.heap.size ≤ w3.heap.size ∧ g1 < w3.heap.size ∧ g2 < w3.heap.size := ⟨E.out.1.size, Af.lt (E.out.2.1), Af.lt (E.out.2.2)⟩
  obtain ⟨g3, hg3⟩ : ∃ zg, zg = w3.heap.size := ⟨_, rfl⟩
  obtain ⟨w4, hw4⟩ : ∃ zz, zz = (w3.alloc (.cells #[.int .u64 (a.lo : Int), .int .u64 (a.hi : Int)] 27)).alloc (.cells #[.int .u64 (b.lo : Int), .int .u64 (b.hi : Int)] 27) := ⟨_, rfl⟩
  replace hO : w.heap.size ≤ g3 ∧ g1 < g3 ∧ g2 < g3 := by rw [hg3]; exact hO
  rw [← hg3] at hA hB ⊢
  rw [← hw4] at hA hB hC ⊢
  clear hg3 hw4
  obtain ⟨g4, hg4⟩ : ∃ zg, zg = g3 + 1 := ⟨_, rfl⟩
  rw [← hg4] at hB ⊢
  have O3 := Lib.hid hO
  have O4 : Hid (w.heap.size ≤ g4 ∧ g1 < g4 ∧ g2 < g4 ∧ g3 < g4) := Lib.hid (by have := O3.out; omega)
  clear hO
  clear hg4
  replace E := Lib.hid (show Calm w w4 ∧ Af w4 g1 f0 f1 f2 f3 ∧ Af w4 g2 e0 e1 e2 e3 from ⟨E.out.1.trans (hC), Af.calm (E.out.2.1) (hC), Af.calm (E.out.2.2) (hC)⟩)
  replace E := Lib.hid (show Calm w w4 ∧ Af w4 g1 f0 f1 f2 f3 ∧ Af w4 g2 e0 e1 e2 e3 ∧ At w4 g3 a ∧ At w4 g4 b from ⟨E.out.1, E.out.2.1, E.out.2.2, hA, hB⟩)
  clear hC hA hB
  obtain ⟨g1_0, g1_1, g1_2, g1_3⟩ := Af.four (E.out.2.1)
  obtain ⟨g2_0, g2_1, g2_2, g2_3⟩ := Af.four (E.out.2.2.1)
  obtain ⟨g3_0, g3_1, g3_2, g3_3⟩ := At.two (E.out.2.2.2.1)
  obtain ⟨g4_0, g4_1, g4_2, g4_3⟩ := At.two (E.out.2.2.2.2)
  go_wp2_with fail
  clear g1_0 g1_1 g1_2 g1_3 g2_0 g2_1 g2_2 g2_3 g3_0 g3_1 g3_2 g3_3 g4_0 g4_1 g4_2 g4_3
  refine (KB.out _).mono ?_
  rintro ze w5 ⟨rfl, hc⟩
  replace E := Lib.hid (show Calm w w5 ∧ Af w5 g1 f0 f1 f2 f3 ∧ Af w5 g2 e0 e1 e2 e3 ∧ At w5 g3 a ∧ At w5 g4 b from ⟨E.out.1.trans (hc), Af.calm (E.out.2.1) (hc), Af.calm (E.out.2.2.1) (hc), At.calm (E.out.2.2.2.1) (hc), At.calm (E.out.2.2.2.2) (hc)⟩)
  clear hc
  obtain ⟨g1_0, g1_1, g1_2, g1_3⟩ := Af.four (E.out.2.1)
  obtain ⟨g2_0, g2_1, g2_2, g2_3⟩ := Af.four (E.out.2.2.1)
  obtain ⟨g3_0, g3_1, g3_2, g3_3⟩ := At.two (E.out.2.2.2.1)
  obtain ⟨g4_0, g4_1, g4_2, g4_3⟩ := At.two (E.out.2.2.2.2)
  go_upto_region 4 with fail
  clear g1_0 g1_1 g1_2 g1_3 g2_0 g2_1 g2_2 g2_3 g3_0 g3_1 g3_2 g3_3 g4_0 g4_1 g4_2 g4_3
  have hC : Calm w5 ((w5.alloc (.cells #[.int .u64 (c.lo : Int), .int .u64 (c.hi : Int)] 27)).alloc (.cells #[.int .u64 (d.lo : Int), .int .u64 (d.hi : Int)] 27)) := ((Keep.refl _ _).alloc _).alloc _
  have hA : At ((w5.alloc (.cells #[.int .u64 (c.lo : Int), .int .u64 (c.hi : Int)] 27)).alloc (.cells #[.int .u64 (d.lo : Int), .int .u64 (d.hi : Int)] 27)) w5.heap.size c := (Row.made w5 _ _).alloc _
  have hB : At ((w5.alloc (.cells #[.int .u64 (c.lo : Int), .int .u64 (c.hi : Int)] 27)).alloc (.cells #[.int .u64 (d.lo : Int), .int .u64 (d.hi : Int)] 27)) (w5.heap.size + 1) d := by
    have e : At ((w5.alloc (.cells #[.int .u64 (c.lo : Int), .int .u64 (c.hi : Int)] 27)).alloc (.cells #[.int .u64 (d.lo : Int), .int .u64 (d.hi : Int)] 27)) (w5.alloc (.cells #[.int .u64 (c.lo : Int), .int .u64 (c.hi : Int)] 27)).heap.size d := Row.made _ _ _
    simp only [World.size_alloc] at e
    exact e
  have hO : w.heap.size ≤ w5.heap.size ∧ g1 < w5.heap.size ∧ g2 < w5.heap.size ∧ g3 < w5.heap.size ∧ g4 < w5.heap.size := ⟨E.out.1.size, Af.lt (E.out.2.1), Af.lt (E.out.2.2.1), At.lt (E.out.2.2.2.1), At.lt (E.out.2.2.2.2)⟩
  obtain ⟨g5, hg5⟩ : ∃ zg, zg = w5.heap.size := ⟨_, rfl⟩
  obtain ⟨w6, hw6⟩ : ∃ zz, zz = (w5.alloc (.cells #[.int .u64 (c.lo : Int), .int .u64 (c.hi : Int)] 27)).alloc (.cells #[.int .u64 (d.lo : Int), .int .u64 (d.hi : Int)] 27) := ⟨_, rfl⟩
  replace hO : w.heap.size ≤ g5 ∧ g1 < g5 ∧ g2 < g5 ∧ g3 < g5 ∧ g4 < g5 := by rw [hg5]; exact hO
  rw [← hg5] at hA hB ⊢
  rw [← hw6] at hA hB hC ⊢
  clear hg5 hw6
  obtain ⟨g6, hg6⟩ : ∃ zg, zg = g5 + 1 := ⟨_, rfl⟩
  rw [← hg6] at hB ⊢
  have O5 := Lib.hid hO
  have O6 : Hid (w.heap.size ≤ g6 ∧ g1 < g6 ∧ g2 < g6 ∧ g3 < g6 ∧ g4 < g6 ∧ g5 < g6) := Lib.hid (by have := O5.out; omega)
  clear hO
  clear hg6
  replace E := Lib.hid (show Calm w w6 ∧ Af w6 g1 f0 f1 f2 f3 ∧ Af w6 g2 e0 e1 e2 e3 ∧ At w6 g3 a ∧ At w6 g4 b from ⟨E.out.1.trans (hC), Af.calm (E.out.2.1) (hC), Af.calm (E.out.2.2.1) (hC), At.calm (E.out.2.2.2.1) (hC), At.calm (E.out.2.2.2.2) (hC)⟩)
  replace E := Lib.hid (show Calm w w6 ∧ Af w6 g1 f0 f1 f2 f3 ∧ Af w6 g2 e0 e1 e2 e3 ∧ At w6 g3 a ∧ At w6 g4 b ∧ At w6 g5 c ∧ At w6 g6 d from ⟨E.out.1, E.out.2.1, E.out.2.2.1, E.out.2.2.2.1, E.out.2.2.2.2, hA, hB⟩)
  clear hC hA hB
  obtain ⟨g1_0, g1_1, g1_2, g1_3⟩ := Af.four (E.out.2.1)
  obtain ⟨g2_0, g2_1, g2_2, g2_3⟩ := Af.four (E.out.2.2.1)
  obtain ⟨g3_0, g3_1, g3_2, g3_3⟩ := At.two (E.out.2.2.2.1)
  obtain ⟨g4_0, g4_1, g4_2, g4_3⟩ := At.two (E.out.2.2.2.2.1)
  obtain ⟨g5_0, g5_1, g5_2, g5_3⟩ := At.two (E.out.2.2.2.2.2.1)
  obtain ⟨g6_0, g6_1, g6_2, g6_3⟩ := At.two (E.out.2.2.2.2.2.2)
  go_wp2_with fail
  clear g1_0 g1_1 g1_2 g1_3 g2_0 g2_1 g2_2 g2_3 g3_0 g3_1 g3_2 g3_3 g4_0 g4_1 g4_2 g4_3 g5_0 g5_1 g5_2 g5_3 g6_0 g6_1 g6_2 g6_3
  refine (KX.out _).mono ?_
  rintro ze w7 ⟨rfl, hc⟩
  replace E := Lib.hid (show Calm w w7 ∧ Af w7 g1 f0 f1 f2 f3 ∧ Af w7 g2 e0 e1 e2 e3 ∧ At w7 g3 a ∧ At w7 g4 b ∧ At w7 g5 c ∧ At w7 g6 d from ⟨E.out.1.trans (hc), Af.calm (E.out.2.1) (hc), Af.calm (E.out.2.2.1) (hc), At.calm (E.out.2.2.2.1) (hc), At.calm (E.out.2.2.2.2.1) (hc), At.calm (E.out.2.2.2.2.2.1) (hc), At.calm (E.out.2.2.2.2.2.2) (hc)⟩)
  clear hc
  obtain ⟨g1_0, g1_1, g1_2, g1_3⟩ := Af.four (E.out.2.1)
  obtain ⟨g2_0, g2_1, g2_2, g2_3⟩ := Af.four (E.out.2.2.1)
  obtain ⟨g3_0, g3_1, g3_2, g3_3⟩ := At.two (E.out.2.2.2.1)
  obtain ⟨g4_0, g4_1, g4_2, g4_3⟩ := At.two (E.out.2.2.2.2.1)
  obtain ⟨g5_0, g5_1, g5_2, g5_3⟩ := At.two (E.out.2.2.2.2.2.1)
  obtain ⟨g6_0, g6_1, g6_2, g6_3⟩ := At.two (E.out.2.2.2.2.2.2)
  go_upto_region 5 with fail
  clear g1_0 g1_1 g1_2 g1_3 g2_0 g2_1 g2_2 g2_3 g3_0 g3_1 g3_2 g3_3 g4_0 g4_1 g4_2 g4_3 g5_0 g5_1 g5_2 g5_3 g6_0 g6_1 g6_2 g6_3
  have hC : Calm w7 (w7.alloc (.cells #[.int .u64 (x.lo : Int), .int .u64 (x.hi : Int)] 27)) := (Keep.refl _ _).alloc _
  have hA : At (w7.alloc (.cells #[.int .u64 (x.lo : Int), .int .u64 (x.hi : Int)] 27)) w7.heap.size x := Row.made w7 _ _
  have hO : w.heap.size ≤ w7.heap.size ∧ g1 < w7.heap.size ∧ g2 < w7.heap.size ∧ g3 < w7.heap.size ∧ g4 < w7.heap.size ∧ g5 < w7.heap.size ∧ g6 < w7.heap.size := ⟨E.out.1.size, Af.lt (E.out.2.1), Af.lt (E.out.2.2.1), At.lt (E.out.2.2.2.1), At.lt (E.out.2.2.2.2.1), At.lt (E.out.2.2.2.2.2.1), At.lt (E.out.2.2.2.2.2.2)⟩
  obtain ⟨g7, hg7⟩ : ∃ zg, zg = w7.heap.size := ⟨_, rfl⟩
  obtain ⟨w8, hw8⟩ : ∃ zz, zz = w7.alloc (.cells #[.int .u64 (x.lo : Int), .int .u64 (x.hi : Int)] 27) := ⟨_, rfl⟩
  replace hO : w.heap.size ≤ g7 ∧ g1 < g7 ∧ g2 < g7 ∧ g3 < g7 ∧ g4 < g7 ∧ g5 < g7 ∧ g6 < g7 := by rw [hg7]; exact hO
  rw [← hg7] at hA ⊢
  rw [← hw8] at hA hC ⊢
  clear hg7 hw8
  have O7 := Lib.hid hO
  clear hO
  replace E := Lib.hid (show Calm w w8 ∧ Af w8 g1 f0 f1 f2 f3 ∧ Af w8 g2 e0 e1 e2 e3 ∧ At w8 g3 a ∧ At w8 g4 b ∧ At w8 g5 c ∧ At w8 g6 d from ⟨E.out.1.trans (hC), Af.calm (E.out.2.1) (hC), Af.calm (E.out.2.2.1) (hC), At.calm (E.out.2.2.2.1) (hC), At.calm (E.out.2.2.2.2.1) (hC), At.calm (E.out.2.2.2.2.2.1) (hC), At.calm (E.out.2.2.2.2.2.2) (hC)⟩)
  replace E := Lib.hid (show Calm w w8 ∧ Af w8 g1 f0 f1 f2 f3 ∧ Af w8 g2 e0 e1 e2 e3 ∧ At w8 g3 a ∧ At w8 g4 b ∧ At w8 g5 c ∧ At w8 g6 d ∧ At w8 g7 x from ⟨E.out.1, E.out.2.1, E.out.2.2.1, E.out.2.2.2.1, E.out.2.2.2.2.1, E.out.2.2.2.2.2.1, E.out.2.2.2.2.2.2, hA⟩)
  clear hC hA
  obtain ⟨g1_0, g1_1, g1_2, g1_3⟩ := Af.four (E.out.2.1)
  obtain ⟨g2_0, g2_1, g2_2, g2_3⟩ := Af.four (E.out.2.2.1)
  obtain ⟨g3_0, g3_1, g3_2, g3_3⟩ := At.two (E.out.2.2.2.1)
  obtain ⟨g4_0, g4_1, g4_2, g4_3⟩ := At.two (E.out.2.2.2.2.1)
  obtain ⟨g5_0, g5_1, g5_2, g5_3⟩ := At.two (E.out.2.2.2.2.2.1)
  obtain ⟨g6_0, g6_1, g6_2, g6_3⟩ := At.two (E.out.2.2.2.2.2.2.1)
  obtain ⟨g7_0, g7_1, g7_2, g7_3⟩ := At.two (E.out.2.2.2.2.2.2.2)
  go_wp2_with fail
  clear g1_0 g1_1 g1_2 g1_3 g2_0 g2_1 g2_2 g2_3 g3_0 g3_1 g3_2 g3_3 g4_0 g4_1 g4_2 g4_3 g5_0 g5_1 g5_2 g5_3 g6_0 g6_1 g6_2 g6_3 g7_0 g7_1 g7_2 g7_3
  refine (KY.out _).mono ?_
  rintro ze w9 ⟨rfl, hc⟩
  replace E := Lib.hid (show Calm w w9 ∧ Af w9 g1 f0 f1 f2 f3 ∧ Af w9 g2 e0 e1 e2 e3 ∧ At w9 g3 a ∧ At w9 g4 b ∧ At w9 g5 c ∧ At w9 g6 d ∧ At w9 g7 x from ⟨E.out.1.trans (hc), Af.calm (E.out.2.1) (hc), Af.calm (E.out.2.2.1) (hc), At.calm (E.out.2.2.2.1) (hc), At.calm (E.out.2.2.2.2.1) (hc), At.calm (E.out.2.2.2.2.2.1) (hc), At.calm (E.out.2.2.2.2.2.2.1) (hc), At.calm (E.out.2.2.2.2.2.2.2) (hc)⟩)
  clear hc
  obtain ⟨g1_0, g1_1, g1_2, g1_3⟩ := Af.four (E.out.2.1)
  obtain ⟨g2_0, g2_1, g2_2, g2_3⟩ := Af.four (E.out.2.2.1)
  obtain ⟨g3_0, g3_1, g3_2, g3_3⟩ := At.two (E.out.2.2.2.1)
  obtain ⟨g4_0, g4_1, g4_2, g4_3⟩ := At.two (E.out.2.2.2.2.1)
  obtain ⟨g5_0, g5_1, g5_2, g5_3⟩ := At.two (E.out.2.2.2.2.2.1)
  obtain ⟨g6_0, g6_1, g6_2, g6_3⟩ := At.two (E.out.2.2.2.2.2.2.1)
  obtain ⟨g7_0, g7_1, g7_2, g7_3⟩ := At.two (E.out.2.2.2.2.2.2.2)
  go_upto_region 6 with fail
  clear g1_0 g1_1 g1_2 g1_3 g2_0 g2_1 g2_2 g2_3 g3_0 g3_1 g3_2 g3_3 g4_0 g4_1 g4_2 g4_3 g5_0 g5_1 g5_2 g5_3 g6_0 g6_1 g6_2 g6_3 g7_0 g7_1 g7_2 g7_3
  have hC : Calm w9 (w9.alloc (.cells #[.int .u64 (x.lo : Int), .int .u64 (x.hi : Int)] 27)) := (Keep.refl _ _).alloc _
  have hA : At (w9.alloc (.cells #[.int .u64 (x.lo : Int), .int .u64 (x.hi : Int)] 27)) w9.heap.size x := Row.made w9 _ _
  have hO : w.heap.size ≤ w9.heap.size ∧ g1 < w9.heap.size ∧ g2 < w9.heap.size ∧ g3 < w9.heap.size ∧ g4 < w9.heap.size ∧ g5 < w9.heap.size ∧ g6 < w9.heap.size ∧ g7 < w9.heap.size := ⟨E.out.1.size, Af.lt (E.out.2.1), Af.lt (E.out.2.2.1), At.lt (E.out.2.2.2.1), At.lt (E.out.2.2.2.2.1), At.lt (E.out.2.2.2.2.2.1), At.lt (E.out.2.2.2.2.2.2.1), At.lt (E.out.2.2.2.2.2.2.2)⟩
  obtain ⟨g8, hg8⟩ : ∃ zg, zg = w9.heap.size := ⟨_, rfl⟩
  obtain ⟨w10, hw10⟩ : ∃ zz, zz = w9.alloc (.cells #[.int .u64 (x.lo : Int), .int .u64 (x.hi : Int)] 27) := ⟨_, rfl⟩
  replace hO : w.heap.size ≤ g8 ∧ g1 < g8 ∧ g2 < g8 ∧ g3 < g8 ∧ g4 < g8 ∧ g5 < g8 ∧ g6 < g8 ∧ g7 < g8 := by rw [hg8]; exact hO
  rw [← hg8] at hA ⊢
  rw [← hw10] at hA hC ⊢
  clear hg8 hw10
  have O8 := Lib.hid hO
  clear hO
  replace E := Lib.hid (show Calm w w10 ∧ Af w10 g1 f0 f1 f2 f3 ∧ Af w10 g2 e0 e1 e2 e3 ∧ At w10 g3 a ∧ At w10 g4 b ∧ At w10 g5 c ∧ At w10 g6 d ∧ At w10 g7 x from ⟨E.out.1.trans (hC), Af.calm (E.out.2.1) (hC), Af.calm (E.out.2.2.1) (hC), At.calm (E.out.2.2.2.1) (hC), At.calm (E.out.2.2.2.2.1) (hC), At.calm (E.out.2.2.2.2.2.1) (hC), At.calm (E.out.2.2.2.2.2.2.1) (hC), At.calm (E.out.2.2.2.2.2.2.2) (hC)⟩)
  replace E := Lib.hid (show Calm w w10 ∧ Af w10 g1 f0 f1 f2 f3 ∧ Af w10 g2 e0 e1 e2 e3 ∧ At w10 g3 a ∧ At w10 g4 b ∧ At w10 g5 c ∧ At w10 g6 d ∧ At w10 g7 x ∧ At w10 g8 x from ⟨E.out.1, E.out.2.1, E.out.2.2.1, E.out.2.2.2.1, E.out.2.2.2.2.1, E.out.2.2.2.2.2.1, E.out.2.2.2.2.2.2.1, E.out.2.2.2.2.2.2.2, hA⟩)
  clear hC hA
  refine wp_region_noPanic ?_
  refine wp_region_held_drew (S := fun w' => Calm w w' ∧ Af w' g1 f0 f1 f2 f3 ∧ Af w' g2 e0 e1 e2 e3 ∧ At w' g3 a ∧ At w' g4 b ∧ At w' g5 c ∧ At w' g6 d ∧ At w' g7 x ∧ At w' g8 x) (by kernel_rfl) ⟨E.out.1.drew, E.out.2.1, E.out.2.2.1, E.out.2.2.2.1, E.out.2.2.2.2.1, E.out.2.2.2.2.2.1, E.out.2.2.2.2.2.2.1, E.out.2.2.2.2.2.2.2.1, E.out.2.2.2.2.2.2.2.2⟩ (fun hHeld => ?_)
  refine take_at 0 41 (.bool false) rfl rfl (by kernel_rfl) (by kernel_rfl) (by kernel_rfl) (fun _ _ _ h => h) (Or.inl ⟨by rfl, ?_⟩) hHeld ?_
  · intro w hSw; go_simp
  simp only [List.setIfInBounds_toArray, List.set_cons_zero, List.set_cons_succ]
  refine take_at 1 42 (.bool false) rfl rfl (by kernel_rfl) (by kernel_rfl) (by kernel_rfl) (fun _ _ _ h => h) (Or.inl ⟨by rfl, ?_⟩) hHeld ?_
  · intro w hSw; go_simp
  simp only [List.setIfInBounds_toArray, List.set_cons_zero, List.set_cons_succ]
  refine take_at 2 43 (.bool false) rfl rfl (by kernel_rfl) (by kernel_rfl) (by kernel_rfl) (fun _ _ _ h => h) (Or.inl ⟨by rfl, ?_⟩) hHeld ?_
  · intro w hSw; go_simp
  simp only [List.setIfInBounds_toArray, List.set_cons_zero, List.set_cons_succ]
  refine take_at 3 44 (.bool false) rfl rfl (by kernel_rfl) (by kernel_rfl) (by kernel_rfl) (fun _ _ _ h => h) (Or.inl ⟨by rfl, ?_⟩) hHeld ?_
  · intro w hSw; go_simp
  simp only [List.setIfInBounds_toArray, List.set_cons_zero, List.set_cons_succ]
  refine take_at 4 45 (.bool false) rfl rfl (by kernel_rfl) (by kernel_rfl) (by kernel_rfl) (fun _ _ _ h => h) (Or.inl ⟨by rfl, ?_⟩) hHeld ?_
  · intro w hSw; go_simp
  simp only [List.setIfInBounds_toArray, List.set_cons_zero, List.set_cons_succ]
  refine take_at 5 46 (.bool false) rfl rfl (by kernel_rfl) (by kernel_rfl) (by kernel_rfl) (fun _ _ _ h => h) (Or.inl ⟨by rfl, ?_⟩) hHeld ?_
  · intro w hSw; go_simp
  simp only [List.setIfInBounds_toArray, List.set_cons_zero, List.set_cons_succ]
  refine take_at 6 47 (undef) rfl rfl (by kernel_rfl) (by kernel_rfl) (by kernel_rfl) (fun _ _ _ h => h) (Or.inr ⟨by rfl, rfl⟩) hHeld ?_
  simp only [List.setIfInBounds_toArray, List.set_cons_zero, List.set_cons_succ]
  refine take_at 7 48 (undef) rfl rfl (by kernel_rfl) (by kernel_rfl) (by kernel_rfl) (fun _ _ _ h => h) (Or.inr ⟨by rfl, rfl⟩) hHeld ?_
  simp only [List.setIfInBounds_toArray, List.set_cons_zero, List.set_cons_succ]
  refine take_at 8 49 (undef) rfl rfl (by kernel_rfl) (by kernel_rfl) (by kernel_rfl) (fun _ _ _ h => h) (Or.inr ⟨by rfl, rfl⟩) hHeld ?_
  simp only [List.setIfInBounds_toArray, List.set_cons_zero, List.set_cons_succ]
  refine take_at 9 50 (undef) rfl rfl (by kernel_rfl) (by kernel_rfl) (by kernel_rfl) (fun _ _ _ h => h) (Or.inr ⟨by rfl, rfl⟩) hHeld ?_
  simp only [List.setIfInBounds_toArray, List.set_cons_zero, List.set_cons_succ]
  refine take_at 10 51 (undef) rfl rfl (by kernel_rfl) (by kernel_rfl) (by kernel_rfl) (fun _ _ _ h => h) (Or.inr ⟨by rfl, rfl⟩) hHeld ?_
  simp only [List.setIfInBounds_toArray, List.set_cons_zero, List.set_cons_succ]
  refine take_at 11 52 (undef) rfl rfl (by kernel_rfl) (by kernel_rfl) (by kernel_rfl) (fun _ _ _ h => h) (Or.inr ⟨by rfl, rfl⟩) hHeld ?_
  simp only [List.setIfInBounds_toArray, List.set_cons_zero, List.set_cons_succ]
  refine take_at 12 53 (undef) rfl rfl (by kernel_rfl) (by kernel_rfl) (by kernel_rfl) (fun _ _ _ h => h) (Or.inr ⟨by rfl, rfl⟩) hHeld ?_
  simp only [List.setIfInBounds_toArray, List.set_cons_zero, List.set_cons_succ]
  refine take_at 13 54 (undef) rfl rfl (by kernel_rfl) (by kernel_rfl) (by kernel_rfl) (fun _ _ _ h => h) (Or.inr ⟨by rfl, rfl⟩) hHeld ?_
  simp only [List.setIfInBounds_toArray, List.set_cons_zero, List.set_cons_succ]
  refine take_at 14 55 (undef) rfl rfl (by kernel_rfl) (by kernel_rfl) (by kernel_rfl) (fun _ _ _ h => h) (Or.inr ⟨by rfl, rfl⟩) hHeld ?_
  simp only [List.setIfInBounds_toArray, List.set_cons_zero, List.set_cons_succ]
  refine take_at 15 56 (undef) rfl rfl (by kernel_rfl) (by kernel_rfl) (by kernel_rfl) (fun _ _ _ h => h) (Or.inr ⟨by rfl, rfl⟩) hHeld ?_
  simp only [List.setIfInBounds_toArray, List.set_cons_zero, List.set_cons_succ]
  refine take_at 16 57 (undef) rfl rfl (by kernel_rfl) (by kernel_rfl) (by kernel_rfl) (fun _ _ _ h => h) (Or.inr ⟨by rfl, rfl⟩) hHeld ?_
  simp only [List.setIfInBounds_toArray, List.set_cons_zero, List.set_cons_succ]
  refine take_at 17 58 (undef) rfl rfl (by kernel_rfl) (by kernel_rfl) (by kernel_rfl) (fun _ _ _ h => h) (Or.inr ⟨by rfl, rfl⟩) hHeld ?_
  simp only [List.setIfInBounds_toArray, List.set_cons_zero, List.set_cons_succ]
  refine take_at 18 59 (undef) rfl rfl (by kernel_rfl) (by kernel_rfl) (by kernel_rfl) (fun _ _ _ h => h) (Or.inr ⟨by rfl, rfl⟩) hHeld ?_
  simp only [List.setIfInBounds_toArray, List.set_cons_zero, List.set_cons_succ]
  refine take_at 19 60 (undef) rfl rfl (by kernel_rfl) (by kernel_rfl) (by kernel_rfl) (fun _ _ _ h => h) (Or.inr ⟨by rfl, rfl⟩) hHeld ?_
  simp only [List.setIfInBounds_toArray, List.set_cons_zero, List.set_cons_succ]
  refine take_at 20 61 (undef) rfl rfl (by kernel_rfl) (by kernel_rfl) (by kernel_rfl) (fun _ _ _ h => h) (Or.inr ⟨by rfl, rfl⟩) hHeld ?_
  simp only [List.setIfInBounds_toArray, List.set_cons_zero, List.set_cons_succ]
  refine take_at 21 62 (undef) rfl rfl (by kernel_rfl) (by kernel_rfl) (by kernel_rfl) (fun _ _ _ h => h) (Or.inr ⟨by rfl, rfl⟩) hHeld ?_
  simp only [List.setIfInBounds_toArray, List.set_cons_zero, List.set_cons_succ]
  refine take_at 22 63 (undef) rfl rfl (by kernel_rfl) (by kernel_rfl) (by kernel_rfl) (fun _ _ _ h => h) (Or.inr ⟨by rfl, rfl⟩) hHeld ?_
  simp only [List.setIfInBounds_toArray, List.set_cons_zero, List.set_cons_succ]
  refine take_at 23 64 (.bool false) rfl rfl (by kernel_rfl) (by kernel_rfl) (by kernel_rfl) (fun _ _ _ h => h) (Or.inl ⟨by rfl, ?_⟩) hHeld ?_
  · intro w hSw; go_simp
  simp only [List.setIfInBounds_toArray, List.set_cons_zero, List.set_cons_succ]
  refine take_at 24 65 (.bool false) rfl rfl (by kernel_rfl) (by kernel_rfl) (by kernel_rfl) (fun _ _ _ h => h) (Or.inl ⟨by rfl, ?_⟩) hHeld ?_
  · intro w hSw; go_simp
  simp only [List.setIfInBounds_toArray, List.set_cons_zero, List.set_cons_succ]
  refine wpAnyH_done (by kernel_rfl) (NoPanic.normal ?_) _
  obtain ⟨wq, hwq⟩ : ∃ zz, zz = w10.drew := ⟨_, rfl⟩
  rw [← hwq] at hHeld ⊢
  clear hwq
  replace E := Lib.hid (show Calm w wq ∧ Af wq g1 f0 f1 f2 f3 ∧ Af wq g2 e0 e1 e2 e3 ∧ At wq g3 a ∧ At wq g4 b ∧ At wq g5 c ∧ At wq g6 d ∧ At wq g7 x ∧ At wq g8 x from hHeld)
  clear hHeld
  obtain ⟨g1_0, g1_1, g1_2, g1_3⟩ := Af.four (E.out.2.1)
  obtain ⟨g2_0, g2_1, g2_2, g2_3⟩ := Af.four (E.out.2.2.1)
  obtain ⟨g3_0, g3_1, g3_2, g3_3⟩ := At.two (E.out.2.2.2.1)
  obtain ⟨g4_0, g4_1, g4_2, g4_3⟩ := At.two (E.out.2.2.2.2.1)
  obtain ⟨g5_0, g5_1, g5_2, g5_3⟩ := At.two (E.out.2.2.2.2.2.1)
  obtain ⟨g6_0, g6_1, g6_2, g6_3⟩ := At.two (E.out.2.2.2.2.2.2.1)
  obtain ⟨g7_0, g7_1, g7_2, g7_3⟩ := At.two (E.out.2.2.2.2.2.2.2.1)
  obtain ⟨g8_0, g8_1, g8_2, g8_3⟩ := At.two (E.out.2.2.2.2.2.2.2.2)
  go_wp2_with fail
  clear g1_0 g1_1 g1_2 g1_3 g2_0 g2_1 g2_2 g2_3 g3_0 g3_1 g3_2 g3_3 g4_0 g4_1 g4_2 g4_3 g5_0 g5_1 g5_2 g5_3 g6_0 g6_1 g6_2 g6_3 g7_0 g7_1 g7_2 g7_3 g8_0 g8_1 g8_2 g8_3
  go_returns
  exact ⟨rfl, E.out.1⟩

set_option maxHeartbeats 6400000 in
set_option maxRecDepth 20000 in
theorem spanMeets_f2 {a b c : Sp} {f0 f1 f2 f3 e0 e1 e2 e3 : Nat} (oka : a.Ok) (okb : b.Ok) (ea : a = rS f0 f1) (eb : b = rS f2 f3) (ec : c = rS e0 e1) (h1 : (meetS a b).2 = false) (h2 : ¬ a.hi < b.lo) (h3 : b.hi < a.lo) (w : World) : Calls Try.prog 10 #[.agg #[.int .u64 (f0 : Int), .int .u64 (f1 : Int), .int .u64 (f2 : Int), .int .u64 (f3 : Int)], .agg #[.int .u64 (e0 : Int), .int .u64 (e1 : Int), .int .u64 (e2 : Int), .int .u64 (e3 : Int)]] w fun e w' => e = .returned (.bool true) ∧ Calm w w' := by
  obtain ⟨d, ed⟩ : ∃ d, d = rS e2 e3 := ⟨_, rfl⟩
  obtain ⟨x, ex⟩ : ∃ x, x = (meetS a b).1 := ⟨_, rfl⟩
  have KA : Hid (∀ w, Calls Try.prog 12 #[.agg #[.int .u64 (f0 : Int), .int .u64 (f1 : Int), .int .u64 (f2 : Int), .int .u64 (f3 : Int)]] w fun z w' => z = .returned (.tuple #[.agg #[.int .u64 (a.lo : Int), .int .u64 (a.hi : Int)], .agg #[.int .u64 (b.lo : Int), .int .u64 (b.hi : Int)]]) ∧ Calm w w') := Lib.hid (by rw [ea, eb]; exact fun w => spans8_c w f0 f1 f2 f3)
  have KB : Hid (∀ w, Calls Try.prog 12 #[.agg #[.int .u64 (e0 : Int), .int .u64 (e1 : Int), .int .u64 (e2 : Int), .int .u64 (e3 : Int)]] w fun z w' => z = .returned (.tuple #[.agg #[.int .u64 (c.lo : Int), .int .u64 (c.hi : Int)], .agg #[.int .u64 (d.lo : Int), .int .u64 (d.hi : Int)]]) ∧ Calm w w') := Lib.hid (by rw [ec, ed]; exact fun w => spans8_c w e0 e1 e2 e3)
  have KX : Hid (∀ w, Calls Try.prog 18 #[.agg #[.int .u64 (a.lo : Int), .int .u64 (a.hi : Int)], .agg #[.int .u64 (b.lo : Int), .int .u64 (b.hi : Int)]] w fun z w' => z = .returned (.tuple #[.agg #[.int .u64 (x.lo : Int), .int .u64 (x.hi : Int)], .bool false]) ∧ Calm w w') := Lib.hid (by rw [ex, ← h1]; exact fun w => pmeet_c a b w)
  have KY : Hid (∀ w, Calls Try.prog 18 #[.agg #[.int .u64 (b.lo : Int), .int .u64 (b.hi : Int)], .agg #[.int .u64 (a.lo : Int), .int .u64 (a.hi : Int)]] w fun z w' => z = .returned (.tuple #[.agg #[.int .u64 (x.lo : Int), .int .u64 (x.hi : Int)], .bool false]) ∧ Calm w w') := Lib.hid (by rw [ex, ← h1, meet_comm a b]; exact fun w => pmeet_c b a w)
  clear h1 oka okb ea eb ec ed ex 
  go_enter Try.func10, Try.ntmps10
  have E := Lib.hid (show Calm w w from Keep.refl _ _)
  go_upto_region 1 with fail
  have hC : Calm w ((w.alloc (.cells #[.int .u64 (f0 : Int), .int .u64 (f1 : Int), .int .u64 (f2 : Int), .int .u64 (f3 : Int)] 24)).alloc (.cells #[.int .u64 (e0 : Int), .int .u64 (e1 : Int), .int .u64 (e2 : Int), .int .u64 (e3 : Int)] 24)) := ((Keep.refl _ _).alloc _).alloc _
  have hA : Af ((w.alloc (.cells #[.int .u64 (f0 : Int), .int .u64 (f1 : Int), .int .u64 (f2 : Int), .int .u64 (f3 : Int)] 24)).alloc (.cells #[.int .u64 (e0 : Int), .int .u64 (e1 : Int), .int .u64 (e2 : Int), .int .u64 (e3 : Int)] 24)) w.heap.size f0 f1 f2 f3 := (Row.made w _ _).alloc _
  have hB : Af ((w.alloc (.cells #[.int .u64 (f0 : Int), .int .u64 (f1 : Int), .int .u64 (f2 : Int), .int .u64 (f3 : Int)] 24)).alloc (.cells #[.int .u64 (e0 : Int), .int .u64 (e1 : Int), .int .u64 (e2 : Int), .int .u64 (e3 : Int)] 24)) (w.heap.size + 1) e0 e1 e2 e3 := by
    have e : Af ((w.alloc (.cells #[.int .u64 (f0 : Int), .int .u64 (f1 : Int), .int .u64 (f2 : Int), .int .u64 (f3 : Int)] 24)).alloc (.cells #[.int .u64 (e0 : Int), .int .u64 (e1 : Int), .int .u64 (e2 : Int), .int .u64 (e3 : Int)] 24)) (w.alloc (.cells #[.int .u64 (f0 : Int), .int .u64 (f1 : Int), .int .u64 (f2 : Int), .int .u64 (f3 : Int)] 24)).heap.size e0 e1 e2 e3 := Row.made _ _ _
    simp only [World.size_alloc] at e
    exact e
  have hO : w.heap.size ≤ w.heap.size := E.out.size
  obtain ⟨g1, hg1⟩ : ∃ zg, zg = w.heap.size := ⟨_, rfl⟩
  obtain ⟨w1, hw1⟩ : ∃ zz, zz = (w.alloc (.cells #[.int .u64 (f0 : Int), .int .u64 (f1 : Int), .int .u64 (f2 : Int), .int .u64 (f3 : Int)] 24)).alloc (.cells #[.int .u64 (e0 : Int), .int .u64 (e1 : Int), .int .u64 (e2 : Int), .int .u64 (e3 : Int)] 24) := ⟨_, rfl⟩
  replace hO : w.heap.size ≤ g1 := by rw [hg1]; exact hO
  rw [← hg1] at hA hB ⊢
  rw [← hw1] at hA hB hC ⊢
  clear hg1 hw1
  obtain ⟨g2, hg2⟩ : ∃ zg, zg = g1 + 1 := ⟨_, rfl⟩
  rw [← hg2] at hB ⊢
  have O1 := Lib.hid hO
  have O2 : Hid (w.heap.size ≤ g2 ∧ g1 < g2) := Lib.hid (by have := O1.out; omega)
  clear hO
  clear hg2
  replace E := Lib.hid (show Calm w w1 from E.out.trans (hC))
  replace E := Lib.hid (show Calm w w1 ∧ Af w1 g1 f0 f1 f2 f3 ∧ Af w1 g2 e0 e1 e2 e3 from ⟨E.out, hA, hB⟩)
  clear hC hA hB
  obtain ⟨g1_0, g1_1, g1_2, g1_3⟩ := Af.four (E.out.2.1)
  obtain ⟨g2_0, g2_1, g2_2, g2_3⟩ := Af.four (E.out.2.2)
  go_wp2_with fail
  clear g1_0 g1_1 g1_2 g1_3 g2_0 g2_1 g2_2 g2_3
  refine (shown8_c _).mono ?_
  rintro ze w2 ⟨rfl, hc⟩
  replace E := Lib.hid (show Calm w w2 ∧ Af w2 g1 f0 f1 f2 f3 ∧ Af w2 g2 e0 e1 e2 e3 from ⟨E.out.1.trans (hc), Af.calm (E.out.2.1) (hc), Af.calm (E.out.2.2) (hc)⟩)
  clear hc
  obtain ⟨g1_0, g1_1, g1_2, g1_3⟩ := Af.four (E.out.2.1)
  obtain ⟨g2_0, g2_1, g2_2, g2_3⟩ := Af.four (E.out.2.2)
  go_wp2_with fail
  clear g1_0 g1_1 g1_2 g1_3 g2_0 g2_1 g2_2 g2_3
  refine (KA.out _).mono ?_
  rintro ze w3 ⟨rfl, hc⟩
  replace E := Lib.hid (show Calm w w3 ∧ Af w3 g1 f0 f1 f2 f3 ∧ Af w3 g2 e0 e1 e2 e3 from ⟨E.out.1.trans (hc), Af.calm (E.out.2.1) (hc), Af.calm (E.out.2.2) (hc)⟩)
  clear hc
  obtain ⟨g1_0, g1_1, g1_2, g1_3⟩ := Af.four (E.out.2.1)
  obtain ⟨g2_0, g2_1, g2_2, g2_3⟩ := Af.four (E.out.2.2)
  go_upto_region 3 with fail
  clear g1_0 g1_1 g1_2 g1_3 g2_0 g2_1 g2_2 g2_3
  have hC : Calm w3 ((w3.alloc (.cells #[.int .u64 (a.lo : Int), .int .u64 (a.hi : Int)] 27)).alloc (.cells #[.int .u64 (b.lo : Int), .int .u64 (b.hi : Int)] 27)) := ((Keep.refl _ _).alloc _).alloc _
  have hA : At ((w3.alloc (.cells #[.int .u64 (a.lo : Int), .int .u64 (a.hi : Int)] 27)).alloc (.cells #[.int .u64 (b.lo : Int), .int .u64 (b.hi : Int)] 27)) w3.heap.size a := (Row.made w3 _ _).alloc _
  have hB : At ((w3.alloc (.cells #[.int .u64 (a.lo : Int), .int .u64 (a.hi : Int)] 27)).alloc (.cells #[.int .u64 (b.lo : Int), .int .u64 (b.hi : Int)] 27)) (w3.heap.size + 1) b := by
    have e : At ((w3.alloc (.cells #[.int .u64 (a.lo : Int), .int .u64 (a.hi : Int)] 27)).alloc (.cells #[.int .u64 (b.lo : Int), .int .u64 (b.hi : Int)] 27)) (w3.alloc (.cells #[.int .u64 (a.lo : Int), .int .u64 (a.hi : Int)] 27)).heap.size b := Row.made _ _ _
    simp only [World.size_alloc] at e
    exact e
  have hO : w.heap.size ≤ w3.heap.size ∧ g1 < w3.heap.size ∧ g2 < w3.heap.size := ⟨E.out.1.size, Af.lt (E.out.2.1), Af.lt (E.out.2.2)⟩
  obtain ⟨g3, hg3⟩ : ∃ zg, zg = w3.heap.size := ⟨_, rfl⟩
  obtain ⟨w4, hw4⟩ : ∃ zz, zz = (w3.alloc (.cells #[.int .u64 (a.lo : Int), .int .u64 (a.hi : Int)] 27)).alloc (.cells #[.int .u64 (b.lo : Int), .int .u64 (b.hi : Int)] 27) := ⟨_, rfl⟩
  replace hO : w.heap.size ≤ g3 ∧ g1 < g3 ∧ g2 < g3 := by rw [hg3]; exact hO
  rw [← hg3] at hA hB ⊢
  rw [← hw4] at hA hB hC ⊢
  clear hg3 hw4
  obtain ⟨g4, hg4⟩ : ∃ zg, zg = g3 + 1 := ⟨_, rfl⟩
  rw [← hg4] at hB ⊢
  have O3 := Lib.hid hO
  have O4 : Hid (w.heap.size ≤ g4 ∧ g1 < g4 ∧ g2 < g4 ∧ g3 < g4) := Lib.hid (by have := O3.out; omega)
  clear hO
  clear hg4
  replace E := Lib.hid (show Calm w w4 ∧ Af w4 g1 f0 f1 f2 f3 ∧ Af w4 g2 e0 e1 e2 e3 from ⟨E.out.1.trans (hC), Af.calm (E.out.2.1) (hC), Af.calm (E.out.2.2) (hC)⟩)
  replace E := Lib.hid (show Calm w w4 ∧ Af w4 g1 f0 f1 f2 f3 ∧ Af w4 g2 e0 e1 e2 e3 ∧ At w4 g3 a ∧ At w4 g4 b from ⟨E.out.1, E.out.2.1, E.out.2.2, hA, hB⟩)
  clear hC hA hB
  obtain ⟨g1_0, g1_1, g1_2, g1_3⟩ := Af.four (E.out.2.1)
  obtain ⟨g2_0, g2_1, g2_2, g2_3⟩ := Af.four (E.out.2.2.1)
  obtain ⟨g3_0, g3_1, g3_2, g3_3⟩ := At.two (E.out.2.2.2.1)
  obtain ⟨g4_0, g4_1, g4_2, g4_3⟩ := At.two (E.out.2.2.2.2)
  go_wp2_with fail
  clear g1_0 g1_1 g1_2 g1_3 g2_0 g2_1 g2_2 g2_3 g3_0 g3_1 g3_2 g3_3 g4_0 g4_1 g4_2 g4_3
  refine (KB.out _).mono ?_
  rintro ze w5 ⟨rfl, hc⟩
  replace E := Lib.hid (show Calm w w5 ∧ Af w5 g1 f0 f1 f2 f3 ∧ Af w5 g2 e0 e1 e2 e3 ∧ At w5 g3 a ∧ At w5 g4 b from ⟨E.out.1.trans (hc), Af.calm (E.out.2.1) (hc), Af.calm (E.out.2.2.1) (hc), At.calm (E.out.2.2.2.1) (hc), At.calm (E.out.2.2.2.2) (hc)⟩)
  clear hc
  obtain ⟨g1_0, g1_1, g1_2, g1_3⟩ := Af.four (E.out.2.1)
  obtain ⟨g2_0, g2_1, g2_2, g2_3⟩ := Af.four (E.out.2.2.1)
  obtain ⟨g3_0, g3_1, g3_2, g3_3⟩ := At.two (E.out.2.2.2.1)
  obtain ⟨g4_0, g4_1, g4_2, g4_3⟩ := At.two (E.out.2.2.2.2)
  go_upto_region 4 with fail
  clear g1_0 g1_1 g1_2 g1_3 g2_0 g2_1 g2_2 g2_3 g3_0 g3_1 g3_2 g3_3 g4_0 g4_1 g4_2 g4_3
  have hC : Calm w5 ((w5.alloc (.cells #[.int .u64 (c.lo : Int), .int .u64 (c.hi : Int)] 27)).alloc (.cells #[.int .u64 (d.lo : Int), .int .u64 (d.hi : Int)] 27)) := ((Keep.refl _ _).alloc _).alloc _
  have hA : At ((w5.alloc (.cells #[.int .u64 (c.lo : Int), .int .u64 (c.hi : Int)] 27)).alloc (.cells #[.int .u64 (d.lo : Int), .int .u64 (d.hi : Int)] 27)) w5.heap.size c := (Row.made w5 _ _).alloc _
  have hB : At ((w5.alloc (.cells #[.int .u64 (c.lo : Int), .int .u64 (c.hi : Int)] 27)).alloc (.cells #[.int .u64 (d.lo : Int), .int .u64 (d.hi : Int)] 27)) (w5.heap.size + 1) d := by
    have e : At ((w5.alloc (.cells #[.int .u64 (c.lo : Int), .int .u64 (c.hi : Int)] 27)).alloc (.cells #[.int .u64 (d.lo : Int), .int .u64 (d.hi : Int)] 27)) (w5.alloc (.cells #[.int .u64 (c.lo : Int), .int .u64 (c.hi : Int)] 27)).heap.size d := Row.made _ _ _
    simp only [World.size_alloc] at e
    exact e
  have hO : w.heap.size ≤ w5.heap.size ∧ g1 < w5.heap.size ∧ g2 < w5.heap.size ∧ g3 < w5.heap.size ∧ g4 < w5.heap.size := ⟨E.out.1.size, Af.lt (E.out.2.1), Af.lt (E.out.2.2.1), At.lt (E.out.2.2.2.1), At.lt (E.out.2.2.2.2)⟩
  obtain ⟨g5, hg5⟩ : ∃ zg, zg = w5.heap.size := ⟨_, rfl⟩
  obtain ⟨w6, hw6⟩ : ∃ zz, zz = (w5.alloc (.cells #[.int .u64 (c.lo : Int), .int .u64 (c.hi : Int)] 27)).alloc (.cells #[.int .u64 (d.lo : Int), .int .u64 (d.hi : Int)] 27) := ⟨_, rfl⟩
  replace hO : w.heap.size ≤ g5 ∧ g1 < g5 ∧ g2 < g5 ∧ g3 < g5 ∧ g4 < g5 := by rw [hg5]; exact hO
  rw [← hg5] at hA hB ⊢
  rw [← hw6] at hA hB hC ⊢
  clear hg5 hw6
  obtain ⟨g6, hg6⟩ : ∃ zg, zg = g5 + 1 := ⟨_, rfl⟩
  rw [← hg6] at hB ⊢
  have O5 := Lib.hid hO
  have O6 : Hid (w.heap.size ≤ g6 ∧ g1 < g6 ∧ g2 < g6 ∧ g3 < g6 ∧ g4 < g6 ∧ g5 < g6) := Lib.hid (by have := O5.out; omega)
  clear hO
  clear hg6
  replace E := Lib.hid (show Calm w w6 ∧ Af w6 g1 f0 f1 f2 f3 ∧ Af w6 g2 e0 e1 e2 e3 ∧ At w6 g3 a ∧ At w6 g4 b from ⟨E.out.1.trans (hC), Af.calm (E.out.2.1) (hC), Af.calm (E.out.2.2.1) (hC), At.calm (E.out.2.2.2.1) (hC), At.calm (E.out.2.2.2.2) (hC)⟩)
  replace E := Lib.hid (show Calm w w6 ∧ Af w6 g1 f0 f1 f2 f3 ∧ Af w6 g2 e0 e1 e2 e3 ∧ At w6 g3 a ∧ At w6 g4 b ∧ At w6 g5 c ∧ At w6 g6 d from ⟨E.out.1, E.out.2.1, E.out.2.2.1, E.out.2.2.2.1, E.out.2.2.2.2, hA, hB⟩)
  clear hC hA hB
  obtain ⟨g1_0, g1_1, g1_2, g1_3⟩ := Af.four (E.out.2.1)
  obtain ⟨g2_0, g2_1, g2_2, g2_3⟩ := Af.four (E.out.2.2.1)
  obtain ⟨g3_0, g3_1, g3_2, g3_3⟩ := At.two (E.out.2.2.2.1)
  obtain ⟨g4_0, g4_1, g4_2, g4_3⟩ := At.two (E.out.2.2.2.2.1)
  obtain ⟨g5_0, g5_1, g5_2, g5_3⟩ := At.two (E.out.2.2.2.2.2.1)
  obtain ⟨g6_0, g6_1, g6_2, g6_3⟩ := At.two (E.out.2.2.2.2.2.2)
  go_wp2_with fail
  clear g1_0 g1_1 g1_2 g1_3 g2_0 g2_1 g2_2 g2_3 g3_0 g3_1 g3_2 g3_3 g4_0 g4_1 g4_2 g4_3 g5_0 g5_1 g5_2 g5_3 g6_0 g6_1 g6_2 g6_3
  refine (KX.out _).mono ?_
  rintro ze w7 ⟨rfl, hc⟩
  replace E := Lib.hid (show Calm w w7 ∧ Af w7 g1 f0 f1 f2 f3 ∧ Af w7 g2 e0 e1 e2 e3 ∧ At w7 g3 a ∧ At w7 g4 b ∧ At w7 g5 c ∧ At w7 g6 d from ⟨E.out.1.trans (hc), Af.calm (E.out.2.1) (hc), Af.calm (E.out.2.2.1) (hc), At.calm (E.out.2.2.2.1) (hc), At.calm (E.out.2.2.2.2.1) (hc), At.calm (E.out.2.2.2.2.2.1) (hc), At.calm (E.out.2.2.2.2.2.2) (hc)⟩)
  clear hc
  obtain ⟨g1_0, g1_1, g1_2, g1_3⟩ := Af.four (E.out.2.1)
  obtain ⟨g2_0, g2_1, g2_2, g2_3⟩ := Af.four (E.out.2.2.1)
  obtain ⟨g3_0, g3_1, g3_2, g3_3⟩ := At.two (E.out.2.2.2.1)
  obtain ⟨g4_0, g4_1, g4_2, g4_3⟩ := At.two (E.out.2.2.2.2.1)
  obtain ⟨g5_0, g5_1, g5_2, g5_3⟩ := At.two (E.out.2.2.2.2.2.1)
  obtain ⟨g6_0, g6_1, g6_2, g6_3⟩ := At.two (E.out.2.2.2.2.2.2)
  go_upto_region 5 with fail
  clear g1_0 g1_1 g1_2 g1_3 g2_0 g2_1 g2_2 g2_3 g3_0 g3_1 g3_2 g3_3 g4_0 g4_1 g4_2 g4_3 g5_0 g5_1 g5_2 g5_3 g6_0 g6_1 g6_2 g6_3
  have hC : Calm w7 (w7.alloc (.cells #[.int .u64 (x.lo : Int), .int .u64 (x.hi : Int)] 27)) := (Keep.refl _ _).alloc _
  have hA : At (w7.alloc (.cells #[.int .u64 (x.lo : Int), .int .u64 (x.hi : Int)] 27)) w7.heap.size x := Row.made w7 _ _
  have hO : w.heap.size ≤ w7.heap.size ∧ g1 < w7.heap.size ∧ g2 < w7.heap.size ∧ g3 < w7.heap.size ∧ g4 < w7.heap.size ∧ g5 < w7.heap.size ∧ g6 < w7.heap.size := ⟨E.out.1.size, Af.lt (E.out.2.1), Af.lt (E.out.2.2.1), At.lt (E.out.2.2.2.1), At.lt (E.out.2.2.2.2.1), At.lt (E.out.2.2.2.2.2.1), At.lt (E.out.2.2.2.2.2.2)⟩
  obtain ⟨g7, hg7⟩ : ∃ zg, zg = w7.heap.size := ⟨_, rfl⟩
  obtain ⟨w8, hw8⟩ : ∃ zz, zz = w7.alloc (.cells #[.int .u64 (x.lo : Int), .int .u64 (x.hi : Int)] 27) := ⟨_, rfl⟩
  replace hO : w.heap.size ≤ g7 ∧ g1 < g7 ∧ g2 < g7 ∧ g3 < g7 ∧ g4 < g7 ∧ g5 < g7 ∧ g6 < g7 := by rw [hg7]; exact hO
  rw [← hg7] at hA ⊢
  rw [← hw8] at hA hC ⊢
  clear hg7 hw8
  have O7 := Lib.hid hO
  clear hO
  replace E := Lib.hid (show Calm w w8 ∧ Af w8 g1 f0 f1 f2 f3 ∧ Af w8 g2 e0 e1 e2 e3 ∧ At w8 g3 a ∧ At w8 g4 b ∧ At w8 g5 c ∧ At w8 g6 d from ⟨E.out.1.trans (hC), Af.calm (E.out.2.1) (hC), Af.calm (E.out.2.2.1) (hC), At.calm (E.out.2.2.2.1) (hC), At.calm (E.out.2.2.2.2.1) (hC), At.calm (E.out.2.2.2.2.2.1) (hC), At.calm (E.out.2.2.2.2.2.2) (hC)⟩)
  replace E := Lib.hid (show Calm w w8 ∧ Af w8 g1 f0 f1 f2 f3 ∧ Af w8 g2 e0 e1 e2 e3 ∧ At w8 g3 a ∧ At w8 g4 b ∧ At w8 g5 c ∧ At w8 g6 d ∧ At w8 g7 x from ⟨E.out.1, E.out.2.1, E.out.2.2.1, E.out.2.2.2.1, E.out.2.2.2.2.1, E.out.2.2.2.2.2.1, E.out.2.2.2.2.2.2, hA⟩)
  clear hC hA
  obtain ⟨g1_0, g1_1, g1_2, g1_3⟩ := Af.four (E.out.2.1)
  obtain ⟨g2_0, g2_1, g2_2, g2_3⟩ := Af.four (E.out.2.2.1)
  obtain ⟨g3_0, g3_1, g3_2, g3_3⟩ := At.two (E.out.2.2.2.1)
  obtain ⟨g4_0, g4_1, g4_2, g4_3⟩ := At.two (E.out.2.2.2.2.1)
  obtain ⟨g5_0, g5_1, g5_2, g5_3⟩ := At.two (E.out.2.2.2.2.2.1)
  obtain ⟨g6_0, g6_1, g6_2, g6_3⟩ := At.two (E.out.2.2.2.2.2.2.1)
  obtain ⟨g7_0, g7_1, g7_2, g7_3⟩ := At.two (E.out.2.2.2.2.2.2.2)
  go_wp2_with fail
  clear g1_0 g1_1 g1_2 g1_3 g2_0 g2_1 g2_2 g2_3 g3_0 g3_1 g3_2 g3_3 g4_0 g4_1 g4_2 g4_3 g5_0 g5_1 g5_2 g5_3 g6_0 g6_1 g6_2 g6_3 g7_0 g7_1 g7_2 g7_3
  refine (KY.out _).mono ?_
  rintro ze w9 ⟨rfl, hc⟩
  replace E := Lib.hid (show Calm w w9 ∧ Af w9 g1 f0 f1 f2 f3 ∧ Af w9 g2 e0 e1 e2 e3 ∧ At w9 g3 a ∧ At w9 g4 b ∧ At w9 g5 c ∧ At w9 g6 d ∧ At w9 g7 x from ⟨E.out.1.trans (hc), Af.calm (E.out.2.1) (hc), Af.calm (E.out.2.2.1) (hc), At.calm (E.out.2.2.2.1) (hc), At.calm (E.out.2.2.2.2.1) (hc), At.calm (E.out.2.2.2.2.2.1) (hc), At.calm (E.out.2.2.2.2.2.2.1) (hc), At.calm (E.out.2.2.2.2.2.2.2) (hc)⟩)
  clear hc
  obtain ⟨g1_0, g1_1, g1_2, g1_3⟩ := Af.four (E.out.2.1)
  obtain ⟨g2_0, g2_1, g2_2, g2_3⟩ := Af.four (E.out.2.2.1)
  obtain ⟨g3_0, g3_1, g3_2, g3_3⟩ := At.two (E.out.2.2.2.1)
  obtain ⟨g4_0, g4_1, g4_2, g4_3⟩ := At.two (E.out.2.2.2.2.1)
  obtain ⟨g5_0, g5_1, g5_2, g5_3⟩ := At.two (E.out.2.2.2.2.2.1)
  obtain ⟨g6_0, g6_1, g6_2, g6_3⟩ := At.two (E.out.2.2.2.2.2.2.1)
  obtain ⟨g7_0, g7_1, g7_2, g7_3⟩ := At.two (E.out.2.2.2.2.2.2.2)
  go_upto_region 6 with fail
  clear g1_0 g1_1 g1_2 g1_3 g2_0 g2_1 g2_2 g2_3 g3_0 g3_1 g3_2 g3_3 g4_0 g4_1 g4_2 g4_3 g5_0 g5_1 g5_2 g5_3 g6_0 g6_1 g6_2 g6_3 g7_0 g7_1 g7_2 g7_3
  have hC : Calm w9 (w9.alloc (.cells #[.int .u64 (x.lo : Int), .int .u64 (x.hi : Int)] 27)) := (Keep.refl _ _).alloc _
  have hA : At (w9.alloc (.cells #[.int .u64 (x.lo : Int), .int .u64 (x.hi : Int)] 27)) w9.heap.size x := Row.made w9 _ _
  have hO : w.heap.size ≤ w9.heap.size ∧ g1 < w9.heap.size ∧ g2 < w9.heap.size ∧ g3 < w9.heap.size ∧ g4 < w9.heap.size ∧ g5 < w9.heap.size ∧ g6 < w9.heap.size ∧ g7 < w9.heap.size := ⟨E.out.1.size, Af.lt (E.out.2.1), Af.lt (E.out.2.2.1), At.lt (E.out.2.2.2.1), At.lt (E.out.2.2.2.2.1), At.lt (E.out.2.2.2.2.2.1), At.lt (E.out.2.2.2.2.2.2.1), At.lt (E.out.2.2.2.2.2.2.2)⟩
  obtain ⟨g8, hg8⟩ : ∃ zg, zg = w9.heap.size := ⟨_, rfl⟩
  obtain ⟨w10, hw10⟩ : ∃ zz, zz = w9.alloc (.cells #[.int .u64 (x.lo : Int), .int .u64 (x.hi : Int)] 27) := ⟨_, rfl⟩
  replace hO : w.heap.size ≤ g8 ∧ g1 < g8 ∧ g2 < g8 ∧ g3 < g8 ∧ g4 < g8 ∧ g5 < g8 ∧ g6 < g8 ∧ g7 < g8 := by rw [hg8]; exact hO
  rw [← hg8] at hA ⊢
  rw [← hw10] at hA hC ⊢
  clear hg8 hw10
  have O8 := Lib.hid hO
  clear hO
  replace E := Lib.hid (show Calm w w10 ∧ Af w10 g1 f0 f1 f2 f3 ∧ Af w10 g2 e0 e1 e2 e3 ∧ At w10 g3 a ∧ At w10 g4 b ∧ At w10 g5 c ∧ At w10 g6 d ∧ At w10 g7 x from ⟨E.out.1.trans (hC), Af.calm (E.out.2.1) (hC), Af.calm (E.out.2.2.1) (hC), At.calm (E.out.2.2.2.1) (hC), At.calm (E.out.2.2.2.2.1) (hC), At.calm (E.out.2.2.2.2.2.1) (hC), At.calm (E.out.2.2.2.2.2.2.1) (hC), At.calm (E.out.2.2.2.2.2.2.2) (hC)⟩)
  replace E := Lib.hid (show Calm w w10 ∧ Af w10 g1 f0 f1 f2 f3 ∧ Af w10 g2 e0 e1 e2 e3 ∧ At w10 g3 a ∧ At w10 g4 b ∧ At w10 g5 c ∧ At w10 g6 d ∧ At w10 g7 x ∧ At w10 g8 x from ⟨E.out.1, E.out.2.1, E.out.2.2.1, E.out.2.2.2.1, E.out.2.2.2.2.1, E.out.2.2.2.2.2.1, E.out.2.2.2.2.2.2.1, E.out.2.2.2.2.2.2.2, hA⟩)
  clear hC hA
  refine wp_region_noPanic ?_
  refine wp_region_held_drew (S := fun w' => Calm w w' ∧ Af w' g1 f0 f1 f2 f3 ∧ Af w' g2 e0 e1 e2 e3 ∧ At w' g3 a ∧ At w' g4 b ∧ At w' g5 c ∧ At w' g6 d ∧ At w' g7 x ∧ At w' g8 x) (by kernel_rfl) ⟨E.out.1.drew, E.out.2.1, E.out.2.2.1, E.out.2.2.2.1, E.out.2.2.2.2.1, E.out.2.2.2.2.2.1, E.out.2.2.2.2.2.2.1, E.out.2.2.2.2.2.2.2.1, E.out.2.2.2.2.2.2.2.2⟩ (fun hHeld => ?_)
  refine take_at 0 41 (.bool false) rfl rfl (by kernel_rfl) (by kernel_rfl) (by kernel_rfl) (fun _ _ _ h => h) (Or.inl ⟨by rfl, ?_⟩) hHeld ?_
  · intro w hSw; go_simp
  simp only [List.setIfInBounds_toArray, List.set_cons_zero, List.set_cons_succ]
  refine take_at 1 42 (.bool false) rfl rfl (by kernel_rfl) (by kernel_rfl) (by kernel_rfl) (fun _ _ _ h => h) (Or.inl ⟨by rfl, ?_⟩) hHeld ?_
  · intro w hSw; go_simp
  simp only [List.setIfInBounds_toArray, List.set_cons_zero, List.set_cons_succ]
  refine take_at 2 43 (.bool false) rfl rfl (by kernel_rfl) (by kernel_rfl) (by kernel_rfl) (fun _ _ _ h => h) (Or.inl ⟨by rfl, ?_⟩) hHeld ?_
  · intro w hSw; go_simp
  simp only [List.setIfInBounds_toArray, List.set_cons_zero, List.set_cons_succ]
  refine take_at 3 44 (.bool false) rfl rfl (by kernel_rfl) (by kernel_rfl) (by kernel_rfl) (fun _ _ _ h => h) (Or.inl ⟨by rfl, ?_⟩) hHeld ?_
  · intro w hSw; go_simp
  simp only [List.setIfInBounds_toArray, List.set_cons_zero, List.set_cons_succ]
  refine take_at 4 45 (.bool false) rfl rfl (by kernel_rfl) (by kernel_rfl) (by kernel_rfl) (fun _ _ _ h => h) (Or.inl ⟨by rfl, ?_⟩) hHeld ?_
  · intro w hSw; go_simp
  simp only [List.setIfInBounds_toArray, List.set_cons_zero, List.set_cons_succ]
  refine take_at 5 46 (.bool false) rfl rfl (by kernel_rfl) (by kernel_rfl) (by kernel_rfl) (fun _ _ _ h => h) (Or.inl ⟨by rfl, ?_⟩) hHeld ?_
  · intro w hSw; go_simp
  simp only [List.setIfInBounds_toArray, List.set_cons_zero, List.set_cons_succ]
  refine take_at 6 47 (undef) rfl rfl (by kernel_rfl) (by kernel_rfl) (by kernel_rfl) (fun _ _ _ h => h) (Or.inr ⟨by rfl, rfl⟩) hHeld ?_
  simp only [List.setIfInBounds_toArray, List.set_cons_zero, List.set_cons_succ]
  refine take_at 7 48 (undef) rfl rfl (by kernel_rfl) (by kernel_rfl) (by kernel_rfl) (fun _ _ _ h => h) (Or.inr ⟨by rfl, rfl⟩) hHeld ?_
  simp only [List.setIfInBounds_toArray, List.set_cons_zero, List.set_cons_succ]
  refine take_at 8 49 (undef) rfl rfl (by kernel_rfl) (by kernel_rfl) (by kernel_rfl) (fun _ _ _ h => h) (Or.inr ⟨by rfl, rfl⟩) hHeld ?_
  simp only [List.setIfInBounds_toArray, List.set_cons_zero, List.set_cons_succ]
  refine take_at 9 50 (undef) rfl rfl (by kernel_rfl) (by kernel_rfl) (by kernel_rfl) (fun _ _ _ h => h) (Or.inr ⟨by rfl, rfl⟩) hHeld ?_
  simp only [List.setIfInBounds_toArray, List.set_cons_zero, List.set_cons_succ]
  refine take_at 10 51 (undef) rfl rfl (by kernel_rfl) (by kernel_rfl) (by kernel_rfl) (fun _ _ _ h => h) (Or.inr ⟨by rfl, rfl⟩) hHeld ?_
  simp only [List.setIfInBounds_toArray, List.set_cons_zero, List.set_cons_succ]
  refine take_at 11 52 (undef) rfl rfl (by kernel_rfl) (by kernel_rfl) (by kernel_rfl) (fun _ _ _ h => h) (Or.inr ⟨by rfl, rfl⟩) hHeld ?_
  simp only [List.setIfInBounds_toArray, List.set_cons_zero, List.set_cons_succ]
  refine take_at 12 53 (undef) rfl rfl (by kernel_rfl) (by kernel_rfl) (by kernel_rfl) (fun _ _ _ h => h) (Or.inr ⟨by rfl, rfl⟩) hHeld ?_
  simp only [List.setIfInBounds_toArray, List.set_cons_zero, List.set_cons_succ]
  refine take_at 13 54 (undef) rfl rfl (by kernel_rfl) (by kernel_rfl) (by kernel_rfl) (fun _ _ _ h => h) (Or.inr ⟨by rfl, rfl⟩) hHeld ?_
  simp only [List.setIfInBounds_toArray, List.set_cons_zero, List.set_cons_succ]
  refine take_at 14 55 (undef) rfl rfl (by kernel_rfl) (by kernel_rfl) (by kernel_rfl) (fun _ _ _ h => h) (Or.inr ⟨by rfl, rfl⟩) hHeld ?_
  simp only [List.setIfInBounds_toArray, List.set_cons_zero, List.set_cons_succ]
  refine take_at 15 56 (undef) rfl rfl (by kernel_rfl) (by kernel_rfl) (by kernel_rfl) (fun _ _ _ h => h) (Or.inr ⟨by rfl, rfl⟩) hHeld ?_
  simp only [List.setIfInBounds_toArray, List.set_cons_zero, List.set_cons_succ]
  refine take_at 16 57 (undef) rfl rfl (by kernel_rfl) (by kernel_rfl) (by kernel_rfl) (fun _ _ _ h => h) (Or.inr ⟨by rfl, rfl⟩) hHeld ?_
  simp only [List.setIfInBounds_toArray, List.set_cons_zero, List.set_cons_succ]
  refine take_at 17 58 (undef) rfl rfl (by kernel_rfl) (by kernel_rfl) (by kernel_rfl) (fun _ _ _ h => h) (Or.inr ⟨by rfl, rfl⟩) hHeld ?_
  simp only [List.setIfInBounds_toArray, List.set_cons_zero, List.set_cons_succ]
  refine take_at 18 59 (undef) rfl rfl (by kernel_rfl) (by kernel_rfl) (by kernel_rfl) (fun _ _ _ h => h) (Or.inr ⟨by rfl, rfl⟩) hHeld ?_
  simp only [List.setIfInBounds_toArray, List.set_cons_zero, List.set_cons_succ]
  refine take_at 19 60 (undef) rfl rfl (by kernel_rfl) (by kernel_rfl) (by kernel_rfl) (fun _ _ _ h => h) (Or.inr ⟨by rfl, rfl⟩) hHeld ?_
  simp only [List.setIfInBounds_toArray, List.set_cons_zero, List.set_cons_succ]
  refine take_at 20 61 (undef) rfl rfl (by kernel_rfl) (by kernel_rfl) (by kernel_rfl) (fun _ _ _ h => h) (Or.inr ⟨by rfl, rfl⟩) hHeld ?_
  simp only [List.setIfInBounds_toArray, List.set_cons_zero, List.set_cons_succ]
  refine take_at 21 62 (undef) rfl rfl (by kernel_rfl) (by kernel_rfl) (by kernel_rfl) (fun _ _ _ h => h) (Or.inr ⟨by rfl, rfl⟩) hHeld ?_
  simp only [List.setIfInBounds_toArray, List.set_cons_zero, List.set_cons_succ]
  refine take_at 22 63 (undef) rfl rfl (by kernel_rfl) (by kernel_rfl) (by kernel_rfl) (fun _ _ _ h => h) (Or.inr ⟨by rfl, rfl⟩) hHeld ?_
  simp only [List.setIfInBounds_toArray, List.set_cons_zero, List.set_cons_succ]
  refine take_at 23 64 (.bool false) rfl rfl (by kernel_rfl) (by kernel_rfl) (by kernel_rfl) (fun _ _ _ h => h) (Or.inl ⟨by rfl, ?_⟩) hHeld ?_
  · intro w hSw; go_simp
  simp only [List.setIfInBounds_toArray, List.set_cons_zero, List.set_cons_succ]
  refine take_at 24 65 (.bool false) rfl rfl (by kernel_rfl) (by kernel_rfl) (by kernel_rfl) (fun _ _ _ h => h) (Or.inl ⟨by rfl, ?_⟩) hHeld ?_
  · intro w hSw; go_simp
  simp only [List.setIfInBounds_toArray, List.set_cons_zero, List.set_cons_succ]
  refine wpAnyH_done (by kernel_rfl) (NoPanic.normal ?_) _
  obtain ⟨wq, hwq⟩ : ∃ zz, zz = w10.drew := ⟨_, rfl⟩
  rw [← hwq] at hHeld ⊢
  clear hwq
  replace E := Lib.hid (show Calm w wq ∧ Af wq g1 f0 f1 f2 f3 ∧ Af wq g2 e0 e1 e2 e3 ∧ At wq g3 a ∧ At wq g4 b ∧ At wq g5 c ∧ At wq g6 d ∧ At wq g7 x ∧ At wq g8 x from hHeld)
  clear hHeld
  obtain ⟨g1_0, g1_1, g1_2, g1_3⟩ := Af.four (E.out.2.1)
  obtain ⟨g2_0, g2_1, g2_2, g2_3⟩ := Af.four (E.out.2.2.1)
  obtain ⟨g3_0, g3_1, g3_2, g3_3⟩ := At.two (E.out.2.2.2.1)
  obtain ⟨g4_0, g4_1, g4_2, g4_3⟩ := At.two (E.out.2.2.2.2.1)
  obtain ⟨g5_0, g5_1, g5_2, g5_3⟩ := At.two (E.out.2.2.2.2.2.1)
  obtain ⟨g6_0, g6_1, g6_2, g6_3⟩ := At.two (E.out.2.2.2.2.2.2.1)
  obtain ⟨g7_0, g7_1, g7_2, g7_3⟩ := At.two (E.out.2.2.2.2.2.2.2.1)
  obtain ⟨g8_0, g8_1, g8_2, g8_3⟩ := At.two (E.out.2.2.2.2.2.2.2.2)
  go_wp2_with fail
  clear g1_0 g1_1 g1_2 g1_3 g2_0 g2_1 g2_2 g2_3 g3_0 g3_1 g3_2 g3_3 g4_0 g4_1 g4_2 g4_3 g5_0 g5_1 g5_2 g5_3 g6_0 g6_1 g6_2 g6_3 g7_0 g7_1 g7_2 g7_3 g8_0 g8_1 g8_2 g8_3
  go_returns
  exact ⟨rfl, E.out.1⟩

set_option maxHeartbeats 6400000 in
set_option maxRecDepth 20000 in
theorem spanMeets_tf {a b c : Sp} {f0 f1 f2 f3 e0 e1 e2 e3 : Nat} (oka : a.Ok) (okb : b.Ok) (ea : a = rS f0 f1) (eb : b = rS f2 f3) (ec : c = rS e0 e1) (h1 : (meetS a b).2 = true) (h2 : (meetS b c).2 = false) (w : World) : Calls Try.prog 10 #[.agg #[.int .u64 (f0 : Int), .int .u64 (f1 : Int), .int .u64 (f2 : Int), .int .u64 (f3 : Int)], .agg #[.int .u64 (e0 : Int), .int .u64 (e1 : Int), .int .u64 (e2 : Int), .int .u64 (e3 : Int)]] w fun e w' => e = .returned (.bool true) ∧ Calm w w' := by
  obtain ⟨d, ed⟩ : ∃ d, d = rS e2 e3 := ⟨_, rfl⟩
  obtain ⟨x, ex⟩ : ∃ x, x = (meetS a b).1 := ⟨_, rfl⟩
  have KA : Hid (∀ w, Calls Try.prog 12 #[.agg #[.int .u64 (f0 : Int), .int .u64 (f1 : Int), .int .u64 (f2 : Int), .int .u64 (f3 : Int)]] w fun z w' => z = .returned (.tuple #[.agg #[.int .u64 (a.lo : Int), .int .u64 (a.hi : Int)], .agg #[.int .u64 (b.lo : Int), .int .u64 (b.hi : Int)]]) ∧ Calm w w') := Lib.hid (by rw [ea, eb]; exact fun w => spans8_c w f0 f1 f2 f3)
  have KB : Hid (∀ w, Calls Try.prog 12 #[.agg #[.int .u64 (e0 : Int), .int .u64 (e1 : Int), .int .u64 (e2 : Int), .int .u64 (e3 : Int)]] w fun z w' => z = .returned (.tuple #[.agg #[.int .u64 (c.lo : Int), .int .u64 (c.hi : Int)], .agg #[.int .u64 (d.lo : Int), .int .u64 (d.hi : Int)]]) ∧ Calm w w') := Lib.hid (by rw [ec, ed]; exact fun w => spans8_c w e0 e1 e2 e3)
  have KX : Hid (∀ w, Calls Try.prog 18 #[.agg #[.int .u64 (a.lo : Int), .int .u64 (a.hi : Int)], .agg #[.int .u64 (b.lo : Int), .int .u64 (b.hi : Int)]] w fun z w' => z = .returned (.tuple #[.agg #[.int .u64 (x.lo : Int), .int .u64 (x.hi : Int)], .bool true]) ∧ Calm w w') := Lib.hid (by rw [ex, ← h1]; exact fun w => pmeet_c a b w)
  have KY : Hid (∀ w, Calls Try.prog 18 #[.agg #[.int .u64 (b.lo : Int), .int .u64 (b.hi : Int)], .agg #[.int .u64 (a.lo : Int), .int .u64 (a.hi : Int)]] w fun z w' => z = .returned (.tuple #[.agg #[.int .u64 (x.lo : Int), .int .u64 (x.hi : Int)], .bool true]) ∧ Calm w w') := Lib.hid (by rw [ex, ← h1, meet_comm a b]; exact fun w => pmeet_c b a w)
  have KJ : Hid (∀ w, Calls Try.prog 20 #[.agg #[.int .u64 (x.lo : Int), .int .u64 (x.hi : Int)], .agg #[.int .u64 (a.lo : Int), .int .u64 (a.hi : Int)]] w fun z w' => z = .returned (.agg #[.int .u64 (a.lo : Int), .int .u64 (a.hi : Int)]) ∧ Calm w w') := Lib.hid fun w => by
    have k := pjoin_c x a w
    rw [show joinS x a = a from by rw [ex]; exact join_meet1 h1 oka okb] at k
    exact k
  have KL : Hid (∀ w, Calls Try.prog 20 #[.agg #[.int .u64 (x.lo : Int), .int .u64 (x.hi : Int)], .agg #[.int .u64 (b.lo : Int), .int .u64 (b.hi : Int)]] w fun z w' => z = .returned (.agg #[.int .u64 (b.lo : Int), .int .u64 (b.hi : Int)]) ∧ Calm w w') := Lib.hid fun w => by
    have k := pjoin_c x b w
    rw [show joinS x b = b from by rw [ex]; exact join_meet2 h1 oka okb] at k
    exact k
  obtain ⟨p, ep⟩ : ∃ p, p = (meetS x c).1 := ⟨_, rfl⟩
  obtain ⟨q, eq⟩ : ∃ q, q = (meetS b c).1 := ⟨_, rfl⟩
  have KP : Hid (∀ w, Calls Try.prog 18 #[.agg #[.int .u64 (x.lo : Int), .int .u64 (x.hi : Int)], .agg #[.int .u64 (c.lo : Int), .int .u64 (c.hi : Int)]] w fun z w' => z = .returned (.tuple #[.agg #[.int .u64 (p.lo : Int), .int .u64 (p.hi : Int)], .bool false]) ∧ Calm w w') := Lib.hid fun w => by
    have k := pmeet_c x c w
    rw [show (meetS x c).2 = false from by rw [ex]; exact meet_none h1 h2, ← ep] at k
    exact k
  have KQ : Hid (∀ w, Calls Try.prog 18 #[.agg #[.int .u64 (b.lo : Int), .int .u64 (b.hi : Int)], .agg #[.int .u64 (c.lo : Int), .int .u64 (c.hi : Int)]] w fun z w' => z = .returned (.tuple #[.agg #[.int .u64 (q.lo : Int), .int .u64 (q.hi : Int)], .bool false]) ∧ Calm w w') := Lib.hid (by rw [eq, ← h2]; exact fun w => pmeet_c b c w)
  clear h1 oka okb ea eb ec ed ex ep eq h2 
  go_enter Try.func10, Try.ntmps10
  have E := Lib.hid (show Calm w w from Keep.refl _ _)
  go_upto_region 1 with fail
  have hC : Calm w ((w.alloc (.cells #[.int .u64 (f0 : Int), .int .u64 (f1 : Int), .int .u64 (f2 : Int), .int .u64 (f3 : Int)] 24)).alloc (.cells #[.int .u64 (e0 : Int), .int .u64 (e1 : Int), .int .u64 (e2 : Int), .int .u64 (e3 : Int)] 24)) := ((Keep.refl _ _).alloc _).alloc _
  have hA : Af ((w.alloc (.cells #[.int .u64 (f0 : Int), .int .u64 (f1 : Int), .int .u64 (f2 : Int), .int .u64 (f3 : Int)] 24)).alloc (.cells #[.int .u64 (e0 : Int), .int .u64 (e1 : Int), .int .u64 (e2 : Int), .int .u64 (e3 : Int)] 24)) w.heap.size f0 f1 f2 f3 := (Row.made w _ _).alloc _
  have hB : Af ((w.alloc (.cells #[.int .u64 (f0 : Int), .int .u64 (f1 : Int), .int .u64 (f2 : Int), .int .u64 (f3 : Int)] 24)).alloc (.cells #[.int .u64 (e0 : Int), .int .u64 (e1 : Int), .int .u64 (e2 : Int), .int .u64 (e3 : Int)] 24)) (w.heap.size + 1) e0 e1 e2 e3 := by
    have e : Af ((w.alloc (.cells #[.int .u64 (f0 : Int), .int .u64 (f1 : Int), .int .u64 (f2 : Int), .int .u64 (f3 : Int)] 24)).alloc (.cells #[.int .u64 (e0 : Int), .int .u64 (e1 : Int), .int .u64 (e2 : Int), .int .u64 (e3 : Int)] 24)) (w.alloc (.cells #[.int .u64 (f0 : Int), .int .u64 (f1 : Int), .int .u64 (f2 : Int), .int .u64 (f3 : Int)] 24)).heap.size e0 e1 e2 e3 := Row.made _ _ _
    simp only [World.size_alloc] at e
    exact e
  have hO : w.heap.size ≤ w.heap.size := E.out.size
  obtain ⟨g1, hg1⟩ : ∃ zg, zg = w.heap.size := ⟨_, rfl⟩
  obtain ⟨w1, hw1⟩ : ∃ zz, zz = (w.alloc (.cells #[.int .u64 (f0 : Int), .int .u64 (f1 : Int), .int .u64 (f2 : Int), .int .u64 (f3 : Int)] 24)).alloc (.cells #[.int .u64 (e0 : Int), .int .u64 (e1 : Int), .int .u64 (e2 : Int), .int .u64 (e3 : Int)] 24) := ⟨_, rfl⟩
  replace hO : w.heap.size ≤ g1 := by rw [hg1]; exact hO
  rw [← hg1] at hA hB ⊢
  rw [← hw1] at hA hB hC ⊢
  clear hg1 hw1
  obtain ⟨g2, hg2⟩ : ∃ zg, zg = g1 + 1 := ⟨_, rfl⟩
  rw [← hg2] at hB ⊢
  have O1 := Lib.hid hO
  have O2 : Hid (w.heap.size ≤ g2 ∧ g1 < g2) := Lib.hid (by have := O1.out; omega)
  clear hO
  clear hg2
  replace E := Lib.hid (show Calm w w1 from E.out.trans (hC))
  replace E := Lib.hid (show Calm w w1 ∧ Af w1 g1 f0 f1 f2 f3 ∧ Af w1 g2 e0 e1 e2 e3 from ⟨E.out, hA, hB⟩)
  clear hC hA hB
  obtain ⟨g1_0, g1_1, g1_2, g1_3⟩ := Af.four (E.out.2.1)
  obtain ⟨g2_0, g2_1, g2_2, g2_3⟩ := Af.four (E.out.2.2)
  go_wp2_with fail
  clear g1_0 g1_1 g1_2 g1_3 g2_0 g2_1 g2_2 g2_3
  refine (shown8_c _).mono ?_
  rintro ze w2 ⟨rfl, hc⟩
  replace E := Lib.hid (show Calm w w2 ∧ Af w2 g1 f0 f1 f2 f3 ∧ Af w2 g2 e0 e1 e2 e3 from ⟨E.out.1.trans (hc), Af.calm (E.out.2.1) (hc), Af.calm (E.out.2.2) (hc)⟩)
  clear hc
  obtain ⟨g1_0, g1_1, g1_2, g1_3⟩ := Af.four (E.out.2.1)
  obtain ⟨g2_0, g2_1, g2_2, g2_3⟩ := Af.four (E.out.2.2)
  go_wp2_with fail
  clear g1_0 g1_1 g1_2 g1_3 g2_0 g2_1 g2_2 g2_3
  refine (KA.out _).mono ?_
  rintro ze w3 ⟨rfl, hc⟩
  replace E := Lib.hid (show Calm w w3 ∧ Af w3 g1 f0 f1 f2 f3 ∧ Af w3 g2 e0 e1 e2 e3 from ⟨E.out.1.trans (hc), Af.calm (E.out.2.1) (hc), Af.calm (E.out.2.2) (hc)⟩)
  clear hc
  obtain ⟨g1_0, g1_1, g1_2, g1_3⟩ := Af.four (E.out.2.1)
  obtain ⟨g2_0, g2_1, g2_2, g2_3⟩ := Af.four (E.out.2.2)
  go_upto_region 3 with fail
  clear g1_0 g1_1 g1_2 g1_3 g2_0 g2_1 g2_2 g2_3
  have hC : Calm w3 ((w3.alloc (.cells #[.int .u64 (a.lo : Int), .int .u64 (a.hi : Int)] 27)).alloc (.cells #[.int .u64 (b.lo : Int), .int .u64 (b.hi : Int)] 27)) := ((Keep.refl _ _).alloc _).alloc _
  have hA : At ((w3.alloc (.cells #[.int .u64 (a.lo : Int), .int .u64 (a.hi : Int)] 27)).alloc (.cells #[.int .u64 (b.lo : Int), .int .u64 (b.hi : Int)] 27)) w3.heap.size a := (Row.made w3 _ _).alloc _
  have hB : At ((w3.alloc (.cells #[.int .u64 (a.lo : Int), .int .u64 (a.hi : Int)] 27)).alloc (.cells #[.int .u64 (b.lo : Int), .int .u64 (b.hi : Int)] 27)) (w3.heap.size + 1) b := by
    have e : At ((w3.alloc (.cells #[.int .u64 (a.lo : Int), .int .u64 (a.hi : Int)] 27)).alloc (.cells #[.int .u64 (b.lo : Int), .int .u64 (b.hi : Int)] 27)) (w3.alloc (.cells #[.int .u64 (a.lo : Int), .int .u64 (a.hi : Int)] 27)).heap.size b := Row.made _ _ _
    simp only [World.size_alloc] at e
    exact e
  have hO : w.heap.size ≤ w3.heap.size ∧ g1 < w3.heap.size ∧ g2 < w3.heap.size := ⟨E.out.1.size, Af.lt (E.out.2.1), Af.lt (E.out.2.2)⟩
  obtain ⟨g3, hg3⟩ : ∃ zg, zg = w3.heap.size := ⟨_, rfl⟩
  obtain ⟨w4, hw4⟩ : ∃ zz, zz = (w3.alloc (.cells #[.int .u64 (a.lo : Int), .int .u64 (a.hi : Int)] 27)).alloc (.cells #[.int .u64 (b.lo : Int), .int .u64 (b.hi : Int)] 27) := ⟨_, rfl⟩
  replace hO : w.heap.size ≤ g3 ∧ g1 < g3 ∧ g2 < g3 := by rw [hg3]; exact hO
  rw [← hg3] at hA hB ⊢
  rw [← hw4] at hA hB hC ⊢
  clear hg3 hw4
  obtain ⟨g4, hg4⟩ : ∃ zg, zg = g3 + 1 := ⟨_, rfl⟩
  rw [← hg4] at hB ⊢
  have O3 := Lib.hid hO
  have O4 : Hid (w.heap.size ≤ g4 ∧ g1 < g4 ∧ g2 < g4 ∧ g3 < g4) := Lib.hid (by have := O3.out; omega)
  clear hO
  clear hg4
  replace E := Lib.hid (show Calm w w4 ∧ Af w4 g1 f0 f1 f2 f3 ∧ Af w4 g2 e0 e1 e2 e3 from ⟨E.out.1.trans (hC), Af.calm (E.out.2.1) (hC), Af.calm (E.out.2.2) (hC)⟩)
  replace E := Lib.hid (show Calm w w4 ∧ Af w4 g1 f0 f1 f2 f3 ∧ Af w4 g2 e0 e1 e2 e3 ∧ At w4 g3 a ∧ At w4 g4 b from ⟨E.out.1, E.out.2.1, E.out.2.2, hA, hB⟩)
  clear hC hA hB
  obtain ⟨g1_0, g1_1, g1_2, g1_3⟩ := Af.four (E.out.2.1)
  obtain ⟨g2_0, g2_1, g2_2, g2_3⟩ := Af.four (E.out.2.2.1)
  obtain ⟨g3_0, g3_1, g3_2, g3_3⟩ := At.two (E.out.2.2.2.1)
  obtain ⟨g4_0, g4_1, g4_2, g4_3⟩ := At.two (E.out.2.2.2.2)
  go_wp2_with fail
  clear g1_0 g1_1 g1_2 g1_3 g2_0 g2_1 g2_2 g2_3 g3_0 g3_1 g3_2 g3_3 g4_0 g4_1 g4_2 g4_3
  refine (KB.out _).mono ?_
  rintro ze w5 ⟨rfl, hc⟩
  replace E := Lib.hid (show Calm w w5 ∧ Af w5 g1 f0 f1 f2 f3 ∧ Af w5 g2 e0 e1 e2 e3 ∧ At w5 g3 a ∧ At w5 g4 b from ⟨E.out.1.trans (hc), Af.calm (E.out.2.1) (hc), Af.calm (E.out.2.2.1) (hc), At.calm (E.out.2.2.2.1) (hc), At.calm (E.out.2.2.2.2) (hc)⟩)
  clear hc
  obtain ⟨g1_0, g1_1, g1_2, g1_3⟩ := Af.four (E.out.2.1)
  obtain ⟨g2_0, g2_1, g2_2, g2_3⟩ := Af.four (E.out.2.2.1)
  obtain ⟨g3_0, g3_1, g3_2, g3_3⟩ := At.two (E.out.2.2.2.1)
  obtain ⟨g4_0, g4_1, g4_2, g4_3⟩ := At.two (E.out.2.2.2.2)
  go_upto_region 4 with fail
  clear g1_0 g1_1 g1_2 g1_3 g2_0 g2_1 g2_2 g2_3 g3_0 g3_1 g3_2 g3_3 g4_0 g4_1 g4_2 g4_3
  have hC : Calm w5 ((w5.alloc (.cells #[.int .u64 (c.lo : Int), .int .u64 (c.hi : Int)] 27)).alloc (.cells #[.int .u64 (d.lo : Int), .int .u64 (d.hi : Int)] 27)) := ((Keep.refl _ _).alloc _).alloc _
  have hA : At ((w5.alloc (.cells #[.int .u64 (c.lo : Int), .int .u64 (c.hi : Int)] 27)).alloc (.cells #[.int .u64 (d.lo : Int), .int .u64 (d.hi : Int)] 27)) w5.heap.size c := (Row.made w5 _ _).alloc _
  have hB : At ((w5.alloc (.cells #[.int .u64 (c.lo : Int), .int .u64 (c.hi : Int)] 27)).alloc (.cells #[.int .u64 (d.lo : Int), .int .u64 (d.hi : Int)] 27)) (w5.heap.size + 1) d := by
    have e : At ((w5.alloc (.cells #[.int .u64 (c.lo : Int), .int .u64 (c.hi : Int)] 27)).alloc (.cells #[.int .u64 (d.lo : Int), .int .u64 (d.hi : Int)] 27)) (w5.alloc (.cells #[.int .u64 (c.lo : Int), .int .u64 (c.hi : Int)] 27)).heap.size d := Row.made _ _ _
    simp only [World.size_alloc] at e
    exact e
  have hO : w.heap.size ≤ w5.heap.size ∧ g1 < w5.heap.size ∧ g2 < w5.heap.size ∧ g3 < w5.heap.size ∧ g4 < w5.heap.size := ⟨E.out.1.size, Af.lt (E.out.2.1), Af.lt (E.out.2.2.1), At.lt (E.out.2.2.2.1), At.lt (E.out.2.2.2.2)⟩
  obtain ⟨g5, hg5⟩ : ∃ zg, zg = w5.heap.size := ⟨_, rfl⟩
  obtain ⟨w6, hw6⟩ : ∃ zz, zz = (w5.alloc (.cells #[.int .u64 (c.lo : Int), .int .u64 (c.hi : Int)] 27)).alloc (.cells #[.int .u64 (d.lo : Int), .int .u64 (d.hi : Int)] 27) := ⟨_, rfl⟩
  replace hO : w.heap.size ≤ g5 ∧ g1 < g5 ∧ g2 < g5 ∧ g3 < g5 ∧ g4 < g5 := by rw [hg5]; exact hO
  rw [← hg5] at hA hB ⊢
  rw [← hw6] at hA hB hC ⊢
  clear hg5 hw6
  obtain ⟨g6, hg6⟩ : ∃ zg, zg = g5 + 1 := ⟨_, rfl⟩
  rw [← hg6] at hB ⊢
  have O5 := Lib.hid hO
  have O6 : Hid (w.heap.size ≤ g6 ∧ g1 < g6 ∧ g2 < g6 ∧ g3 < g6 ∧ g4 < g6 ∧ g5 < g6) := Lib.hid (by have := O5.out; omega)
  clear hO
  clear hg6
  replace E := Lib.hid (show Calm w w6 ∧ Af w6 g1 f0 f1 f2 f3 ∧ Af w6 g2 e0 e1 e2 e3 ∧ At w6 g3 a ∧ At w6 g4 b from ⟨E.out.1.trans (hC), Af.calm (E.out.2.1) (hC), Af.calm (E.out.2.2.1) (hC), At.calm (E.out.2.2.2.1) (hC), At.calm (E.out.2.2.2.2) (hC)⟩)
  replace E := Lib.hid (show Calm w w6 ∧ Af w6 g1 f0 f1 f2 f3 ∧ Af w6 g2 e0 e1 e2 e3 ∧ At w6 g3 a ∧ At w6 g4 b ∧ At w6 g5 c ∧ At w6 g6 d from ⟨E.out.1, E.out.2.1, E.out.2.2.1, E.out.2.2.2.1, E.out.2.2.2.2, hA, hB⟩)
  clear hC hA hB
  obtain ⟨g1_0, g1_1, g1_2, g1_3⟩ := Af.four (E.out.2.1)
  obtain ⟨g2_0, g2_1, g2_2, g2_3⟩ := Af.four (E.out.2.2.1)
  obtain ⟨g3_0, g3_1, g3_2, g3_3⟩ := At.two (E.out.2.2.2.1)
  obtain ⟨g4_0, g4_1, g4_2, g4_3⟩ := At.two (E.out.2.2.2.2.1)
  obtain ⟨g5_0, g5_1, g5_2, g5_3⟩ := At.two (E.out.2.2.2.2.2.1)
  obtain ⟨g6_0, g6_1, g6_2, g6_3⟩ := At.two (E.out.2.2.2.2.2.2)
  go_wp2_with fail
  clear g1_0 g1_1 g1_2 g1_3 g2_0 g2_1 g2_2 g2_3 g3_0 g3_1 g3_2 g3_3 g4_0 g4_1 g4_2 g4_3 g5_0 g5_1 g5_2 g5_3 g6_0 g6_1 g6_2 g6_3
  refine (KX.out _).mono ?_
  rintro ze w7 ⟨rfl, hc⟩
  replace E := Lib.hid (show Calm w w7 ∧ Af w7 g1 f0 f1 f2 f3 ∧ Af w7 g2 e0 e1 e2 e3 ∧ At w7 g3 a ∧ At w7 g4 b ∧ At w7 g5 c ∧ At w7 g6 d from ⟨E.out.1.trans (hc), Af.calm (E.out.2.1) (hc), Af.calm (E.out.2.2.1) (hc), At.calm (E.out.2.2.2.1) (hc), At.calm (E.out.2.2.2.2.1) (hc), At.calm (E.out.2.2.2.2.2.1) (hc), At.calm (E.out.2.2.2.2.2.2) (hc)⟩)
  clear hc
  obtain ⟨g1_0, g1_1, g1_2, g1_3⟩ := Af.four (E.out.2.1)
  obtain ⟨g2_0, g2_1, g2_2, g2_3⟩ := Af.four (E.out.2.2.1)
  obtain ⟨g3_0, g3_1, g3_2, g3_3⟩ := At.two (E.out.2.2.2.1)
  obtain ⟨g4_0, g4_1, g4_2, g4_3⟩ := At.two (E.out.2.2.2.2.1)
  obtain ⟨g5_0, g5_1, g5_2, g5_3⟩ := At.two (E.out.2.2.2.2.2.1)
  obtain ⟨g6_0, g6_1, g6_2, g6_3⟩ := At.two (E.out.2.2.2.2.2.2)
  go_upto_region 5 with fail
  clear g1_0 g1_1 g1_2 g1_3 g2_0 g2_1 g2_2 g2_3 g3_0 g3_1 g3_2 g3_3 g4_0 g4_1 g4_2 g4_3 g5_0 g5_1 g5_2 g5_3 g6_0 g6_1 g6_2 g6_3
  have hC : Calm w7 (w7.alloc (.cells #[.int .u64 (x.lo : Int), .int .u64 (x.hi : Int)] 27)) := (Keep.refl _ _).alloc _
  have hA : At (w7.alloc (.cells #[.int .u64 (x.lo : Int), .int .u64 (x.hi : Int)] 27)) w7.heap.size x := Row.made w7 _ _
  have hO : w.heap.size ≤ w7.heap.size ∧ g1 < w7.heap.size ∧ g2 < w7.heap.size ∧ g3 < w7.heap.size ∧ g4 < w7.heap.size ∧ g5 < w7.heap.size ∧ g6 < w7.heap.size := ⟨E.out.1.size, Af.lt (E.out.2.1), Af.lt (E.out.2.2.1), At.lt (E.out.2.2.2.1), At.lt (E.out.2.2.2.2.1), At.lt (E.out.2.2.2.2.2.1), At.lt (E.out.2.2.2.2.2.2)⟩
  obtain ⟨g7, hg7⟩ : ∃ zg, zg = w7.heap.size := ⟨_, rfl⟩
  obtain ⟨w8, hw8⟩ : ∃ zz, zz = w7.alloc (.cells #[.int .u64 (x.lo : Int), .int .u64 (x.hi : Int)] 27) := ⟨_, rfl⟩
  replace hO : w.heap.size ≤ g7 ∧ g1 < g7 ∧ g2 < g7 ∧ g3 < g7 ∧ g4 < g7 ∧ g5 < g7 ∧ g6 < g7 := by rw [hg7]; exact hO
  rw [← hg7] at hA ⊢
  rw [← hw8] at hA hC ⊢
  clear hg7 hw8
  have O7 := Lib.hid hO
  clear hO
  replace E := Lib.hid (show Calm w w8 ∧ Af w8 g1 f0 f1 f2 f3 ∧ Af w8 g2 e0 e1 e2 e3 ∧ At w8 g3 a ∧ At w8 g4 b ∧ At w8 g5 c ∧ At w8 g6 d from ⟨E.out.1.trans (hC), Af.calm (E.out.2.1) (hC), Af.calm (E.out.2.2.1) (hC), At.calm (E.out.2.2.2.1) (hC), At.calm (E.out.2.2.2.2.1) (hC), At.calm (E.out.2.2.2.2.2.1) (hC), At.calm (E.out.2.2.2.2.2.2) (hC)⟩)
  replace E := Lib.hid (show Calm w w8 ∧ Af w8 g1 f0 f1 f2 f3 ∧ Af w8 g2 e0 e1 e2 e3 ∧ At w8 g3 a ∧ At w8 g4 b ∧ At w8 g5 c ∧ At w8 g6 d ∧ At w8 g7 x from ⟨E.out.1, E.out.2.1, E.out.2.2.1, E.out.2.2.2.1, E.out.2.2.2.2.1, E.out.2.2.2.2.2.1, E.out.2.2.2.2.2.2, hA⟩)
  clear hC hA
  obtain ⟨g1_0, g1_1, g1_2, g1_3⟩ := Af.four (E.out.2.1)
  obtain ⟨g2_0, g2_1, g2_2, g2_3⟩ := Af.four (E.out.2.2.1)
  obtain ⟨g3_0, g3_1, g3_2, g3_3⟩ := At.two (E.out.2.2.2.1)
  obtain ⟨g4_0, g4_1, g4_2, g4_3⟩ := At.two (E.out.2.2.2.2.1)
  obtain ⟨g5_0, g5_1, g5_2, g5_3⟩ := At.two (E.out.2.2.2.2.2.1)
  obtain ⟨g6_0, g6_1, g6_2, g6_3⟩ := At.two (E.out.2.2.2.2.2.2.1)
  obtain ⟨g7_0, g7_1, g7_2, g7_3⟩ := At.two (E.out.2.2.2.2.2.2.2)
  go_wp2_with fail
  clear g1_0 g1_1 g1_2 g1_3 g2_0 g2_1 g2_2 g2_3 g3_0 g3_1 g3_2 g3_3 g4_0 g4_1 g4_2 g4_3 g5_0 g5_1 g5_2 g5_3 g6_0 g6_1 g6_2 g6_3 g7_0 g7_1 g7_2 g7_3
  refine (KY.out _).mono ?_
  rintro ze w9 ⟨rfl, hc⟩
  replace E := Lib.hid (show Calm w w9 ∧ Af w9 g1 f0 f1 f2 f3 ∧ Af w9 g2 e0 e1 e2 e3 ∧ At w9 g3 a ∧ At w9 g4 b ∧ At w9 g5 c ∧ At w9 g6 d ∧ At w9 g7 x from ⟨E.out.1.trans (hc), Af.calm (E.out.2.1) (hc), Af.calm (E.out.2.2.1) (hc), At.calm (E.out.2.2.2.1) (hc), At.calm (E.out.2.2.2.2.1) (hc), At.calm (E.out.2.2.2.2.2.1) (hc), At.calm (E.out.2.2.2.2.2.2.1) (hc), At.calm (E.out.2.2.2.2.2.2.2) (hc)⟩)
  clear hc
  obtain ⟨g1_0, g1_1, g1_2, g1_3⟩ := Af.four (E.out.2.1)
  obtain ⟨g2_0, g2_1, g2_2, g2_3⟩ := Af.four (E.out.2.2.1)
  obtain ⟨g3_0, g3_1, g3_2, g3_3⟩ := At.two (E.out.2.2.2.1)
  obtain ⟨g4_0, g4_1, g4_2, g4_3⟩ := At.two (E.out.2.2.2.2.1)
  obtain ⟨g5_0, g5_1, g5_2, g5_3⟩ := At.two (E.out.2.2.2.2.2.1)
  obtain ⟨g6_0, g6_1, g6_2, g6_3⟩ := At.two (E.out.2.2.2.2.2.2.1)
  obtain ⟨g7_0, g7_1, g7_2, g7_3⟩ := At.two (E.out.2.2.2.2.2.2.2)
  go_upto_region 6 with fail
  clear g1_0 g1_1 g1_2 g1_3 g2_0 g2_1 g2_2 g2_3 g3_0 g3_1 g3_2 g3_3 g4_0 g4_1 g4_2 g4_3 g5_0 g5_1 g5_2 g5_3 g6_0 g6_1 g6_2 g6_3 g7_0 g7_1 g7_2 g7_3
  have hC : Calm w9 (w9.alloc (.cells #[.int .u64 (x.lo : Int), .int .u64 (x.hi : Int)] 27)) := (Keep.refl _ _).alloc _
  have hA : At (w9.alloc (.cells #[.int .u64 (x.lo : Int), .int .u64 (x.hi : Int)] 27)) w9.heap.size x := Row.made w9 _ _
  have hO : w.heap.size ≤ w9.heap.size ∧ g1 < w9.heap.size ∧ g2 < w9.heap.size ∧ g3 < w9.heap.size ∧ g4 < w9.heap.size ∧ g5 < w9.heap.size ∧ g6 < w9.heap.size ∧ g7 < w9.heap.size := ⟨E.out.1.size, Af.lt (E.out.2.1), Af.lt (E.out.2.2.1), At.lt (E.out.2.2.2.1), At.lt (E.out.2.2.2.2.1), At.lt (E.out.2.2.2.2.2.1), At.lt (E.out.2.2.2.2.2.2.1), At.lt (E.out.2.2.2.2.2.2.2)⟩
  obtain ⟨g8, hg8⟩ : ∃ zg, zg = w9.heap.size := ⟨_, rfl⟩
  obtain ⟨w10, hw10⟩ : ∃ zz, zz = w9.alloc (.cells #[.int .u64 (x.lo : Int), .int .u64 (x.hi : Int)] 27) := ⟨_, rfl⟩
  replace hO : w.heap.size ≤ g8 ∧ g1 < g8 ∧ g2 < g8 ∧ g3 < g8 ∧ g4 < g8 ∧ g5 < g8 ∧ g6 < g8 ∧ g7 < g8 := by rw [hg8]; exact hO
  rw [← hg8] at hA ⊢
  rw [← hw10] at hA hC ⊢
  clear hg8 hw10
  have O8 := Lib.hid hO
  clear hO
  replace E := Lib.hid (show Calm w w10 ∧ Af w10 g1 f0 f1 f2 f3 ∧ Af w10 g2 e0 e1 e2 e3 ∧ At w10 g3 a ∧ At w10 g4 b ∧ At w10 g5 c ∧ At w10 g6 d ∧ At w10 g7 x from ⟨E.out.1.trans (hC), Af.calm (E.out.2.1) (hC), Af.calm (E.out.2.2.1) (hC), At.calm (E.out.2.2.2.1) (hC), At.calm (E.out.2.2.2.2.1) (hC), At.calm (E.out.2.2.2.2.2.1) (hC), At.calm (E.out.2.2.2.2.2.2.1) (hC), At.calm (E.out.2.2.2.2.2.2.2) (hC)⟩)
  replace E := Lib.hid (show Calm w w10 ∧ Af w10 g1 f0 f1 f2 f3 ∧ Af w10 g2 e0 e1 e2 e3 ∧ At w10 g3 a ∧ At w10 g4 b ∧ At w10 g5 c ∧ At w10 g6 d ∧ At w10 g7 x ∧ At w10 g8 x from ⟨E.out.1, E.out.2.1, E.out.2.2.1, E.out.2.2.2.1, E.out.2.2.2.2.1, E.out.2.2.2.2.2.1, E.out.2.2.2.2.2.2.1, E.out.2.2.2.2.2.2.2, hA⟩)
  clear hC hA
  refine wp_region_noPanic ?_
  refine wp_region_held_drew (S := fun w' => Calm w w' ∧ Af w' g1 f0 f1 f2 f3 ∧ Af w' g2 e0 e1 e2 e3 ∧ At w' g3 a ∧ At w' g4 b ∧ At w' g5 c ∧ At w' g6 d ∧ At w' g7 x ∧ At w' g8 x) (by kernel_rfl) ⟨E.out.1.drew, E.out.2.1, E.out.2.2.1, E.out.2.2.2.1, E.out.2.2.2.2.1, E.out.2.2.2.2.2.1, E.out.2.2.2.2.2.2.1, E.out.2.2.2.2.2.2.2.1, E.out.2.2.2.2.2.2.2.2⟩ (fun hHeld => ?_)
  refine take_at 0 41 (.bool true) rfl rfl (by kernel_rfl) (by kernel_rfl) (by kernel_rfl) (fun _ _ _ h => h) (Or.inl ⟨by rfl, ?_⟩) hHeld ?_
  · intro w hSw; go_simp
  simp only [List.setIfInBounds_toArray, List.set_cons_zero, List.set_cons_succ]
  refine take_at 1 42 (.bool true) rfl rfl (by kernel_rfl) (by kernel_rfl) (by kernel_rfl) (fun _ _ _ h => h) (Or.inl ⟨by rfl, ?_⟩) hHeld ?_
  · intro w hSw; go_simp
  simp only [List.setIfInBounds_toArray, List.set_cons_zero, List.set_cons_succ]
  refine take_at 2 43 (.bool false) rfl rfl (by kernel_rfl) (by kernel_rfl) (by kernel_rfl) (fun _ _ _ h => h) (Or.inl ⟨by rfl, ?_⟩) hHeld ?_
  · intro w hSw; go_simp
  simp only [List.setIfInBounds_toArray, List.set_cons_zero, List.set_cons_succ]
  refine take_at 3 44 (.bool false) rfl rfl (by kernel_rfl) (by kernel_rfl) (by kernel_rfl) (fun _ _ _ h => h) (Or.inl ⟨by rfl, ?_⟩) hHeld ?_
  · intro w hSw; go_simp
  simp only [List.setIfInBounds_toArray, List.set_cons_zero, List.set_cons_succ]
  refine take_at 4 45 (.bool true) rfl rfl (by kernel_rfl) (by kernel_rfl) (by kernel_rfl) (fun _ _ _ h => h) (Or.inl ⟨by rfl, ?_⟩) hHeld ?_
  · intro w hSw; go_simp
  simp only [List.setIfInBounds_toArray, List.set_cons_zero, List.set_cons_succ]
  refine take_at 5 46 (.bool true) rfl rfl (by kernel_rfl) (by kernel_rfl) (by kernel_rfl) (fun _ _ _ h => h) (Or.inl ⟨by rfl, ?_⟩) hHeld ?_
  · intro w hSw; go_simp
  simp only [List.setIfInBounds_toArray, List.set_cons_zero, List.set_cons_succ]
  refine take_at 6 47 (.agg #[.int .u64 (x.lo : Int), .int .u64 (x.hi : Int)]) rfl rfl (by kernel_rfl) (by kernel_rfl) (by kernel_rfl) (fun _ _ _ h => h) (Or.inl ⟨by rfl, ?_⟩) hHeld ?_
  · intro w hSw; have c := At.two (hSw.2.2.2.2.2.2.2.1); go_simp
  simp only [List.setIfInBounds_toArray, List.set_cons_zero, List.set_cons_succ]
  refine take_at 7 48 (.agg #[.int .u64 (x.lo : Int), .int .u64 (x.hi : Int)]) rfl rfl (by kernel_rfl) (by kernel_rfl) (by kernel_rfl) (fun _ _ _ h => h) (Or.inl ⟨by rfl, ?_⟩) hHeld ?_
  · intro w hSw; have c := At.two (hSw.2.2.2.2.2.2.2.2); go_simp
  simp only [List.setIfInBounds_toArray, List.set_cons_zero, List.set_cons_succ]
  refine take_at 8 49 (.bool false) rfl rfl (by kernel_rfl) (by kernel_rfl) (by kernel_rfl) (fun _ _ _ h => h) (Or.inl ⟨by rfl, ?_⟩) hHeld ?_
  · intro w hSw; go_simp
  simp only [List.setIfInBounds_toArray, List.set_cons_zero, List.set_cons_succ]
  refine take_at 9 50 (.bool false) rfl rfl (by kernel_rfl) (by kernel_rfl) (by kernel_rfl) (fun _ _ _ h => h) (Or.inl ⟨by rfl, ?_⟩) hHeld ?_
  · intro w hSw; go_simp
  simp only [List.setIfInBounds_toArray, List.set_cons_zero, List.set_cons_succ]
  refine take_at 10 51 (.agg #[.int .u64 (x.lo : Int), .int .u64 (x.hi : Int)]) rfl rfl (by kernel_rfl) (by kernel_rfl) (by kernel_rfl) (fun _ _ _ h => h) (Or.inl ⟨by rfl, ?_⟩) hHeld ?_
  · intro w hSw; have c := At.two (hSw.2.2.2.2.2.2.2.1); go_simp
  simp only [List.setIfInBounds_toArray, List.set_cons_zero, List.set_cons_succ]
  refine take_at 11 52 (.agg #[.int .u64 (a.lo : Int), .int .u64 (a.hi : Int)]) rfl rfl (by kernel_rfl) (by kernel_rfl) (by kernel_rfl) (fun _ _ _ h => h) (Or.inl ⟨by rfl, ?_⟩) hHeld ?_
  · intro w hSw; have c := At.two (hSw.2.2.2.1); go_simp
  simp only [List.setIfInBounds_toArray, List.set_cons_zero, List.set_cons_succ]
  refine take_at 13 54 (.agg #[.int .u64 (a.lo : Int), .int .u64 (a.hi : Int)]) rfl rfl (by kernel_rfl) (by kernel_rfl) (by kernel_rfl) (fun _ _ _ h => h) (Or.inl ⟨by rfl, ?_⟩) hHeld ?_
  · intro w hSw; have c := At.two (hSw.2.2.2.1); go_simp
  simp only [List.setIfInBounds_toArray, List.set_cons_zero, List.set_cons_succ]
  refine wpAnyH_ready (rs := [12]) (by kernel_rfl) (by simp) ?_
  refine AllReadyH.cons rfl (fun K hK => ?_) AllReadyH.nil
  go_simp
  refine (KJ.out _).mono ?_
  rintro ze wr1 ⟨rfl, hc⟩
  refine hK.out _ _ ⟨hHeld.1.trans hc, Af.calm (hHeld.2.1) hc, Af.calm (hHeld.2.2.1) hc, At.calm (hHeld.2.2.2.1) hc, At.calm (hHeld.2.2.2.2.1) hc, At.calm (hHeld.2.2.2.2.2.1) hc, At.calm (hHeld.2.2.2.2.2.2.1) hc, At.calm (hHeld.2.2.2.2.2.2.2.1) hc, At.calm (hHeld.2.2.2.2.2.2.2.2) hc⟩ (fun hHeld => ?_)
  clear hK K
  try simp only [List.setIfInBounds_toArray, List.set_cons_zero, List.set_cons_succ]
  refine take_at 14 55 (.bool false) rfl rfl (by kernel_rfl) (by kernel_rfl) (by kernel_rfl) (fun _ _ _ h => h) (Or.inl ⟨by rfl, ?_⟩) hHeld ?_
  · intro w hSw; go_simp
  simp only [List.setIfInBounds_toArray, List.set_cons_zero, List.set_cons_succ]
  refine take_at 15 56 (.bool false) rfl rfl (by kernel_rfl) (by kernel_rfl) (by kernel_rfl) (fun _ _ _ h => h) (Or.inl ⟨by rfl, ?_⟩) hHeld ?_
  · intro w hSw; go_simp
  simp only [List.setIfInBounds_toArray, List.set_cons_zero, List.set_cons_succ]
  refine take_at 16 57 (.bool false) rfl rfl (by kernel_rfl) (by kernel_rfl) (by kernel_rfl) (fun _ _ _ h => h) (Or.inl ⟨by rfl, ?_⟩) hHeld ?_
  · intro w hSw; go_simp
  simp only [List.setIfInBounds_toArray, List.set_cons_zero, List.set_cons_succ]
  refine take_at 17 58 (.agg #[.int .u64 (x.lo : Int), .int .u64 (x.hi : Int)]) rfl rfl (by kernel_rfl) (by kernel_rfl) (by kernel_rfl) (fun _ _ _ h => h) (Or.inl ⟨by rfl, ?_⟩) hHeld ?_
  · intro w hSw; have c := At.two (hSw.2.2.2.2.2.2.2.1); go_simp
  simp only [List.setIfInBounds_toArray, List.set_cons_zero, List.set_cons_succ]
  refine take_at 18 59 (.agg #[.int .u64 (b.lo : Int), .int .u64 (b.hi : Int)]) rfl rfl (by kernel_rfl) (by kernel_rfl) (by kernel_rfl) (fun _ _ _ h => h) (Or.inl ⟨by rfl, ?_⟩) hHeld ?_
  · intro w hSw; have c := At.two (hSw.2.2.2.2.1); go_simp
  simp only [List.setIfInBounds_toArray, List.set_cons_zero, List.set_cons_succ]
  refine take_at 20 61 (.agg #[.int .u64 (b.lo : Int), .int .u64 (b.hi : Int)]) rfl rfl (by kernel_rfl) (by kernel_rfl) (by kernel_rfl) (fun _ _ _ h => h) (Or.inl ⟨by rfl, ?_⟩) hHeld ?_
  · intro w hSw; have c := At.two (hSw.2.2.2.2.1); go_simp
  simp only [List.setIfInBounds_toArray, List.set_cons_zero, List.set_cons_succ]
  refine wpAnyH_ready (rs := [19]) (by kernel_rfl) (by simp) ?_
  refine AllReadyH.cons rfl (fun K hK => ?_) AllReadyH.nil
  go_simp
  refine (KL.out _).mono ?_
  rintro ze wr2 ⟨rfl, hc⟩
  refine hK.out _ _ ⟨hHeld.1.trans hc, Af.calm (hHeld.2.1) hc, Af.calm (hHeld.2.2.1) hc, At.calm (hHeld.2.2.2.1) hc, At.calm (hHeld.2.2.2.2.1) hc, At.calm (hHeld.2.2.2.2.2.1) hc, At.calm (hHeld.2.2.2.2.2.2.1) hc, At.calm (hHeld.2.2.2.2.2.2.2.1) hc, At.calm (hHeld.2.2.2.2.2.2.2.2) hc⟩ (fun hHeld => ?_)
  clear hK K
  try simp only [List.setIfInBounds_toArray, List.set_cons_zero, List.set_cons_succ]
  refine take_at 21 62 (.bool false) rfl rfl (by kernel_rfl) (by kernel_rfl) (by kernel_rfl) (fun _ _ _ h => h) (Or.inl ⟨by rfl, ?_⟩) hHeld ?_
  · intro w hSw; go_simp
  simp only [List.setIfInBounds_toArray, List.set_cons_zero, List.set_cons_succ]
  refine take_at 22 63 (.bool false) rfl rfl (by kernel_rfl) (by kernel_rfl) (by kernel_rfl) (fun _ _ _ h => h) (Or.inl ⟨by rfl, ?_⟩) hHeld ?_
  · intro w hSw; go_simp
  simp only [List.setIfInBounds_toArray, List.set_cons_zero, List.set_cons_succ]
  refine take_at 23 64 (.bool false) rfl rfl (by kernel_rfl) (by kernel_rfl) (by kernel_rfl) (fun _ _ _ h => h) (Or.inl ⟨by rfl, ?_⟩) hHeld ?_
  · intro w hSw; go_simp
  simp only [List.setIfInBounds_toArray, List.set_cons_zero, List.set_cons_succ]
  refine take_at 24 65 (.bool false) rfl rfl (by kernel_rfl) (by kernel_rfl) (by kernel_rfl) (fun _ _ _ h => h) (Or.inl ⟨by rfl, ?_⟩) hHeld ?_
  · intro w hSw; go_simp
  simp only [List.setIfInBounds_toArray, List.set_cons_zero, List.set_cons_succ]
  refine wpAnyH_done (by kernel_rfl) (NoPanic.normal ?_) _
  replace E := Lib.hid (show Calm w wr2 ∧ Af wr2 g1 f0 f1 f2 f3 ∧ Af wr2 g2 e0 e1 e2 e3 ∧ At wr2 g3 a ∧ At wr2 g4 b ∧ At wr2 g5 c ∧ At wr2 g6 d ∧ At wr2 g7 x ∧ At wr2 g8 x from hHeld)
  clear hHeld
  obtain ⟨g1_0, g1_1, g1_2, g1_3⟩ := Af.four (E.out.2.1)
  obtain ⟨g2_0, g2_1, g2_2, g2_3⟩ := Af.four (E.out.2.2.1)
  obtain ⟨g3_0, g3_1, g3_2, g3_3⟩ := At.two (E.out.2.2.2.1)
  obtain ⟨g4_0, g4_1, g4_2, g4_3⟩ := At.two (E.out.2.2.2.2.1)
  obtain ⟨g5_0, g5_1, g5_2, g5_3⟩ := At.two (E.out.2.2.2.2.2.1)
  obtain ⟨g6_0, g6_1, g6_2, g6_3⟩ := At.two (E.out.2.2.2.2.2.2.1)
  obtain ⟨g7_0, g7_1, g7_2, g7_3⟩ := At.two (E.out.2.2.2.2.2.2.2.1)
  obtain ⟨g8_0, g8_1, g8_2, g8_3⟩ := At.two (E.out.2.2.2.2.2.2.2.2)
  go_wp2_with fail
  clear g1_0 g1_1 g1_2 g1_3 g2_0 g2_1 g2_2 g2_3 g3_0 g3_1 g3_2 g3_3 g4_0 g4_1 g4_2 g4_3 g5_0 g5_1 g5_2 g5_3 g6_0 g6_1 g6_2 g6_3 g7_0 g7_1 g7_2 g7_3 g8_0 g8_1 g8_2 g8_3
  refine (KP.out _).mono ?_
  rintro ze w11 ⟨rfl, hc⟩
  replace E := Lib.hid (show Calm w w11 ∧ Af w11 g1 f0 f1 f2 f3 ∧ Af w11 g2 e0 e1 e2 e3 ∧ At w11 g3 a ∧ At w11 g4 b ∧ At w11 g5 c ∧ At w11 g6 d ∧ At w11 g7 x ∧ At w11 g8 x from ⟨E.out.1.trans (hc), Af.calm (E.out.2.1) (hc), Af.calm (E.out.2.2.1) (hc), At.calm (E.out.2.2.2.1) (hc), At.calm (E.out.2.2.2.2.1) (hc), At.calm (E.out.2.2.2.2.2.1) (hc), At.calm (E.out.2.2.2.2.2.2.1) (hc), At.calm (E.out.2.2.2.2.2.2.2.1) (hc), At.calm (E.out.2.2.2.2.2.2.2.2) (hc)⟩)
  clear hc
  obtain ⟨g1_0, g1_1, g1_2, g1_3⟩ := Af.four (E.out.2.1)
  obtain ⟨g2_0, g2_1, g2_2, g2_3⟩ := Af.four (E.out.2.2.1)
  obtain ⟨g3_0, g3_1, g3_2, g3_3⟩ := At.two (E.out.2.2.2.1)
  obtain ⟨g4_0, g4_1, g4_2, g4_3⟩ := At.two (E.out.2.2.2.2.1)
  obtain ⟨g5_0, g5_1, g5_2, g5_3⟩ := At.two (E.out.2.2.2.2.2.1)
  obtain ⟨g6_0, g6_1, g6_2, g6_3⟩ := At.two (E.out.2.2.2.2.2.2.1)
  obtain ⟨g7_0, g7_1, g7_2, g7_3⟩ := At.two (E.out.2.2.2.2.2.2.2.1)
  obtain ⟨g8_0, g8_1, g8_2, g8_3⟩ := At.two (E.out.2.2.2.2.2.2.2.2)
  go_upto_region 11 with fail
  clear g1_0 g1_1 g1_2 g1_3 g2_0 g2_1 g2_2 g2_3 g3_0 g3_1 g3_2 g3_3 g4_0 g4_1 g4_2 g4_3 g5_0 g5_1 g5_2 g5_3 g6_0 g6_1 g6_2 g6_3 g7_0 g7_1 g7_2 g7_3 g8_0 g8_1 g8_2 g8_3
  have hC : Calm w11 (w11.alloc (.cells #[.int .u64 (p.lo : Int), .int .u64 (p.hi : Int)] 27)) := (Keep.refl _ _).alloc _
  have hA : At (w11.alloc (.cells #[.int .u64 (p.lo : Int), .int .u64 (p.hi : Int)] 27)) w11.heap.size p := Row.made w11 _ _
  have hO : w.heap.size ≤ w11.heap.size ∧ g1 < w11.heap.size ∧ g2 < w11.heap.size ∧ g3 < w11.heap.size ∧ g4 < w11.heap.size ∧ g5 < w11.heap.size ∧ g6 < w11.heap.size ∧ g7 < w11.heap.size ∧ g8 < w11.heap.size := ⟨E.out.1.size, Af.lt (E.out.2.1), Af.lt (E.out.2.2.1), At.lt (E.out.2.2.2.1), At.lt (E.out.2.2.2.2.1), At.lt (E.out.2.2.2.2.2.1), At.lt (E.out.2.2.2.2.2.2.1), At.lt (E.out.2.2.2.2.2.2.2.1), At.lt (E.out.2.2.2.2.2.2.2.2)⟩
  obtain ⟨g9, hg9⟩ : ∃ zg, zg = w11.heap.size := ⟨_, rfl⟩
  obtain ⟨w12, hw12⟩ : ∃ zz, zz = w11.alloc (.cells #[.int .u64 (p.lo : Int), .int .u64 (p.hi : Int)] 27) := ⟨_, rfl⟩
  replace hO : w.heap.size ≤ g9 ∧ g1 < g9 ∧ g2 < g9 ∧ g3 < g9 ∧ g4 < g9 ∧ g5 < g9 ∧ g6 < g9 ∧ g7 < g9 ∧ g8 < g9 := by rw [hg9]; exact hO
  rw [← hg9] at hA ⊢
  rw [← hw12] at hA hC ⊢
  clear hg9 hw12
  have O9 := Lib.hid hO
  clear hO
  replace E := Lib.hid (show Calm w w12 ∧ Af w12 g1 f0 f1 f2 f3 ∧ Af w12 g2 e0 e1 e2 e3 ∧ At w12 g3 a ∧ At w12 g4 b ∧ At w12 g5 c ∧ At w12 g6 d ∧ At w12 g7 x ∧ At w12 g8 x from ⟨E.out.1.trans (hC), Af.calm (E.out.2.1) (hC), Af.calm (E.out.2.2.1) (hC), At.calm (E.out.2.2.2.1) (hC), At.calm (E.out.2.2.2.2.1) (hC), At.calm (E.out.2.2.2.2.2.1) (hC), At.calm (E.out.2.2.2.2.2.2.1) (hC), At.calm (E.out.2.2.2.2.2.2.2.1) (hC), At.calm (E.out.2.2.2.2.2.2.2.2) (hC)⟩)
  replace E := Lib.hid (show Calm w w12 ∧ Af w12 g1 f0 f1 f2 f3 ∧ Af w12 g2 e0 e1 e2 e3 ∧ At w12 g3 a ∧ At w12 g4 b ∧ At w12 g5 c ∧ At w12 g6 d ∧ At w12 g7 x ∧ At w12 g8 x ∧ At w12 g9 p from ⟨E.out.1, E.out.2.1, E.out.2.2.1, E.out.2.2.2.1, E.out.2.2.2.2.1, E.out.2.2.2.2.2.1, E.out.2.2.2.2.2.2.1, E.out.2.2.2.2.2.2.2.1, E.out.2.2.2.2.2.2.2.2, hA⟩)
  clear hC hA
  obtain ⟨g1_0, g1_1, g1_2, g1_3⟩ := Af.four (E.out.2.1)
  obtain ⟨g2_0, g2_1, g2_2, g2_3⟩ := Af.four (E.out.2.2.1)
  obtain ⟨g3_0, g3_1, g3_2, g3_3⟩ := At.two (E.out.2.2.2.1)
  obtain ⟨g4_0, g4_1, g4_2, g4_3⟩ := At.two (E.out.2.2.2.2.1)
  obtain ⟨g5_0, g5_1, g5_2, g5_3⟩ := At.two (E.out.2.2.2.2.2.1)
  obtain ⟨g6_0, g6_1, g6_2, g6_3⟩ := At.two (E.out.2.2.2.2.2.2.1)
  obtain ⟨g7_0, g7_1, g7_2, g7_3⟩ := At.two (E.out.2.2.2.2.2.2.2.1)
  obtain ⟨g8_0, g8_1, g8_2, g8_3⟩ := At.two (E.out.2.2.2.2.2.2.2.2.1)
  obtain ⟨g9_0, g9_1, g9_2, g9_3⟩ := At.two (E.out.2.2.2.2.2.2.2.2.2)
  go_wp2_with fail
  clear g1_0 g1_1 g1_2 g1_3 g2_0 g2_1 g2_2 g2_3 g3_0 g3_1 g3_2 g3_3 g4_0 g4_1 g4_2 g4_3 g5_0 g5_1 g5_2 g5_3 g6_0 g6_1 g6_2 g6_3 g7_0 g7_1 g7_2 g7_3 g8_0 g8_1 g8_2 g8_3 g9_0 g9_1 g9_2 g9_3
  refine (KQ.out _).mono ?_
  rintro ze w13 ⟨rfl, hc⟩
  replace E := Lib.hid (show Calm w w13 ∧ Af w13 g1 f0 f1 f2 f3 ∧ Af w13 g2 e0 e1 e2 e3 ∧ At w13 g3 a ∧ At w13 g4 b ∧ At w13 g5 c ∧ At w13 g6 d ∧ At w13 g7 x ∧ At w13 g8 x ∧ At w13 g9 p from ⟨E.out.1.trans (hc), Af.calm (E.out.2.1) (hc), Af.calm (E.out.2.2.1) (hc), At.calm (E.out.2.2.2.1) (hc), At.calm (E.out.2.2.2.2.1) (hc), At.calm (E.out.2.2.2.2.2.1) (hc), At.calm (E.out.2.2.2.2.2.2.1) (hc), At.calm (E.out.2.2.2.2.2.2.2.1) (hc), At.calm (E.out.2.2.2.2.2.2.2.2.1) (hc), At.calm (E.out.2.2.2.2.2.2.2.2.2) (hc)⟩)
  clear hc
  obtain ⟨g1_0, g1_1, g1_2, g1_3⟩ := Af.four (E.out.2.1)
  obtain ⟨g2_0, g2_1, g2_2, g2_3⟩ := Af.four (E.out.2.2.1)
  obtain ⟨g3_0, g3_1, g3_2, g3_3⟩ := At.two (E.out.2.2.2.1)
  obtain ⟨g4_0, g4_1, g4_2, g4_3⟩ := At.two (E.out.2.2.2.2.1)
  obtain ⟨g5_0, g5_1, g5_2, g5_3⟩ := At.two (E.out.2.2.2.2.2.1)
  obtain ⟨g6_0, g6_1, g6_2, g6_3⟩ := At.two (E.out.2.2.2.2.2.2.1)
  obtain ⟨g7_0, g7_1, g7_2, g7_3⟩ := At.two (E.out.2.2.2.2.2.2.2.1)
  obtain ⟨g8_0, g8_1, g8_2, g8_3⟩ := At.two (E.out.2.2.2.2.2.2.2.2.1)
  obtain ⟨g9_0, g9_1, g9_2, g9_3⟩ := At.two (E.out.2.2.2.2.2.2.2.2.2)
  go_upto_region 12 with fail
  clear g1_0 g1_1 g1_2 g1_3 g2_0 g2_1 g2_2 g2_3 g3_0 g3_1 g3_2 g3_3 g4_0 g4_1 g4_2 g4_3 g5_0 g5_1 g5_2 g5_3 g6_0 g6_1 g6_2 g6_3 g7_0 g7_1 g7_2 g7_3 g8_0 g8_1 g8_2 g8_3 g9_0 g9_1 g9_2 g9_3
  have hC : Calm w13 (w13.alloc (.cells #[.int .u64 (q.lo : Int), .int .u64 (q.hi : Int)] 27)) := (Keep.refl _ _).alloc _
  have hA : At (w13.alloc (.cells #[.int .u64 (q.lo : Int), .int .u64 (q.hi : Int)] 27)) w13.heap.size q := Row.made w13 _ _
  have hO : w.heap.size ≤ w13.heap.size ∧ g1 < w13.heap.size ∧ g2 < w13.heap.size ∧ g3 < w13.heap.size ∧ g4 < w13.heap.size ∧ g5 < w13.heap.size ∧ g6 < w13.heap.size ∧ g7 < w13.heap.size ∧ g8 < w13.heap.size ∧ g9 < w13.heap.size := ⟨E.out.1.size, Af.lt (E.out.2.1), Af.lt (E.out.2.2.1), At.lt (E.out.2.2.2.1), At.lt (E.out.2.2.2.2.1), At.lt (E.out.2.2.2.2.2.1), At.lt (E.out.2.2.2.2.2.2.1), At.lt (E.out.2.2.2.2.2.2.2.1), At.lt (E.out.2.2.2.2.2.2.2.2.1), At.lt (E.out.2.2.2.2.2.2.2.2.2)⟩
  obtain ⟨g10, hg10⟩ : ∃ zg, zg = w13.heap.size := ⟨_, rfl⟩
  obtain ⟨w14, hw14⟩ : ∃ zz, zz = w13.alloc (.cells #[.int .u64 (q.lo : Int), .int .u64 (q.hi : Int)] 27) := ⟨_, rfl⟩
  replace hO : w.heap.size ≤ g10 ∧ g1 < g10 ∧ g2 < g10 ∧ g3 < g10 ∧ g4 < g10 ∧ g5 < g10 ∧ g6 < g10 ∧ g7 < g10 ∧ g8 < g10 ∧ g9 < g10 := by rw [hg10]; exact hO
  rw [← hg10] at hA ⊢
  rw [← hw14] at hA hC ⊢
  clear hg10 hw14
  have O10 := Lib.hid hO
  clear hO
  replace E := Lib.hid (show Calm w w14 ∧ Af w14 g1 f0 f1 f2 f3 ∧ Af w14 g2 e0 e1 e2 e3 ∧ At w14 g3 a ∧ At w14 g4 b ∧ At w14 g5 c ∧ At w14 g6 d ∧ At w14 g7 x ∧ At w14 g8 x ∧ At w14 g9 p from ⟨E.out.1.trans (hC), Af.calm (E.out.2.1) (hC), Af.calm (E.out.2.2.1) (hC), At.calm (E.out.2.2.2.1) (hC), At.calm (E.out.2.2.2.2.1) (hC), At.calm (E.out.2.2.2.2.2.1) (hC), At.calm (E.out.2.2.2.2.2.2.1) (hC), At.calm (E.out.2.2.2.2.2.2.2.1) (hC), At.calm (E.out.2.2.2.2.2.2.2.2.1) (hC), At.calm (E.out.2.2.2.2.2.2.2.2.2) (hC)⟩)
  replace E := Lib.hid (show Calm w w14 ∧ Af w14 g1 f0 f1 f2 f3 ∧ Af w14 g2 e0 e1 e2 e3 ∧ At w14 g3 a ∧ At w14 g4 b ∧ At w14 g5 c ∧ At w14 g6 d ∧ At w14 g7 x ∧ At w14 g8 x ∧ At w14 g9 p ∧ At w14 g10 q from ⟨E.out.1, E.out.2.1, E.out.2.2.1, E.out.2.2.2.1, E.out.2.2.2.2.1, E.out.2.2.2.2.2.1, E.out.2.2.2.2.2.2.1, E.out.2.2.2.2.2.2.2.1, E.out.2.2.2.2.2.2.2.2.1, E.out.2.2.2.2.2.2.2.2.2, hA⟩)
  clear hC hA
  obtain ⟨g1_0, g1_1, g1_2, g1_3⟩ := Af.four (E.out.2.1)
  obtain ⟨g2_0, g2_1, g2_2, g2_3⟩ := Af.four (E.out.2.2.1)
  obtain ⟨g3_0, g3_1, g3_2, g3_3⟩ := At.two (E.out.2.2.2.1)
  obtain ⟨g4_0, g4_1, g4_2, g4_3⟩ := At.two (E.out.2.2.2.2.1)
  obtain ⟨g5_0, g5_1, g5_2, g5_3⟩ := At.two (E.out.2.2.2.2.2.1)
  obtain ⟨g6_0, g6_1, g6_2, g6_3⟩ := At.two (E.out.2.2.2.2.2.2.1)
  obtain ⟨g7_0, g7_1, g7_2, g7_3⟩ := At.two (E.out.2.2.2.2.2.2.2.1)
  obtain ⟨g8_0, g8_1, g8_2, g8_3⟩ := At.two (E.out.2.2.2.2.2.2.2.2.1)
  obtain ⟨g9_0, g9_1, g9_2, g9_3⟩ := At.two (E.out.2.2.2.2.2.2.2.2.2.1)
  obtain ⟨g10_0, g10_1, g10_2, g10_3⟩ := At.two (E.out.2.2.2.2.2.2.2.2.2.2)
  go_wp2_with fail
  clear g1_0 g1_1 g1_2 g1_3 g2_0 g2_1 g2_2 g2_3 g3_0 g3_1 g3_2 g3_3 g4_0 g4_1 g4_2 g4_3 g5_0 g5_1 g5_2 g5_3 g6_0 g6_1 g6_2 g6_3 g7_0 g7_1 g7_2 g7_3 g8_0 g8_1 g8_2 g8_3 g9_0 g9_1 g9_2 g9_3 g10_0 g10_1 g10_2 g10_3
  go_returns
  exact ⟨rfl, E.out.1⟩

set_option maxHeartbeats 6400000 in
set_option maxRecDepth 20000 in
theorem spanMeets_ttt {a b c : Sp} {f0 f1 f2 f3 e0 e1 e2 e3 : Nat} (oka : a.Ok) (okb : b.Ok) (ea : a = rS f0 f1) (eb : b = rS f2 f3) (ec : c = rS e0 e1) (h1 : (meetS a b).2 = true) (h2 : (meetS b c).2 = true) (h3 : (meetS (meetS a b).1 c).2 = true) (w : World) : Calls Try.prog 10 #[.agg #[.int .u64 (f0 : Int), .int .u64 (f1 : Int), .int .u64 (f2 : Int), .int .u64 (f3 : Int)], .agg #[.int .u64 (e0 : Int), .int .u64 (e1 : Int), .int .u64 (e2 : Int), .int .u64 (e3 : Int)]] w fun e w' => e = .returned (.bool true) ∧ Calm w w' := by
  obtain ⟨d, ed⟩ : ∃ d, d = rS e2 e3 := ⟨_, rfl⟩
  obtain ⟨x, ex⟩ : ∃ x, x = (meetS a b).1 := ⟨_, rfl⟩
  have KA : Hid (∀ w, Calls Try.prog 12 #[.agg #[.int .u64 (f0 : Int), .int .u64 (f1 : Int), .int .u64 (f2 : Int), .int .u64 (f3 : Int)]] w fun z w' => z = .returned (.tuple #[.agg #[.int .u64 (a.lo : Int), .int .u64 (a.hi : Int)], .agg #[.int .u64 (b.lo : Int), .int .u64 (b.hi : Int)]]) ∧ Calm w w') := Lib.hid (by rw [ea, eb]; exact fun w => spans8_c w f0 f1 f2 f3)
  have KB : Hid (∀ w, Calls Try.prog 12 #[.agg #[.int .u64 (e0 : Int), .int .u64 (e1 : Int), .int .u64 (e2 : Int), .int .u64 (e3 : Int)]] w fun z w' => z = .returned (.tuple #[.agg #[.int .u64 (c.lo : Int), .int .u64 (c.hi : Int)], .agg #[.int .u64 (d.lo : Int), .int .u64 (d.hi : Int)]]) ∧ Calm w w') := Lib.hid (by rw [ec, ed]; exact fun w => spans8_c w e0 e1 e2 e3)
  have KX : Hid (∀ w, Calls Try.prog 18 #[.agg #[.int .u64 (a.lo : Int), .int .u64 (a.hi : Int)], .agg #[.int .u64 (b.lo : Int), .int .u64 (b.hi : Int)]] w fun z w' => z = .returned (.tuple #[.agg #[.int .u64 (x.lo : Int), .int .u64 (x.hi : Int)], .bool true]) ∧ Calm w w') := Lib.hid (by rw [ex, ← h1]; exact fun w => pmeet_c a b w)
  have KY : Hid (∀ w, Calls Try.prog 18 #[.agg #[.int .u64 (b.lo : Int), .int .u64 (b.hi : Int)], .agg #[.int .u64 (a.lo : Int), .int .u64 (a.hi : Int)]] w fun z w' => z = .returned (.tuple #[.agg #[.int .u64 (x.lo : Int), .int .u64 (x.hi : Int)], .bool true]) ∧ Calm w w') := Lib.hid (by rw [ex, ← h1, meet_comm a b]; exact fun w => pmeet_c b a w)
  have KJ : Hid (∀ w, Calls Try.prog 20 #[.agg #[.int .u64 (x.lo : Int), .int .u64 (x.hi : Int)], .agg #[.int .u64 (a.lo : Int), .int .u64 (a.hi : Int)]] w fun z w' => z = .returned (.agg #[.int .u64 (a.lo : Int), .int .u64 (a.hi : Int)]) ∧ Calm w w') := Lib.hid fun w => by
    have k := pjoin_c x a w
    rw [show joinS x a = a from by rw [ex]; exact join_meet1 h1 oka okb] at k
    exact k
  have KL : Hid (∀ w, Calls Try.prog 20 #[.agg #[.int .u64 (x.lo : Int), .int .u64 (x.hi : Int)], .agg #[.int .u64 (b.lo : Int), .int .u64 (b.hi : Int)]] w fun z w' => z = .returned (.agg #[.int .u64 (b.lo : Int), .int .u64 (b.hi : Int)]) ∧ Calm w w') := Lib.hid fun w => by
    have k := pjoin_c x b w
    rw [show joinS x b = b from by rw [ex]; exact join_meet2 h1 oka okb] at k
    exact k
  obtain ⟨p, ep⟩ : ∃ p, p = (meetS x c).1 := ⟨_, rfl⟩
  obtain ⟨q, eq⟩ : ∃ q, q = (meetS b c).1 := ⟨_, rfl⟩
  have KP : Hid (∀ w, Calls Try.prog 18 #[.agg #[.int .u64 (x.lo : Int), .int .u64 (x.hi : Int)], .agg #[.int .u64 (c.lo : Int), .int .u64 (c.hi : Int)]] w fun z w' => z = .returned (.tuple #[.agg #[.int .u64 (p.lo : Int), .int .u64 (p.hi : Int)], .bool true]) ∧ Calm w w') := Lib.hid fun w => by
    have k := pmeet_c x c w
    rw [show (meetS x c).2 = true from by rw [ex]; exact h3, ← ep] at k
    exact k
  have KQ : Hid (∀ w, Calls Try.prog 18 #[.agg #[.int .u64 (b.lo : Int), .int .u64 (b.hi : Int)], .agg #[.int .u64 (c.lo : Int), .int .u64 (c.hi : Int)]] w fun z w' => z = .returned (.tuple #[.agg #[.int .u64 (q.lo : Int), .int .u64 (q.hi : Int)], .bool true]) ∧ Calm w w') := Lib.hid (by rw [eq, ← h2]; exact fun w => pmeet_c b c w)
  have KR : Hid (∀ w, Calls Try.prog 18 #[.agg #[.int .u64 (a.lo : Int), .int .u64 (a.hi : Int)], .agg #[.int .u64 (q.lo : Int), .int .u64 (q.hi : Int)]] w fun z w' => z = .returned (.tuple #[.agg #[.int .u64 (p.lo : Int), .int .u64 (p.hi : Int)], .bool true]) ∧ Calm w w') := Lib.hid fun w => by
    have k := pmeet_c a q w
    rw [show meetS a q = meetS x c from by rw [ex, eq]; exact (meet_assoc h1 h2).symm, show (meetS x c).2 = true from by rw [ex]; exact h3, ← ep] at k
    exact k
  clear h1 oka okb ea eb ec ed ex ep eq h2 h3
  go_enter Try.func10, Try.ntmps10
  have E := Lib.hid (show Calm w w from Keep.refl _ _)
  go_upto_region 1 with fail
  have hC : Calm w ((w.alloc (.cells #[.int .u64 (f0 : Int), .int .u64 (f1 : Int), .int .u64 (f2 : Int), .int .u64 (f3 : Int)] 24)).alloc (.cells #[.int .u64 (e0 : Int), .int .u64 (e1 : Int), .int .u64 (e2 : Int), .int .u64 (e3 : Int)] 24)) := ((Keep.refl _ _).alloc _).alloc _
  have hA : Af ((w.alloc (.cells #[.int .u64 (f0 : Int), .int .u64 (f1 : Int), .int .u64 (f2 : Int), .int .u64 (f3 : Int)] 24)).alloc (.cells #[.int .u64 (e0 : Int), .int .u64 (e1 : Int), .int .u64 (e2 : Int), .int .u64 (e3 : Int)] 24)) w.heap.size f0 f1 f2 f3 := (Row.made w _ _).alloc _
  have hB : Af ((w.alloc (.cells #[.int .u64 (f0 : Int), .int .u64 (f1 : Int), .int .u64 (f2 : Int), .int .u64 (f3 : Int)] 24)).alloc (.cells #[.int .u64 (e0 : Int), .int .u64 (e1 : Int), .int .u64 (e2 : Int), .int .u64 (e3 : Int)] 24)) (w.heap.size + 1) e0 e1 e2 e3 := by
    have e : Af ((w.alloc (.cells #[.int .u64 (f0 : Int), .int .u64 (f1 : Int), .int .u64 (f2 : Int), .int .u64 (f3 : Int)] 24)).alloc (.cells #[.int .u64 (e0 : Int), .int .u64 (e1 : Int), .int .u64 (e2 : Int), .int .u64 (e3 : Int)] 24)) (w.alloc (.cells #[.int .u64 (f0 : Int), .int .u64 (f1 : Int), .int .u64 (f2 : Int), .int .u64 (f3 : Int)] 24)).heap.size e0 e1 e2 e3 := Row.made _ _ _
    simp only [World.size_alloc] at e
    exact e
  have hO : w.heap.size ≤ w.heap.size := E.out.size
  obtain ⟨g1, hg1⟩ : ∃ zg, zg = w.heap.size := ⟨_, rfl⟩
  obtain ⟨w1, hw1⟩ : ∃ zz, zz = (w.alloc (.cells #[.int .u64 (f0 : Int), .int .u64 (f1 : Int), .int .u64 (f2 : Int), .int .u64 (f3 : Int)] 24)).alloc (.cells #[.int .u64 (e0 : Int), .int .u64 (e1 : Int), .int .u64 (e2 : Int), .int .u64 (e3 : Int)] 24) := ⟨_, rfl⟩
  replace hO : w.heap.size ≤ g1 := by rw [hg1]; exact hO
  rw [← hg1] at hA hB ⊢
  rw [← hw1] at hA hB hC ⊢
  clear hg1 hw1
  obtain ⟨g2, hg2⟩ : ∃ zg, zg = g1 + 1 := ⟨_, rfl⟩
  rw [← hg2] at hB ⊢
  have O1 := Lib.hid hO
  have O2 : Hid (w.heap.size ≤ g2 ∧ g1 < g2) := Lib.hid (by have := O1.out; omega)
  clear hO
  clear hg2
  replace E := Lib.hid (show Calm w w1 from E.out.trans (hC))
  replace E := Lib.hid (show Calm w w1 ∧ Af w1 g1 f0 f1 f2 f3 ∧ Af w1 g2 e0 e1 e2 e3 from ⟨E.out, hA, hB⟩)
  clear hC hA hB
  obtain ⟨g1_0, g1_1, g1_2, g1_3⟩ := Af.four (E.out.2.1)
  obtain ⟨g2_0, g2_1, g2_2, g2_3⟩ := Af.four (E.out.2.2)
  go_wp2_with fail
  clear g1_0 g1_1 g1_2 g1_3 g2_0 g2_1 g2_2 g2_3
  refine (shown8_c _).mono ?_
  rintro ze w2 ⟨rfl, hc⟩
  replace E := Lib.hid (show Calm w w2 ∧ Af w2 g1 f0 f1 f2 f3 ∧ Af w2 g2 e0 e1 e2 e3 from ⟨E.out.1.trans (hc), Af.calm (E.out.2.1) (hc), Af.calm (E.out.2.2) (hc)⟩)
  clear hc
  obtain ⟨g1_0, g1_1, g1_2, g1_3⟩ := Af.four (E.out.2.1)
  obtain ⟨g2_0, g2_1, g2_2, g2_3⟩ := Af.four (E.out.2.2)
  go_wp2_with fail
  clear g1_0 g1_1 g1_2 g1_3 g2_0 g2_1 g2_2 g2_3
  refine (KA.out _).mono ?_
  rintro ze w3 ⟨rfl, hc⟩
  replace E := Lib.hid (show Calm w w3 ∧ Af w3 g1 f0 f1 f2 f3 ∧ Af w3 g2 e0 e1 e2 e3 from ⟨E.out.1.trans (hc), Af.calm (E.out.2.1) (hc), Af.calm (E.out.2.2) (hc)⟩)
  clear hc
  obtain ⟨g1_0, g1_1, g1_2, g1_3⟩ := Af.four (E.out.2.1)
  obtain ⟨g2_0, g2_1, g2_2, g2_3⟩ := Af.four (E.out.2.2)
  go_upto_region 3 with fail
  clear g1_0 g1_1 g1_2 g1_3 g2_0 g2_1 g2_2 g2_3
  have hC : Calm w3 ((w3.alloc (.cells #[.int .u64 (a.lo : Int), .int .u64 (a.hi : Int)] 27)).alloc (.cells #[.int .u64 (b.lo : Int), .int .u64 (b.hi : Int)] 27)) := ((Keep.refl _ _).alloc _).alloc _
  have hA : At ((w3.alloc (.cells #[.int .u64 (a.lo : Int), .int .u64 (a.hi : Int)] 27)).alloc (.cells #[.int .u64 (b.lo : Int), .int .u64 (b.hi : Int)] 27)) w3.heap.size a := (Row.made w3 _ _).alloc _
  have hB : At ((w3.alloc (.cells #[.int .u64 (a.lo : Int), .int .u64 (a.hi : Int)] 27)).alloc (.cells #[.int .u64 (b.lo : Int), .int .u64 (b.hi : Int)] 27)) (w3.heap.size + 1) b := by
    have e : At ((w3.alloc (.cells #[.int .u64 (a.lo : Int), .int .u64 (a.hi : Int)] 27)).alloc (.cells #[.int .u64 (b.lo : Int), .int .u64 (b.hi : Int)] 27)) (w3.alloc (.cells #[.int .u64 (a.lo : Int), .int .u64 (a.hi : Int)] 27)).heap.size b := Row.made _ _ _
    simp only [World.size_alloc] at e
    exact e
  have hO : w.heap.size ≤ w3.heap.size ∧ g1 < w3.heap.size ∧ g2 < w3.heap.size := ⟨E.out.1.size, Af.lt (E.out.2.1), Af.lt (E.out.2.2)⟩
  obtain ⟨g3, hg3⟩ : ∃ zg, zg = w3.heap.size := ⟨_, rfl⟩
  obtain ⟨w4, hw4⟩ : ∃ zz, zz = (w3.alloc (.cells #[.int .u64 (a.lo : Int), .int .u64 (a.hi : Int)] 27)).alloc (.cells #[.int .u64 (b.lo : Int), .int .u64 (b.hi : Int)] 27) := ⟨_, rfl⟩
  replace hO : w.heap.size ≤ g3 ∧ g1 < g3 ∧ g2 < g3 := by rw [hg3]; exact hO
  rw [← hg3] at hA hB ⊢
  rw [← hw4] at hA hB hC ⊢
  clear hg3 hw4
  obtain ⟨g4, hg4⟩ : ∃ zg, zg = g3 + 1 := ⟨_, rfl⟩
  rw [← hg4] at hB ⊢
  have O3 := Lib.hid hO
  have O4 : Hid (w.heap.size ≤ g4 ∧ g1 < g4 ∧ g2 < g4 ∧ g3 < g4) := Lib.hid (by have := O3.out; omega)
  clear hO
  clear hg4
  replace E := Lib.hid (show Calm w w4 ∧ Af w4 g1 f0 f1 f2 f3 ∧ Af w4 g2 e0 e1 e2 e3 from ⟨E.out.1.trans (hC), Af.calm (E.out.2.1) (hC), Af.calm (E.out.2.2) (hC)⟩)
  replace E := Lib.hid (show Calm w w4 ∧ Af w4 g1 f0 f1 f2 f3 ∧ Af w4 g2 e0 e1 e2 e3 ∧ At w4 g3 a ∧ At w4 g4 b from ⟨E.out.1, E.out.2.1, E.out.2.2, hA, hB⟩)
  clear hC hA hB
  obtain ⟨g1_0, g1_1, g1_2, g1_3⟩ := Af.four (E.out.2.1)
  obtain ⟨g2_0, g2_1, g2_2, g2_3⟩ := Af.four (E.out.2.2.1)
  obtain ⟨g3_0, g3_1, g3_2, g3_3⟩ := At.two (E.out.2.2.2.1)
  obtain ⟨g4_0, g4_1, g4_2, g4_3⟩ := At.two (E.out.2.2.2.2)
  go_wp2_with fail
  clear g1_0 g1_1 g1_2 g1_3 g2_0 g2_1 g2_2 g2_3 g3_0 g3_1 g3_2 g3_3 g4_0 g4_1 g4_2 g4_3
  refine (KB.out _).mono ?_
  rintro ze w5 ⟨rfl, hc⟩
  replace E := Lib.hid (show Calm w w5 ∧ Af w5 g1 f0 f1 f2 f3 ∧ Af w5 g2 e0 e1 e2 e3 ∧ At w5 g3 a ∧ At w5 g4 b from ⟨E.out.1.trans (hc), Af.calm (E.out.2.1) (hc), Af.calm (E.out.2.2.1) (hc), At.calm (E.out.2.2.2.1) (hc), At.calm (E.out.2.2.2.2) (hc)⟩)
  clear hc
  obtain ⟨g1_0, g1_1, g1_2, g1_3⟩ := Af.four (E.out.2.1)
  obtain ⟨g2_0, g2_1, g2_2, g2_3⟩ := Af.four (E.out.2.2.1)
  obtain ⟨g3_0, g3_1, g3_2, g3_3⟩ := At.two (E.out.2.2.2.1)
  obtain ⟨g4_0, g4_1, g4_2, g4_3⟩ := At.two (E.out.2.2.2.2)
  go_upto_region 4 with fail
  clear g1_0 g1_1 g1_2 g1_3 g2_0 g2_1 g2_2 g2_3 g3_0 g3_1 g3_2 g3_3 g4_0 g4_1 g4_2 g4_3
  have hC : Calm w5 ((w5.alloc (.cells #[.int .u64 (c.lo : Int), .int .u64 (c.hi : Int)] 27)).alloc (.cells #[.int .u64 (d.lo : Int), .int .u64 (d.hi : Int)] 27)) := ((Keep.refl _ _).alloc _).alloc _
  have hA : At ((w5.alloc (.cells #[.int .u64 (c.lo : Int), .int .u64 (c.hi : Int)] 27)).alloc (.cells #[.int .u64 (d.lo : Int), .int .u64 (d.hi : Int)] 27)) w5.heap.size c := (Row.made w5 _ _).alloc _
  have hB : At ((w5.alloc (.cells #[.int .u64 (c.lo : Int), .int .u64 (c.hi : Int)] 27)).alloc (.cells #[.int .u64 (d.lo : Int), .int .u64 (d.hi : Int)] 27)) (w5.heap.size + 1) d := by
    have e : At ((w5.alloc (.cells #[.int .u64 (c.lo : Int), .int .u64 (c.hi : Int)] 27)).alloc (.cells #[.int .u64 (d.lo : Int), .int .u64 (d.hi : Int)] 27)) (w5.alloc (.cells #[.int .u64 (c.lo : Int), .int .u64 (c.hi : Int)] 27)).heap.size d := Row.made _ _ _
    simp only [World.size_alloc] at e
    exact e
  have hO : w.heap.size ≤ w5.heap.size ∧ g1 < w5.heap.size ∧ g2 < w5.heap.size ∧ g3 < w5.heap.size ∧ g4 < w5.heap.size := ⟨E.out.1.size, Af.lt (E.out.2.1), Af.lt (E.out.2.2.1), At.lt (E.out.2.2.2.1), At.lt (E.out.2.2.2.2)⟩
  obtain ⟨g5, hg5⟩ : ∃ zg, zg = w5.heap.size := ⟨_, rfl⟩
  obtain ⟨w6, hw6⟩ : ∃ zz, zz = (w5.alloc (.cells #[.int .u64 (c.lo : Int), .int .u64 (c.hi : Int)] 27)).alloc (.cells #[.int .u64 (d.lo : Int), .int .u64 (d.hi : Int)] 27) := ⟨_, rfl⟩
  replace hO : w.heap.size ≤ g5 ∧ g1 < g5 ∧ g2 < g5 ∧ g3 < g5 ∧ g4 < g5 := by rw [hg5]; exact hO
  rw [← hg5] at hA hB ⊢
  rw [← hw6] at hA hB hC ⊢
  clear hg5 hw6
  obtain ⟨g6, hg6⟩ : ∃ zg, zg = g5 + 1 := ⟨_, rfl⟩
  rw [← hg6] at hB ⊢
  have O5 := Lib.hid hO
  have O6 : Hid (w.heap.size ≤ g6 ∧ g1 < g6 ∧ g2 < g6 ∧ g3 < g6 ∧ g4 < g6 ∧ g5 < g6) := Lib.hid (by have := O5.out; omega)
  clear hO
  clear hg6
  replace E := Lib.hid (show Calm w w6 ∧ Af w6 g1 f0 f1 f2 f3 ∧ Af w6 g2 e0 e1 e2 e3 ∧ At w6 g3 a ∧ At w6 g4 b from ⟨E.out.1.trans (hC), Af.calm (E.out.2.1) (hC), Af.calm (E.out.2.2.1) (hC), At.calm (E.out.2.2.2.1) (hC), At.calm (E.out.2.2.2.2) (hC)⟩)
  replace E := Lib.hid (show Calm w w6 ∧ Af w6 g1 f0 f1 f2 f3 ∧ Af w6 g2 e0 e1 e2 e3 ∧ At w6 g3 a ∧ At w6 g4 b ∧ At w6 g5 c ∧ At w6 g6 d from ⟨E.out.1, E.out.2.1, E.out.2.2.1, E.out.2.2.2.1, E.out.2.2.2.2, hA, hB⟩)
  clear hC hA hB
  obtain ⟨g1_0, g1_1, g1_2, g1_3⟩ := Af.four (E.out.2.1)
  obtain ⟨g2_0, g2_1, g2_2, g2_3⟩ := Af.four (E.out.2.2.1)
  obtain ⟨g3_0, g3_1, g3_2, g3_3⟩ := At.two (E.out.2.2.2.1)
  obtain ⟨g4_0, g4_1, g4_2, g4_3⟩ := At.two (E.out.2.2.2.2.1)
  obtain ⟨g5_0, g5_1, g5_2, g5_3⟩ := At.two (E.out.2.2.2.2.2.1)
  obtain ⟨g6_0, g6_1, g6_2, g6_3⟩ := At.two (E.out.2.2.2.2.2.2)
  go_wp2_with fail
  clear g1_0 g1_1 g1_2 g1_3 g2_0 g2_1 g2_2 g2_3 g3_0 g3_1 g3_2 g3_3 g4_0 g4_1 g4_2 g4_3 g5_0 g5_1 g5_2 g5_3 g6_0 g6_1 g6_2 g6_3
  refine (KX.out _).mono ?_
  rintro ze w7 ⟨rfl, hc⟩
  replace E := Lib.hid (show Calm w w7 ∧ Af w7 g1 f0 f1 f2 f3 ∧ Af w7 g2 e0 e1 e2 e3 ∧ At w7 g3 a ∧ At w7 g4 b ∧ At w7 g5 c ∧ At w7 g6 d from ⟨E.out.1.trans (hc), Af.calm (E.out.2.1) (hc), Af.calm (E.out.2.2.1) (hc), At.calm (E.out.2.2.2.1) (hc), At.calm (E.out.2.2.2.2.1) (hc), At.calm (E.out.2.2.2.2.2.1) (hc), At.calm (E.out.2.2.2.2.2.2) (hc)⟩)
  clear hc
  obtain ⟨g1_0, g1_1, g1_2, g1_3⟩ := Af.four (E.out.2.1)
  obtain ⟨g2_0, g2_1, g2_2, g2_3⟩ := Af.four (E.out.2.2.1)
  obtain ⟨g3_0, g3_1, g3_2, g3_3⟩ := At.two (E.out.2.2.2.1)
  obtain ⟨g4_0, g4_1, g4_2, g4_3⟩ := At.two (E.out.2.2.2.2.1)
  obtain ⟨g5_0, g5_1, g5_2, g5_3⟩ := At.two (E.out.2.2.2.2.2.1)
  obtain ⟨g6_0, g6_1, g6_2, g6_3⟩ := At.two (E.out.2.2.2.2.2.2)
  go_upto_region 5 with fail
  clear g1_0 g1_1 g1_2 g1_3 g2_0 g2_1 g2_2 g2_3 g3_0 g3_1 g3_2 g3_3 g4_0 g4_1 g4_2 g4_3 g5_0 g5_1 g5_2 g5_3 g6_0 g6_1 g6_2 g6_3
  have hC : Calm w7 (w7.alloc (.cells #[.int .u64 (x.lo : Int), .int .u64 (x.hi : Int)] 27)) := (Keep.refl _ _).alloc _
  have hA : At (w7.alloc (.cells #[.int .u64 (x.lo : Int), .int .u64 (x.hi : Int)] 27)) w7.heap.size x := Row.made w7 _ _
  have hO : w.heap.size ≤ w7.heap.size ∧ g1 < w7.heap.size ∧ g2 < w7.heap.size ∧ g3 < w7.heap.size ∧ g4 < w7.heap.size ∧ g5 < w7.heap.size ∧ g6 < w7.heap.size := ⟨E.out.1.size, Af.lt (E.out.2.1), Af.lt (E.out.2.2.1), At.lt (E.out.2.2.2.1), At.lt (E.out.2.2.2.2.1), At.lt (E.out.2.2.2.2.2.1), At.lt (E.out.2.2.2.2.2.2)⟩
  obtain ⟨g7, hg7⟩ : ∃ zg, zg = w7.heap.size := ⟨_, rfl⟩
  obtain ⟨w8, hw8⟩ : ∃ zz, zz = w7.alloc (.cells #[.int .u64 (x.lo : Int), .int .u64 (x.hi : Int)] 27) := ⟨_, rfl⟩
  replace hO : w.heap.size ≤ g7 ∧ g1 < g7 ∧ g2 < g7 ∧ g3 < g7 ∧ g4 < g7 ∧ g5 < g7 ∧ g6 < g7 := by rw [hg7]; exact hO
  rw [← hg7] at hA ⊢
  rw [← hw8] at hA hC ⊢
  clear hg7 hw8
  have O7 := Lib.hid hO
  clear hO
  replace E := Lib.hid (show Calm w w8 ∧ Af w8 g1 f0 f1 f2 f3 ∧ Af w8 g2 e0 e1 e2 e3 ∧ At w8 g3 a ∧ At w8 g4 b ∧ At w8 g5 c ∧ At w8 g6 d from ⟨E.out.1.trans (hC), Af.calm (E.out.2.1) (hC), Af.calm (E.out.2.2.1) (hC), At.calm (E.out.2.2.2.1) (hC), At.calm (E.out.2.2.2.2.1) (hC), At.calm (E.out.2.2.2.2.2.1) (hC), At.calm (E.out.2.2.2.2.2.2) (hC)⟩)
  replace E := Lib.hid (show Calm w w8 ∧ Af w8 g1 f0 f1 f2 f3 ∧ Af w8 g2 e0 e1 e2 e3 ∧ At w8 g3 a ∧ At w8 g4 b ∧ At w8 g5 c ∧ At w8 g6 d ∧ At w8 g7 x from ⟨E.out.1, E.out.2.1, E.out.2.2.1, E.out.2.2.2.1, E.out.2.2.2.2.1, E.out.2.2.2.2.2.1, E.out.2.2.2.2.2.2, hA⟩)
  clear hC hA
  obtain ⟨g1_0, g1_1, g1_2, g1_3⟩ := Af.four (E.out.2.1)
  obtain ⟨g2_0, g2_1, g2_2, g2_3⟩ := Af.four (E.out.2.2.1)
  obtain ⟨g3_0, g3_1, g3_2, g3_3⟩ := At.two (E.out.2.2.2.1)
  obtain ⟨g4_0, g4_1, g4_2, g4_3⟩ := At.two (E.out.2.2.2.2.1)
  obtain ⟨g5_0, g5_1, g5_2, g5_3⟩ := At.two (E.out.2.2.2.2.2.1)
  obtain ⟨g6_0, g6_1, g6_2, g6_3⟩ := At.two (E.out.2.2.2.2.2.2.1)
  obtain ⟨g7_0, g7_1, g7_2, g7_3⟩ := At.two (E.out.2.2.2.2.2.2.2)
  go_wp2_with fail
  clear g1_0 g1_1 g1_2 g1_3 g2_0 g2_1 g2_2 g2_3 g3_0 g3_1 g3_2 g3_3 g4_0 g4_1 g4_2 g4_3 g5_0 g5_1 g5_2 g5_3 g6_0 g6_1 g6_2 g6_3 g7_0 g7_1 g7_2 g7_3
  refine (KY.out _).mono ?_
  rintro ze w9 ⟨rfl, hc⟩
  replace E := Lib.hid (show Calm w w9 ∧ Af w9 g1 f0 f1 f2 f3 ∧ Af w9 g2 e0 e1 e2 e3 ∧ At w9 g3 a ∧ At w9 g4 b ∧ At w9 g5 c ∧ At w9 g6 d ∧ At w9 g7 x from ⟨E.out.1.trans (hc), Af.calm (E.out.2.1) (hc), Af.calm (E.out.2.2.1) (hc), At.calm (E.out.2.2.2.1) (hc), At.calm (E.out.2.2.2.2.1) (hc), At.calm (E.out.2.2.2.2.2.1) (hc), At.calm (E.out.2.2.2.2.2.2.1) (hc), At.calm (E.out.2.2.2.2.2.2.2) (hc)⟩)
  clear hc
  obtain ⟨g1_0, g1_1, g1_2, g1_3⟩ := Af.four (E.out.2.1)
  obtain ⟨g2_0, g2_1, g2_2, g2_3⟩ := Af.four (E.out.2.2.1)
  obtain ⟨g3_0, g3_1, g3_2, g3_3⟩ := At.two (E.out.2.2.2.1)
  obtain ⟨g4_0, g4_1, g4_2, g4_3⟩ := At.two (E.out.2.2.2.2.1)
  obtain ⟨g5_0, g5_1, g5_2, g5_3⟩ := At.two (E.out.2.2.2.2.2.1)
  obtain ⟨g6_0, g6_1, g6_2, g6_3⟩ := At.two (E.out.2.2.2.2.2.2.1)
  obtain ⟨g7_0, g7_1, g7_2, g7_3⟩ := At.two (E.out.2.2.2.2.2.2.2)
  go_upto_region 6 with fail
  clear g1_0 g1_1 g1_2 g1_3 g2_0 g2_1 g2_2 g2_3 g3_0 g3_1 g3_2 g3_3 g4_0 g4_1 g4_2 g4_3 g5_0 g5_1 g5_2 g5_3 g6_0 g6_1 g6_2 g6_3 g7_0 g7_1 g7_2 g7_3
  have hC : Calm w9 (w9.alloc (.cells #[.int .u64 (x.lo : Int), .int .u64 (x.hi : Int)] 27)) := (Keep.refl _ _).alloc _
  have hA : At (w9.alloc (.cells #[.int .u64 (x.lo : Int), .int .u64 (x.hi : Int)] 27)) w9.heap.size x := Row.made w9 _ _
  have hO : w.heap.size ≤ w9.heap.size ∧ g1 < w9.heap.size ∧ g2 < w9.heap.size ∧ g3 < w9.heap.size ∧ g4 < w9.heap.size ∧ g5 < w9.heap.size ∧ g6 < w9.heap.size ∧ g7 < w9.heap.size := ⟨E.out.1.size, Af.lt (E.out.2.1), Af.lt (E.out.2.2.1), At.lt (E.out.2.2.2.1), At.lt (E.out.2.2.2.2.1), At.lt (E.out.2.2.2.2.2.1), At.lt (E.out.2.2.2.2.2.2.1), At.lt (E.out.2.2.2.2.2.2.2)⟩
  obtain ⟨g8, hg8⟩ : ∃ zg, zg = w9.heap.size := ⟨_, rfl⟩
  obtain ⟨w10, hw10⟩ : ∃ zz, zz = w9.alloc (.cells #[.int .u64 (x.lo : Int), .int .u64 (x.hi : Int)] 27) := ⟨_, rfl⟩
  replace hO : w.heap.size ≤ g8 ∧ g1 < g8 ∧ g2 < g8 ∧ g3 < g8 ∧ g4 < g8 ∧ g5 < g8 ∧ g6 < g8 ∧ g7 < g8 := by rw [hg8]; exact hO
  rw [← hg8] at hA ⊢
  rw [← hw10] at hA hC ⊢
  clear hg8 hw10
  have O8 := Lib.hid hO
  clear hO
  replace E := Lib.hid (show Calm w w10 ∧ Af w10 g1 f0 f1 f2 f3 ∧ Af w10 g2 e0 e1 e2 e3 ∧ At w10 g3 a ∧ At w10 g4 b ∧ At w10 g5 c ∧ At w10 g6 d ∧ At w10 g7 x from ⟨E.out.1.trans (hC), Af.calm (E.out.2.1) (hC), Af.calm (E.out.2.2.1) (hC), At.calm (E.out.2.2.2.1) (hC), At.calm (E.out.2.2.2.2.1) (hC), At.calm (E.out.2.2.2.2.2.1) (hC), At.calm (E.out.2.2.2.2.2.2.1) (hC), At.calm (E.out.2.2.2.2.2.2.2) (hC)⟩)
  replace E := Lib.hid (show Calm w w10 ∧ Af w10 g1 f0 f1 f2 f3 ∧ Af w10 g2 e0 e1 e2 e3 ∧ At w10 g3 a ∧ At w10 g4 b ∧ At w10 g5 c ∧ At w10 g6 d ∧ At w10 g7 x ∧ At w10 g8 x from ⟨E.out.1, E.out.2.1, E.out.2.2.1, E.out.2.2.2.1, E.out.2.2.2.2.1, E.out.2.2.2.2.2.1, E.out.2.2.2.2.2.2.1, E.out.2.2.2.2.2.2.2, hA⟩)
  clear hC hA
  refine wp_region_noPanic ?_
  refine wp_region_held_drew (S := fun w' => Calm w w' ∧ Af w' g1 f0 f1 f2 f3 ∧ Af w' g2 e0 e1 e2 e3 ∧ At w' g3 a ∧ At w' g4 b ∧ At w' g5 c ∧ At w' g6 d ∧ At w' g7 x ∧ At w' g8 x) (by kernel_rfl) ⟨E.out.1.drew, E.out.2.1, E.out.2.2.1, E.out.2.2.2.1, E.out.2.2.2.2.1, E.out.2.2.2.2.2.1, E.out.2.2.2.2.2.2.1, E.out.2.2.2.2.2.2.2.1, E.out.2.2.2.2.2.2.2.2⟩ (fun hHeld => ?_)
  refine take_at 0 41 (.bool true) rfl rfl (by kernel_rfl) (by kernel_rfl) (by kernel_rfl) (fun _ _ _ h => h) (Or.inl ⟨by rfl, ?_⟩) hHeld ?_
  · intro w hSw; go_simp
  simp only [List.setIfInBounds_toArray, List.set_cons_zero, List.set_cons_succ]
  refine take_at 1 42 (.bool true) rfl rfl (by kernel_rfl) (by kernel_rfl) (by kernel_rfl) (fun _ _ _ h => h) (Or.inl ⟨by rfl, ?_⟩) hHeld ?_
  · intro w hSw; go_simp
  simp only [List.setIfInBounds_toArray, List.set_cons_zero, List.set_cons_succ]
  refine take_at 2 43 (.bool false) rfl rfl (by kernel_rfl) (by kernel_rfl) (by kernel_rfl) (fun _ _ _ h => h) (Or.inl ⟨by rfl, ?_⟩) hHeld ?_
  · intro w hSw; go_simp
  simp only [List.setIfInBounds_toArray, List.set_cons_zero, List.set_cons_succ]
  refine take_at 3 44 (.bool false) rfl rfl (by kernel_rfl) (by kernel_rfl) (by kernel_rfl) (fun _ _ _ h => h) (Or.inl ⟨by rfl, ?_⟩) hHeld ?_
  · intro w hSw; go_simp
  simp only [List.setIfInBounds_toArray, List.set_cons_zero, List.set_cons_succ]
  refine take_at 4 45 (.bool true) rfl rfl (by kernel_rfl) (by kernel_rfl) (by kernel_rfl) (fun _ _ _ h => h) (Or.inl ⟨by rfl, ?_⟩) hHeld ?_
  · intro w hSw; go_simp
  simp only [List.setIfInBounds_toArray, List.set_cons_zero, List.set_cons_succ]
  refine take_at 5 46 (.bool true) rfl rfl (by kernel_rfl) (by kernel_rfl) (by kernel_rfl) (fun _ _ _ h => h) (Or.inl ⟨by rfl, ?_⟩) hHeld ?_
  · intro w hSw; go_simp
  simp only [List.setIfInBounds_toArray, List.set_cons_zero, List.set_cons_succ]
  refine take_at 6 47 (.agg #[.int .u64 (x.lo : Int), .int .u64 (x.hi : Int)]) rfl rfl (by kernel_rfl) (by kernel_rfl) (by kernel_rfl) (fun _ _ _ h => h) (Or.inl ⟨by rfl, ?_⟩) hHeld ?_
  · intro w hSw; have c := At.two (hSw.2.2.2.2.2.2.2.1); go_simp
  simp only [List.setIfInBounds_toArray, List.set_cons_zero, List.set_cons_succ]
  refine take_at 7 48 (.agg #[.int .u64 (x.lo : Int), .int .u64 (x.hi : Int)]) rfl rfl (by kernel_rfl) (by kernel_rfl) (by kernel_rfl) (fun _ _ _ h => h) (Or.inl ⟨by rfl, ?_⟩) hHeld ?_
  · intro w hSw; have c := At.two (hSw.2.2.2.2.2.2.2.2); go_simp
  simp only [List.setIfInBounds_toArray, List.set_cons_zero, List.set_cons_succ]
  refine take_at 8 49 (.bool false) rfl rfl (by kernel_rfl) (by kernel_rfl) (by kernel_rfl) (fun _ _ _ h => h) (Or.inl ⟨by rfl, ?_⟩) hHeld ?_
  · intro w hSw; go_simp
  simp only [List.setIfInBounds_toArray, List.set_cons_zero, List.set_cons_succ]
  refine take_at 9 50 (.bool false) rfl rfl (by kernel_rfl) (by kernel_rfl) (by kernel_rfl) (fun _ _ _ h => h) (Or.inl ⟨by rfl, ?_⟩) hHeld ?_
  · intro w hSw; go_simp
  simp only [List.setIfInBounds_toArray, List.set_cons_zero, List.set_cons_succ]
  refine take_at 10 51 (.agg #[.int .u64 (x.lo : Int), .int .u64 (x.hi : Int)]) rfl rfl (by kernel_rfl) (by kernel_rfl) (by kernel_rfl) (fun _ _ _ h => h) (Or.inl ⟨by rfl, ?_⟩) hHeld ?_
  · intro w hSw; have c := At.two (hSw.2.2.2.2.2.2.2.1); go_simp
  simp only [List.setIfInBounds_toArray, List.set_cons_zero, List.set_cons_succ]
  refine take_at 11 52 (.agg #[.int .u64 (a.lo : Int), .int .u64 (a.hi : Int)]) rfl rfl (by kernel_rfl) (by kernel_rfl) (by kernel_rfl) (fun _ _ _ h => h) (Or.inl ⟨by rfl, ?_⟩) hHeld ?_
  · intro w hSw; have c := At.two (hSw.2.2.2.1); go_simp
  simp only [List.setIfInBounds_toArray, List.set_cons_zero, List.set_cons_succ]
  refine take_at 13 54 (.agg #[.int .u64 (a.lo : Int), .int .u64 (a.hi : Int)]) rfl rfl (by kernel_rfl) (by kernel_rfl) (by kernel_rfl) (fun _ _ _ h => h) (Or.inl ⟨by rfl, ?_⟩) hHeld ?_
  · intro w hSw; have c := At.two (hSw.2.2.2.1); go_simp
  simp only [List.setIfInBounds_toArray, List.set_cons_zero, List.set_cons_succ]
  refine wpAnyH_ready (rs := [12]) (by kernel_rfl) (by simp) ?_
  refine AllReadyH.cons rfl (fun K hK => ?_) AllReadyH.nil
  go_simp
  refine (KJ.out _).mono ?_
  rintro ze wr1 ⟨rfl, hc⟩
  refine hK.out _ _ ⟨hHeld.1.trans hc, Af.calm (hHeld.2.1) hc, Af.calm (hHeld.2.2.1) hc, At.calm (hHeld.2.2.2.1) hc, At.calm (hHeld.2.2.2.2.1) hc, At.calm (hHeld.2.2.2.2.2.1) hc, At.calm (hHeld.2.2.2.2.2.2.1) hc, At.calm (hHeld.2.2.2.2.2.2.2.1) hc, At.calm (hHeld.2.2.2.2.2.2.2.2) hc⟩ (fun hHeld => ?_)
  clear hK K
  try simp only [List.setIfInBounds_toArray, List.set_cons_zero, List.set_cons_succ]
  refine take_at 14 55 (.bool false) rfl rfl (by kernel_rfl) (by kernel_rfl) (by kernel_rfl) (fun _ _ _ h => h) (Or.inl ⟨by rfl, ?_⟩) hHeld ?_
  · intro w hSw; go_simp
  simp only [List.setIfInBounds_toArray, List.set_cons_zero, List.set_cons_succ]
  refine take_at 15 56 (.bool false) rfl rfl (by kernel_rfl) (by kernel_rfl) (by kernel_rfl) (fun _ _ _ h => h) (Or.inl ⟨by rfl, ?_⟩) hHeld ?_
  · intro w hSw; go_simp
  simp only [List.setIfInBounds_toArray, List.set_cons_zero, List.set_cons_succ]
  refine take_at 16 57 (.bool false) rfl rfl (by kernel_rfl) (by kernel_rfl) (by kernel_rfl) (fun _ _ _ h => h) (Or.inl ⟨by rfl, ?_⟩) hHeld ?_
  · intro w hSw; go_simp
  simp only [List.setIfInBounds_toArray, List.set_cons_zero, List.set_cons_succ]
  refine take_at 17 58 (.agg #[.int .u64 (x.lo : Int), .int .u64 (x.hi : Int)]) rfl rfl (by kernel_rfl) (by kernel_rfl) (by kernel_rfl) (fun _ _ _ h => h) (Or.inl ⟨by rfl, ?_⟩) hHeld ?_
  · intro w hSw; have c := At.two (hSw.2.2.2.2.2.2.2.1); go_simp
  simp only [List.setIfInBounds_toArray, List.set_cons_zero, List.set_cons_succ]
  refine take_at 18 59 (.agg #[.int .u64 (b.lo : Int), .int .u64 (b.hi : Int)]) rfl rfl (by kernel_rfl) (by kernel_rfl) (by kernel_rfl) (fun _ _ _ h => h) (Or.inl ⟨by rfl, ?_⟩) hHeld ?_
  · intro w hSw; have c := At.two (hSw.2.2.2.2.1); go_simp
  simp only [List.setIfInBounds_toArray, List.set_cons_zero, List.set_cons_succ]
  refine take_at 20 61 (.agg #[.int .u64 (b.lo : Int), .int .u64 (b.hi : Int)]) rfl rfl (by kernel_rfl) (by kernel_rfl) (by kernel_rfl) (fun _ _ _ h => h) (Or.inl ⟨by rfl, ?_⟩) hHeld ?_
  · intro w hSw; have c := At.two (hSw.2.2.2.2.1); go_simp
  simp only [List.setIfInBounds_toArray, List.set_cons_zero, List.set_cons_succ]
  refine wpAnyH_ready (rs := [19]) (by kernel_rfl) (by simp) ?_
  refine AllReadyH.cons rfl (fun K hK => ?_) AllReadyH.nil
  go_simp
  refine (KL.out _).mono ?_
  rintro ze wr2 ⟨rfl, hc⟩
  refine hK.out _ _ ⟨hHeld.1.trans hc, Af.calm (hHeld.2.1) hc, Af.calm (hHeld.2.2.1) hc, At.calm (hHeld.2.2.2.1) hc, At.calm (hHeld.2.2.2.2.1) hc, At.calm (hHeld.2.2.2.2.2.1) hc, At.calm (hHeld.2.2.2.2.2.2.1) hc, At.calm (hHeld.2.2.2.2.2.2.2.1) hc, At.calm (hHeld.2.2.2.2.2.2.2.2) hc⟩ (fun hHeld => ?_)
  clear hK K
  try simp only [List.setIfInBounds_toArray, List.set_cons_zero, List.set_cons_succ]
  refine take_at 21 62 (.bool false) rfl rfl (by kernel_rfl) (by kernel_rfl) (by kernel_rfl) (fun _ _ _ h => h) (Or.inl ⟨by rfl, ?_⟩) hHeld ?_
  · intro w hSw; go_simp
  simp only [List.setIfInBounds_toArray, List.set_cons_zero, List.set_cons_succ]
  refine take_at 22 63 (.bool false) rfl rfl (by kernel_rfl) (by kernel_rfl) (by kernel_rfl) (fun _ _ _ h => h) (Or.inl ⟨by rfl, ?_⟩) hHeld ?_
  · intro w hSw; go_simp
  simp only [List.setIfInBounds_toArray, List.set_cons_zero, List.set_cons_succ]
  refine take_at 23 64 (.bool false) rfl rfl (by kernel_rfl) (by kernel_rfl) (by kernel_rfl) (fun _ _ _ h => h) (Or.inl ⟨by rfl, ?_⟩) hHeld ?_
  · intro w hSw; go_simp
  simp only [List.setIfInBounds_toArray, List.set_cons_zero, List.set_cons_succ]
  refine take_at 24 65 (.bool false) rfl rfl (by kernel_rfl) (by kernel_rfl) (by kernel_rfl) (fun _ _ _ h => h) (Or.inl ⟨by rfl, ?_⟩) hHeld ?_
  · intro w hSw; go_simp
  simp only [List.setIfInBounds_toArray, List.set_cons_zero, List.set_cons_succ]
  refine wpAnyH_done (by kernel_rfl) (NoPanic.normal ?_) _
  replace E := Lib.hid (show Calm w wr2 ∧ Af wr2 g1 f0 f1 f2 f3 ∧ Af wr2 g2 e0 e1 e2 e3 ∧ At wr2 g3 a ∧ At wr2 g4 b ∧ At wr2 g5 c ∧ At wr2 g6 d ∧ At wr2 g7 x ∧ At wr2 g8 x from hHeld)
  clear hHeld
  obtain ⟨g1_0, g1_1, g1_2, g1_3⟩ := Af.four (E.out.2.1)
  obtain ⟨g2_0, g2_1, g2_2, g2_3⟩ := Af.four (E.out.2.2.1)
  obtain ⟨g3_0, g3_1, g3_2, g3_3⟩ := At.two (E.out.2.2.2.1)
  obtain ⟨g4_0, g4_1, g4_2, g4_3⟩ := At.two (E.out.2.2.2.2.1)
  obtain ⟨g5_0, g5_1, g5_2, g5_3⟩ := At.two (E.out.2.2.2.2.2.1)
  obtain ⟨g6_0, g6_1, g6_2, g6_3⟩ := At.two (E.out.2.2.2.2.2.2.1)
  obtain ⟨g7_0, g7_1, g7_2, g7_3⟩ := At.two (E.out.2.2.2.2.2.2.2.1)
  obtain ⟨g8_0, g8_1, g8_2, g8_3⟩ := At.two (E.out.2.2.2.2.2.2.2.2)
  go_wp2_with fail
  clear g1_0 g1_1 g1_2 g1_3 g2_0 g2_1 g2_2 g2_3 g3_0 g3_1 g3_2 g3_3 g4_0 g4_1 g4_2 g4_3 g5_0 g5_1 g5_2 g5_3 g6_0 g6_1 g6_2 g6_3 g7_0 g7_1 g7_2 g7_3 g8_0 g8_1 g8_2 g8_3
  refine (KP.out _).mono ?_
  rintro ze w11 ⟨rfl, hc⟩
  replace E := Lib.hid (show Calm w w11 ∧ Af w11 g1 f0 f1 f2 f3 ∧ Af w11 g2 e0 e1 e2 e3 ∧ At w11 g3 a ∧ At w11 g4 b ∧ At w11 g5 c ∧ At w11 g6 d ∧ At w11 g7 x ∧ At w11 g8 x from ⟨E.out.1.trans (hc), Af.calm (E.out.2.1) (hc), Af.calm (E.out.2.2.1) (hc), At.calm (E.out.2.2.2.1) (hc), At.calm (E.out.2.2.2.2.1) (hc), At.calm (E.out.2.2.2.2.2.1) (hc), At.calm (E.out.2.2.2.2.2.2.1) (hc), At.calm (E.out.2.2.2.2.2.2.2.1) (hc), At.calm (E.out.2.2.2.2.2.2.2.2) (hc)⟩)
  clear hc
  obtain ⟨g1_0, g1_1, g1_2, g1_3⟩ := Af.four (E.out.2.1)
  obtain ⟨g2_0, g2_1, g2_2, g2_3⟩ := Af.four (E.out.2.2.1)
  obtain ⟨g3_0, g3_1, g3_2, g3_3⟩ := At.two (E.out.2.2.2.1)
  obtain ⟨g4_0, g4_1, g4_2, g4_3⟩ := At.two (E.out.2.2.2.2.1)
  obtain ⟨g5_0, g5_1, g5_2, g5_3⟩ := At.two (E.out.2.2.2.2.2.1)
  obtain ⟨g6_0, g6_1, g6_2, g6_3⟩ := At.two (E.out.2.2.2.2.2.2.1)
  obtain ⟨g7_0, g7_1, g7_2, g7_3⟩ := At.two (E.out.2.2.2.2.2.2.2.1)
  obtain ⟨g8_0, g8_1, g8_2, g8_3⟩ := At.two (E.out.2.2.2.2.2.2.2.2)
  go_upto_region 11 with fail
  clear g1_0 g1_1 g1_2 g1_3 g2_0 g2_1 g2_2 g2_3 g3_0 g3_1 g3_2 g3_3 g4_0 g4_1 g4_2 g4_3 g5_0 g5_1 g5_2 g5_3 g6_0 g6_1 g6_2 g6_3 g7_0 g7_1 g7_2 g7_3 g8_0 g8_1 g8_2 g8_3
  have hC : Calm w11 (w11.alloc (.cells #[.int .u64 (p.lo : Int), .int .u64 (p.hi : Int)] 27)) := (Keep.refl _ _).alloc _
  have hA : At (w11.alloc (.cells #[.int .u64 (p.lo : Int), .int .u64 (p.hi : Int)] 27)) w11.heap.size p := Row.made w11 _ _
  have hO : w.heap.size ≤ w11.heap.size ∧ g1 < w11.heap.size ∧ g2 < w11.heap.size ∧ g3 < w11.heap.size ∧ g4 < w11.heap.size ∧ g5 < w11.heap.size ∧ g6 < w11.heap.size ∧ g7 < w11.heap.size ∧ g8 < w11.heap.size := ⟨E.out.1.size, Af.lt (E.out.2.1), Af.lt (E.out.2.2.1), At.lt (E.out.2.2.2.1), At.lt (E.out.2.2.2.2.1), At.lt (E.out.2.2.2.2.2.1), At.lt (E.out.2.2.2.2.2.2.1), At.lt (E.out.2.2.2.2.2.2.2.1), At.lt (E.out.2.2.2.2.2.2.2.2)⟩
  obtain ⟨g9, hg9⟩ : ∃ zg, zg = w11.heap.size := ⟨_, rfl⟩
  obtain ⟨w12, hw12⟩ : ∃ zz, zz = w11.alloc (.cells #[.int .u64 (p.lo : Int), .int .u64 (p.hi : Int)] 27) := ⟨_, rfl⟩
  replace hO : w.heap.size ≤ g9 ∧ g1 < g9 ∧ g2 < g9 ∧ g3 < g9 ∧ g4 < g9 ∧ g5 < g9 ∧ g6 < g9 ∧ g7 < g9 ∧ g8 < g9 := by rw [hg9]; exact hO
  rw [← hg9] at hA ⊢
  rw [← hw12] at hA hC ⊢
  clear hg9 hw12
  have O9 := Lib.hid hO
  clear hO
  replace E := Lib.hid (show Calm w w12 ∧ Af w12 g1 f0 f1 f2 f3 ∧ Af w12 g2 e0 e1 e2 e3 ∧ At w12 g3 a ∧ At w12 g4 b ∧ At w12 g5 c ∧ At w12 g6 d ∧ At w12 g7 x ∧ At w12 g8 x from ⟨E.out.1.trans (hC), Af.calm (E.out.2.1) (hC), Af.calm (E.out.2.2.1) (hC), At.calm (E.out.2.2.2.1) (hC), At.calm (E.out.2.2.2.2.1) (hC), At.calm (E.out.2.2.2.2.2.1) (hC), At.calm (E.out.2.2.2.2.2.2.1) (hC), At.calm (E.out.2.2.2.2.2.2.2.1) (hC), At.calm (E.out.2.2.2.2.2.2.2.2) (hC)⟩)
  replace E := Lib.hid (show Calm w w12 ∧ Af w12 g1 f0 f1 f2 f3 ∧ Af w12 g2 e0 e1 e2 e3 ∧ At w12 g3 a ∧ At w12 g4 b ∧ At w12 g5 c ∧ At w12 g6 d ∧ At w12 g7 x ∧ At w12 g8 x ∧ At w12 g9 p from ⟨E.out.1, E.out.2.1, E.out.2.2.1, E.out.2.2.2.1, E.out.2.2.2.2.1, E.out.2.2.2.2.2.1, E.out.2.2.2.2.2.2.1, E.out.2.2.2.2.2.2.2.1, E.out.2.2.2.2.2.2.2.2, hA⟩)
  clear hC hA
  obtain ⟨g1_0, g1_1, g1_2, g1_3⟩ := Af.four (E.out.2.1)
  obtain ⟨g2_0, g2_1, g2_2, g2_3⟩ := Af.four (E.out.2.2.1)
  obtain ⟨g3_0, g3_1, g3_2, g3_3⟩ := At.two (E.out.2.2.2.1)
  obtain ⟨g4_0, g4_1, g4_2, g4_3⟩ := At.two (E.out.2.2.2.2.1)
  obtain ⟨g5_0, g5_1, g5_2, g5_3⟩ := At.two (E.out.2.2.2.2.2.1)
  obtain ⟨g6_0, g6_1, g6_2, g6_3⟩ := At.two (E.out.2.2.2.2.2.2.1)
  obtain ⟨g7_0, g7_1, g7_2, g7_3⟩ := At.two (E.out.2.2.2.2.2.2.2.1)
  obtain ⟨g8_0, g8_1, g8_2, g8_3⟩ := At.two (E.out.2.2.2.2.2.2.2.2.1)
  obtain ⟨g9_0, g9_1, g9_2, g9_3⟩ := At.two (E.out.2.2.2.2.2.2.2.2.2)
  go_wp2_with fail
  clear g1_0 g1_1 g1_2 g1_3 g2_0 g2_1 g2_2 g2_3 g3_0 g3_1 g3_2 g3_3 g4_0 g4_1 g4_2 g4_3 g5_0 g5_1 g5_2 g5_3 g6_0 g6_1 g6_2 g6_3 g7_0 g7_1 g7_2 g7_3 g8_0 g8_1 g8_2 g8_3 g9_0 g9_1 g9_2 g9_3
  refine (KQ.out _).mono ?_
  rintro ze w13 ⟨rfl, hc⟩
  replace E := Lib.hid (show Calm w w13 ∧ Af w13 g1 f0 f1 f2 f3 ∧ Af w13 g2 e0 e1 e2 e3 ∧ At w13 g3 a ∧ At w13 g4 b ∧ At w13 g5 c ∧ At w13 g6 d ∧ At w13 g7 x ∧ At w13 g8 x ∧ At w13 g9 p from ⟨E.out.1.trans (hc), Af.calm (E.out.2.1) (hc), Af.calm (E.out.2.2.1) (hc), At.calm (E.out.2.2.2.1) (hc), At.calm (E.out.2.2.2.2.1) (hc), At.calm (E.out.2.2.2.2.2.1) (hc), At.calm (E.out.2.2.2.2.2.2.1) (hc), At.calm (E.out.2.2.2.2.2.2.2.1) (hc), At.calm (E.out.2.2.2.2.2.2.2.2.1) (hc), At.calm (E.out.2.2.2.2.2.2.2.2.2) (hc)⟩)
  clear hc
  obtain ⟨g1_0, g1_1, g1_2, g1_3⟩ := Af.four (E.out.2.1)
  obtain ⟨g2_0, g2_1, g2_2, g2_3⟩ := Af.four (E.out.2.2.1)
  obtain ⟨g3_0, g3_1, g3_2, g3_3⟩ := At.two (E.out.2.2.2.1)
  obtain ⟨g4_0, g4_1, g4_2, g4_3⟩ := At.two (E.out.2.2.2.2.1)
  obtain ⟨g5_0, g5_1, g5_2, g5_3⟩ := At.two (E.out.2.2.2.2.2.1)
  obtain ⟨g6_0, g6_1, g6_2, g6_3⟩ := At.two (E.out.2.2.2.2.2.2.1)
  obtain ⟨g7_0, g7_1, g7_2, g7_3⟩ := At.two (E.out.2.2.2.2.2.2.2.1)
  obtain ⟨g8_0, g8_1, g8_2, g8_3⟩ := At.two (E.out.2.2.2.2.2.2.2.2.1)
  obtain ⟨g9_0, g9_1, g9_2, g9_3⟩ := At.two (E.out.2.2.2.2.2.2.2.2.2)
  go_upto_region 12 with fail
  clear g1_0 g1_1 g1_2 g1_3 g2_0 g2_1 g2_2 g2_3 g3_0 g3_1 g3_2 g3_3 g4_0 g4_1 g4_2 g4_3 g5_0 g5_1 g5_2 g5_3 g6_0 g6_1 g6_2 g6_3 g7_0 g7_1 g7_2 g7_3 g8_0 g8_1 g8_2 g8_3 g9_0 g9_1 g9_2 g9_3
  have hC : Calm w13 (w13.alloc (.cells #[.int .u64 (q.lo : Int), .int .u64 (q.hi : Int)] 27)) := (Keep.refl _ _).alloc _
  have hA : At (w13.alloc (.cells #[.int .u64 (q.lo : Int), .int .u64 (q.hi : Int)] 27)) w13.heap.size q := Row.made w13 _ _
  have hO : w.heap.size ≤ w13.heap.size ∧ g1 < w13.heap.size ∧ g2 < w13.heap.size ∧ g3 < w13.heap.size ∧ g4 < w13.heap.size ∧ g5 < w13.heap.size ∧ g6 < w13.heap.size ∧ g7 < w13.heap.size ∧ g8 < w13.heap.size ∧ g9 < w13.heap.size := ⟨E.out.1.size, Af.lt (E.out.2.1), Af.lt (E.out.2.2.1), At.lt (E.out.2.2.2.1), At.lt (E.out.2.2.2.2.1), At.lt (E.out.2.2.2.2.2.1), At.lt (E.out.2.2.2.2.2.2.1), At.lt (E.out.2.2.2.2.2.2.2.1), At.lt (E.out.2.2.2.2.2.2.2.2.1), At.lt (E.out.2.2.2.2.2.2.2.2.2)⟩
  obtain ⟨g10, hg10⟩ : ∃ zg, zg = w13.heap.size := ⟨_, rfl⟩
  obtain ⟨w14, hw14⟩ : ∃ zz, zz = w13.alloc (.cells #[.int .u64 (q.lo : Int), .int .u64 (q.hi : Int)] 27) := ⟨_, rfl⟩
  replace hO : w.heap.size ≤ g10 ∧ g1 < g10 ∧ g2 < g10 ∧ g3 < g10 ∧ g4 < g10 ∧ g5 < g10 ∧ g6 < g10 ∧ g7 < g10 ∧ g8 < g10 ∧ g9 < g10 := by rw [hg10]; exact hO
  rw [← hg10] at hA ⊢
  rw [← hw14] at hA hC ⊢
  clear hg10 hw14
  have O10 := Lib.hid hO
  clear hO
  replace E := Lib.hid (show Calm w w14 ∧ Af w14 g1 f0 f1 f2 f3 ∧ Af w14 g2 e0 e1 e2 e3 ∧ At w14 g3 a ∧ At w14 g4 b ∧ At w14 g5 c ∧ At w14 g6 d ∧ At w14 g7 x ∧ At w14 g8 x ∧ At w14 g9 p from ⟨E.out.1.trans (hC), Af.calm (E.out.2.1) (hC), Af.calm (E.out.2.2.1) (hC), At.calm (E.out.2.2.2.1) (hC), At.calm (E.out.2.2.2.2.1) (hC), At.calm (E.out.2.2.2.2.2.1) (hC), At.calm (E.out.2.2.2.2.2.2.1) (hC), At.calm (E.out.2.2.2.2.2.2.2.1) (hC), At.calm (E.out.2.2.2.2.2.2.2.2.1) (hC), At.calm (E.out.2.2.2.2.2.2.2.2.2) (hC)⟩)
  replace E := Lib.hid (show Calm w w14 ∧ Af w14 g1 f0 f1 f2 f3 ∧ Af w14 g2 e0 e1 e2 e3 ∧ At w14 g3 a ∧ At w14 g4 b ∧ At w14 g5 c ∧ At w14 g6 d ∧ At w14 g7 x ∧ At w14 g8 x ∧ At w14 g9 p ∧ At w14 g10 q from ⟨E.out.1, E.out.2.1, E.out.2.2.1, E.out.2.2.2.1, E.out.2.2.2.2.1, E.out.2.2.2.2.2.1, E.out.2.2.2.2.2.2.1, E.out.2.2.2.2.2.2.2.1, E.out.2.2.2.2.2.2.2.2.1, E.out.2.2.2.2.2.2.2.2.2, hA⟩)
  clear hC hA
  obtain ⟨g1_0, g1_1, g1_2, g1_3⟩ := Af.four (E.out.2.1)
  obtain ⟨g2_0, g2_1, g2_2, g2_3⟩ := Af.four (E.out.2.2.1)
  obtain ⟨g3_0, g3_1, g3_2, g3_3⟩ := At.two (E.out.2.2.2.1)
  obtain ⟨g4_0, g4_1, g4_2, g4_3⟩ := At.two (E.out.2.2.2.2.1)
  obtain ⟨g5_0, g5_1, g5_2, g5_3⟩ := At.two (E.out.2.2.2.2.2.1)
  obtain ⟨g6_0, g6_1, g6_2, g6_3⟩ := At.two (E.out.2.2.2.2.2.2.1)
  obtain ⟨g7_0, g7_1, g7_2, g7_3⟩ := At.two (E.out.2.2.2.2.2.2.2.1)
  obtain ⟨g8_0, g8_1, g8_2, g8_3⟩ := At.two (E.out.2.2.2.2.2.2.2.2.1)
  obtain ⟨g9_0, g9_1, g9_2, g9_3⟩ := At.two (E.out.2.2.2.2.2.2.2.2.2.1)
  obtain ⟨g10_0, g10_1, g10_2, g10_3⟩ := At.two (E.out.2.2.2.2.2.2.2.2.2.2)
  go_wp2_with fail
  clear g1_0 g1_1 g1_2 g1_3 g2_0 g2_1 g2_2 g2_3 g3_0 g3_1 g3_2 g3_3 g4_0 g4_1 g4_2 g4_3 g5_0 g5_1 g5_2 g5_3 g6_0 g6_1 g6_2 g6_3 g7_0 g7_1 g7_2 g7_3 g8_0 g8_1 g8_2 g8_3 g9_0 g9_1 g9_2 g9_3 g10_0 g10_1 g10_2 g10_3
  refine (KR.out _).mono ?_
  rintro ze w15 ⟨rfl, hc⟩
  replace E := Lib.hid (show Calm w w15 ∧ Af w15 g1 f0 f1 f2 f3 ∧ Af w15 g2 e0 e1 e2 e3 ∧ At w15 g3 a ∧ At w15 g4 b ∧ At w15 g5 c ∧ At w15 g6 d ∧ At w15 g7 x ∧ At w15 g8 x ∧ At w15 g9 p ∧ At w15 g10 q from ⟨E.out.1.trans (hc), Af.calm (E.out.2.1) (hc), Af.calm (E.out.2.2.1) (hc), At.calm (E.out.2.2.2.1) (hc), At.calm (E.out.2.2.2.2.1) (hc), At.calm (E.out.2.2.2.2.2.1) (hc), At.calm (E.out.2.2.2.2.2.2.1) (hc), At.calm (E.out.2.2.2.2.2.2.2.1) (hc), At.calm (E.out.2.2.2.2.2.2.2.2.1) (hc), At.calm (E.out.2.2.2.2.2.2.2.2.2.1) (hc), At.calm (E.out.2.2.2.2.2.2.2.2.2.2) (hc)⟩)
  clear hc
  obtain ⟨g1_0, g1_1, g1_2, g1_3⟩ := Af.four (E.out.2.1)
  obtain ⟨g2_0, g2_1, g2_2, g2_3⟩ := Af.four (E.out.2.2.1)
  obtain ⟨g3_0, g3_1, g3_2, g3_3⟩ := At.two (E.out.2.2.2.1)
  obtain ⟨g4_0, g4_1, g4_2, g4_3⟩ := At.two (E.out.2.2.2.2.1)
  obtain ⟨g5_0, g5_1, g5_2, g5_3⟩ := At.two (E.out.2.2.2.2.2.1)
  obtain ⟨g6_0, g6_1, g6_2, g6_3⟩ := At.two (E.out.2.2.2.2.2.2.1)
  obtain ⟨g7_0, g7_1, g7_2, g7_3⟩ := At.two (E.out.2.2.2.2.2.2.2.1)
  obtain ⟨g8_0, g8_1, g8_2, g8_3⟩ := At.two (E.out.2.2.2.2.2.2.2.2.1)
  obtain ⟨g9_0, g9_1, g9_2, g9_3⟩ := At.two (E.out.2.2.2.2.2.2.2.2.2.1)
  obtain ⟨g10_0, g10_1, g10_2, g10_3⟩ := At.two (E.out.2.2.2.2.2.2.2.2.2.2)
  go_upto_region 14 with fail
  clear g1_0 g1_1 g1_2 g1_3 g2_0 g2_1 g2_2 g2_3 g3_0 g3_1 g3_2 g3_3 g4_0 g4_1 g4_2 g4_3 g5_0 g5_1 g5_2 g5_3 g6_0 g6_1 g6_2 g6_3 g7_0 g7_1 g7_2 g7_3 g8_0 g8_1 g8_2 g8_3 g9_0 g9_1 g9_2 g9_3 g10_0 g10_1 g10_2 g10_3
  replace E := Lib.hid (show Calm w ((w15.setCell ⟨g10, 0, none⟩ (.int .u64 (p.lo : Int))).setCell ⟨g10, 1, none⟩ (.int .u64 (p.hi : Int))) ∧ Af ((w15.setCell ⟨g10, 0, none⟩ (.int .u64 (p.lo : Int))).setCell ⟨g10, 1, none⟩ (.int .u64 (p.hi : Int))) g1 f0 f1 f2 f3 ∧ Af ((w15.setCell ⟨g10, 0, none⟩ (.int .u64 (p.lo : Int))).setCell ⟨g10, 1, none⟩ (.int .u64 (p.hi : Int))) g2 e0 e1 e2 e3 ∧ At ((w15.setCell ⟨g10, 0, none⟩ (.int .u64 (p.lo : Int))).setCell ⟨g10, 1, none⟩ (.int .u64 (p.hi : Int))) g3 a ∧ At ((w15.setCell ⟨g10, 0, none⟩ (.int .u64 (p.lo : Int))).setCell ⟨g10, 1, none⟩ (.int .u64 (p.hi : Int))) g4 b ∧ At ((w15.setCell ⟨g10, 0, none⟩ (.int .u64 (p.lo : Int))).setCell ⟨g10, 1, none⟩ (.int .u64 (p.hi : Int))) g5 c ∧ At ((w15.setCell ⟨g10, 0, none⟩ (.int .u64 (p.lo : Int))).setCell ⟨g10, 1, none⟩ (.int .u64 (p.hi : Int))) g6 d ∧ At ((w15.setCell ⟨g10, 0, none⟩ (.int .u64 (p.lo : Int))).setCell ⟨g10, 1, none⟩ (.int .u64 (p.hi : Int))) g7 x ∧ At ((w15.setCell ⟨g10, 0, none⟩ (.int .u64 (p.lo : Int))).setCell ⟨g10, 1, none⟩ (.int .u64 (p.hi : Int))) g8 x ∧ At ((w15.setCell ⟨g10, 0, none⟩ (.int .u64 (p.lo : Int))).setCell ⟨g10, 1, none⟩ (.int .u64 (p.hi : Int))) g9 p ∧ At ((w15.setCell ⟨g10, 0, none⟩ (.int .u64 (p.lo : Int))).setCell ⟨g10, 1, none⟩ (.int .u64 (p.hi : Int))) g10 p from ⟨Keep.both (E.out.1) (by have := O10.out; omega) _ _, Af.aside (E.out.2.1) (by have := O10.out; omega) _ _, Af.aside (E.out.2.2.1) (by have := O10.out; omega) _ _, At.aside (E.out.2.2.2.1) (by have := O10.out; omega) _ _, At.aside (E.out.2.2.2.2.1) (by have := O10.out; omega) _ _, At.aside (E.out.2.2.2.2.2.1) (by have := O10.out; omega) _ _, At.aside (E.out.2.2.2.2.2.2.1) (by have := O10.out; omega) _ _, At.aside (E.out.2.2.2.2.2.2.2.1) (by have := O10.out; omega) _ _, At.aside (E.out.2.2.2.2.2.2.2.2.1) (by have := O10.out; omega) _ _, At.aside (E.out.2.2.2.2.2.2.2.2.2.1) (by have := O10.out; omega) _ _, At.both (E.out.2.2.2.2.2.2.2.2.2.2) p⟩)
  obtain ⟨w16, hw16⟩ : ∃ zz, zz = (w15.setCell ⟨g10, 0, none⟩ (.int .u64 (p.lo : Int))).setCell ⟨g10, 1, none⟩ (.int .u64 (p.hi : Int)) := ⟨_, rfl⟩
  rw [← hw16] at E ⊢
  clear hw16
  obtain ⟨g1_0, g1_1, g1_2, g1_3⟩ := Af.four (E.out.2.1)
  obtain ⟨g2_0, g2_1, g2_2, g2_3⟩ := Af.four (E.out.2.2.1)
  obtain ⟨g3_0, g3_1, g3_2, g3_3⟩ := At.two (E.out.2.2.2.1)
  obtain ⟨g4_0, g4_1, g4_2, g4_3⟩ := At.two (E.out.2.2.2.2.1)
  obtain ⟨g5_0, g5_1, g5_2, g5_3⟩ := At.two (E.out.2.2.2.2.2.1)
  obtain ⟨g6_0, g6_1, g6_2, g6_3⟩ := At.two (E.out.2.2.2.2.2.2.1)
  obtain ⟨g7_0, g7_1, g7_2, g7_3⟩ := At.two (E.out.2.2.2.2.2.2.2.1)
  obtain ⟨g8_0, g8_1, g8_2, g8_3⟩ := At.two (E.out.2.2.2.2.2.2.2.2.1)
  obtain ⟨g9_0, g9_1, g9_2, g9_3⟩ := At.two (E.out.2.2.2.2.2.2.2.2.2.1)
  obtain ⟨g10_0, g10_1, g10_2, g10_3⟩ := At.two (E.out.2.2.2.2.2.2.2.2.2.2)
  go_wp2_with fail
  clear g1_0 g1_1 g1_2 g1_3 g2_0 g2_1 g2_2 g2_3 g3_0 g3_1 g3_2 g3_3 g4_0 g4_1 g4_2 g4_3 g5_0 g5_1 g5_2 g5_3 g6_0 g6_1 g6_2 g6_3 g7_0 g7_1 g7_2 g7_3 g8_0 g8_1 g8_2 g8_3 g9_0 g9_1 g9_2 g9_3 g10_0 g10_1 g10_2 g10_3
  go_returns
  exact ⟨rfl, E.out.1⟩

set_option maxHeartbeats 6400000 in
set_option maxRecDepth 20000 in
theorem spanMeets_ttf {a b c : Sp} {f0 f1 f2 f3 e0 e1 e2 e3 : Nat} (oka : a.Ok) (okb : b.Ok) (ea : a = rS f0 f1) (eb : b = rS f2 f3) (ec : c = rS e0 e1) (h1 : (meetS a b).2 = true) (h2 : (meetS b c).2 = true) (h3 : (meetS (meetS a b).1 c).2 = false) (w : World) : Calls Try.prog 10 #[.agg #[.int .u64 (f0 : Int), .int .u64 (f1 : Int), .int .u64 (f2 : Int), .int .u64 (f3 : Int)], .agg #[.int .u64 (e0 : Int), .int .u64 (e1 : Int), .int .u64 (e2 : Int), .int .u64 (e3 : Int)]] w fun e w' => e = .returned (.bool true) ∧ Calm w w' := by
  obtain ⟨d, ed⟩ : ∃ d, d = rS e2 e3 := ⟨_, rfl⟩
  obtain ⟨x, ex⟩ : ∃ x, x = (meetS a b).1 := ⟨_, rfl⟩
  have KA : Hid (∀ w, Calls Try.prog 12 #[.agg #[.int .u64 (f0 : Int), .int .u64 (f1 : Int), .int .u64 (f2 : Int), .int .u64 (f3 : Int)]] w fun z w' => z = .returned (.tuple #[.agg #[.int .u64 (a.lo : Int), .int .u64 (a.hi : Int)], .agg #[.int .u64 (b.lo : Int), .int .u64 (b.hi : Int)]]) ∧ Calm w w') := Lib.hid (by rw [ea, eb]; exact fun w => spans8_c w f0 f1 f2 f3)
  have KB : Hid (∀ w, Calls Try.prog 12 #[.agg #[.int .u64 (e0 : Int), .int .u64 (e1 : Int), .int .u64 (e2 : Int), .int .u64 (e3 : Int)]] w fun z w' => z = .returned (.tuple #[.agg #[.int .u64 (c.lo : Int), .int .u64 (c.hi : Int)], .agg #[.int .u64 (d.lo : Int), .int .u64 (d.hi : Int)]]) ∧ Calm w w') := Lib.hid (by rw [ec, ed]; exact fun w => spans8_c w e0 e1 e2 e3)
  have KX : Hid (∀ w, Calls Try.prog 18 #[.agg #[.int .u64 (a.lo : Int), .int .u64 (a.hi : Int)], .agg #[.int .u64 (b.lo : Int), .int .u64 (b.hi : Int)]] w fun z w' => z = .returned (.tuple #[.agg #[.int .u64 (x.lo : Int), .int .u64 (x.hi : Int)], .bool true]) ∧ Calm w w') := Lib.hid (by rw [ex, ← h1]; exact fun w => pmeet_c a b w)
  have KY : Hid (∀ w, Calls Try.prog 18 #[.agg #[.int .u64 (b.lo : Int), .int .u64 (b.hi : Int)], .agg #[.int .u64 (a.lo : Int), .int .u64 (a.hi : Int)]] w fun z w' => z = .returned (.tuple #[.agg #[.int .u64 (x.lo : Int), .int .u64 (x.hi : Int)], .bool true]) ∧ Calm w w') := Lib.hid (by rw [ex, ← h1, meet_comm a b]; exact fun w => pmeet_c b a w)
  have KJ : Hid (∀ w, Calls Try.prog 20 #[.agg #[.int .u64 (x.lo : Int), .int .u64 (x.hi : Int)], .agg #[.int .u64 (a.lo : Int), .int .u64 (a.hi : Int)]] w fun z w' => z = .returned (.agg #[.int .u64 (a.lo : Int), .int .u64 (a.hi : Int)]) ∧ Calm w w') := Lib.hid fun w => by
    have k := pjoin_c x a w
    rw [show joinS x a = a from by rw [ex]; exact join_meet1 h1 oka okb] at k
    exact k
  have KL : Hid (∀ w, Calls Try.prog 20 #[.agg #[.int .u64 (x.lo : Int), .int .u64 (x.hi : Int)], .agg #[.int .u64 (b.lo : Int), .int .u64 (b.hi : Int)]] w fun z w' => z = .returned (.agg #[.int .u64 (b.lo : Int), .int .u64 (b.hi : Int)]) ∧ Calm w w') := Lib.hid fun w => by
    have k := pjoin_c x b w
    rw [show joinS x b = b from by rw [ex]; exact join_meet2 h1 oka okb] at k
    exact k
  obtain ⟨p, ep⟩ : ∃ p, p = (meetS x c).1 := ⟨_, rfl⟩
  obtain ⟨q, eq⟩ : ∃ q, q = (meetS b c).1 := ⟨_, rfl⟩
  have KP : Hid (∀ w, Calls Try.prog 18 #[.agg #[.int .u64 (x.lo : Int), .int .u64 (x.hi : Int)], .agg #[.int .u64 (c.lo : Int), .int .u64 (c.hi : Int)]] w fun z w' => z = .returned (.tuple #[.agg #[.int .u64 (p.lo : Int), .int .u64 (p.hi : Int)], .bool false]) ∧ Calm w w') := Lib.hid fun w => by
    have k := pmeet_c x c w
    rw [show (meetS x c).2 = false from by rw [ex]; exact h3, ← ep] at k
    exact k
  have KQ : Hid (∀ w, Calls Try.prog 18 #[.agg #[.int .u64 (b.lo : Int), .int .u64 (b.hi : Int)], .agg #[.int .u64 (c.lo : Int), .int .u64 (c.hi : Int)]] w fun z w' => z = .returned (.tuple #[.agg #[.int .u64 (q.lo : Int), .int .u64 (q.hi : Int)], .bool true]) ∧ Calm w w') := Lib.hid (by rw [eq, ← h2]; exact fun w => pmeet_c b c w)
  have KR : Hid (∀ w, Calls Try.prog 18 #[.agg #[.int .u64 (a.lo : Int), .int .u64 (a.hi : Int)], .agg #[.int .u64 (q.lo : Int), .int .u64 (q.hi : Int)]] w fun z w' => z = .returned (.tuple #[.agg #[.int .u64 (p.lo : Int), .int .u64 (p.hi : Int)], .bool false]) ∧ Calm w w') := Lib.hid fun w => by
    have k := pmeet_c a q w
    rw [show meetS a q = meetS x c from by rw [ex, eq]; exact (meet_assoc h1 h2).symm, show (meetS x c).2 = false from by rw [ex]; exact h3, ← ep] at k
    exact k
  clear h1 oka okb ea eb ec ed ex ep eq h2 h3
  go_enter Try.func10, Try.ntmps10
  have E := Lib.hid (show Calm w w from Keep.refl _ _)
  go_upto_region 1 with fail
  have hC : Calm w ((w.alloc (.cells #[.int .u64 (f0 : Int), .int .u64 (f1 : Int), .int .u64 (f2 : Int), .int .u64 (f3 : Int)] 24)).alloc (.cells #[.int .u64 (e0 : Int), .int .u64 (e1 : Int), .int .u64 (e2 : Int), .int .u64 (e3 : Int)] 24)) := ((Keep.refl _ _).alloc _).alloc _
  have hA : Af ((w.alloc (.cells #[.int .u64 (f0 : Int), .int .u64 (f1 : Int), .int .u64 (f2 : Int), .int .u64 (f3 : Int)] 24)).alloc (.cells #[.int .u64 (e0 : Int), .int .u64 (e1 : Int), .int .u64 (e2 : Int), .int .u64 (e3 : Int)] 24)) w.heap.size f0 f1 f2 f3 := (Row.made w _ _).alloc _
  have hB : Af ((w.alloc (.cells #[.int .u64 (f0 : Int), .int .u64 (f1 : Int), .int .u64 (f2 : Int), .int .u64 (f3 : Int)] 24)).alloc (.cells #[.int .u64 (e0 : Int), .int .u64 (e1 : Int), .int .u64 (e2 : Int), .int .u64 (e3 : Int)] 24)) (w.heap.size + 1) e0 e1 e2 e3 := by
    have e : Af ((w.alloc (.cells #[.int .u64 (f0 : Int), .int .u64 (f1 : Int), .int .u64 (f2 : Int), .int .u64 (f3 : Int)] 24)).alloc (.cells #[.int .u64 (e0 : Int), .int .u64 (e1 : Int), .int .u64 (e2 : Int), .int .u64 (e3 : Int)] 24)) (w.alloc (.cells #[.int .u64 (f0 : Int), .int .u64 (f1 : Int), .int .u64 (f2 : Int), .int .u64 (f3 : Int)] 24)).heap.size e0 e1 e2 e3 := Row.made _ _ _
    simp only [World.size_alloc] at e
    exact e
  have hO : w.heap.size ≤ w.heap.size := E.out.size
  obtain ⟨g1, hg1⟩ : ∃ zg, zg = w.heap.size := ⟨_, rfl⟩
  obtain ⟨w1, hw1⟩ : ∃ zz, zz = (w.alloc (.cells #[.int .u64 (f0 : Int), .int .u64 (f1 : Int), .int .u64 (f2 : Int), .int .u64 (f3 : Int)] 24)).alloc (.cells #[.int .u64 (e0 : Int), .int .u64 (e1 : Int), .int .u64 (e2 : Int), .int .u64 (e3 : Int)] 24) := ⟨_, rfl⟩
  replace hO : w.heap.size ≤ g1 := by rw [hg1]; exact hO
  rw [← hg1] at hA hB ⊢
  rw [← hw1] at hA hB hC ⊢
  clear hg1 hw1
  obtain ⟨g2, hg2⟩ : ∃ zg, zg = g1 + 1 := ⟨_, rfl⟩
  rw [← hg2] at hB ⊢
  have O1 := Lib.hid hO
  have O2 : Hid (w.heap.size ≤ g2 ∧ g1 < g2) := Lib.hid (by have := O1.out; omega)
  clear hO
  clear hg2
  replace E := Lib.hid (show Calm w w1 from E.out.trans (hC))
  replace E := Lib.hid (show Calm w w1 ∧ Af w1 g1 f0 f1 f2 f3 ∧ Af w1 g2 e0 e1 e2 e3 from ⟨E.out, hA, hB⟩)
  clear hC hA hB
  obtain ⟨g1_0, g1_1, g1_2, g1_3⟩ := Af.four (E.out.2.1)
  obtain ⟨g2_0, g2_1, g2_2, g2_3⟩ := Af.four (E.out.2.2)
  go_wp2_with fail
  clear g1_0 g1_1 g1_2 g1_3 g2_0 g2_1 g2_2 g2_3
  refine (shown8_c _).mono ?_
  rintro ze w2 ⟨rfl, hc⟩
  replace E := Lib.hid (show Calm w w2 ∧ Af w2 g1 f0 f1 f2 f3 ∧ Af w2 g2 e0 e1 e2 e3 from ⟨E.out.1.trans (hc), Af.calm (E.out.2.1) (hc), Af.calm (E.out.2.2) (hc)⟩)
  clear hc
  obtain ⟨g1_0, g1_1, g1_2, g1_3⟩ := Af.four (E.out.2.1)
  obtain ⟨g2_0, g2_1, g2_2, g2_3⟩ := Af.four (E.out.2.2)
  go_wp2_with fail
  clear g1_0 g1_1 g1_2 g1_3 g2_0 g2_1 g2_2 g2_3
  refine (KA.out _).mono ?_
  rintro ze w3 ⟨rfl, hc⟩
  replace E := Lib.hid (show Calm w w3 ∧ Af w3 g1 f0 f1 f2 f3 ∧ Af w3 g2 e0 e1 e2 e3 from ⟨E.out.1.trans (hc), Af.calm (E.out.2.1) (hc), Af.calm (E.out.2.2) (hc)⟩)
  clear hc
  obtain ⟨g1_0, g1_1, g1_2, g1_3⟩ := Af.four (E.out.2.1)
  obtain ⟨g2_0, g2_1, g2_2, g2_3⟩ := Af.four (E.out.2.2)
  go_upto_region 3 with fail
  clear g1_0 g1_1 g1_2 g1_3 g2_0 g2_1 g2_2 g2_3
  have hC : Calm w3 ((w3.alloc (.cells #[.int .u64 (a.lo : Int), .int .u64 (a.hi : Int)] 27)).alloc (.cells #[.int .u64 (b.lo : Int), .int .u64 (b.hi : Int)] 27)) := ((Keep.refl _ _).alloc _).alloc _
  have hA : At ((w3.alloc (.cells #[.int .u64 (a.lo : Int), .int .u64 (a.hi : Int)] 27)).alloc (.cells #[.int .u64 (b.lo : Int), .int .u64 (b.hi : Int)] 27)) w3.heap.size a := (Row.made w3 _ _).alloc _
  have hB : At ((w3.alloc (.cells #[.int .u64 (a.lo : Int), .int .u64 (a.hi : Int)] 27)).alloc (.cells #[.int .u64 (b.lo : Int), .int .u64 (b.hi : Int)] 27)) (w3.heap.size + 1) b := by
    have e : At ((w3.alloc (.cells #[.int .u64 (a.lo : Int), .int .u64 (a.hi : Int)] 27)).alloc (.cells #[.int .u64 (b.lo : Int), .int .u64 (b.hi : Int)] 27)) (w3.alloc (.cells #[.int .u64 (a.lo : Int), .int .u64 (a.hi : Int)] 27)).heap.size b := Row.made _ _ _
    simp only [World.size_alloc] at e
    exact e
  have hO : w.heap.size ≤ w3.heap.size ∧ g1 < w3.heap.size ∧ g2 < w3.heap.size := ⟨E.out.1.size, Af.lt (E.out.2.1), Af.lt (E.out.2.2)⟩
  obtain ⟨g3, hg3⟩ : ∃ zg, zg = w3.heap.size := ⟨_, rfl⟩
  obtain ⟨w4, hw4⟩ : ∃ zz, zz = (w3.alloc (.cells #[.int .u64 (a.lo : Int), .int .u64 (a.hi : Int)] 27)).alloc (.cells #[.int .u64 (b.lo : Int), .int .u64 (b.hi : Int)] 27) := ⟨_, rfl⟩
  replace hO : w.heap.size ≤ g3 ∧ g1 < g3 ∧ g2 < g3 := by rw [hg3]; exact hO
  rw [← hg3] at hA hB ⊢
  rw [← hw4] at hA hB hC ⊢
  clear hg3 hw4
  obtain ⟨g4, hg4⟩ : ∃ zg, zg = g3 + 1 := ⟨_, rfl⟩
  rw [← hg4] at hB ⊢
  have O3 := Lib.hid hO
  have O4 : Hid (w.heap.size ≤ g4 ∧ g1 < g4 ∧ g2 < g4 ∧ g3 < g4) := Lib.hid (by have := O3.out; omega)
  clear hO
  clear hg4
  replace E := Lib.hid (show Calm w w4 ∧ Af w4 g1 f0 f1 f2 f3 ∧ Af w4 g2 e0 e1 e2 e3 from ⟨E.out.1.trans (hC), Af.calm (E.out.2.1) (hC), Af.calm (E.out.2.2) (hC)⟩)
  replace E := Lib.hid (show Calm w w4 ∧ Af w4 g1 f0 f1 f2 f3 ∧ Af w4 g2 e0 e1 e2 e3 ∧ At w4 g3 a ∧ At w4 g4 b from ⟨E.out.1, E.out.2.1, E.out.2.2, hA, hB⟩)
  clear hC hA hB
  obtain ⟨g1_0, g1_1, g1_2, g1_3⟩ := Af.four (E.out.2.1)
  obtain ⟨g2_0, g2_1, g2_2, g2_3⟩ := Af.four (E.out.2.2.1)
  obtain ⟨g3_0, g3_1, g3_2, g3_3⟩ := At.two (E.out.2.2.2.1)
  obtain ⟨g4_0, g4_1, g4_2, g4_3⟩ := At.two (E.out.2.2.2.2)
  go_wp2_with fail
  clear g1_0 g1_1 g1_2 g1_3 g2_0 g2_1 g2_2 g2_3 g3_0 g3_1 g3_2 g3_3 g4_0 g4_1 g4_2 g4_3
  refine (KB.out _).mono ?_
  rintro ze w5 ⟨rfl, hc⟩
  replace E := Lib.hid (show Calm w w5 ∧ Af w5 g1 f0 f1 f2 f3 ∧ Af w5 g2 e0 e1 e2 e3 ∧ At w5 g3 a ∧ At w5 g4 b from ⟨E.out.1.trans (hc), Af.calm (E.out.2.1) (hc), Af.calm (E.out.2.2.1) (hc), At.calm (E.out.2.2.2.1) (hc), At.calm (E.out.2.2.2.2) (hc)⟩)
  clear hc
  obtain ⟨g1_0, g1_1, g1_2, g1_3⟩ := Af.four (E.out.2.1)
  obtain ⟨g2_0, g2_1, g2_2, g2_3⟩ := Af.four (E.out.2.2.1)
  obtain ⟨g3_0, g3_1, g3_2, g3_3⟩ := At.two (E.out.2.2.2.1)
  obtain ⟨g4_0, g4_1, g4_2, g4_3⟩ := At.two (E.out.2.2.2.2)
  go_upto_region 4 with fail
  clear g1_0 g1_1 g1_2 g1_3 g2_0 g2_1 g2_2 g2_3 g3_0 g3_1 g3_2 g3_3 g4_0 g4_1 g4_2 g4_3
  have hC : Calm w5 ((w5.alloc (.cells #[.int .u64 (c.lo : Int), .int .u64 (c.hi : Int)] 27)).alloc (.cells #[.int .u64 (d.lo : Int), .int .u64 (d.hi : Int)] 27)) := ((Keep.refl _ _).alloc _).alloc _
  have hA : At ((w5.alloc (.cells #[.int .u64 (c.lo : Int), .int .u64 (c.hi : Int)] 27)).alloc (.cells #[.int .u64 (d.lo : Int), .int .u64 (d.hi : Int)] 27)) w5.heap.size c := (Row.made w5 _ _).alloc _
  have hB : At ((w5.alloc (.cells #[.int .u64 (c.lo : Int), .int .u64 (c.hi : Int)] 27)).alloc (.cells #[.int .u64 (d.lo : Int), .int .u64 (d.hi : Int)] 27)) (w5.heap.size + 1) d := by
    have e : At ((w5.alloc (.cells #[.int .u64 (c.lo : Int), .int .u64 (c.hi : Int)] 27)).alloc (.cells #[.int .u64 (d.lo : Int), .int .u64 (d.hi : Int)] 27)) (w5.alloc (.cells #[.int .u64 (c.lo : Int), .int .u64 (c.hi : Int)] 27)).heap.size d := Row.made _ _ _
    simp only [World.size_alloc] at e
    exact e
  have hO : w.heap.size ≤ w5.heap.size ∧ g1 < w5.heap.size ∧ g2 < w5.heap.size ∧ g3 < w5.heap.size ∧ g4 < w5.heap.size := ⟨E.out.1.size, Af.lt (E.out.2.1), Af.lt (E.out.2.2.1), At.lt (E.out.2.2.2.1), At.lt (E.out.2.2.2.2)⟩
  obtain ⟨g5, hg5⟩ : ∃ zg, zg = w5.heap.size := ⟨_, rfl⟩
  obtain ⟨w6, hw6⟩ : ∃ zz, zz = (w5.alloc (.cells #[.int .u64 (c.lo : Int), .int .u64 (c.hi : Int)] 27)).alloc (.cells #[.int .u64 (d.lo : Int), .int .u64 (d.hi : Int)] 27) := ⟨_, rfl⟩
  replace hO : w.heap.size ≤ g5 ∧ g1 < g5 ∧ g2 < g5 ∧ g3 < g5 ∧ g4 < g5 := by rw [hg5]; exact hO
  rw [← hg5] at hA hB ⊢
  rw [← hw6] at hA hB hC ⊢
  clear hg5 hw6
  obtain ⟨g6, hg6⟩ : ∃ zg, zg = g5 + 1 := ⟨_, rfl⟩
  rw [← hg6] at hB ⊢
  have O5 := Lib.hid hO
  have O6 : Hid (w.heap.size ≤ g6 ∧ g1 < g6 ∧ g2 < g6 ∧ g3 < g6 ∧ g4 < g6 ∧ g5 < g6) := Lib.hid (by have := O5.out; omega)
  clear hO
  clear hg6
  replace E := Lib.hid (show Calm w w6 ∧ Af w6 g1 f0 f1 f2 f3 ∧ Af w6 g2 e0 e1 e2 e3 ∧ At w6 g3 a ∧ At w6 g4 b from ⟨E.out.1.trans (hC), Af.calm (E.out.2.1) (hC), Af.calm (E.out.2.2.1) (hC), At.calm (E.out.2.2.2.1) (hC), At.calm (E.out.2.2.2.2) (hC)⟩)
  replace E := Lib.hid (show Calm w w6 ∧ Af w6 g1 f0 f1 f2 f3 ∧ Af w6 g2 e0 e1 e2 e3 ∧ At w6 g3 a ∧ At w6 g4 b ∧ At w6 g5 c ∧ At w6 g6 d from ⟨E.out.1, E.out.2.1, E.out.2.2.1, E.out.2.2.2.1, E.out.2.2.2.2, hA, hB⟩)
  clear hC hA hB
  obtain ⟨g1_0, g1_1, g1_2, g1_3⟩ := Af.four (E.out.2.1)
  obtain ⟨g2_0, g2_1, g2_2, g2_3⟩ := Af.four (E.out.2.2.1)
  obtain ⟨g3_0, g3_1, g3_2, g3_3⟩ := At.two (E.out.2.2.2.1)
  obtain ⟨g4_0, g4_1, g4_2, g4_3⟩ := At.two (E.out.2.2.2.2.1)
  obtain ⟨g5_0, g5_1, g5_2, g5_3⟩ := At.two (E.out.2.2.2.2.2.1)
  obtain ⟨g6_0, g6_1, g6_2, g6_3⟩ := At.two (E.out.2.2.2.2.2.2)
  go_wp2_with fail
  clear g1_0 g1_1 g1_2 g1_3 g2_0 g2_1 g2_2 g2_3 g3_0 g3_1 g3_2 g3_3 g4_0 g4_1 g4_2 g4_3 g5_0 g5_1 g5_2 g5_3 g6_0 g6_1 g6_2 g6_3
  refine (KX.out _).mono ?_
  rintro ze w7 ⟨rfl, hc⟩
  replace E := Lib.hid (show Calm w w7 ∧ Af w7 g1 f0 f1 f2 f3 ∧ Af w7 g2 e0 e1 e2 e3 ∧ At w7 g3 a ∧ At w7 g4 b ∧ At w7 g5 c ∧ At w7 g6 d from ⟨E.out.1.trans (hc), Af.calm (E.out.2.1) (hc), Af.calm (E.out.2.2.1) (hc), At.calm (E.out.2.2.2.1) (hc), At.calm (E.out.2.2.2.2.1) (hc), At.calm (E.out.2.2.2.2.2.1) (hc), At.calm (E.out.2.2.2.2.2.2) (hc)⟩)
  clear hc
  obtain ⟨g1_0, g1_1, g1_2, g1_3⟩ := Af.four (E.out.2.1)
  obtain ⟨g2_0, g2_1, g2_2, g2_3⟩ := Af.four (E.out.2.2.1)
  obtain ⟨g3_0, g3_1, g3_2, g3_3⟩ := At.two (E.out.2.2.2.1)
  obtain ⟨g4_0, g4_1, g4_2, g4_3⟩ := At.two (E.out.2.2.2.2.1)
  obtain ⟨g5_0, g5_1, g5_2, g5_3⟩ := At.two (E.out.2.2.2.2.2.1)
  obtain ⟨g6_0, g6_1, g6_2, g6_3⟩ := At.two (E.out.2.2.2.2.2.2)
  go_upto_region 5 with fail
  clear g1_0 g1_1 g1_2 g1_3 g2_0 g2_1 g2_2 g2_3 g3_0 g3_1 g3_2 g3_3 g4_0 g4_1 g4_2 g4_3 g5_0 g5_1 g5_2 g5_3 g6_0 g6_1 g6_2 g6_3
  have hC : Calm w7 (w7.alloc (.cells #[.int .u64 (x.lo : Int), .int .u64 (x.hi : Int)] 27)) := (Keep.refl _ _).alloc _
  have hA : At (w7.alloc (.cells #[.int .u64 (x.lo : Int), .int .u64 (x.hi : Int)] 27)) w7.heap.size x := Row.made w7 _ _
  have hO : w.heap.size ≤ w7.heap.size ∧ g1 < w7.heap.size ∧ g2 < w7.heap.size ∧ g3 < w7.heap.size ∧ g4 < w7.heap.size ∧ g5 < w7.heap.size ∧ g6 < w7.heap.size := ⟨E.out.1.size, Af.lt (E.out.2.1), Af.lt (E.out.2.2.1), At.lt (E.out.2.2.2.1), At.lt (E.out.2.2.2.2.1), At.lt (E.out.2.2.2.2.2.1), At.lt (E.out.2.2.2.2.2.2)⟩
  obtain ⟨g7, hg7⟩ : ∃ zg, zg = w7.heap.size := ⟨_, rfl⟩
  obtain ⟨w8, hw8⟩ : ∃ zz, zz = w7.alloc (.cells #[.int .u64 (x.lo : Int), .int .u64 (x.hi : Int)] 27) := ⟨_, rfl⟩
  replace hO : w.heap.size ≤ g7 ∧ g1 < g7 ∧ g2 < g7 ∧ g3 < g7 ∧ g4 < g7 ∧ g5 < g7 ∧ g6 < g7 := by rw [hg7]; exact hO
  rw [← hg7] at hA ⊢
  rw [← hw8] at hA hC ⊢
  clear hg7 hw8
  have O7 := Lib.hid hO
  clear hO
  replace E := Lib.hid (show Calm w w8 ∧ Af w8 g1 f0 f1 f2 f3 ∧ Af w8 g2 e0 e1 e2 e3 ∧ At w8 g3 a ∧ At w8 g4 b ∧ At w8 g5 c ∧ At w8 g6 d from ⟨E.out.1.trans (hC), Af.calm (E.out.2.1) (hC), Af.calm (E.out.2.2.1) (hC), At.calm (E.out.2.2.2.1) (hC), At.calm (E.out.2.2.2.2.1) (hC), At.calm (E.out.2.2.2.2.2.1) (hC), At.calm (E.out.2.2.2.2.2.2) (hC)⟩)
  replace E := Lib.hid (show Calm w w8 ∧ Af w8 g1 f0 f1 f2 f3 ∧ Af w8 g2 e0 e1 e2 e3 ∧ At w8 g3 a ∧ At w8 g4 b ∧ At w8 g5 c ∧ At w8 g6 d ∧ At w8 g7 x from ⟨E.out.1, E.out.2.1, E.out.2.2.1, E.out.2.2.2.1, E.out.2.2.2.2.1, E.out.2.2.2.2.2.1, E.out.2.2.2.2.2.2, hA⟩)
  clear hC hA
  obtain ⟨g1_0, g1_1, g1_2, g1_3⟩ := Af.four (E.out.2.1)
  obtain ⟨g2_0, g2_1, g2_2, g2_3⟩ := Af.four (E.out.2.2.1)
  obtain ⟨g3_0, g3_1, g3_2, g3_3⟩ := At.two (E.out.2.2.2.1)
  obtain ⟨g4_0, g4_1, g4_2, g4_3⟩ := At.two (E.out.2.2.2.2.1)
  obtain ⟨g5_0, g5_1, g5_2, g5_3⟩ := At.two (E.out.2.2.2.2.2.1)
  obtain ⟨g6_0, g6_1, g6_2, g6_3⟩ := At.two (E.out.2.2.2.2.2.2.1)
  obtain ⟨g7_0, g7_1, g7_2, g7_3⟩ := At.two (E.out.2.2.2.2.2.2.2)
  go_wp2_with fail
  clear g1_0 g1_1 g1_2 g1_3 g2_0 g2_1 g2_2 g2_3 g3_0 g3_1 g3_2 g3_3 g4_0 g4_1 g4_2 g4_3 g5_0 g5_1 g5_2 g5_3 g6_0 g6_1 g6_2 g6_3 g7_0 g7_1 g7_2 g7_3
  refine (KY.out _).mono ?_
  rintro ze w9 ⟨rfl, hc⟩
  replace E := Lib.hid (show Calm w w9 ∧ Af w9 g1 f0 f1 f2 f3 ∧ Af w9 g2 e0 e1 e2 e3 ∧ At w9 g3 a ∧ At w9 g4 b ∧ At w9 g5 c ∧ At w9 g6 d ∧ At w9 g7 x from ⟨E.out.1.trans (hc), Af.calm (E.out.2.1) (hc), Af.calm (E.out.2.2.1) (hc), At.calm (E.out.2.2.2.1) (hc), At.calm (E.out.2.2.2.2.1) (hc), At.calm (E.out.2.2.2.2.2.1) (hc), At.calm (E.out.2.2.2.2.2.2.1) (hc), At.calm (E.out.2.2.2.2.2.2.2) (hc)⟩)
  clear hc
  obtain ⟨g1_0, g1_1, g1_2, g1_3⟩ := Af.four (E.out.2.1)
  obtain ⟨g2_0, g2_1, g2_2, g2_3⟩ := Af.four (E.out.2.2.1)
  obtain ⟨g3_0, g3_1, g3_2, g3_3⟩ := At.two (E.out.2.2.2.1)
  obtain ⟨g4_0, g4_1, g4_2, g4_3⟩ := At.two (E.out.2.2.2.2.1)
  obtain ⟨g5_0, g5_1, g5_2, g5_3⟩ := At.two (E.out.2.2.2.2.2.1)
  obtain ⟨g6_0, g6_1, g6_2, g6_3⟩ := At.two (E.out.2.2.2.2.2.2.1)
  obtain ⟨g7_0, g7_1, g7_2, g7_3⟩ := At.two (E.out.2.2.2.2.2.2.2)
  go_upto_region 6 with fail
  clear g1_0 g1_1 g1_2 g1_3 g2_0 g2_1 g2_2 g2_3 g3_0 g3_1 g3_2 g3_3 g4_0 g4_1 g4_2 g4_3 g5_0 g5_1 g5_2 g5_3 g6_0 g6_1 g6_2 g6_3 g7_0 g7_1 g7_2 g7_3
  have hC : Calm w9 (w9.alloc (.cells #[.int .u64 (x.lo : Int), .int .u64 (x.hi : Int)] 27)) := (Keep.refl _ _).alloc _
  have hA : At (w9.alloc (.cells #[.int .u64 (x.lo : Int), .int .u64 (x.hi : Int)] 27)) w9.heap.size x := Row.made w9 _ _
  have hO : w.heap.size ≤ w9.heap.size ∧ g1 < w9.heap.size ∧ g2 < w9.heap.size ∧ g3 < w9.heap.size ∧ g4 < w9.heap.size ∧ g5 < w9.heap.size ∧ g6 < w9.heap.size ∧ g7 < w9.heap.size := ⟨E.out.1.size, Af.lt (E.out.2.1), Af.lt (E.out.2.2.1), At.lt (E.out.2.2.2.1), At.lt (E.out.2.2.2.2.1), At.lt (E.out.2.2.2.2.2.1), At.lt (E.out.2.2.2.2.2.2.1), At.lt (E.out.2.2.2.2.2.2.2)⟩
  obtain ⟨g8, hg8⟩ : ∃ zg, zg = w9.heap.size := ⟨_, rfl⟩
  obtain ⟨w10, hw10⟩ : ∃ zz, zz = w9.alloc (.cells #[.int .u64 (x.lo : Int), .int .u64 (x.hi : Int)] 27) := ⟨_, rfl⟩
  replace hO : w.heap.size ≤ g8 ∧ g1 < g8 ∧ g2 < g8 ∧ g3 < g8 ∧ g4 < g8 ∧ g5 < g8 ∧ g6 < g8 ∧ g7 < g8 := by rw [hg8]; exact hO
  rw [← hg8] at hA ⊢
  rw [← hw10] at hA hC ⊢
  clear hg8 hw10
  have O8 := Lib.hid hO
  clear hO
  replace E := Lib.hid (show Calm w w10 ∧ Af w10 g1 f0 f1 f2 f3 ∧ Af w10 g2 e0 e1 e2 e3 ∧ At w10 g3 a ∧ At w10 g4 b ∧ At w10 g5 c ∧ At w10 g6 d ∧ At w10 g7 x from ⟨E.out.1.trans (hC), Af.calm (E.out.2.1) (hC), Af.calm (E.out.2.2.1) (hC), At.calm (E.out.2.2.2.1) (hC), At.calm (E.out.2.2.2.2.1) (hC), At.calm (E.out.2.2.2.2.2.1) (hC), At.calm (E.out.2.2.2.2.2.2.1) (hC), At.calm (E.out.2.2.2.2.2.2.2) (hC)⟩)
  replace E := Lib.hid (show Calm w w10 ∧ Af w10 g1 f0 f1 f2 f3 ∧ Af w10 g2 e0 e1 e2 e3 ∧ At w10 g3 a ∧ At w10 g4 b ∧ At w10 g5 c ∧ At w10 g6 d ∧ At w10 g7 x ∧ At w10 g8 x from ⟨E.out.1, E.out.2.1, E.out.2.2.1, E.out.2.2.2.1, E.out.2.2.2.2.1, E.out.2.2.2.2.2.1, E.out.2.2.2.2.2.2.1, E.out.2.2.2.2.2.2.2, hA⟩)
  clear hC hA
  refine wp_region_noPanic ?_
  refine wp_region_held_drew (S := fun w' => Calm w w' ∧ Af w' g1 f0 f1 f2 f3 ∧ Af w' g2 e0 e1 e2 e3 ∧ At w' g3 a ∧ At w' g4 b ∧ At w' g5 c ∧ At w' g6 d ∧ At w' g7 x ∧ At w' g8 x) (by kernel_rfl) ⟨E.out.1.drew, E.out.2.1, E.out.2.2.1, E.out.2.2.2.1, E.out.2.2.2.2.1, E.out.2.2.2.2.2.1, E.out.2.2.2.2.2.2.1, E.out.2.2.2.2.2.2.2.1, E.out.2.2.2.2.2.2.2.2⟩ (fun hHeld => ?_)
  refine take_at 0 41 (.bool true) rfl rfl (by kernel_rfl) (by kernel_rfl) (by kernel_rfl) (fun _ _ _ h => h) (Or.inl ⟨by rfl, ?_⟩) hHeld ?_
  · intro w hSw; go_simp
  simp only [List.setIfInBounds_toArray, List.set_cons_zero, List.set_cons_succ]
  refine take_at 1 42 (.bool true) rfl rfl (by kernel_rfl) (by kernel_rfl) (by kernel_rfl) (fun _ _ _ h => h) (Or.inl ⟨by rfl, ?_⟩) hHeld ?_
  · intro w hSw; go_simp
  simp only [List.setIfInBounds_toArray, List.set_cons_zero, List.set_cons_succ]
  refine take_at 2 43 (.bool false) rfl rfl (by kernel_rfl) (by kernel_rfl) (by kernel_rfl) (fun _ _ _ h => h) (Or.inl ⟨by rfl, ?_⟩) hHeld ?_
  · intro w hSw; go_simp
  simp only [List.setIfInBounds_toArray, List.set_cons_zero, List.set_cons_succ]
  refine take_at 3 44 (.bool false) rfl rfl (by kernel_rfl) (by kernel_rfl) (by kernel_rfl) (fun _ _ _ h => h) (Or.inl ⟨by rfl, ?_⟩) hHeld ?_
  · intro w hSw; go_simp
  simp only [List.setIfInBounds_toArray, List.set_cons_zero, List.set_cons_succ]
  refine take_at 4 45 (.bool true) rfl rfl (by kernel_rfl) (by kernel_rfl) (by kernel_rfl) (fun _ _ _ h => h) (Or.inl ⟨by rfl, ?_⟩) hHeld ?_
  · intro w hSw; go_simp
  simp only [List.setIfInBounds_toArray, List.set_cons_zero, List.set_cons_succ]
  refine take_at 5 46 (.bool true) rfl rfl (by kernel_rfl) (by kernel_rfl) (by kernel_rfl) (fun _ _ _ h => h) (Or.inl ⟨by rfl, ?_⟩) hHeld ?_
  · intro w hSw; go_simp
  simp only [List.setIfInBounds_toArray, List.set_cons_zero, List.set_cons_succ]
  refine take_at 6 47 (.agg #[.int .u64 (x.lo : Int), .int .u64 (x.hi : Int)]) rfl rfl (by kernel_rfl) (by kernel_rfl) (by kernel_rfl) (fun _ _ _ h => h) (Or.inl ⟨by rfl, ?_⟩) hHeld ?_
  · intro w hSw; have c := At.two (hSw.2.2.2.2.2.2.2.1); go_simp
  simp only [List.setIfInBounds_toArray, List.set_cons_zero, List.set_cons_succ]
  refine take_at 7 48 (.agg #[.int .u64 (x.lo : Int), .int .u64 (x.hi : Int)]) rfl rfl (by kernel_rfl) (by kernel_rfl) (by kernel_rfl) (fun _ _ _ h => h) (Or.inl ⟨by rfl, ?_⟩) hHeld ?_
  · intro w hSw; have c := At.two (hSw.2.2.2.2.2.2.2.2); go_simp
  simp only [List.setIfInBounds_toArray, List.set_cons_zero, List.set_cons_succ]
  refine take_at 8 49 (.bool false) rfl rfl (by kernel_rfl) (by kernel_rfl) (by kernel_rfl) (fun _ _ _ h => h) (Or.inl ⟨by rfl, ?_⟩) hHeld ?_
  · intro w hSw; go_simp
  simp only [List.setIfInBounds_toArray, List.set_cons_zero, List.set_cons_succ]
  refine take_at 9 50 (.bool false) rfl rfl (by kernel_rfl) (by kernel_rfl) (by kernel_rfl) (fun _ _ _ h => h) (Or.inl ⟨by rfl, ?_⟩) hHeld ?_
  · intro w hSw; go_simp
  simp only [List.setIfInBounds_toArray, List.set_cons_zero, List.set_cons_succ]
  refine take_at 10 51 (.agg #[.int .u64 (x.lo : Int), .int .u64 (x.hi : Int)]) rfl rfl (by kernel_rfl) (by kernel_rfl) (by kernel_rfl) (fun _ _ _ h => h) (Or.inl ⟨by rfl, ?_⟩) hHeld ?_
  · intro w hSw; have c := At.two (hSw.2.2.2.2.2.2.2.1); go_simp
  simp only [List.setIfInBounds_toArray, List.set_cons_zero, List.set_cons_succ]
  refine take_at 11 52 (.agg #[.int .u64 (a.lo : Int), .int .u64 (a.hi : Int)]) rfl rfl (by kernel_rfl) (by kernel_rfl) (by kernel_rfl) (fun _ _ _ h => h) (Or.inl ⟨by rfl, ?_⟩) hHeld ?_
  · intro w hSw; have c := At.two (hSw.2.2.2.1); go_simp
  simp only [List.setIfInBounds_toArray, List.set_cons_zero, List.set_cons_succ]
  refine take_at 13 54 (.agg #[.int .u64 (a.lo : Int), .int .u64 (a.hi : Int)]) rfl rfl (by kernel_rfl) (by kernel_rfl) (by kernel_rfl) (fun _ _ _ h => h) (Or.inl ⟨by rfl, ?_⟩) hHeld ?_
  · intro w hSw; have c := At.two (hSw.2.2.2.1); go_simp
  simp only [List.setIfInBounds_toArray, List.set_cons_zero, List.set_cons_succ]
  refine wpAnyH_ready (rs := [12]) (by kernel_rfl) (by simp) ?_
  refine AllReadyH.cons rfl (fun K hK => ?_) AllReadyH.nil
  go_simp
  refine (KJ.out _).mono ?_
  rintro ze wr1 ⟨rfl, hc⟩
  refine hK.out _ _ ⟨hHeld.1.trans hc, Af.calm (hHeld.2.1) hc, Af.calm (hHeld.2.2.1) hc, At.calm (hHeld.2.2.2.1) hc, At.calm (hHeld.2.2.2.2.1) hc, At.calm (hHeld.2.2.2.2.2.1) hc, At.calm (hHeld.2.2.2.2.2.2.1) hc, At.calm (hHeld.2.2.2.2.2.2.2.1) hc, At.calm (hHeld.2.2.2.2.2.2.2.2) hc⟩ (fun hHeld => ?_)
  clear hK K
  try simp only [List.setIfInBounds_toArray, List.set_cons_zero, List.set_cons_succ]
  refine take_at 14 55 (.bool false) rfl rfl (by kernel_rfl) (by kernel_rfl) (by kernel_rfl) (fun _ _ _ h => h) (Or.inl ⟨by rfl, ?_⟩) hHeld ?_
  · intro w hSw; go_simp
  simp only [List.setIfInBounds_toArray, List.set_cons_zero, List.set_cons_succ]
  refine take_at 15 56 (.bool false) rfl rfl (by kernel_rfl) (by kernel_rfl) (by kernel_rfl) (fun _ _ _ h => h) (Or.inl ⟨by rfl, ?_⟩) hHeld ?_
  · intro w hSw; go_simp
  simp only [List.setIfInBounds_toArray, List.set_cons_zero, List.set_cons_succ]
  refine take_at 16 57 (.bool false) rfl rfl (by kernel_rfl) (by kernel_rfl) (by kernel_rfl) (fun _ _ _ h => h) (Or.inl ⟨by rfl, ?_⟩) hHeld ?_
  · intro w hSw; go_simp
  simp only [List.setIfInBounds_toArray, List.set_cons_zero, List.set_cons_succ]
  refine take_at 17 58 (.agg #[.int .u64 (x.lo : Int), .int .u64 (x.hi : Int)]) rfl rfl (by kernel_rfl) (by kernel_rfl) (by kernel_rfl) (fun _ _ _ h => h) (Or.inl ⟨by rfl, ?_⟩) hHeld ?_
  · intro w hSw; have c := At.two (hSw.2.2.2.2.2.2.2.1); go_simp
  simp only [List.setIfInBounds_toArray, List.set_cons_zero, List.set_cons_succ]
  refine take_at 18 59 (.agg #[.int .u64 (b.lo : Int), .int .u64 (b.hi : Int)]) rfl rfl (by kernel_rfl) (by kernel_rfl) (by kernel_rfl) (fun _ _ _ h => h) (Or.inl ⟨by rfl, ?_⟩) hHeld ?_
  · intro w hSw; have c := At.two (hSw.2.2.2.2.1); go_simp
  simp only [List.setIfInBounds_toArray, List.set_cons_zero, List.set_cons_succ]
  refine take_at 20 61 (.agg #[.int .u64 (b.lo : Int), .int .u64 (b.hi : Int)]) rfl rfl (by kernel_rfl) (by kernel_rfl) (by kernel_rfl) (fun _ _ _ h => h) (Or.inl ⟨by rfl, ?_⟩) hHeld ?_
  · intro w hSw; have c := At.two (hSw.2.2.2.2.1); go_simp
  simp only [List.setIfInBounds_toArray, List.set_cons_zero, List.set_cons_succ]
  refine wpAnyH_ready (rs := [19]) (by kernel_rfl) (by simp) ?_
  refine AllReadyH.cons rfl (fun K hK => ?_) AllReadyH.nil
  go_simp
  refine (KL.out _).mono ?_
  rintro ze wr2 ⟨rfl, hc⟩
  refine hK.out _ _ ⟨hHeld.1.trans hc, Af.calm (hHeld.2.1) hc, Af.calm (hHeld.2.2.1) hc, At.calm (hHeld.2.2.2.1) hc, At.calm (hHeld.2.2.2.2.1) hc, At.calm (hHeld.2.2.2.2.2.1) hc, At.calm (hHeld.2.2.2.2.2.2.1) hc, At.calm (hHeld.2.2.2.2.2.2.2.1) hc, At.calm (hHeld.2.2.2.2.2.2.2.2) hc⟩ (fun hHeld => ?_)
  clear hK K
  try simp only [List.setIfInBounds_toArray, List.set_cons_zero, List.set_cons_succ]
  refine take_at 21 62 (.bool false) rfl rfl (by kernel_rfl) (by kernel_rfl) (by kernel_rfl) (fun _ _ _ h => h) (Or.inl ⟨by rfl, ?_⟩) hHeld ?_
  · intro w hSw; go_simp
  simp only [List.setIfInBounds_toArray, List.set_cons_zero, List.set_cons_succ]
  refine take_at 22 63 (.bool false) rfl rfl (by kernel_rfl) (by kernel_rfl) (by kernel_rfl) (fun _ _ _ h => h) (Or.inl ⟨by rfl, ?_⟩) hHeld ?_
  · intro w hSw; go_simp
  simp only [List.setIfInBounds_toArray, List.set_cons_zero, List.set_cons_succ]
  refine take_at 23 64 (.bool false) rfl rfl (by kernel_rfl) (by kernel_rfl) (by kernel_rfl) (fun _ _ _ h => h) (Or.inl ⟨by rfl, ?_⟩) hHeld ?_
  · intro w hSw; go_simp
  simp only [List.setIfInBounds_toArray, List.set_cons_zero, List.set_cons_succ]
  refine take_at 24 65 (.bool false) rfl rfl (by kernel_rfl) (by kernel_rfl) (by kernel_rfl) (fun _ _ _ h => h) (Or.inl ⟨by rfl, ?_⟩) hHeld ?_
  · intro w hSw; go_simp
  simp only [List.setIfInBounds_toArray, List.set_cons_zero, List.set_cons_succ]
  refine wpAnyH_done (by kernel_rfl) (NoPanic.normal ?_) _
  replace E := Lib.hid (show Calm w wr2 ∧ Af wr2 g1 f0 f1 f2 f3 ∧ Af wr2 g2 e0 e1 e2 e3 ∧ At wr2 g3 a ∧ At wr2 g4 b ∧ At wr2 g5 c ∧ At wr2 g6 d ∧ At wr2 g7 x ∧ At wr2 g8 x from hHeld)
  clear hHeld
  obtain ⟨g1_0, g1_1, g1_2, g1_3⟩ := Af.four (E.out.2.1)
  obtain ⟨g2_0, g2_1, g2_2, g2_3⟩ := Af.four (E.out.2.2.1)
  obtain ⟨g3_0, g3_1, g3_2, g3_3⟩ := At.two (E.out.2.2.2.1)
  obtain ⟨g4_0, g4_1, g4_2, g4_3⟩ := At.two (E.out.2.2.2.2.1)
  obtain ⟨g5_0, g5_1, g5_2, g5_3⟩ := At.two (E.out.2.2.2.2.2.1)
  obtain ⟨g6_0, g6_1, g6_2, g6_3⟩ := At.two (E.out.2.2.2.2.2.2.1)
  obtain ⟨g7_0, g7_1, g7_2, g7_3⟩ := At.two (E.out.2.2.2.2.2.2.2.1)
  obtain ⟨g8_0, g8_1, g8_2, g8_3⟩ := At.two (E.out.2.2.2.2.2.2.2.2)
  go_wp2_with fail
  clear g1_0 g1_1 g1_2 g1_3 g2_0 g2_1 g2_2 g2_3 g3_0 g3_1 g3_2 g3_3 g4_0 g4_1 g4_2 g4_3 g5_0 g5_1 g5_2 g5_3 g6_0 g6_1 g6_2 g6_3 g7_0 g7_1 g7_2 g7_3 g8_0 g8_1 g8_2 g8_3
  refine (KP.out _).mono ?_
  rintro ze w11 ⟨rfl, hc⟩
  replace E := Lib.hid (show Calm w w11 ∧ Af w11 g1 f0 f1 f2 f3 ∧ Af w11 g2 e0 e1 e2 e3 ∧ At w11 g3 a ∧ At w11 g4 b ∧ At w11 g5 c ∧ At w11 g6 d ∧ At w11 g7 x ∧ At w11 g8 x from ⟨E.out.1.trans (hc), Af.calm (E.out.2.1) (hc), Af.calm (E.out.2.2.1) (hc), At.calm (E.out.2.2.2.1) (hc), At.calm (E.out.2.2.2.2.1) (hc), At.calm (E.out.2.2.2.2.2.1) (hc), At.calm (E.out.2.2.2.2.2.2.1) (hc), At.calm (E.out.2.2.2.2.2.2.2.1) (hc), At.calm (E.out.2.2.2.2.2.2.2.2) (hc)⟩)
  clear hc
  obtain ⟨g1_0, g1_1, g1_2, g1_3⟩ := Af.four (E.out.2.1)
  obtain ⟨g2_0, g2_1, g2_2, g2_3⟩ := Af.four (E.out.2.2.1)
  obtain ⟨g3_0, g3_1, g3_2, g3_3⟩ := At.two (E.out.2.2.2.1)
  obtain ⟨g4_0, g4_1, g4_2, g4_3⟩ := At.two (E.out.2.2.2.2.1)
  obtain ⟨g5_0, g5_1, g5_2, g5_3⟩ := At.two (E.out.2.2.2.2.2.1)
  obtain ⟨g6_0, g6_1, g6_2, g6_3⟩ := At.two (E.out.2.2.2.2.2.2.1)
  obtain ⟨g7_0, g7_1, g7_2, g7_3⟩ := At.two (E.out.2.2.2.2.2.2.2.1)
  obtain ⟨g8_0, g8_1, g8_2, g8_3⟩ := At.two (E.out.2.2.2.2.2.2.2.2)
  go_upto_region 11 with fail
  clear g1_0 g1_1 g1_2 g1_3 g2_0 g2_1 g2_2 g2_3 g3_0 g3_1 g3_2 g3_3 g4_0 g4_1 g4_2 g4_3 g5_0 g5_1 g5_2 g5_3 g6_0 g6_1 g6_2 g6_3 g7_0 g7_1 g7_2 g7_3 g8_0 g8_1 g8_2 g8_3
  have hC : Calm w11 (w11.alloc (.cells #[.int .u64 (p.lo : Int), .int .u64 (p.hi : Int)] 27)) := (Keep.refl _ _).alloc _
  have hA : At (w11.alloc (.cells #[.int .u64 (p.lo : Int), .int .u64 (p.hi : Int)] 27)) w11.heap.size p := Row.made w11 _ _
  have hO : w.heap.size ≤ w11.heap.size ∧ g1 < w11.heap.size ∧ g2 < w11.heap.size ∧ g3 < w11.heap.size ∧ g4 < w11.heap.size ∧ g5 < w11.heap.size ∧ g6 < w11.heap.size ∧ g7 < w11.heap.size ∧ g8 < w11.heap.size := ⟨E.out.1.size, Af.lt (E.out.2.1), Af.lt (E.out.2.2.1), At.lt (E.out.2.2.2.1), At.lt (E.out.2.2.2.2.1), At.lt (E.out.2.2.2.2.2.1), At.lt (E.out.2.2.2.2.2.2.1), At.lt (E.out.2.2.2.2.2.2.2.1), At.lt (E.out.2.2.2.2.2.2.2.2)⟩
  obtain ⟨g9, hg9⟩ : ∃ zg, zg = w11.heap.size := ⟨_, rfl⟩
  obtain ⟨w12, hw12⟩ : ∃ zz, zz = w11.alloc (.cells #[.int .u64 (p.lo : Int), .int .u64 (p.hi : Int)] 27) := ⟨_, rfl⟩
  replace hO : w.heap.size ≤ g9 ∧ g1 < g9 ∧ g2 < g9 ∧ g3 < g9 ∧ g4 < g9 ∧ g5 < g9 ∧ g6 < g9 ∧ g7 < g9 ∧ g8 < g9 := by rw [hg9]; exact hO
  rw [← hg9] at hA ⊢
  rw [← hw12] at hA hC ⊢
  clear hg9 hw12
  have O9 := Lib.hid hO
  clear hO
  replace E := Lib.hid (show Calm w w12 ∧ Af w12 g1 f0 f1 f2 f3 ∧ Af w12 g2 e0 e1 e2 e3 ∧ At w12 g3 a ∧ At w12 g4 b ∧ At w12 g5 c ∧ At w12 g6 d ∧ At w12 g7 x ∧ At w12 g8 x from ⟨E.out.1.trans (hC), Af.calm (E.out.2.1) (hC), Af.calm (E.out.2.2.1) (hC), At.calm (E.out.2.2.2.1) (hC), At.calm (E.out.2.2.2.2.1) (hC), At.calm (E.out.2.2.2.2.2.1) (hC), At.calm (E.out.2.2.2.2.2.2.1) (hC), At.calm (E.out.2.2.2.2.2.2.2.1) (hC), At.calm (E.out.2.2.2.2.2.2.2.2) (hC)⟩)
  replace E := Lib.hid (show Calm w w12 ∧ Af w12 g1 f0 f1 f2 f3 ∧ Af w12 g2 e0 e1 e2 e3 ∧ At w12 g3 a ∧ At w12 g4 b ∧ At w12 g5 c ∧ At w12 g6 d ∧ At w12 g7 x ∧ At w12 g8 x ∧ At w12 g9 p from ⟨E.out.1, E.out.2.1, E.out.2.2.1, E.out.2.2.2.1, E.out.2.2.2.2.1, E.out.2.2.2.2.2.1, E.out.2.2.2.2.2.2.1, E.out.2.2.2.2.2.2.2.1, E.out.2.2.2.2.2.2.2.2, hA⟩)
  clear hC hA
  obtain ⟨g1_0, g1_1, g1_2, g1_3⟩ := Af.four (E.out.2.1)
  obtain ⟨g2_0, g2_1, g2_2, g2_3⟩ := Af.four (E.out.2.2.1)
  obtain ⟨g3_0, g3_1, g3_2, g3_3⟩ := At.two (E.out.2.2.2.1)
  obtain ⟨g4_0, g4_1, g4_2, g4_3⟩ := At.two (E.out.2.2.2.2.1)
  obtain ⟨g5_0, g5_1, g5_2, g5_3⟩ := At.two (E.out.2.2.2.2.2.1)
  obtain ⟨g6_0, g6_1, g6_2, g6_3⟩ := At.two (E.out.2.2.2.2.2.2.1)
  obtain ⟨g7_0, g7_1, g7_2, g7_3⟩ := At.two (E.out.2.2.2.2.2.2.2.1)
  obtain ⟨g8_0, g8_1, g8_2, g8_3⟩ := At.two (E.out.2.2.2.2.2.2.2.2.1)
  obtain ⟨g9_0, g9_1, g9_2, g9_3⟩ := At.two (E.out.2.2.2.2.2.2.2.2.2)
  go_wp2_with fail
  clear g1_0 g1_1 g1_2 g1_3 g2_0 g2_1 g2_2 g2_3 g3_0 g3_1 g3_2 g3_3 g4_0 g4_1 g4_2 g4_3 g5_0 g5_1 g5_2 g5_3 g6_0 g6_1 g6_2 g6_3 g7_0 g7_1 g7_2 g7_3 g8_0 g8_1 g8_2 g8_3 g9_0 g9_1 g9_2 g9_3
  refine (KQ.out _).mono ?_
  rintro ze w13 ⟨rfl, hc⟩
  replace E := Lib.hid (show Calm w w13 ∧ Af w13 g1 f0 f1 f2 f3 ∧ Af w13 g2 e0 e1 e2 e3 ∧ At w13 g3 a ∧ At w13 g4 b ∧ At w13 g5 c ∧ At w13 g6 d ∧ At w13 g7 x ∧ At w13 g8 x ∧ At w13 g9 p from ⟨E.out.1.trans (hc), Af.calm (E.out.2.1) (hc), Af.calm (E.out.2.2.1) (hc), At.calm (E.out.2.2.2.1) (hc), At.calm (E.out.2.2.2.2.1) (hc), At.calm (E.out.2.2.2.2.2.1) (hc), At.calm (E.out.2.2.2.2.2.2.1) (hc), At.calm (E.out.2.2.2.2.2.2.2.1) (hc), At.calm (E.out.2.2.2.2.2.2.2.2.1) (hc), At.calm (E.out.2.2.2.2.2.2.2.2.2) (hc)⟩)
  clear hc
  obtain ⟨g1_0, g1_1, g1_2, g1_3⟩ := Af.four (E.out.2.1)
  obtain ⟨g2_0, g2_1, g2_2, g2_3⟩ := Af.four (E.out.2.2.1)
  obtain ⟨g3_0, g3_1, g3_2, g3_3⟩ := At.two (E.out.2.2.2.1)
  obtain ⟨g4_0, g4_1, g4_2, g4_3⟩ := At.two (E.out.2.2.2.2.1)
  obtain ⟨g5_0, g5_1, g5_2, g5_3⟩ := At.two (E.out.2.2.2.2.2.1)
  obtain ⟨g6_0, g6_1, g6_2, g6_3⟩ := At.two (E.out.2.2.2.2.2.2.1)
  obtain ⟨g7_0, g7_1, g7_2, g7_3⟩ := At.two (E.out.2.2.2.2.2.2.2.1)
  obtain ⟨g8_0, g8_1, g8_2, g8_3⟩ := At.two (E.out.2.2.2.2.2.2.2.2.1)
  obtain ⟨g9_0, g9_1, g9_2, g9_3⟩ := At.two (E.out.2.2.2.2.2.2.2.2.2)
  go_upto_region 12 with fail
  clear g1_0 g1_1 g1_2 g1_3 g2_0 g2_1 g2_2 g2_3 g3_0 g3_1 g3_2 g3_3 g4_0 g4_1 g4_2 g4_3 g5_0 g5_1 g5_2 g5_3 g6_0 g6_1 g6_2 g6_3 g7_0 g7_1 g7_2 g7_3 g8_0 g8_1 g8_2 g8_3 g9_0 g9_1 g9_2 g9_3
  have hC : Calm w13 (w13.alloc (.cells #[.int .u64 (q.lo : Int), .int .u64 (q.hi : Int)] 27)) := (Keep.refl _ _).alloc _
  have hA : At (w13.alloc (.cells #[.int .u64 (q.lo : Int), .int .u64 (q.hi : Int)] 27)) w13.heap.size q := Row.made w13 _ _
  have hO : w.heap.size ≤ w13.heap.size ∧ g1 < w13.heap.size ∧ g2 < w13.heap.size ∧ g3 < w13.heap.size ∧ g4 < w13.heap.size ∧ g5 < w13.heap.size ∧ g6 < w13.heap.size ∧ g7 < w13.heap.size ∧ g8 < w13.heap.size ∧ g9 < w13.heap.size := ⟨E.out.1.size, Af.lt (E.out.2.1), Af.lt (E.out.2.2.1), At.lt (E.out.2.2.2.1), At.lt (E.out.2.2.2.2.1), At.lt (E.out.2.2.2.2.2.1), At.lt (E.out.2.2.2.2.2.2.1), At.lt (E.out.2.2.2.2.2.2.2.1), At.lt (E.out.2.2.2.2.2.2.2.2.1), At.lt (E.out.2.2.2.2.2.2.2.2.2)⟩
  obtain ⟨g10, hg10⟩ : ∃ zg, zg = w13.heap.size := ⟨_, rfl⟩
  obtain ⟨w14, hw14⟩ : ∃ zz, zz = w13.alloc (.cells #[.int .u64 (q.lo : Int), .int .u64 (q.hi : Int)] 27) := ⟨_, rfl⟩
  replace hO : w.heap.size ≤ g10 ∧ g1 < g10 ∧ g2 < g10 ∧ g3 < g10 ∧ g4 < g10 ∧ g5 < g10 ∧ g6 < g10 ∧ g7 < g10 ∧ g8 < g10 ∧ g9 < g10 := by rw [hg10]; exact hO
  rw [← hg10] at hA ⊢
  rw [← hw14] at hA hC ⊢
  clear hg10 hw14
  have O10 := Lib.hid hO
  clear hO
  replace E := Lib.hid (show Calm w w14 ∧ Af w14 g1 f0 f1 f2 f3 ∧ Af w14 g2 e0 e1 e2 e3 ∧ At w14 g3 a ∧ At w14 g4 b ∧ At w14 g5 c ∧ At w14 g6 d ∧ At w14 g7 x ∧ At w14 g8 x ∧ At w14 g9 p from ⟨E.out.1.trans (hC), Af.calm (E.out.2.1) (hC), Af.calm (E.out.2.2.1) (hC), At.calm (E.out.2.2.2.1) (hC), At.calm (E.out.2.2.2.2.1) (hC), At.calm (E.out.2.2.2.2.2.1) (hC), At.calm (E.out.2.2.2.2.2.2.1) (hC), At.calm (E.out.2.2.2.2.2.2.2.1) (hC), At.calm (E.out.2.2.2.2.2.2.2.2.1) (hC), At.calm (E.out.2.2.2.2.2.2.2.2.2) (hC)⟩)
  replace E := Lib.hid (show Calm w w14 ∧ Af w14 g1 f0 f1 f2 f3 ∧ Af w14 g2 e0 e1 e2 e3 ∧ At w14 g3 a ∧ At w14 g4 b ∧ At w14 g5 c ∧ At w14 g6 d ∧ At w14 g7 x ∧ At w14 g8 x ∧ At w14 g9 p ∧ At w14 g10 q from ⟨E.out.1, E.out.2.1, E.out.2.2.1, E.out.2.2.2.1, E.out.2.2.2.2.1, E.out.2.2.2.2.2.1, E.out.2.2.2.2.2.2.1, E.out.2.2.2.2.2.2.2.1, E.out.2.2.2.2.2.2.2.2.1, E.out.2.2.2.2.2.2.2.2.2, hA⟩)
  clear hC hA
  obtain ⟨g1_0, g1_1, g1_2, g1_3⟩ := Af.four (E.out.2.1)
  obtain ⟨g2_0, g2_1, g2_2, g2_3⟩ := Af.four (E.out.2.2.1)
  obtain ⟨g3_0, g3_1, g3_2, g3_3⟩ := At.two (E.out.2.2.2.1)
  obtain ⟨g4_0, g4_1, g4_2, g4_3⟩ := At.two (E.out.2.2.2.2.1)
  obtain ⟨g5_0, g5_1, g5_2, g5_3⟩ := At.two (E.out.2.2.2.2.2.1)
  obtain ⟨g6_0, g6_1, g6_2, g6_3⟩ := At.two (E.out.2.2.2.2.2.2.1)
  obtain ⟨g7_0, g7_1, g7_2, g7_3⟩ := At.two (E.out.2.2.2.2.2.2.2.1)
  obtain ⟨g8_0, g8_1, g8_2, g8_3⟩ := At.two (E.out.2.2.2.2.2.2.2.2.1)
  obtain ⟨g9_0, g9_1, g9_2, g9_3⟩ := At.two (E.out.2.2.2.2.2.2.2.2.2.1)
  obtain ⟨g10_0, g10_1, g10_2, g10_3⟩ := At.two (E.out.2.2.2.2.2.2.2.2.2.2)
  go_wp2_with fail
  clear g1_0 g1_1 g1_2 g1_3 g2_0 g2_1 g2_2 g2_3 g3_0 g3_1 g3_2 g3_3 g4_0 g4_1 g4_2 g4_3 g5_0 g5_1 g5_2 g5_3 g6_0 g6_1 g6_2 g6_3 g7_0 g7_1 g7_2 g7_3 g8_0 g8_1 g8_2 g8_3 g9_0 g9_1 g9_2 g9_3 g10_0 g10_1 g10_2 g10_3
  refine (KR.out _).mono ?_
  rintro ze w15 ⟨rfl, hc⟩
  replace E := Lib.hid (show Calm w w15 ∧ Af w15 g1 f0 f1 f2 f3 ∧ Af w15 g2 e0 e1 e2 e3 ∧ At w15 g3 a ∧ At w15 g4 b ∧ At w15 g5 c ∧ At w15 g6 d ∧ At w15 g7 x ∧ At w15 g8 x ∧ At w15 g9 p ∧ At w15 g10 q from ⟨E.out.1.trans (hc), Af.calm (E.out.2.1) (hc), Af.calm (E.out.2.2.1) (hc), At.calm (E.out.2.2.2.1) (hc), At.calm (E.out.2.2.2.2.1) (hc), At.calm (E.out.2.2.2.2.2.1) (hc), At.calm (E.out.2.2.2.2.2.2.1) (hc), At.calm (E.out.2.2.2.2.2.2.2.1) (hc), At.calm (E.out.2.2.2.2.2.2.2.2.1) (hc), At.calm (E.out.2.2.2.2.2.2.2.2.2.1) (hc), At.calm (E.out.2.2.2.2.2.2.2.2.2.2) (hc)⟩)
  clear hc
  obtain ⟨g1_0, g1_1, g1_2, g1_3⟩ := Af.four (E.out.2.1)
  obtain ⟨g2_0, g2_1, g2_2, g2_3⟩ := Af.four (E.out.2.2.1)
  obtain ⟨g3_0, g3_1, g3_2, g3_3⟩ := At.two (E.out.2.2.2.1)
  obtain ⟨g4_0, g4_1, g4_2, g4_3⟩ := At.two (E.out.2.2.2.2.1)
  obtain ⟨g5_0, g5_1, g5_2, g5_3⟩ := At.two (E.out.2.2.2.2.2.1)
  obtain ⟨g6_0, g6_1, g6_2, g6_3⟩ := At.two (E.out.2.2.2.2.2.2.1)
  obtain ⟨g7_0, g7_1, g7_2, g7_3⟩ := At.two (E.out.2.2.2.2.2.2.2.1)
  obtain ⟨g8_0, g8_1, g8_2, g8_3⟩ := At.two (E.out.2.2.2.2.2.2.2.2.1)
  obtain ⟨g9_0, g9_1, g9_2, g9_3⟩ := At.two (E.out.2.2.2.2.2.2.2.2.2.1)
  obtain ⟨g10_0, g10_1, g10_2, g10_3⟩ := At.two (E.out.2.2.2.2.2.2.2.2.2.2)
  go_upto_region 14 with fail
  clear g1_0 g1_1 g1_2 g1_3 g2_0 g2_1 g2_2 g2_3 g3_0 g3_1 g3_2 g3_3 g4_0 g4_1 g4_2 g4_3 g5_0 g5_1 g5_2 g5_3 g6_0 g6_1 g6_2 g6_3 g7_0 g7_1 g7_2 g7_3 g8_0 g8_1 g8_2 g8_3 g9_0 g9_1 g9_2 g9_3 g10_0 g10_1 g10_2 g10_3
  replace E := Lib.hid (show Calm w ((w15.setCell ⟨g10, 0, none⟩ (.int .u64 (p.lo : Int))).setCell ⟨g10, 1, none⟩ (.int .u64 (p.hi : Int))) ∧ Af ((w15.setCell ⟨g10, 0, none⟩ (.int .u64 (p.lo : Int))).setCell ⟨g10, 1, none⟩ (.int .u64 (p.hi : Int))) g1 f0 f1 f2 f3 ∧ Af ((w15.setCell ⟨g10, 0, none⟩ (.int .u64 (p.lo : Int))).setCell ⟨g10, 1, none⟩ (.int .u64 (p.hi : Int))) g2 e0 e1 e2 e3 ∧ At ((w15.setCell ⟨g10, 0, none⟩ (.int .u64 (p.lo : Int))).setCell ⟨g10, 1, none⟩ (.int .u64 (p.hi : Int))) g3 a ∧ At ((w15.setCell ⟨g10, 0, none⟩ (.int .u64 (p.lo : Int))).setCell ⟨g10, 1, none⟩ (.int .u64 (p.hi : Int))) g4 b ∧ At ((w15.setCell ⟨g10, 0, none⟩ (.int .u64 (p.lo : Int))).setCell ⟨g10, 1, none⟩ (.int .u64 (p.hi : Int))) g5 c ∧ At ((w15.setCell ⟨g10, 0, none⟩ (.int .u64 (p.lo : Int))).setCell ⟨g10, 1, none⟩ (.int .u64 (p.hi : Int))) g6 d ∧ At ((w15.setCell ⟨g10, 0, none⟩ (.int .u64 (p.lo : Int))).setCell ⟨g10, 1, none⟩ (.int .u64 (p.hi : Int))) g7 x ∧ At ((w15.setCell ⟨g10, 0, none⟩ (.int .u64 (p.lo : Int))).setCell ⟨g10, 1, none⟩ (.int .u64 (p.hi : Int))) g8 x ∧ At ((w15.setCell ⟨g10, 0, none⟩ (.int .u64 (p.lo : Int))).setCell ⟨g10, 1, none⟩ (.int .u64 (p.hi : Int))) g9 p ∧ At ((w15.setCell ⟨g10, 0, none⟩ (.int .u64 (p.lo : Int))).setCell ⟨g10, 1, none⟩ (.int .u64 (p.hi : Int))) g10 p from ⟨Keep.both (E.out.1) (by have := O10.out; omega) _ _, Af.aside (E.out.2.1) (by have := O10.out; omega) _ _, Af.aside (E.out.2.2.1) (by have := O10.out; omega) _ _, At.aside (E.out.2.2.2.1) (by have := O10.out; omega) _ _, At.aside (E.out.2.2.2.2.1) (by have := O10.out; omega) _ _, At.aside (E.out.2.2.2.2.2.1) (by have := O10.out; omega) _ _, At.aside (E.out.2.2.2.2.2.2.1) (by have := O10.out; omega) _ _, At.aside (E.out.2.2.2.2.2.2.2.1) (by have := O10.out; omega) _ _, At.aside (E.out.2.2.2.2.2.2.2.2.1) (by have := O10.out; omega) _ _, At.aside (E.out.2.2.2.2.2.2.2.2.2.1) (by have := O10.out; omega) _ _, At.both (E.out.2.2.2.2.2.2.2.2.2.2) p⟩)
  obtain ⟨w16, hw16⟩ : ∃ zz, zz = (w15.setCell ⟨g10, 0, none⟩ (.int .u64 (p.lo : Int))).setCell ⟨g10, 1, none⟩ (.int .u64 (p.hi : Int)) := ⟨_, rfl⟩
  rw [← hw16] at E ⊢
  clear hw16
  obtain ⟨g1_0, g1_1, g1_2, g1_3⟩ := Af.four (E.out.2.1)
  obtain ⟨g2_0, g2_1, g2_2, g2_3⟩ := Af.four (E.out.2.2.1)
  obtain ⟨g3_0, g3_1, g3_2, g3_3⟩ := At.two (E.out.2.2.2.1)
  obtain ⟨g4_0, g4_1, g4_2, g4_3⟩ := At.two (E.out.2.2.2.2.1)
  obtain ⟨g5_0, g5_1, g5_2, g5_3⟩ := At.two (E.out.2.2.2.2.2.1)
  obtain ⟨g6_0, g6_1, g6_2, g6_3⟩ := At.two (E.out.2.2.2.2.2.2.1)
  obtain ⟨g7_0, g7_1, g7_2, g7_3⟩ := At.two (E.out.2.2.2.2.2.2.2.1)
  obtain ⟨g8_0, g8_1, g8_2, g8_3⟩ := At.two (E.out.2.2.2.2.2.2.2.2.1)
  obtain ⟨g9_0, g9_1, g9_2, g9_3⟩ := At.two (E.out.2.2.2.2.2.2.2.2.2.1)
  obtain ⟨g10_0, g10_1, g10_2, g10_3⟩ := At.two (E.out.2.2.2.2.2.2.2.2.2.2)
  go_wp2_with fail
  clear g1_0 g1_1 g1_2 g1_3 g2_0 g2_1 g2_2 g2_3 g3_0 g3_1 g3_2 g3_3 g4_0 g4_1 g4_2 g4_3 g5_0 g5_1 g5_2 g5_3 g6_0 g6_1 g6_2 g6_3 g7_0 g7_1 g7_2 g7_3 g8_0 g8_1 g8_2 g8_3 g9_0 g9_1 g9_2 g9_3 g10_0 g10_1 g10_2 g10_3
  go_returns
  exact ⟨rfl, E.out.1⟩

theorem spanMeets_w {f0 f1 f2 f3 e0 e1 e2 e3 : Nat} (hf0 : f0 < 18446744073709551616) (hf1 : f1 < 18446744073709551616) (hf2 : f2 < 18446744073709551616) (hf3 : f3 < 18446744073709551616) (he0 : e0 < 18446744073709551616) (he1 : e1 < 18446744073709551616) (he2 : e2 < 18446744073709551616) (he3 : e3 < 18446744073709551616) (w : World) : Calls Try.prog 10 #[.agg #[.int .u64 (f0 : Int), .int .u64 (f1 : Int), .int .u64 (f2 : Int), .int .u64 (f3 : Int)], .agg #[.int .u64 (e0 : Int), .int .u64 (e1 : Int), .int .u64 (e2 : Int), .int .u64 (e3 : Int)]] w fun e w' => e = .returned (.bool true) ∧ Calm w w' := by
  obtain ⟨a, ea⟩ : ∃ a, a = rS f0 f1 := ⟨_, rfl⟩
  obtain ⟨b, eb⟩ : ∃ b, b = rS f2 f3 := ⟨_, rfl⟩
  obtain ⟨c, ec⟩ : ∃ c, c = rS e0 e1 := ⟨_, rfl⟩
  have oka : a.Ok := by rw [ea]; exact rS_ok hf0 hf1
  have okb : b.Ok := by rw [eb]; exact rS_ok hf2 hf3
  cases h1 : (meetS a b).2
  · have k := meet_isnt h1
    have r1 := oka.r
    have r2 := okb.r
    by_cases h2 : a.hi < b.lo
    · exact spanMeets_f1 oka okb ea eb ec h1 h2 w
    · exact spanMeets_f2 oka okb ea eb ec h1 h2 (by omega) w
  · cases h2 : (meetS b c).2
    · exact spanMeets_tf oka okb ea eb ec h1 h2 w
    · cases h3 : (meetS (meetS a b).1 c).2
      · exact spanMeets_ttf oka okb ea eb ec h1 h2 h3 w
      · exact spanMeets_ttt oka okb ea eb ec h1 h2 h3 w

end Go.Proofs.Ytboiakahhkihiaa
