/-
  The walk of SpanWider.
-/
import Derived.Test.YtboiakahhkihiaaN9
import Derived.Test.YtboiakahhkihiaaNQ
namespace Go.Proofs.Ytboiakahhkihiaa
open Go.RowKit
set_option linter.all false

set_option maxHeartbeats 6400000 in
set_option maxRecDepth 20000 in
theorem spanWider_w (wide : Bool) {op f0 f1 f2 f3 e0 e1 e2 e3 : Nat} (hf0 : f0 < 18446744073709551616) (hf1 : f1 < 18446744073709551616) (hf2 : f2 < 18446744073709551616) (hf3 : f3 < 18446744073709551616) (he0 : e0 < 18446744073709551616) (he1 : e1 < 18446744073709551616) (he2 : e2 < 18446744073709551616) (he3 : e3 < 18446744073709551616) (w : World) : Calls Try.prog 9 #[.int .u8 (op : Int), .bool wide, .agg #[.int .u64 (f0 : Int), .int .u64 (f1 : Int), .int .u64 (f2 : Int), .int .u64 (f3 : Int)], .agg #[.int .u64 (e0 : Int), .int .u64 (e1 : Int), .int .u64 (e2 : Int), .int .u64 (e3 : Int)]] w fun e w' => e = .returned (.bool true) ∧ Calm w w' := by
  obtain ⟨a, ea⟩ : ∃ a, a = rS f0 f1 := ⟨_, rfl⟩
  obtain ⟨b, eb⟩ : ∃ b, b = rS f2 f3 := ⟨_, rfl⟩
  obtain ⟨c, ec⟩ : ∃ c, c = rS e0 e1 := ⟨_, rfl⟩
  obtain ⟨d, ed⟩ : ∃ d, d = rS e2 e3 := ⟨_, rfl⟩
  have oka : a.Ok := by rw [ea]; exact rS_ok hf0 hf1
  have okb : b.Ok := by rw [eb]; exact rS_ok hf2 hf3
  have okc : c.Ok := by rw [ec]; exact rS_ok he0 he1
  have okd : d.Ok := by rw [ed]; exact rS_ok he2 he3
  obtain ⟨p, ep⟩ : ∃ p, p = joinS c a := ⟨_, rfl⟩
  obtain ⟨q, eq⟩ : ∃ q, q = joinS d b := ⟨_, rfl⟩
  have okp : p.Ok := by rw [ep]; exact join_ok okc oka
  have okq : q.Ok := by rw [eq]; exact join_ok okd okb
  have sp : a.Sub p := by rw [ep]; exact join_sub c a
  have sq : b.Sub q := by rw [eq]; exact join_sub d b
  obtain ⟨s, es⟩ : ∃ s, s = doS wide op a b := ⟨_, rfl⟩
  obtain ⟨t, et⟩ : ∃ t, t = doS wide op p q := ⟨_, rfl⟩
  obtain ⟨x, ex⟩ : ∃ x, x = (whereS op a b).1 := ⟨_, rfl⟩
  obtain ⟨u, eu⟩ : ∃ u, u = (whereS op a b).2 := ⟨_, rfl⟩
  obtain ⟨y, ey⟩ : ∃ y, y = (whereS op p q).1 := ⟨_, rfl⟩
  obtain ⟨v, ev⟩ : ∃ v, v = (whereS op p q).2 := ⟨_, rfl⟩
  have st : s.Sub t := by rw [es, et]; exact do_sub wide op oka okb okp okq sp sq
  have xy : u = true → v = true ∧ x.Sub y := by rw [eu, ev, ex, ey]; exact where_sub op oka okb okp okq sp sq
  have t1 := st.1
  have t2 := st.2
  have KA : Hid (∀ w, Calls Try.prog 12 #[.agg #[.int .u64 (f0 : Int), .int .u64 (f1 : Int), .int .u64 (f2 : Int), .int .u64 (f3 : Int)]] w fun x w' => x = .returned (.tuple #[.agg #[.int .u64 (a.lo : Int), .int .u64 (a.hi : Int)], .agg #[.int .u64 (b.lo : Int), .int .u64 (b.hi : Int)]]) ∧ Calm w w') := Lib.hid (by rw [ea, eb]; exact fun w => spans8_c w f0 f1 f2 f3)
  have KB : Hid (∀ w, Calls Try.prog 12 #[.agg #[.int .u64 (e0 : Int), .int .u64 (e1 : Int), .int .u64 (e2 : Int), .int .u64 (e3 : Int)]] w fun x w' => x = .returned (.tuple #[.agg #[.int .u64 (c.lo : Int), .int .u64 (c.hi : Int)], .agg #[.int .u64 (d.lo : Int), .int .u64 (d.hi : Int)]]) ∧ Calm w w') := Lib.hid (by rw [ec, ed]; exact fun w => spans8_c w e0 e1 e2 e3)
  have KP : Hid (∀ w, Calls Try.prog 20 #[.agg #[.int .u64 (c.lo : Int), .int .u64 (c.hi : Int)], .agg #[.int .u64 (a.lo : Int), .int .u64 (a.hi : Int)]] w fun x w' => x = .returned (.agg #[.int .u64 (p.lo : Int), .int .u64 (p.hi : Int)]) ∧ Calm w w') := Lib.hid (by rw [ep]; exact fun w => pjoin_c c a w)
  have KQ : Hid (∀ w, Calls Try.prog 20 #[.agg #[.int .u64 (d.lo : Int), .int .u64 (d.hi : Int)], .agg #[.int .u64 (b.lo : Int), .int .u64 (b.hi : Int)]] w fun x w' => x = .returned (.agg #[.int .u64 (q.lo : Int), .int .u64 (q.hi : Int)]) ∧ Calm w w') := Lib.hid (by rw [eq]; exact fun w => pjoin_c d b w)
  have KS : Hid (∀ w, Calls Try.prog 14 #[.int .u8 (op : Int), .bool wide, .agg #[.int .u64 (a.lo : Int), .int .u64 (a.hi : Int)], .agg #[.int .u64 (b.lo : Int), .int .u64 (b.hi : Int)]] w fun x w' => x = .returned (.agg #[.int .u64 (s.lo : Int), .int .u64 (s.hi : Int)]) ∧ Calm w w') := Lib.hid (by rw [es]; exact fun w => pdo_c wide oka okb w)
  have KT : Hid (∀ w, Calls Try.prog 14 #[.int .u8 (op : Int), .bool wide, .agg #[.int .u64 (p.lo : Int), .int .u64 (p.hi : Int)], .agg #[.int .u64 (q.lo : Int), .int .u64 (q.hi : Int)]] w fun x w' => x = .returned (.agg #[.int .u64 (t.lo : Int), .int .u64 (t.hi : Int)]) ∧ Calm w w') := Lib.hid (by rw [et]; exact fun w => pdo_c wide okp okq w)
  have KX : Hid (∀ w, Calls Try.prog 16 #[.int .u8 (op : Int), .agg #[.int .u64 (a.lo : Int), .int .u64 (a.hi : Int)], .agg #[.int .u64 (b.lo : Int), .int .u64 (b.hi : Int)]] w fun z w' => z = .returned (.tuple #[.agg #[.int .u64 (x.lo : Int), .int .u64 (x.hi : Int)], .bool u]) ∧ Calm w w') := Lib.hid (by rw [ex, eu]; exact fun w => pwhere_c w oka okb)
  have KY : Hid (∀ w, Calls Try.prog 16 #[.int .u8 (op : Int), .agg #[.int .u64 (p.lo : Int), .int .u64 (p.hi : Int)], .agg #[.int .u64 (q.lo : Int), .int .u64 (q.hi : Int)]] w fun z w' => z = .returned (.tuple #[.agg #[.int .u64 (y.lo : Int), .int .u64 (y.hi : Int)], .bool v]) ∧ Calm w w') := Lib.hid (by rw [ey, ev]; exact fun w => pwhere_c w okp okq)
  clear hf0 hf1 hf2 hf3 he0 he1 he2 he3 ea eb ec ed oka okb okc okd ep eq okp okq sp sq es et ex eu ey ev st
  have T := Lib.hid (And.intro t1 (And.intro t2 xy))
  clear t1 t2 xy
  go_enter Try.func9, Try.ntmps9
  have E := Lib.hid (show Calm w w from Keep.refl _ _)
  go_upto_region 1 with fail
  have hC : Calm w ((w.alloc (.cells #[.int .u64 (f0 : Int), .int .u64 (f1 : Int), .int .u64 (f2 : Int), .int .u64 (f3 : Int)] 24)).alloc (.cells #[.int .u64 (e0 : Int), .int .u64 (e1 : Int), .int .u64 (e2 : Int), .int .u64 (e3 : Int)] 24)) := ((Keep.refl _ _).alloc _).alloc _
  have hA : Af ((w.alloc (.cells #[.int .u64 (f0 : Int), .int .u64 (f1 : Int), .int .u64 (f2 : Int), .int .u64 (f3 : Int)] 24)).alloc (.cells #[.int .u64 (e0 : Int), .int .u64 (e1 : Int), .int .u64 (e2 : Int), .int .u64 (e3 : Int)] 24)) w.heap.size f0 f1 f2 f3 := (Row.made w _ _).alloc _
  have hB : Af ((w.alloc (.cells #[.int .u64 (f0 : Int), .int .u64 (f1 : Int), .int .u64 (f2 : Int), .int .u64 (f3 : Int)] 24)).alloc (.cells #[.int .u64 (e0 : Int), .int .u64 (e1 : Int), .int .u64 (e2 : Int), .int .u64 (e3 : Int)] 24)) (w.heap.size + 1) e0 e1 e2 e3 := by
    have e : Af ((w.alloc (.cells #[.int .u64 (f0 : Int), .int .u64 (f1 : Int), .int .u64 (f2 : Int), .int .u64 (f3 : Int)] 24)).alloc (.cells #[.int .u64 (e0 : Int), .int .u64 (e1 : Int), .int .u64 (e2 : Int), .int .u64 (e3 : Int)] 24)) (w.alloc (.cells #[.int .u64 (f0 : Int), .int .u64 (f1 : Int), .int .u64 (f2 : Int), .int .u64 (f3 : Int)] 24)).heap.size e0 e1 e2 e3 := Row.made _ _ _
    simp only [World.size_alloc] at e
    exact e
  have hO : w.heap.size ≤ w.heap.size := E.out.size
  obtain ⟨g1, hg1⟩ : ∃ zg, zg = w.heap.size := ⟨_, rfl⟩
  obtain ⟨w1, hw1⟩ : ∃ zz, zz = (w.alloc (.cells #[.int .u64 (f0 : Int), .int .u64 (f1 : Int), .int .u64 (f2 : Int), .int .u64 (f3 : Int)] 24)).alloc (.cells #[.int .u64 (e0 : Int), .int .u64 (e1 : Int), .int .u64 (e2 : Int), .int .u64 (e3 : Int)] 24) := ⟨_, rfl⟩
  replace hO : w.heap.size ≤ g1 := by rw [hg1]; exact hO
  rw [← hg1] at hA hB ⊢
  rw [← hw1] at hA hB hC ⊢
  clear hg1 hw1
  obtain ⟨g2, hg2⟩ : ∃ zg, zg = g1 + 1 := ⟨_, rfl⟩
  rw [← hg2] at hB ⊢
  have O1 := Lib.hid hO
  have O2 : Hid (w.heap.size ≤ g2 ∧ g1 < g2) := Lib.hid (by have := O1.out; omega)
  clear hO
  clear hg2
  replace E := Lib.hid (show Calm w w1 from E.out.trans (hC))
  replace E := Lib.hid (show Calm w w1 ∧ Af w1 g1 f0 f1 f2 f3 ∧ Af w1 g2 e0 e1 e2 e3 from ⟨E.out, hA, hB⟩)
  clear hC hA hB
  obtain ⟨g1_0, g1_1, g1_2, g1_3⟩ := Af.four (E.out.2.1)
  obtain ⟨g2_0, g2_1, g2_2, g2_3⟩ := Af.four (E.out.2.2)
  go_wp2_with fail
  clear g1_0 g1_1 g1_2 g1_3 g2_0 g2_1 g2_2 g2_3
  refine (shown8_c _).mono ?_
  rintro ze w2 ⟨rfl, hc⟩
  replace E := Lib.hid (show Calm w w2 ∧ Af w2 g1 f0 f1 f2 f3 ∧ Af w2 g2 e0 e1 e2 e3 from ⟨E.out.1.trans (hc), Af.calm (E.out.2.1) (hc), Af.calm (E.out.2.2) (hc)⟩)
  clear hc
  obtain ⟨g1_0, g1_1, g1_2, g1_3⟩ := Af.four (E.out.2.1)
  obtain ⟨g2_0, g2_1, g2_2, g2_3⟩ := Af.four (E.out.2.2)
  go_wp2_with fail
  clear g1_0 g1_1 g1_2 g1_3 g2_0 g2_1 g2_2 g2_3
  refine (KA.out _).mono ?_
  rintro ze w3 ⟨rfl, hc⟩
  replace E := Lib.hid (show Calm w w3 ∧ Af w3 g1 f0 f1 f2 f3 ∧ Af w3 g2 e0 e1 e2 e3 from ⟨E.out.1.trans (hc), Af.calm (E.out.2.1) (hc), Af.calm (E.out.2.2) (hc)⟩)
  clear hc
  obtain ⟨g1_0, g1_1, g1_2, g1_3⟩ := Af.four (E.out.2.1)
  obtain ⟨g2_0, g2_1, g2_2, g2_3⟩ := Af.four (E.out.2.2)
  go_upto_region 3 with fail
  clear g1_0 g1_1 g1_2 g1_3 g2_0 g2_1 g2_2 g2_3
  have hC : Calm w3 ((w3.alloc (.cells #[.int .u64 (a.lo : Int), .int .u64 (a.hi : Int)] 27)).alloc (.cells #[.int .u64 (b.lo : Int), .int .u64 (b.hi : Int)] 27)) := ((Keep.refl _ _).alloc _).alloc _
  have hA : At ((w3.alloc (.cells #[.int .u64 (a.lo : Int), .int .u64 (a.hi : Int)] 27)).alloc (.cells #[.int .u64 (b.lo : Int), .int .u64 (b.hi : Int)] 27)) w3.heap.size a := (Row.made w3 _ _).alloc _
  have hB : At ((w3.alloc (.cells #[.int .u64 (a.lo : Int), .int .u64 (a.hi : Int)] 27)).alloc (.cells #[.int .u64 (b.lo : Int), .int .u64 (b.hi : Int)] 27)) (w3.heap.size + 1) b := by
    have e : At ((w3.alloc (.cells #[.int .u64 (a.lo : Int), .int .u64 (a.hi : Int)] 27)).alloc (.cells #[.int .u64 (b.lo : Int), .int .u64 (b.hi : Int)] 27)) (w3.alloc (.cells #[.int .u64 (a.lo : Int), .int .u64 (a.hi : Int)] 27)).heap.size b := Row.made _ _ _
    simp only [World.size_alloc] at e
    exact e
  have hO : w.heap.size ≤ w3.heap.size ∧ g1 < w3.heap.size ∧ g2 < w3.heap.size := ⟨E.out.1.size, Af.lt (E.out.2.1), Af.lt (E.out.2.2)⟩
  obtain ⟨g3, hg3⟩ : ∃ zg, zg = w3.heap.size := ⟨_, rfl⟩
  obtain ⟨w4, hw4⟩ : ∃ zz, zz = (w3.alloc (.cells #[.int .u64 (a.lo : Int), .int .u64 (a.hi : Int)] 27)).alloc (.cells #[.int .u64 (b.lo : Int), .int .u64 (b.hi : Int)] 27) := ⟨_, rfl⟩
  replace hO : w.heap.size ≤ g3 ∧ g1 < g3 ∧ g2 < g3 := by rw [hg3]; exact hO
  rw [← hg3] at hA hB ⊢
  rw [← hw4] at hA hB hC ⊢
  clear hg3 hw4
  obtain ⟨g4, hg4⟩ : ∃ zg, zg = g3 + 1 := ⟨_, rfl⟩
  rw [← hg4] at hB ⊢
  have O3 := Lib.hid hO
  have O4 : Hid (w.heap.size ≤ g4 ∧ g1 < g4 ∧ g2 < g4 ∧ g3 < g4) := Lib.hid (by have := O3.out; omega)
  clear hO
  clear hg4
  replace E := Lib.hid (show Calm w w4 ∧ Af w4 g1 f0 f1 f2 f3 ∧ Af w4 g2 e0 e1 e2 e3 from ⟨E.out.1.trans (hC), Af.calm (E.out.2.1) (hC), Af.calm (E.out.2.2) (hC)⟩)
  replace E := Lib.hid (show Calm w w4 ∧ Af w4 g1 f0 f1 f2 f3 ∧ Af w4 g2 e0 e1 e2 e3 ∧ At w4 g3 a ∧ At w4 g4 b from ⟨E.out.1, E.out.2.1, E.out.2.2, hA, hB⟩)
  clear hC hA hB
  obtain ⟨g1_0, g1_1, g1_2, g1_3⟩ := Af.four (E.out.2.1)
  obtain ⟨g2_0, g2_1, g2_2, g2_3⟩ := Af.four (E.out.2.2.1)
  obtain ⟨g3_0, g3_1, g3_2, g3_3⟩ := At.two (E.out.2.2.2.1)
  obtain ⟨g4_0, g4_1, g4_2, g4_3⟩ := At.two (E.out.2.2.2.2)
  go_wp2_with fail
  clear g1_0 g1_1 g1_2 g1_3 g2_0 g2_1 g2_2 g2_3 g3_0 g3_1 g3_2 g3_3 g4_0 g4_1 g4_2 g4_3
  refine (KB.out _).mono ?_
  rintro ze w5 ⟨rfl, hc⟩
  replace E := Lib.hid (show Calm w w5 ∧ Af w5 g1 f0 f1 f2 f3 ∧ Af w5 g2 e0 e1 e2 e3 ∧ At w5 g3 a ∧ At w5 g4 b from ⟨E.out.1.trans (hc), Af.calm (E.out.2.1) (hc), Af.calm (E.out.2.2.1) (hc), At.calm (E.out.2.2.2.1) (hc), At.calm (E.out.2.2.2.2) (hc)⟩)
  clear hc
  obtain ⟨g1_0, g1_1, g1_2, g1_3⟩ := Af.four (E.out.2.1)
  obtain ⟨g2_0, g2_1, g2_2, g2_3⟩ := Af.four (E.out.2.2.1)
  obtain ⟨g3_0, g3_1, g3_2, g3_3⟩ := At.two (E.out.2.2.2.1)
  obtain ⟨g4_0, g4_1, g4_2, g4_3⟩ := At.two (E.out.2.2.2.2)
  go_upto_region 4 with fail
  clear g1_0 g1_1 g1_2 g1_3 g2_0 g2_1 g2_2 g2_3 g3_0 g3_1 g3_2 g3_3 g4_0 g4_1 g4_2 g4_3
  have hC : Calm w5 ((w5.alloc (.cells #[.int .u64 (c.lo : Int), .int .u64 (c.hi : Int)] 27)).alloc (.cells #[.int .u64 (d.lo : Int), .int .u64 (d.hi : Int)] 27)) := ((Keep.refl _ _).alloc _).alloc _
  have hA : At ((w5.alloc (.cells #[.int .u64 (c.lo : Int), .int .u64 (c.hi : Int)] 27)).alloc (.cells #[.int .u64 (d.lo : Int), .int .u64 (d.hi : Int)] 27)) w5.heap.size c := (Row.made w5 _ _).alloc _
  have hB : At ((w5.alloc (.cells #[.int .u64 (c.lo : Int), .int .u64 (c.hi : Int)] 27)).alloc (.cells #[.int .u64 (d.lo : Int), .int .u64 (d.hi : Int)] 27)) (w5.heap.size + 1) d := by
    have e : At ((w5.alloc (.cells #[.int .u64 (c.lo : Int), .int .u64 (c.hi : Int)] 27)).alloc (.cells #[.int .u64 (d.lo : Int), .int .u64 (d.hi : Int)] 27)) (w5.alloc (.cells #[.int .u64 (c.lo : Int), .int .u64 (c.hi : Int)] 27)).heap.size d := Row.made _ _ _
    simp only [World.size_alloc] at e
    exact e
  have hO : w.heap.size ≤ w5.heap.size ∧ g1 < w5.heap.size ∧ g2 < w5.heap.size ∧ g3 < w5.heap.size ∧ g4 < w5.heap.size := ⟨E.out.1.size, Af.lt (E.out.2.1), Af.lt (E.out.2.2.1), At.lt (E.out.2.2.2.1), At.lt (E.out.2.2.2.2)⟩
  obtain ⟨g5, hg5⟩ : ∃ zg, zg = w5.heap.size := ⟨_, rfl⟩
  obtain ⟨w6, hw6⟩ : ∃ zz, zz = (w5.alloc (.cells #[.int .u64 (c.lo : Int), .int .u64 (c.hi : Int)] 27)).alloc (.cells #[.int .u64 (d.lo : Int), .int .u64 (d.hi : Int)] 27) := ⟨_, rfl⟩
  replace hO : w.heap.size ≤ g5 ∧ g1 < g5 ∧ g2 < g5 ∧ g3 < g5 ∧ g4 < g5 := by rw [hg5]; exact hO
  rw [← hg5] at hA hB ⊢
  rw [← hw6] at hA hB hC ⊢
  clear hg5 hw6
  obtain ⟨g6, hg6⟩ : ∃ zg, zg = g5 + 1 := ⟨_, rfl⟩
  rw [← hg6] at hB ⊢
  have O5 := Lib.hid hO
  have O6 : Hid (w.heap.size ≤ g6 ∧ g1 < g6 ∧ g2 < g6 ∧ g3 < g6 ∧ g4 < g6 ∧ g5 < g6) := Lib.hid (by have := O5.out; omega)
  clear hO
  clear hg6
  replace E := Lib.hid (show Calm w w6 ∧ Af w6 g1 f0 f1 f2 f3 ∧ Af w6 g2 e0 e1 e2 e3 ∧ At w6 g3 a ∧ At w6 g4 b from ⟨E.out.1.trans (hC), Af.calm (E.out.2.1) (hC), Af.calm (E.out.2.2.1) (hC), At.calm (E.out.2.2.2.1) (hC), At.calm (E.out.2.2.2.2) (hC)⟩)
  replace E := Lib.hid (show Calm w w6 ∧ Af w6 g1 f0 f1 f2 f3 ∧ Af w6 g2 e0 e1 e2 e3 ∧ At w6 g3 a ∧ At w6 g4 b ∧ At w6 g5 c ∧ At w6 g6 d from ⟨E.out.1, E.out.2.1, E.out.2.2.1, E.out.2.2.2.1, E.out.2.2.2.2, hA, hB⟩)
  clear hC hA hB
  obtain ⟨g1_0, g1_1, g1_2, g1_3⟩ := Af.four (E.out.2.1)
  obtain ⟨g2_0, g2_1, g2_2, g2_3⟩ := Af.four (E.out.2.2.1)
  obtain ⟨g3_0, g3_1, g3_2, g3_3⟩ := At.two (E.out.2.2.2.1)
  obtain ⟨g4_0, g4_1, g4_2, g4_3⟩ := At.two (E.out.2.2.2.2.1)
  obtain ⟨g5_0, g5_1, g5_2, g5_3⟩ := At.two (E.out.2.2.2.2.2.1)
  obtain ⟨g6_0, g6_1, g6_2, g6_3⟩ := At.two (E.out.2.2.2.2.2.2)
  go_wp2_with fail
  clear g1_0 g1_1 g1_2 g1_3 g2_0 g2_1 g2_2 g2_3 g3_0 g3_1 g3_2 g3_3 g4_0 g4_1 g4_2 g4_3 g5_0 g5_1 g5_2 g5_3 g6_0 g6_1 g6_2 g6_3
  refine (KP.out _).mono ?_
  rintro ze w7 ⟨rfl, hc⟩
  replace E := Lib.hid (show Calm w w7 ∧ Af w7 g1 f0 f1 f2 f3 ∧ Af w7 g2 e0 e1 e2 e3 ∧ At w7 g3 a ∧ At w7 g4 b ∧ At w7 g5 c ∧ At w7 g6 d from ⟨E.out.1.trans (hc), Af.calm (E.out.2.1) (hc), Af.calm (E.out.2.2.1) (hc), At.calm (E.out.2.2.2.1) (hc), At.calm (E.out.2.2.2.2.1) (hc), At.calm (E.out.2.2.2.2.2.1) (hc), At.calm (E.out.2.2.2.2.2.2) (hc)⟩)
  clear hc
  obtain ⟨g1_0, g1_1, g1_2, g1_3⟩ := Af.four (E.out.2.1)
  obtain ⟨g2_0, g2_1, g2_2, g2_3⟩ := Af.four (E.out.2.2.1)
  obtain ⟨g3_0, g3_1, g3_2, g3_3⟩ := At.two (E.out.2.2.2.1)
  obtain ⟨g4_0, g4_1, g4_2, g4_3⟩ := At.two (E.out.2.2.2.2.1)
  obtain ⟨g5_0, g5_1, g5_2, g5_3⟩ := At.two (E.out.2.2.2.2.2.1)
  obtain ⟨g6_0, g6_1, g6_2, g6_3⟩ := At.two (E.out.2.2.2.2.2.2)
  go_upto_region 5 with fail
  clear g1_0 g1_1 g1_2 g1_3 g2_0 g2_1 g2_2 g2_3 g3_0 g3_1 g3_2 g3_3 g4_0 g4_1 g4_2 g4_3 g5_0 g5_1 g5_2 g5_3 g6_0 g6_1 g6_2 g6_3
  replace E := Lib.hid (show Calm w ((w7.setCell ⟨g5, 0, none⟩ (.int .u64 (p.lo : Int))).setCell ⟨g5, 1, none⟩ (.int .u64 (p.hi : Int))) ∧ Af ((w7.setCell ⟨g5, 0, none⟩ (.int .u64 (p.lo : Int))).setCell ⟨g5, 1, none⟩ (.int .u64 (p.hi : Int))) g1 f0 f1 f2 f3 ∧ Af ((w7.setCell ⟨g5, 0, none⟩ (.int .u64 (p.lo : Int))).setCell ⟨g5, 1, none⟩ (.int .u64 (p.hi : Int))) g2 e0 e1 e2 e3 ∧ At ((w7.setCell ⟨g5, 0, none⟩ (.int .u64 (p.lo : Int))).setCell ⟨g5, 1, none⟩ (.int .u64 (p.hi : Int))) g3 a ∧ At ((w7.setCell ⟨g5, 0, none⟩ (.int .u64 (p.lo : Int))).setCell ⟨g5, 1, none⟩ (.int .u64 (p.hi : Int))) g4 b ∧ At ((w7.setCell ⟨g5, 0, none⟩ (.int .u64 (p.lo : Int))).setCell ⟨g5, 1, none⟩ (.int .u64 (p.hi : Int))) g5 p ∧ At ((w7.setCell ⟨g5, 0, none⟩ (.int .u64 (p.lo : Int))).setCell ⟨g5, 1, none⟩ (.int .u64 (p.hi : Int))) g6 d from ⟨Keep.both (E.out.1) (by have := O5.out; omega) _ _, Af.aside (E.out.2.1) (by have := O5.out; omega) _ _, Af.aside (E.out.2.2.1) (by have := O5.out; omega) _ _, At.aside (E.out.2.2.2.1) (by have := O5.out; omega) _ _, At.aside (E.out.2.2.2.2.1) (by have := O5.out; omega) _ _, At.both (E.out.2.2.2.2.2.1) p, At.aside (E.out.2.2.2.2.2.2) (by have := O6.out; omega) _ _⟩)
  obtain ⟨w8, hw8⟩ : ∃ zz, zz = (w7.setCell ⟨g5, 0, none⟩ (.int .u64 (p.lo : Int))).setCell ⟨g5, 1, none⟩ (.int .u64 (p.hi : Int)) := ⟨_, rfl⟩
  rw [← hw8] at E ⊢
  clear hw8
  obtain ⟨g1_0, g1_1, g1_2, g1_3⟩ := Af.four (E.out.2.1)
  obtain ⟨g2_0, g2_1, g2_2, g2_3⟩ := Af.four (E.out.2.2.1)
  obtain ⟨g3_0, g3_1, g3_2, g3_3⟩ := At.two (E.out.2.2.2.1)
  obtain ⟨g4_0, g4_1, g4_2, g4_3⟩ := At.two (E.out.2.2.2.2.1)
  obtain ⟨g5_0, g5_1, g5_2, g5_3⟩ := At.two (E.out.2.2.2.2.2.1)
  obtain ⟨g6_0, g6_1, g6_2, g6_3⟩ := At.two (E.out.2.2.2.2.2.2)
  go_wp2_with fail
  clear g1_0 g1_1 g1_2 g1_3 g2_0 g2_1 g2_2 g2_3 g3_0 g3_1 g3_2 g3_3 g4_0 g4_1 g4_2 g4_3 g5_0 g5_1 g5_2 g5_3 g6_0 g6_1 g6_2 g6_3
  refine (KQ.out _).mono ?_
  rintro ze w9 ⟨rfl, hc⟩
  replace E := Lib.hid (show Calm w w9 ∧ Af w9 g1 f0 f1 f2 f3 ∧ Af w9 g2 e0 e1 e2 e3 ∧ At w9 g3 a ∧ At w9 g4 b ∧ At w9 g5 p ∧ At w9 g6 d from ⟨E.out.1.trans (hc), Af.calm (E.out.2.1) (hc), Af.calm (E.out.2.2.1) (hc), At.calm (E.out.2.2.2.1) (hc), At.calm (E.out.2.2.2.2.1) (hc), At.calm (E.out.2.2.2.2.2.1) (hc), At.calm (E.out.2.2.2.2.2.2) (hc)⟩)
  clear hc
  obtain ⟨g1_0, g1_1, g1_2, g1_3⟩ := Af.four (E.out.2.1)
  obtain ⟨g2_0, g2_1, g2_2, g2_3⟩ := Af.four (E.out.2.2.1)
  obtain ⟨g3_0, g3_1, g3_2, g3_3⟩ := At.two (E.out.2.2.2.1)
  obtain ⟨g4_0, g4_1, g4_2, g4_3⟩ := At.two (E.out.2.2.2.2.1)
  obtain ⟨g5_0, g5_1, g5_2, g5_3⟩ := At.two (E.out.2.2.2.2.2.1)
  obtain ⟨g6_0, g6_1, g6_2, g6_3⟩ := At.two (E.out.2.2.2.2.2.2)
  go_upto_region 6 with fail
  clear g1_0 g1_1 g1_2 g1_3 g2_0 g2_1 g2_2 g2_3 g3_0 g3_1 g3_2 g3_3 g4_0 g4_1 g4_2 g4_3 g5_0 g5_1 g5_2 g5_3 g6_0 g6_1 g6_2 g6_3
  replace E := Lib.hid (show Calm w ((w9.setCell ⟨g6, 0, none⟩ (.int .u64 (q.lo : Int))).setCell ⟨g6, 1, none⟩ (.int .u64 (q.hi : Int))) ∧ Af ((w9.setCell ⟨g6, 0, none⟩ (.int .u64 (q.lo : Int))).setCell ⟨g6, 1, none⟩ (.int .u64 (q.hi : Int))) g1 f0 f1 f2 f3 ∧ Af ((w9.setCell ⟨g6, 0, none⟩ (.int .u64 (q.lo : Int))).setCell ⟨g6, 1, none⟩ (.int .u64 (q.hi : Int))) g2 e0 e1 e2 e3 ∧ At ((w9.setCell ⟨g6, 0, none⟩ (.int .u64 (q.lo : Int))).setCell ⟨g6, 1, none⟩ (.int .u64 (q.hi : Int))) g3 a ∧ At ((w9.setCell ⟨g6, 0, none⟩ (.int .u64 (q.lo : Int))).setCell ⟨g6, 1, none⟩ (.int .u64 (q.hi : Int))) g4 b ∧ At ((w9.setCell ⟨g6, 0, none⟩ (.int .u64 (q.lo : Int))).setCell ⟨g6, 1, none⟩ (.int .u64 (q.hi : Int))) g5 p ∧ At ((w9.setCell ⟨g6, 0, none⟩ (.int .u64 (q.lo : Int))).setCell ⟨g6, 1, none⟩ (.int .u64 (q.hi : Int))) g6 q from ⟨Keep.both (E.out.1) (by have := O6.out; omega) _ _, Af.aside (E.out.2.1) (by have := O6.out; omega) _ _, Af.aside (E.out.2.2.1) (by have := O6.out; omega) _ _, At.aside (E.out.2.2.2.1) (by have := O6.out; omega) _ _, At.aside (E.out.2.2.2.2.1) (by have := O6.out; omega) _ _, At.aside (E.out.2.2.2.2.2.1) (by have := O6.out; omega) _ _, At.both (E.out.2.2.2.2.2.2) q⟩)
  obtain ⟨w10, hw10⟩ : ∃ zz, zz = (w9.setCell ⟨g6, 0, none⟩ (.int .u64 (q.lo : Int))).setCell ⟨g6, 1, none⟩ (.int .u64 (q.hi : Int)) := ⟨_, rfl⟩
  rw [← hw10] at E ⊢
  clear hw10
  obtain ⟨g1_0, g1_1, g1_2, g1_3⟩ := Af.four (E.out.2.1)
  obtain ⟨g2_0, g2_1, g2_2, g2_3⟩ := Af.four (E.out.2.2.1)
  obtain ⟨g3_0, g3_1, g3_2, g3_3⟩ := At.two (E.out.2.2.2.1)
  obtain ⟨g4_0, g4_1, g4_2, g4_3⟩ := At.two (E.out.2.2.2.2.1)
  obtain ⟨g5_0, g5_1, g5_2, g5_3⟩ := At.two (E.out.2.2.2.2.2.1)
  obtain ⟨g6_0, g6_1, g6_2, g6_3⟩ := At.two (E.out.2.2.2.2.2.2)
  go_wp2_with fail
  clear g1_0 g1_1 g1_2 g1_3 g2_0 g2_1 g2_2 g2_3 g3_0 g3_1 g3_2 g3_3 g4_0 g4_1 g4_2 g4_3 g5_0 g5_1 g5_2 g5_3 g6_0 g6_1 g6_2 g6_3
  refine (KS.out _).mono ?_
  rintro ze w11 ⟨rfl, hc⟩
  replace E := Lib.hid (show Calm w w11 ∧ Af w11 g1 f0 f1 f2 f3 ∧ Af w11 g2 e0 e1 e2 e3 ∧ At w11 g3 a ∧ At w11 g4 b ∧ At w11 g5 p ∧ At w11 g6 q from ⟨E.out.1.trans (hc), Af.calm (E.out.2.1) (hc), Af.calm (E.out.2.2.1) (hc), At.calm (E.out.2.2.2.1) (hc), At.calm (E.out.2.2.2.2.1) (hc), At.calm (E.out.2.2.2.2.2.1) (hc), At.calm (E.out.2.2.2.2.2.2) (hc)⟩)
  clear hc
  obtain ⟨g1_0, g1_1, g1_2, g1_3⟩ := Af.four (E.out.2.1)
  obtain ⟨g2_0, g2_1, g2_2, g2_3⟩ := Af.four (E.out.2.2.1)
  obtain ⟨g3_0, g3_1, g3_2, g3_3⟩ := At.two (E.out.2.2.2.1)
  obtain ⟨g4_0, g4_1, g4_2, g4_3⟩ := At.two (E.out.2.2.2.2.1)
  obtain ⟨g5_0, g5_1, g5_2, g5_3⟩ := At.two (E.out.2.2.2.2.2.1)
  obtain ⟨g6_0, g6_1, g6_2, g6_3⟩ := At.two (E.out.2.2.2.2.2.2)
  go_upto_region 7 with fail
  clear g1_0 g1_1 g1_2 g1_3 g2_0 g2_1 g2_2 g2_3 g3_0 g3_1 g3_2 g3_3 g4_0 g4_1 g4_2 g4_3 g5_0 g5_1 g5_2 g5_3 g6_0 g6_1 g6_2 g6_3
  have hC : Calm w11 (w11.alloc (.cells #[.int .u64 (s.lo : Int), .int .u64 (s.hi : Int)] 27)) := (Keep.refl _ _).alloc _
  have hA : At (w11.alloc (.cells #[.int .u64 (s.lo : Int), .int .u64 (s.hi : Int)] 27)) w11.heap.size s := Row.made w11 _ _
  have hO : w.heap.size ≤ w11.heap.size ∧ g1 < w11.heap.size ∧ g2 < w11.heap.size ∧ g3 < w11.heap.size ∧ g4 < w11.heap.size ∧ g5 < w11.heap.size ∧ g6 < w11.heap.size := ⟨E.out.1.size, Af.lt (E.out.2.1), Af.lt (E.out.2.2.1), At.lt (E.out.2.2.2.1), At.lt (E.out.2.2.2.2.1), At.lt (E.out.2.2.2.2.2.1), At.lt (E.out.2.2.2.2.2.2)⟩
  obtain ⟨g7, hg7⟩ : ∃ zg, zg = w11.heap.size := ⟨_, rfl⟩
  obtain ⟨w12, hw12⟩ : ∃ zz, zz = w11.alloc (.cells #[.int .u64 (s.lo : Int), .int .u64 (s.hi : Int)] 27) := ⟨_, rfl⟩
  replace hO : w.heap.size ≤ g7 ∧ g1 < g7 ∧ g2 < g7 ∧ g3 < g7 ∧ g4 < g7 ∧ g5 < g7 ∧ g6 < g7 := by rw [hg7]; exact hO
  rw [← hg7] at hA ⊢
  rw [← hw12] at hA hC ⊢
  clear hg7 hw12
  have O7 := Lib.hid hO
  clear hO
  replace E := Lib.hid (show Calm w w12 ∧ Af w12 g1 f0 f1 f2 f3 ∧ Af w12 g2 e0 e1 e2 e3 ∧ At w12 g3 a ∧ At w12 g4 b ∧ At w12 g5 p ∧ At w12 g6 q from ⟨E.out.1.trans (hC), Af.calm (E.out.2.1) (hC), Af.calm (E.out.2.2.1) (hC), At.calm (E.out.2.2.2.1) (hC), At.calm (E.out.2.2.2.2.1) (hC), At.calm (E.out.2.2.2.2.2.1) (hC), At.calm (E.out.2.2.2.2.2.2) (hC)⟩)
  replace E := Lib.hid (show Calm w w12 ∧ Af w12 g1 f0 f1 f2 f3 ∧ Af w12 g2 e0 e1 e2 e3 ∧ At w12 g3 a ∧ At w12 g4 b ∧ At w12 g5 p ∧ At w12 g6 q ∧ At w12 g7 s from ⟨E.out.1, E.out.2.1, E.out.2.2.1, E.out.2.2.2.1, E.out.2.2.2.2.1, E.out.2.2.2.2.2.1, E.out.2.2.2.2.2.2, hA⟩)
  clear hC hA
  obtain ⟨g1_0, g1_1, g1_2, g1_3⟩ := Af.four (E.out.2.1)
  obtain ⟨g2_0, g2_1, g2_2, g2_3⟩ := Af.four (E.out.2.2.1)
  obtain ⟨g3_0, g3_1, g3_2, g3_3⟩ := At.two (E.out.2.2.2.1)
  obtain ⟨g4_0, g4_1, g4_2, g4_3⟩ := At.two (E.out.2.2.2.2.1)
  obtain ⟨g5_0, g5_1, g5_2, g5_3⟩ := At.two (E.out.2.2.2.2.2.1)
  obtain ⟨g6_0, g6_1, g6_2, g6_3⟩ := At.two (E.out.2.2.2.2.2.2.1)
  obtain ⟨g7_0, g7_1, g7_2, g7_3⟩ := At.two (E.out.2.2.2.2.2.2.2)
  go_wp2_with fail
  clear g1_0 g1_1 g1_2 g1_3 g2_0 g2_1 g2_2 g2_3 g3_0 g3_1 g3_2 g3_3 g4_0 g4_1 g4_2 g4_3 g5_0 g5_1 g5_2 g5_3 g6_0 g6_1 g6_2 g6_3 g7_0 g7_1 g7_2 g7_3
  refine (KT.out _).mono ?_
  rintro ze w13 ⟨rfl, hc⟩
  replace E := Lib.hid (show Calm w w13 ∧ Af w13 g1 f0 f1 f2 f3 ∧ Af w13 g2 e0 e1 e2 e3 ∧ At w13 g3 a ∧ At w13 g4 b ∧ At w13 g5 p ∧ At w13 g6 q ∧ At w13 g7 s from ⟨E.out.1.trans (hc), Af.calm (E.out.2.1) (hc), Af.calm (E.out.2.2.1) (hc), At.calm (E.out.2.2.2.1) (hc), At.calm (E.out.2.2.2.2.1) (hc), At.calm (E.out.2.2.2.2.2.1) (hc), At.calm (E.out.2.2.2.2.2.2.1) (hc), At.calm (E.out.2.2.2.2.2.2.2) (hc)⟩)
  clear hc
  obtain ⟨g1_0, g1_1, g1_2, g1_3⟩ := Af.four (E.out.2.1)
  obtain ⟨g2_0, g2_1, g2_2, g2_3⟩ := Af.four (E.out.2.2.1)
  obtain ⟨g3_0, g3_1, g3_2, g3_3⟩ := At.two (E.out.2.2.2.1)
  obtain ⟨g4_0, g4_1, g4_2, g4_3⟩ := At.two (E.out.2.2.2.2.1)
  obtain ⟨g5_0, g5_1, g5_2, g5_3⟩ := At.two (E.out.2.2.2.2.2.1)
  obtain ⟨g6_0, g6_1, g6_2, g6_3⟩ := At.two (E.out.2.2.2.2.2.2.1)
  obtain ⟨g7_0, g7_1, g7_2, g7_3⟩ := At.two (E.out.2.2.2.2.2.2.2)
  go_upto_region 8 with fail
  clear g1_0 g1_1 g1_2 g1_3 g2_0 g2_1 g2_2 g2_3 g3_0 g3_1 g3_2 g3_3 g4_0 g4_1 g4_2 g4_3 g5_0 g5_1 g5_2 g5_3 g6_0 g6_1 g6_2 g6_3 g7_0 g7_1 g7_2 g7_3
  have hC : Calm w13 (w13.alloc (.cells #[.int .u64 (t.lo : Int), .int .u64 (t.hi : Int)] 27)) := (Keep.refl _ _).alloc _
  have hA : At (w13.alloc (.cells #[.int .u64 (t.lo : Int), .int .u64 (t.hi : Int)] 27)) w13.heap.size t := Row.made w13 _ _
  have hO : w.heap.size ≤ w13.heap.size ∧ g1 < w13.heap.size ∧ g2 < w13.heap.size ∧ g3 < w13.heap.size ∧ g4 < w13.heap.size ∧ g5 < w13.heap.size ∧ g6 < w13.heap.size ∧ g7 < w13.heap.size := ⟨E.out.1.size, Af.lt (E.out.2.1), Af.lt (E.out.2.2.1), At.lt (E.out.2.2.2.1), At.lt (E.out.2.2.2.2.1), At.lt (E.out.2.2.2.2.2.1), At.lt (E.out.2.2.2.2.2.2.1), At.lt (E.out.2.2.2.2.2.2.2)⟩
  obtain ⟨g8, hg8⟩ : ∃ zg, zg = w13.heap.size := ⟨_, rfl⟩
  obtain ⟨w14, hw14⟩ : ∃ zz, zz = w13.alloc (.cells #[.int .u64 (t.lo : Int), .int .u64 (t.hi : Int)] 27) := ⟨_, rfl⟩
  replace hO : w.heap.size ≤ g8 ∧ g1 < g8 ∧ g2 < g8 ∧ g3 < g8 ∧ g4 < g8 ∧ g5 < g8 ∧ g6 < g8 ∧ g7 < g8 := by rw [hg8]; exact hO
  rw [← hg8] at hA ⊢
  rw [← hw14] at hA hC ⊢
  clear hg8 hw14
  have O8 := Lib.hid hO
  clear hO
  replace E := Lib.hid (show Calm w w14 ∧ Af w14 g1 f0 f1 f2 f3 ∧ Af w14 g2 e0 e1 e2 e3 ∧ At w14 g3 a ∧ At w14 g4 b ∧ At w14 g5 p ∧ At w14 g6 q ∧ At w14 g7 s from ⟨E.out.1.trans (hC), Af.calm (E.out.2.1) (hC), Af.calm (E.out.2.2.1) (hC), At.calm (E.out.2.2.2.1) (hC), At.calm (E.out.2.2.2.2.1) (hC), At.calm (E.out.2.2.2.2.2.1) (hC), At.calm (E.out.2.2.2.2.2.2.1) (hC), At.calm (E.out.2.2.2.2.2.2.2) (hC)⟩)
  replace E := Lib.hid (show Calm w w14 ∧ Af w14 g1 f0 f1 f2 f3 ∧ Af w14 g2 e0 e1 e2 e3 ∧ At w14 g3 a ∧ At w14 g4 b ∧ At w14 g5 p ∧ At w14 g6 q ∧ At w14 g7 s ∧ At w14 g8 t from ⟨E.out.1, E.out.2.1, E.out.2.2.1, E.out.2.2.2.1, E.out.2.2.2.2.1, E.out.2.2.2.2.2.1, E.out.2.2.2.2.2.2.1, E.out.2.2.2.2.2.2.2, hA⟩)
  clear hC hA
  obtain ⟨g1_0, g1_1, g1_2, g1_3⟩ := Af.four (E.out.2.1)
  obtain ⟨g2_0, g2_1, g2_2, g2_3⟩ := Af.four (E.out.2.2.1)
  obtain ⟨g3_0, g3_1, g3_2, g3_3⟩ := At.two (E.out.2.2.2.1)
  obtain ⟨g4_0, g4_1, g4_2, g4_3⟩ := At.two (E.out.2.2.2.2.1)
  obtain ⟨g5_0, g5_1, g5_2, g5_3⟩ := At.two (E.out.2.2.2.2.2.1)
  obtain ⟨g6_0, g6_1, g6_2, g6_3⟩ := At.two (E.out.2.2.2.2.2.2.1)
  obtain ⟨g7_0, g7_1, g7_2, g7_3⟩ := At.two (E.out.2.2.2.2.2.2.2.1)
  obtain ⟨g8_0, g8_1, g8_2, g8_3⟩ := At.two (E.out.2.2.2.2.2.2.2.2)
  go_wp2_with fail
  clear g1_0 g1_1 g1_2 g1_3 g2_0 g2_1 g2_2 g2_3 g3_0 g3_1 g3_2 g3_3 g4_0 g4_1 g4_2 g4_3 g5_0 g5_1 g5_2 g5_3 g6_0 g6_1 g6_2 g6_3 g7_0 g7_1 g7_2 g7_3 g8_0 g8_1 g8_2 g8_3
  refine (KX.out _).mono ?_
  rintro ze w15 ⟨rfl, hc⟩
  replace E := Lib.hid (show Calm w w15 ∧ Af w15 g1 f0 f1 f2 f3 ∧ Af w15 g2 e0 e1 e2 e3 ∧ At w15 g3 a ∧ At w15 g4 b ∧ At w15 g5 p ∧ At w15 g6 q ∧ At w15 g7 s ∧ At w15 g8 t from ⟨E.out.1.trans (hc), Af.calm (E.out.2.1) (hc), Af.calm (E.out.2.2.1) (hc), At.calm (E.out.2.2.2.1) (hc), At.calm (E.out.2.2.2.2.1) (hc), At.calm (E.out.2.2.2.2.2.1) (hc), At.calm (E.out.2.2.2.2.2.2.1) (hc), At.calm (E.out.2.2.2.2.2.2.2.1) (hc), At.calm (E.out.2.2.2.2.2.2.2.2) (hc)⟩)
  clear hc
  obtain ⟨g1_0, g1_1, g1_2, g1_3⟩ := Af.four (E.out.2.1)
  obtain ⟨g2_0, g2_1, g2_2, g2_3⟩ := Af.four (E.out.2.2.1)
  obtain ⟨g3_0, g3_1, g3_2, g3_3⟩ := At.two (E.out.2.2.2.1)
  obtain ⟨g4_0, g4_1, g4_2, g4_3⟩ := At.two (E.out.2.2.2.2.1)
  obtain ⟨g5_0, g5_1, g5_2, g5_3⟩ := At.two (E.out.2.2.2.2.2.1)
  obtain ⟨g6_0, g6_1, g6_2, g6_3⟩ := At.two (E.out.2.2.2.2.2.2.1)
  obtain ⟨g7_0, g7_1, g7_2, g7_3⟩ := At.two (E.out.2.2.2.2.2.2.2.1)
  obtain ⟨g8_0, g8_1, g8_2, g8_3⟩ := At.two (E.out.2.2.2.2.2.2.2.2)
  go_upto_region 9 with fail
  clear g1_0 g1_1 g1_2 g1_3 g2_0 g2_1 g2_2 g2_3 g3_0 g3_1 g3_2 g3_3 g4_0 g4_1 g4_2 g4_3 g5_0 g5_1 g5_2 g5_3 g6_0 g6_1 g6_2 g6_3 g7_0 g7_1 g7_2 g7_3 g8_0 g8_1 g8_2 g8_3
  have hC : Calm w15 (w15.alloc (.cells #[.int .u64 (x.lo : Int), .int .u64 (x.hi : Int)] 27)) := (Keep.refl _ _).alloc _
  have hA : At (w15.alloc (.cells #[.int .u64 (x.lo : Int), .int .u64 (x.hi : Int)] 27)) w15.heap.size x := Row.made w15 _ _
  have hO : w.heap.size ≤ w15.heap.size ∧ g1 < w15.heap.size ∧ g2 < w15.heap.size ∧ g3 < w15.heap.size ∧ g4 < w15.heap.size ∧ g5 < w15.heap.size ∧ g6 < w15.heap.size ∧ g7 < w15.heap.size ∧ g8 < w15.heap.size := ⟨E.out.1.size, Af.lt (E.out.2.1), Af.lt (E.out.2.2.1), At.lt (E.out.2.2.2.1), At.lt (E.out.2.2.2.2.1), At.lt (E.out.2.2.2.2.2.1), At.lt (E.out.2.2.2.2.2.2.1), At.lt (E.out.2.2.2.2.2.2.2.1), At.lt (E.out.2.2.2.2.2.2.2.2)⟩
  obtain ⟨g9, hg9⟩ : ∃ zg, zg = w15.heap.size := ⟨_, rfl⟩
  obtain ⟨w16, hw16⟩ : ∃ zz, zz = w15.alloc (.cells #[.int .u64 (x.lo : Int), .int .u64 (x.hi : Int)] 27) := ⟨_, rfl⟩
  replace hO : w.heap.size ≤ g9 ∧ g1 < g9 ∧ g2 < g9 ∧ g3 < g9 ∧ g4 < g9 ∧ g5 < g9 ∧ g6 < g9 ∧ g7 < g9 ∧ g8 < g9 := by rw [hg9]; exact hO
  rw [← hg9] at hA ⊢
  rw [← hw16] at hA hC ⊢
  clear hg9 hw16
  have O9 := Lib.hid hO
  clear hO
  replace E := Lib.hid (show Calm w w16 ∧ Af w16 g1 f0 f1 f2 f3 ∧ Af w16 g2 e0 e1 e2 e3 ∧ At w16 g3 a ∧ At w16 g4 b ∧ At w16 g5 p ∧ At w16 g6 q ∧ At w16 g7 s ∧ At w16 g8 t from ⟨E.out.1.trans (hC), Af.calm (E.out.2.1) (hC), Af.calm (E.out.2.2.1) (hC), At.calm (E.out.2.2.2.1) (hC), At.calm (E.out.2.2.2.2.1) (hC), At.calm (E.out.2.2.2.2.2.1) (hC), At.calm (E.out.2.2.2.2.2.2.1) (hC), At.calm (E.out.2.2.2.2.2.2.2.1) (hC), At.calm (E.out.2.2.2.2.2.2.2.2) (hC)⟩)
  replace E := Lib.hid (show Calm w w16 ∧ Af w16 g1 f0 f1 f2 f3 ∧ Af w16 g2 e0 e1 e2 e3 ∧ At w16 g3 a ∧ At w16 g4 b ∧ At w16 g5 p ∧ At w16 g6 q ∧ At w16 g7 s ∧ At w16 g8 t ∧ At w16 g9 x from ⟨E.out.1, E.out.2.1, E.out.2.2.1, E.out.2.2.2.1, E.out.2.2.2.2.1, E.out.2.2.2.2.2.1, E.out.2.2.2.2.2.2.1, E.out.2.2.2.2.2.2.2.1, E.out.2.2.2.2.2.2.2.2, hA⟩)
  clear hC hA
  obtain ⟨g1_0, g1_1, g1_2, g1_3⟩ := Af.four (E.out.2.1)
  obtain ⟨g2_0, g2_1, g2_2, g2_3⟩ := Af.four (E.out.2.2.1)
  obtain ⟨g3_0, g3_1, g3_2, g3_3⟩ := At.two (E.out.2.2.2.1)
  obtain ⟨g4_0, g4_1, g4_2, g4_3⟩ := At.two (E.out.2.2.2.2.1)
  obtain ⟨g5_0, g5_1, g5_2, g5_3⟩ := At.two (E.out.2.2.2.2.2.1)
  obtain ⟨g6_0, g6_1, g6_2, g6_3⟩ := At.two (E.out.2.2.2.2.2.2.1)
  obtain ⟨g7_0, g7_1, g7_2, g7_3⟩ := At.two (E.out.2.2.2.2.2.2.2.1)
  obtain ⟨g8_0, g8_1, g8_2, g8_3⟩ := At.two (E.out.2.2.2.2.2.2.2.2.1)
  obtain ⟨g9_0, g9_1, g9_2, g9_3⟩ := At.two (E.out.2.2.2.2.2.2.2.2.2)
  go_wp2_with fail
  clear g1_0 g1_1 g1_2 g1_3 g2_0 g2_1 g2_2 g2_3 g3_0 g3_1 g3_2 g3_3 g4_0 g4_1 g4_2 g4_3 g5_0 g5_1 g5_2 g5_3 g6_0 g6_1 g6_2 g6_3 g7_0 g7_1 g7_2 g7_3 g8_0 g8_1 g8_2 g8_3 g9_0 g9_1 g9_2 g9_3
  refine (KY.out _).mono ?_
  rintro ze w17 ⟨rfl, hc⟩
  replace E := Lib.hid (show Calm w w17 ∧ Af w17 g1 f0 f1 f2 f3 ∧ Af w17 g2 e0 e1 e2 e3 ∧ At w17 g3 a ∧ At w17 g4 b ∧ At w17 g5 p ∧ At w17 g6 q ∧ At w17 g7 s ∧ At w17 g8 t ∧ At w17 g9 x from ⟨E.out.1.trans (hc), Af.calm (E.out.2.1) (hc), Af.calm (E.out.2.2.1) (hc), At.calm (E.out.2.2.2.1) (hc), At.calm (E.out.2.2.2.2.1) (hc), At.calm (E.out.2.2.2.2.2.1) (hc), At.calm (E.out.2.2.2.2.2.2.1) (hc), At.calm (E.out.2.2.2.2.2.2.2.1) (hc), At.calm (E.out.2.2.2.2.2.2.2.2.1) (hc), At.calm (E.out.2.2.2.2.2.2.2.2.2) (hc)⟩)
  clear hc
  obtain ⟨g1_0, g1_1, g1_2, g1_3⟩ := Af.four (E.out.2.1)
  obtain ⟨g2_0, g2_1, g2_2, g2_3⟩ := Af.four (E.out.2.2.1)
  obtain ⟨g3_0, g3_1, g3_2, g3_3⟩ := At.two (E.out.2.2.2.1)
  obtain ⟨g4_0, g4_1, g4_2, g4_3⟩ := At.two (E.out.2.2.2.2.1)
  obtain ⟨g5_0, g5_1, g5_2, g5_3⟩ := At.two (E.out.2.2.2.2.2.1)
  obtain ⟨g6_0, g6_1, g6_2, g6_3⟩ := At.two (E.out.2.2.2.2.2.2.1)
  obtain ⟨g7_0, g7_1, g7_2, g7_3⟩ := At.two (E.out.2.2.2.2.2.2.2.1)
  obtain ⟨g8_0, g8_1, g8_2, g8_3⟩ := At.two (E.out.2.2.2.2.2.2.2.2.1)
  obtain ⟨g9_0, g9_1, g9_2, g9_3⟩ := At.two (E.out.2.2.2.2.2.2.2.2.2)
  go_upto_region 10 with fail
  clear g1_0 g1_1 g1_2 g1_3 g2_0 g2_1 g2_2 g2_3 g3_0 g3_1 g3_2 g3_3 g4_0 g4_1 g4_2 g4_3 g5_0 g5_1 g5_2 g5_3 g6_0 g6_1 g6_2 g6_3 g7_0 g7_1 g7_2 g7_3 g8_0 g8_1 g8_2 g8_3 g9_0 g9_1 g9_2 g9_3
  have hC : Calm w17 (w17.alloc (.cells #[.int .u64 (y.lo : Int), .int .u64 (y.hi : Int)] 27)) := (Keep.refl _ _).alloc _
  have hA : At (w17.alloc (.cells #[.int .u64 (y.lo : Int), .int .u64 (y.hi : Int)] 27)) w17.heap.size y := Row.made w17 _ _
  have hO : w.heap.size ≤ w17.heap.size ∧ g1 < w17.heap.size ∧ g2 < w17.heap.size ∧ g3 < w17.heap.size ∧ g4 < w17.heap.size ∧ g5 < w17.heap.size ∧ g6 < w17.heap.size ∧ g7 < w17.heap.size ∧ g8 < w17.heap.size ∧ g9 < w17.heap.size := ⟨E.out.1.size, Af.lt (E.out.2.1), Af.lt (E.out.2.2.1), At.lt (E.out.2.2.2.1), At.lt (E.out.2.2.2.2.1), At.lt (E.out.2.2.2.2.2.1), At.lt (E.out.2.2.2.2.2.2.1), At.lt (E.out.2.2.2.2.2.2.2.1), At.lt (E.out.2.2.2.2.2.2.2.2.1), At.lt (E.out.2.2.2.2.2.2.2.2.2)⟩
  obtain ⟨g10, hg10⟩ : ∃ zg, zg = w17.heap.size := ⟨_, rfl⟩
  obtain ⟨w18, hw18⟩ : ∃ zz, zz = w17.alloc (.cells #[.int .u64 (y.lo : Int), .int .u64 (y.hi : Int)] 27) := ⟨_, rfl⟩
  replace hO : w.heap.size ≤ g10 ∧ g1 < g10 ∧ g2 < g10 ∧ g3 < g10 ∧ g4 < g10 ∧ g5 < g10 ∧ g6 < g10 ∧ g7 < g10 ∧ g8 < g10 ∧ g9 < g10 := by rw [hg10]; exact hO
  rw [← hg10] at hA ⊢
  rw [← hw18] at hA hC ⊢
  clear hg10 hw18
  have O10 := Lib.hid hO
  clear hO
  replace E := Lib.hid (show Calm w w18 ∧ Af w18 g1 f0 f1 f2 f3 ∧ Af w18 g2 e0 e1 e2 e3 ∧ At w18 g3 a ∧ At w18 g4 b ∧ At w18 g5 p ∧ At w18 g6 q ∧ At w18 g7 s ∧ At w18 g8 t ∧ At w18 g9 x from ⟨E.out.1.trans (hC), Af.calm (E.out.2.1) (hC), Af.calm (E.out.2.2.1) (hC), At.calm (E.out.2.2.2.1) (hC), At.calm (E.out.2.2.2.2.1) (hC), At.calm (E.out.2.2.2.2.2.1) (hC), At.calm (E.out.2.2.2.2.2.2.1) (hC), At.calm (E.out.2.2.2.2.2.2.2.1) (hC), At.calm (E.out.2.2.2.2.2.2.2.2.1) (hC), At.calm (E.out.2.2.2.2.2.2.2.2.2) (hC)⟩)
  replace E := Lib.hid (show Calm w w18 ∧ Af w18 g1 f0 f1 f2 f3 ∧ Af w18 g2 e0 e1 e2 e3 ∧ At w18 g3 a ∧ At w18 g4 b ∧ At w18 g5 p ∧ At w18 g6 q ∧ At w18 g7 s ∧ At w18 g8 t ∧ At w18 g9 x ∧ At w18 g10 y from ⟨E.out.1, E.out.2.1, E.out.2.2.1, E.out.2.2.2.1, E.out.2.2.2.2.1, E.out.2.2.2.2.2.1, E.out.2.2.2.2.2.2.1, E.out.2.2.2.2.2.2.2.1, E.out.2.2.2.2.2.2.2.2.1, E.out.2.2.2.2.2.2.2.2.2, hA⟩)
  clear hC hA
  obtain ⟨t1, t2, xy⟩ := T.out
  cases u with
  | false =>
    clear xy
    have t1' : t.lo ≤ s.lo := t1
    obtain ⟨g1_0, g1_1, g1_2, g1_3⟩ := Af.four (E.out.2.1)
    obtain ⟨g2_0, g2_1, g2_2, g2_3⟩ := Af.four (E.out.2.2.1)
    obtain ⟨g3_0, g3_1, g3_2, g3_3⟩ := At.two (E.out.2.2.2.1)
    obtain ⟨g4_0, g4_1, g4_2, g4_3⟩ := At.two (E.out.2.2.2.2.1)
    obtain ⟨g5_0, g5_1, g5_2, g5_3⟩ := At.two (E.out.2.2.2.2.2.1)
    obtain ⟨g6_0, g6_1, g6_2, g6_3⟩ := At.two (E.out.2.2.2.2.2.2.1)
    obtain ⟨g7_0, g7_1, g7_2, g7_3⟩ := At.two (E.out.2.2.2.2.2.2.2.1)
    obtain ⟨g8_0, g8_1, g8_2, g8_3⟩ := At.two (E.out.2.2.2.2.2.2.2.2.1)
    obtain ⟨g9_0, g9_1, g9_2, g9_3⟩ := At.two (E.out.2.2.2.2.2.2.2.2.2.1)
    obtain ⟨g10_0, g10_1, g10_2, g10_3⟩ := At.two (E.out.2.2.2.2.2.2.2.2.2.2)
    go_wp2_with fail
    clear g1_0 g1_1 g1_2 g1_3 g2_0 g2_1 g2_2 g2_3 g3_0 g3_1 g3_2 g3_3 g4_0 g4_1 g4_2 g4_3 g5_0 g5_1 g5_2 g5_3 g6_0 g6_1 g6_2 g6_3 g7_0 g7_1 g7_2 g7_3 g8_0 g8_1 g8_2 g8_3 g9_0 g9_1 g9_2 g9_3 g10_0 g10_1 g10_2 g10_3
    go_returns
    exact ⟨rfl, E.out.1⟩
  | true =>
    obtain ⟨hv, h3, h4⟩ := xy rfl
    subst hv
    obtain ⟨g1_0, g1_1, g1_2, g1_3⟩ := Af.four (E.out.2.1)
    obtain ⟨g2_0, g2_1, g2_2, g2_3⟩ := Af.four (E.out.2.2.1)
    obtain ⟨g3_0, g3_1, g3_2, g3_3⟩ := At.two (E.out.2.2.2.1)
    obtain ⟨g4_0, g4_1, g4_2, g4_3⟩ := At.two (E.out.2.2.2.2.1)
    obtain ⟨g5_0, g5_1, g5_2, g5_3⟩ := At.two (E.out.2.2.2.2.2.1)
    obtain ⟨g6_0, g6_1, g6_2, g6_3⟩ := At.two (E.out.2.2.2.2.2.2.1)
    obtain ⟨g7_0, g7_1, g7_2, g7_3⟩ := At.two (E.out.2.2.2.2.2.2.2.1)
    obtain ⟨g8_0, g8_1, g8_2, g8_3⟩ := At.two (E.out.2.2.2.2.2.2.2.2.1)
    obtain ⟨g9_0, g9_1, g9_2, g9_3⟩ := At.two (E.out.2.2.2.2.2.2.2.2.2.1)
    obtain ⟨g10_0, g10_1, g10_2, g10_3⟩ := At.two (E.out.2.2.2.2.2.2.2.2.2.2)
    go_wp2_with fail
    clear g1_0 g1_1 g1_2 g1_3 g2_0 g2_1 g2_2 g2_3 g3_0 g3_1 g3_2 g3_3 g4_0 g4_1 g4_2 g4_3 g5_0 g5_1 g5_2 g5_3 g6_0 g6_1 g6_2 g6_3 g7_0 g7_1 g7_2 g7_3 g8_0 g8_1 g8_2 g8_3 g9_0 g9_1 g9_2 g9_3 g10_0 g10_1 g10_2 g10_3
    go_returns
    exact ⟨rfl, E.out.1⟩

end Go.Proofs.Ytboiakahhkihiaa
