/-
  The reference of layer 8: do, on words of 64 bits.
-/
import Derived.Test.YtboiakahhkihiaaNR2
namespace Go.Proofs.Ytboiakahhkihiaa
open Go.RowKit
set_option linter.all false

section
variable {s t : Sp} (w : World)
set_option maxHeartbeats 3200000 in
set_option maxRecDepth 20000 in
theorem rdo64_192y (hs : s.Ok) (ht : t.Ok) (hne : ¬ (s.lo = s.hi ∧ t.lo = t.hi)) (h : s.hi < 9223372036854775808) : Calls Try.prog 34 #[.int .u8 192, .bool true, .int .u64 64, .agg #[.int .u64 (s.lo : Int), .int .u64 (s.hi : Int)], .agg #[.int .u64 (t.lo : Int), .int .u64 (t.hi : Int)]] w fun x w' => x = .returned (.agg #[.int .u64 ((downS 64 s t).lo : Int), .int .u64 ((downS 64 s t).hi : Int)]) ∧ Calm w w' := by
  obtain ⟨d, ed⟩ : ∃ d, d = D (bW true) 192 s.lo t.lo := ⟨_, rfl⟩
  have KD : Hid (∀ w, Calls Try.prog 48 #[.int .u8 192, .bool true, .int .u64 (s.lo : Int), .int .u64 (t.lo : Int)] w fun x w' => x = .returned (.tuple #[.int .u64 (d : Int), .bool true]) ∧ Calm w w') := Lib.hid (by rw [ed]; exact fun w => rdo_c (op := 192) true w hs.l ht.l)
  obtain ⟨M, eM⟩ : ∃ M, M = max s.hi t.hi := ⟨_, rfl⟩
  obtain ⟨m, em⟩ : ∃ m, m = min s.hi t.hi := ⟨_, rfl⟩
  have hM : max (s.hi : Int) (t.hi : Int) = (M : Int) := by omega
  have hm : min (s.hi : Int) (t.hi : Int) = (m : Int) := by omega
  have HN := Lib.hid hne
  have lm := hs.h
  have lm' := ht.h
  obtain ⟨v, ev⟩ : ∃ v, v = downS 64 s t := ⟨_, rfl⟩
  rw [← ev]
  have K1 : Hid (∀ w, Calls Try.prog 53 #[.agg #[.int .u64 (s.lo : Int), .int .u64 (s.hi : Int)], .agg #[.int .u64 (t.lo : Int), .int .u64 (t.hi : Int)], .int .u64 64] w fun x w' => x = .returned (.agg #[.int .u64 (v.lo : Int), .int .u64 (v.hi : Int)]) ∧ Calm w w') := Lib.hid (by rw [ev]; exact fun w => rdown64_8 w hs ht)
  have e9 : (s.hi : Int) / 9223372036854775808 = 0 := by omega
  clear hs ht hne ed eM em lm lm' ev h
  go_enter Try.func34, Try.ntmps34
  go_upto_region 1 with fail
  have F := Lib.hid (Fr.made w s t (.int .u64 0) (.int .u64 0))
  obtain ⟨w1, hw1⟩ : ∃ w1, w1 = ((w.alloc (.cells #[.int .u64 (s.lo : Int), .int .u64 (s.hi : Int)] 30)).alloc (.cells #[.int .u64 (t.lo : Int), .int .u64 (t.hi : Int)] 30)).alloc (.cells #[.int .u64 0, .int .u64 0] 30) := ⟨_, rfl⟩
  rw [← hw1] at F ⊢
  clear hw1
  obtain ⟨g0, h0⟩ : ∃ g, g = w.heap.size := ⟨_, rfl⟩
  rw [← h0] at F ⊢
  obtain ⟨g1, h1⟩ : ∃ g, g = g0 + 1 := ⟨_, rfl⟩
  rw [← h1] at F ⊢
  obtain ⟨g2, h2⟩ : ∃ g, g = g1 + 1 := ⟨_, rfl⟩
  rw [← h2] at F ⊢
  clear h0 h1 h2
  obtain ⟨a1, a2, a3, a4⟩ := F.out.s.two
  obtain ⟨b1, b2, b3, b4⟩ := F.out.t.two
  go_wp2_with fail
  refine (KD.out _).mono ?_
  rintro ze w2 ⟨rfl, hc⟩
  replace F := Lib.hid (F.out.calm hc)
  clear hc
  clear a1 a2 a3 a4 b1 b2 b3 b4
  obtain ⟨a1, a2, a3, a4⟩ := F.out.s.two
  obtain ⟨b1, b2, b3, b4⟩ := F.out.t.two
  go_upto_region 4 with fail
  go_cut [46] (fun s46 wc => s46 = .bool false ∧ wc = w2)
  case first =>
    by_cases h1 : s.lo = s.hi
    · have i1 : ((s.lo : Int) == (s.hi : Int)) = true := by rw [h1]; simp
      have i2 : ((t.lo : Int) == (t.hi : Int)) = false := by have := HN.out; simp; omega
      clear h1
      go_wp2_with fail
      go_meet
      exact ⟨rfl, rfl⟩
    · have i1 : ((s.lo : Int) == (s.hi : Int)) = false := by simp; omega
      clear h1
      go_wp2_with fail
      go_meet
      exact ⟨rfl, rfl⟩
  case rest =>
    obtain ⟨rfl, hw⟩ := hcut
    subst w2
    try clear a1 a2 a3 a4 b1 b2 b3 b4
    obtain ⟨a1, a2, a3, a4⟩ := F.out.s.two
    obtain ⟨b1, b2, b3, b4⟩ := F.out.t.two
    obtain ⟨x, y, ho⟩ := F.out.o
    obtain ⟨c1, c2, c3, c4⟩ := ho.two
    go_wp2_with fail
    refine (K1.out _).mono ?_
    rintro ze v0 ⟨rfl, hc⟩
    replace F := Lib.hid (F.out.calm hc)
    clear hc c1 c2 c3 c4
    clear a1 a2 a3 a4 b1 b2 b3 b4
    obtain ⟨a1, a2, a3, a4⟩ := F.out.s.two
    obtain ⟨b1, b2, b3, b4⟩ := F.out.t.two
    obtain ⟨x, y, ho⟩ := F.out.o
    obtain ⟨c1, c2, c3, c4⟩ := ho.two
    go_wp2_with fail
    have hR := ho.bothr (x := .int .u64 (v.lo : Int)) (y := .int .u64 (v.hi : Int))
    have FP := Lib.hid (F.out.put (.int .u64 (v.lo : Int)) (.int .u64 (v.hi : Int)))
    revert hR FP
    refine fun hR FP => ?_
    have z := hR.two
    refine bodyPost_ret (by simp [results, Try.results34, go_sem, z.1, z.2.1]; try rfl) rfl ?_
    exact ⟨rfl, FP.out.cal⟩

set_option maxHeartbeats 3200000 in
set_option maxRecDepth 20000 in
theorem rdo64_192n (hs : s.Ok) (ht : t.Ok) (hne : ¬ (s.lo = s.hi ∧ t.lo = t.hi)) (h : ¬ s.hi < 9223372036854775808) : Calls Try.prog 34 #[.int .u8 192, .bool true, .int .u64 64, .agg #[.int .u64 (s.lo : Int), .int .u64 (s.hi : Int)], .agg #[.int .u64 (t.lo : Int), .int .u64 (t.hi : Int)]] w fun x w' => x = .returned (.agg #[.int .u64 0, .int .u64 18446744073709551615]) ∧ Calm w w' := by
  obtain ⟨d, ed⟩ : ∃ d, d = D (bW true) 192 s.lo t.lo := ⟨_, rfl⟩
  have KD : Hid (∀ w, Calls Try.prog 48 #[.int .u8 192, .bool true, .int .u64 (s.lo : Int), .int .u64 (t.lo : Int)] w fun x w' => x = .returned (.tuple #[.int .u64 (d : Int), .bool true]) ∧ Calm w w') := Lib.hid (by rw [ed]; exact fun w => rdo_c (op := 192) true w hs.l ht.l)
  obtain ⟨M, eM⟩ : ∃ M, M = max s.hi t.hi := ⟨_, rfl⟩
  obtain ⟨m, em⟩ : ∃ m, m = min s.hi t.hi := ⟨_, rfl⟩
  have hM : max (s.hi : Int) (t.hi : Int) = (M : Int) := by omega
  have hm : min (s.hi : Int) (t.hi : Int) = (m : Int) := by omega
  have HN := Lib.hid hne
  have lm := hs.h
  have lm' := ht.h
  obtain ⟨q, hq⟩ : ∃ q, q = s.hi / 9223372036854775808 := ⟨_, rfl⟩
  have e9 : (s.hi : Int) / 9223372036854775808 = (q : Int) := by omega
  have n9 : ((q : Int) == 0) = false := by simp; omega
  clear hs ht hne ed eM em lm lm' hq h
  go_enter Try.func34, Try.ntmps34
  go_upto_region 1 with fail
  have F := Lib.hid (Fr.made w s t (.int .u64 0) (.int .u64 0))
  obtain ⟨w1, hw1⟩ : ∃ w1, w1 = ((w.alloc (.cells #[.int .u64 (s.lo : Int), .int .u64 (s.hi : Int)] 30)).alloc (.cells #[.int .u64 (t.lo : Int), .int .u64 (t.hi : Int)] 30)).alloc (.cells #[.int .u64 0, .int .u64 0] 30) := ⟨_, rfl⟩
  rw [← hw1] at F ⊢
  clear hw1
  obtain ⟨g0, h0⟩ : ∃ g, g = w.heap.size := ⟨_, rfl⟩
  rw [← h0] at F ⊢
  obtain ⟨g1, h1⟩ : ∃ g, g = g0 + 1 := ⟨_, rfl⟩
  rw [← h1] at F ⊢
  obtain ⟨g2, h2⟩ : ∃ g, g = g1 + 1 := ⟨_, rfl⟩
  rw [← h2] at F ⊢
  clear h0 h1 h2
  obtain ⟨a1, a2, a3, a4⟩ := F.out.s.two
  obtain ⟨b1, b2, b3, b4⟩ := F.out.t.two
  go_wp2_with fail
  refine (KD.out _).mono ?_
  rintro ze w2 ⟨rfl, hc⟩
  replace F := Lib.hid (F.out.calm hc)
  clear hc
  clear a1 a2 a3 a4 b1 b2 b3 b4
  obtain ⟨a1, a2, a3, a4⟩ := F.out.s.two
  obtain ⟨b1, b2, b3, b4⟩ := F.out.t.two
  go_upto_region 4 with fail
  go_cut [46] (fun s46 wc => s46 = .bool false ∧ wc = w2)
  case first =>
    by_cases h1 : s.lo = s.hi
    · have i1 : ((s.lo : Int) == (s.hi : Int)) = true := by rw [h1]; simp
      have i2 : ((t.lo : Int) == (t.hi : Int)) = false := by have := HN.out; simp; omega
      clear h1
      go_wp2_with fail
      go_meet
      exact ⟨rfl, rfl⟩
    · have i1 : ((s.lo : Int) == (s.hi : Int)) = false := by simp; omega
      clear h1
      go_wp2_with fail
      go_meet
      exact ⟨rfl, rfl⟩
  case rest =>
    obtain ⟨rfl, hw⟩ := hcut
    subst w2
    try clear a1 a2 a3 a4 b1 b2 b3 b4
    obtain ⟨a1, a2, a3, a4⟩ := F.out.s.two
    obtain ⟨b1, b2, b3, b4⟩ := F.out.t.two
    obtain ⟨x, y, ho⟩ := F.out.o
    obtain ⟨c1, c2, c3, c4⟩ := ho.two
    go_wp2_with fail
    refine (rall_c _).mono ?_
    rintro ze v0 ⟨rfl, hc⟩
    replace F := Lib.hid (F.out.calm (hc ▸ (Keep.refl _ _).alloc _))
    clear hc c1 c2 c3 c4
    clear a1 a2 a3 a4 b1 b2 b3 b4
    obtain ⟨a1, a2, a3, a4⟩ := F.out.s.two
    obtain ⟨b1, b2, b3, b4⟩ := F.out.t.two
    obtain ⟨x, y, ho⟩ := F.out.o
    obtain ⟨c1, c2, c3, c4⟩ := ho.two
    go_wp2_with fail
    have hR := ho.bothr (x := .int .u64 0) (y := .int .u64 18446744073709551615)
    have FP := Lib.hid (F.out.put (.int .u64 0) (.int .u64 18446744073709551615))
    revert hR FP
    refine fun hR FP => ?_
    have z := hR.two
    refine bodyPost_ret (by simp [results, Try.results34, go_sem, z.1, z.2.1]; try rfl) rfl ?_
    exact ⟨rfl, FP.out.cal⟩

set_option maxHeartbeats 3200000 in
set_option maxRecDepth 20000 in
theorem rdo64_176 (hs : s.Ok) (ht : t.Ok) (hne : ¬ (s.lo = s.hi ∧ t.lo = t.hi))  : Calls Try.prog 34 #[.int .u8 176, .bool true, .int .u64 64, .agg #[.int .u64 (s.lo : Int), .int .u64 (s.hi : Int)], .agg #[.int .u64 (t.lo : Int), .int .u64 (t.hi : Int)]] w fun x w' => x = .returned (.agg #[.int .u64 (t.lo : Int), .int .u64 (t.hi : Int)]) ∧ Calm w w' := by
  obtain ⟨d, ed⟩ : ∃ d, d = D (bW true) 176 s.lo t.lo := ⟨_, rfl⟩
  have KD : Hid (∀ w, Calls Try.prog 48 #[.int .u8 176, .bool true, .int .u64 (s.lo : Int), .int .u64 (t.lo : Int)] w fun x w' => x = .returned (.tuple #[.int .u64 (d : Int), .bool true]) ∧ Calm w w') := Lib.hid (by rw [ed]; exact fun w => rdo_c (op := 176) true w hs.l ht.l)
  obtain ⟨M, eM⟩ : ∃ M, M = max s.hi t.hi := ⟨_, rfl⟩
  obtain ⟨m, em⟩ : ∃ m, m = min s.hi t.hi := ⟨_, rfl⟩
  have hM : max (s.hi : Int) (t.hi : Int) = (M : Int) := by omega
  have hm : min (s.hi : Int) (t.hi : Int) = (m : Int) := by omega
  have HN := Lib.hid hne
  have lm := hs.h
  have lm' := ht.h
  clear hs ht hne ed eM em lm lm' 
  go_enter Try.func34, Try.ntmps34
  go_upto_region 1 with fail
  have F := Lib.hid (Fr.made w s t (.int .u64 0) (.int .u64 0))
  obtain ⟨w1, hw1⟩ : ∃ w1, w1 = ((w.alloc (.cells #[.int .u64 (s.lo : Int), .int .u64 (s.hi : Int)] 30)).alloc (.cells #[.int .u64 (t.lo : Int), .int .u64 (t.hi : Int)] 30)).alloc (.cells #[.int .u64 0, .int .u64 0] 30) := ⟨_, rfl⟩
  rw [← hw1] at F ⊢
  clear hw1
  obtain ⟨g0, h0⟩ : ∃ g, g = w.heap.size := ⟨_, rfl⟩
  rw [← h0] at F ⊢
  obtain ⟨g1, h1⟩ : ∃ g, g = g0 + 1 := ⟨_, rfl⟩
  rw [← h1] at F ⊢
  obtain ⟨g2, h2⟩ : ∃ g, g = g1 + 1 := ⟨_, rfl⟩
  rw [← h2] at F ⊢
  clear h0 h1 h2
  obtain ⟨a1, a2, a3, a4⟩ := F.out.s.two
  obtain ⟨b1, b2, b3, b4⟩ := F.out.t.two
  go_wp2_with fail
  refine (KD.out _).mono ?_
  rintro ze w2 ⟨rfl, hc⟩
  replace F := Lib.hid (F.out.calm hc)
  clear hc
  clear a1 a2 a3 a4 b1 b2 b3 b4
  obtain ⟨a1, a2, a3, a4⟩ := F.out.s.two
  obtain ⟨b1, b2, b3, b4⟩ := F.out.t.two
  go_upto_region 4 with fail
  go_cut [46] (fun s46 wc => s46 = .bool false ∧ wc = w2)
  case first =>
    by_cases h1 : s.lo = s.hi
    · have i1 : ((s.lo : Int) == (s.hi : Int)) = true := by rw [h1]; simp
      have i2 : ((t.lo : Int) == (t.hi : Int)) = false := by have := HN.out; simp; omega
      clear h1
      go_wp2_with fail
      go_meet
      exact ⟨rfl, rfl⟩
    · have i1 : ((s.lo : Int) == (s.hi : Int)) = false := by simp; omega
      clear h1
      go_wp2_with fail
      go_meet
      exact ⟨rfl, rfl⟩
  case rest =>
    obtain ⟨rfl, hw⟩ := hcut
    subst w2
    try clear a1 a2 a3 a4 b1 b2 b3 b4
    obtain ⟨a1, a2, a3, a4⟩ := F.out.s.two
    obtain ⟨b1, b2, b3, b4⟩ := F.out.t.two
    obtain ⟨x, y, ho⟩ := F.out.o
    obtain ⟨c1, c2, c3, c4⟩ := ho.two
    go_wp2_with fail
    have hR := ho.bothr (x := .int .u64 (t.lo : Int)) (y := .int .u64 (t.hi : Int))
    have FP := Lib.hid (F.out.put (.int .u64 (t.lo : Int)) (.int .u64 (t.hi : Int)))
    revert hR FP
    refine fun hR FP => ?_
    have z := hR.two
    refine bodyPost_ret (by simp [results, Try.results34, go_sem, z.1, z.2.1]; try rfl) rfl ?_
    exact ⟨rfl, FP.out.cal⟩

set_option maxHeartbeats 3200000 in
set_option maxRecDepth 20000 in
theorem rdo64_128 (hs : s.Ok) (ht : t.Ok) (hne : ¬ (s.lo = s.hi ∧ t.lo = t.hi))  : Calls Try.prog 34 #[.int .u8 128, .bool true, .int .u64 64, .agg #[.int .u64 (s.lo : Int), .int .u64 (s.hi : Int)], .agg #[.int .u64 (t.lo : Int), .int .u64 (t.hi : Int)]] w fun x w' => x = .returned (.agg #[.int .u64 0, .int .u64 18446744073709551615]) ∧ Calm w w' := by
  obtain ⟨d, ed⟩ : ∃ d, d = D (bW true) 128 s.lo t.lo := ⟨_, rfl⟩
  have KD : Hid (∀ w, Calls Try.prog 48 #[.int .u8 128, .bool true, .int .u64 (s.lo : Int), .int .u64 (t.lo : Int)] w fun x w' => x = .returned (.tuple #[.int .u64 (d : Int), .bool true]) ∧ Calm w w') := Lib.hid (by rw [ed]; exact fun w => rdo_c (op := 128) true w hs.l ht.l)
  obtain ⟨M, eM⟩ : ∃ M, M = max s.hi t.hi := ⟨_, rfl⟩
  obtain ⟨m, em⟩ : ∃ m, m = min s.hi t.hi := ⟨_, rfl⟩
  have hM : max (s.hi : Int) (t.hi : Int) = (M : Int) := by omega
  have hm : min (s.hi : Int) (t.hi : Int) = (m : Int) := by omega
  have HN := Lib.hid hne
  have lm := hs.h
  have lm' := ht.h
  clear hs ht hne ed eM em lm lm' 
  go_enter Try.func34, Try.ntmps34
  go_upto_region 1 with fail
  have F := Lib.hid (Fr.made w s t (.int .u64 0) (.int .u64 0))
  obtain ⟨w1, hw1⟩ : ∃ w1, w1 = ((w.alloc (.cells #[.int .u64 (s.lo : Int), .int .u64 (s.hi : Int)] 30)).alloc (.cells #[.int .u64 (t.lo : Int), .int .u64 (t.hi : Int)] 30)).alloc (.cells #[.int .u64 0, .int .u64 0] 30) := ⟨_, rfl⟩
  rw [← hw1] at F ⊢
  clear hw1
  obtain ⟨g0, h0⟩ : ∃ g, g = w.heap.size := ⟨_, rfl⟩
  rw [← h0] at F ⊢
  obtain ⟨g1, h1⟩ : ∃ g, g = g0 + 1 := ⟨_, rfl⟩
  rw [← h1] at F ⊢
  obtain ⟨g2, h2⟩ : ∃ g, g = g1 + 1 := ⟨_, rfl⟩
  rw [← h2] at F ⊢
  clear h0 h1 h2
  obtain ⟨a1, a2, a3, a4⟩ := F.out.s.two
  obtain ⟨b1, b2, b3, b4⟩ := F.out.t.two
  go_wp2_with fail
  refine (KD.out _).mono ?_
  rintro ze w2 ⟨rfl, hc⟩
  replace F := Lib.hid (F.out.calm hc)
  clear hc
  clear a1 a2 a3 a4 b1 b2 b3 b4
  obtain ⟨a1, a2, a3, a4⟩ := F.out.s.two
  obtain ⟨b1, b2, b3, b4⟩ := F.out.t.two
  go_upto_region 4 with fail
  go_cut [46] (fun s46 wc => s46 = .bool false ∧ wc = w2)
  case first =>
    by_cases h1 : s.lo = s.hi
    · have i1 : ((s.lo : Int) == (s.hi : Int)) = true := by rw [h1]; simp
      have i2 : ((t.lo : Int) == (t.hi : Int)) = false := by have := HN.out; simp; omega
      clear h1
      go_wp2_with fail
      go_meet
      exact ⟨rfl, rfl⟩
    · have i1 : ((s.lo : Int) == (s.hi : Int)) = false := by simp; omega
      clear h1
      go_wp2_with fail
      go_meet
      exact ⟨rfl, rfl⟩
  case rest =>
    obtain ⟨rfl, hw⟩ := hcut
    subst w2
    try clear a1 a2 a3 a4 b1 b2 b3 b4
    obtain ⟨a1, a2, a3, a4⟩ := F.out.s.two
    obtain ⟨b1, b2, b3, b4⟩ := F.out.t.two
    obtain ⟨x, y, ho⟩ := F.out.o
    obtain ⟨c1, c2, c3, c4⟩ := ho.two
    go_wp2_with fail
    refine (rall_c _).mono ?_
    rintro ze v0 ⟨rfl, hc⟩
    replace F := Lib.hid (F.out.calm (hc ▸ (Keep.refl _ _).alloc _))
    clear hc c1 c2 c3 c4
    clear a1 a2 a3 a4 b1 b2 b3 b4
    obtain ⟨a1, a2, a3, a4⟩ := F.out.s.two
    obtain ⟨b1, b2, b3, b4⟩ := F.out.t.two
    obtain ⟨x, y, ho⟩ := F.out.o
    obtain ⟨c1, c2, c3, c4⟩ := ho.two
    go_wp2_with fail
    have hR := ho.bothr (x := .int .u64 0) (y := .int .u64 18446744073709551615)
    have FP := Lib.hid (F.out.put (.int .u64 0) (.int .u64 18446744073709551615))
    revert hR FP
    refine fun hR FP => ?_
    have z := hR.two
    refine bodyPost_ret (by simp [results, Try.results34, go_sem, z.1, z.2.1]; try rfl) rfl ?_
    exact ⟨rfl, FP.out.cal⟩

end

end Go.Proofs.Ytboiakahhkihiaa
