/-
  The reference of layer 8: do, on words of 64 bits.
-/
import Derived.Test.YtboiakahhkihiaaNR2
namespace Go.Proofs.Ytboiakahhkihiaa
open Go.RowKit
set_option linter.all false

section
variable {s t : Sp} (w : World)
set_option maxHeartbeats 3200000 in
set_option maxRecDepth 20000 in
theorem rdo64_0y (hs : s.Ok) (ht : t.Ok) (hne : ¬ (s.lo = s.hi ∧ t.lo = t.hi)) {L H : Nat} (h : s.hi + t.hi < 18446744073709551616) (eL : L = s.lo + t.lo) (eH : H = s.hi + t.hi) : Calls Try.prog 34 #[.int .u8 0, .bool true, .int .u64 64, .agg #[.int .u64 (s.lo : Int), .int .u64 (s.hi : Int)], .agg #[.int .u64 (t.lo : Int), .int .u64 (t.hi : Int)]] w fun x w' => x = .returned (.agg #[.int .u64 (L : Int), .int .u64 (H : Int)]) ∧ Calm w w' := by
  obtain ⟨d, ed⟩ : ∃ d, d = D (bW true) 0 s.lo t.lo := ⟨_, rfl⟩
  have KD : Hid (∀ w, Calls Try.prog 48 #[.int .u8 0, .bool true, .int .u64 (s.lo : Int), .int .u64 (t.lo : Int)] w fun x w' => x = .returned (.tuple #[.int .u64 (d : Int), .bool true]) ∧ Calm w w') := Lib.hid (by rw [ed]; exact fun w => rdo_c (op := 0) true w hs.l ht.l)
  obtain ⟨M, eM⟩ : ∃ M, M = max s.hi t.hi := ⟨_, rfl⟩
  obtain ⟨m, em⟩ : ∃ m, m = min s.hi t.hi := ⟨_, rfl⟩
  have hM : max (s.hi : Int) (t.hi : Int) = (M : Int) := by omega
  have hm : min (s.hi : Int) (t.hi : Int) = (m : Int) := by omega
  have HN := Lib.hid hne
  have lm := hs.h
  have lm' := ht.h
  have r1 := hs.r
  have r2 := ht.r
  have K1 : Hid (∀ w, Calls Try.prog 50 #[.int .u64 (s.lo : Int), .int .u64 (t.lo : Int)] w fun x w' => x = .returned (.tuple #[.int .u64 (L : Int), .bool true]) ∧ w' = w) := Lib.hid (by rw [eL]; exact fun w => rsum_yes w (by omega))
  have K2 : Hid (∀ w, Calls Try.prog 50 #[.int .u64 (s.hi : Int), .int .u64 (t.hi : Int)] w fun x w' => x = .returned (.tuple #[.int .u64 (H : Int), .bool true]) ∧ w' = w) := Lib.hid (by rw [eH]; exact fun w => rsum_yes w (by omega))
  clear hs ht hne ed eM em lm lm' r1 r2 h eL eH
  go_enter Try.func34, Try.ntmps34
  go_upto_region 1 with fail
  have F := Lib.hid (Fr.made w s t (.int .u64 0) (.int .u64 0))
  obtain ⟨w1, hw1⟩ : ∃ w1, w1 = ((w.alloc (.cells #[.int .u64 (s.lo : Int), .int .u64 (s.hi : Int)] 30)).alloc (.cells #[.int .u64 (t.lo : Int), .int .u64 (t.hi : Int)] 30)).alloc (.cells #[.int .u64 0, .int .u64 0] 30) := ⟨_, rfl⟩
  rw [← hw1] at F ⊢
  clear hw1
  obtain ⟨g0, h0⟩ : ∃ g, g = w.heap.size := ⟨_, rfl⟩
  rw [← h0] at F ⊢
  obtain ⟨g1, h1⟩ : ∃ g, g = g0 + 1 := ⟨_, rfl⟩
  rw [← h1] at F ⊢
  obtain ⟨g2, h2⟩ : ∃ g, g = g1 + 1 := ⟨_, rfl⟩
  rw [← h2] at F ⊢
  clear h0 h1 h2
  obtain ⟨a1, a2, a3, a4⟩ := F.out.s.two
  obtain ⟨b1, b2, b3, b4⟩ := F.out.t.two
  go_wp2_with fail
  refine (KD.out _).mono ?_
  rintro ze w2 ⟨rfl, hc⟩
  replace F := Lib.hid (F.out.calm hc)
  clear hc
  clear a1 a2 a3 a4 b1 b2 b3 b4
  obtain ⟨a1, a2, a3, a4⟩ := F.out.s.two
  obtain ⟨b1, b2, b3, b4⟩ := F.out.t.two
  go_upto_region 4 with fail
  go_cut [46] (fun s46 wc => s46 = .bool false ∧ wc = w2)
  case first =>
    by_cases h1 : s.lo = s.hi
    · have i1 : ((s.lo : Int) == (s.hi : Int)) = true := by rw [h1]; simp
      have i2 : ((t.lo : Int) == (t.hi : Int)) = false := by have := HN.out; simp; omega
      clear h1
      go_wp2_with fail
      go_meet
      exact ⟨rfl, rfl⟩
    · have i1 : ((s.lo : Int) == (s.hi : Int)) = false := by simp; omega
      clear h1
      go_wp2_with fail
      go_meet
      exact ⟨rfl, rfl⟩
  case rest =>
    obtain ⟨rfl, hw⟩ := hcut
    subst w2
    try clear a1 a2 a3 a4 b1 b2 b3 b4
    obtain ⟨a1, a2, a3, a4⟩ := F.out.s.two
    obtain ⟨b1, b2, b3, b4⟩ := F.out.t.two
    obtain ⟨x, y, ho⟩ := F.out.o
    obtain ⟨c1, c2, c3, c4⟩ := ho.two
    go_wp2_with fail
    refine (K1.out _).mono ?_
    rintro ze v0 ⟨rfl, rfl⟩
    go_wp2_with fail
    refine (K2.out _).mono ?_
    rintro ze v1 ⟨rfl, rfl⟩
    go_wp2_with fail
    have hR := ho.bothr (x := .int .u64 (L : Int)) (y := .int .u64 (H : Int))
    have FP := Lib.hid (F.out.put (.int .u64 (L : Int)) (.int .u64 (H : Int)))
    revert hR FP
    refine fun hR FP => ?_
    have z := hR.two
    refine bodyPost_ret (by simp [results, Try.results34, go_sem, z.1, z.2.1]; try rfl) rfl ?_
    exact ⟨rfl, FP.out.cal⟩

set_option maxHeartbeats 3200000 in
set_option maxRecDepth 20000 in
theorem rdo64_0n (hs : s.Ok) (ht : t.Ok) (hne : ¬ (s.lo = s.hi ∧ t.lo = t.hi)) (h : ¬ s.hi + t.hi < 18446744073709551616) : Calls Try.prog 34 #[.int .u8 0, .bool true, .int .u64 64, .agg #[.int .u64 (s.lo : Int), .int .u64 (s.hi : Int)], .agg #[.int .u64 (t.lo : Int), .int .u64 (t.hi : Int)]] w fun x w' => x = .returned (.agg #[.int .u64 0, .int .u64 18446744073709551615]) ∧ Calm w w' := by
  obtain ⟨d, ed⟩ : ∃ d, d = D (bW true) 0 s.lo t.lo := ⟨_, rfl⟩
  have KD : Hid (∀ w, Calls Try.prog 48 #[.int .u8 0, .bool true, .int .u64 (s.lo : Int), .int .u64 (t.lo : Int)] w fun x w' => x = .returned (.tuple #[.int .u64 (d : Int), .bool true]) ∧ Calm w w') := Lib.hid (by rw [ed]; exact fun w => rdo_c (op := 0) true w hs.l ht.l)
  obtain ⟨M, eM⟩ : ∃ M, M = max s.hi t.hi := ⟨_, rfl⟩
  obtain ⟨m, em⟩ : ∃ m, m = min s.hi t.hi := ⟨_, rfl⟩
  have hM : max (s.hi : Int) (t.hi : Int) = (M : Int) := by omega
  have hm : min (s.hi : Int) (t.hi : Int) = (m : Int) := by omega
  have HN := Lib.hid hne
  have lm := hs.h
  have lm' := ht.h
  obtain ⟨c1, f1, k1⟩ := rsum_any hs.l ht.l
  obtain ⟨c2, k2⟩ := rsum_no hs.h ht.h h
  have K1 := Lib.hid k1
  have K2 := Lib.hid k2
  clear hs ht hne ed eM em lm lm' k1 k2 h
  go_enter Try.func34, Try.ntmps34
  go_upto_region 1 with fail
  have F := Lib.hid (Fr.made w s t (.int .u64 0) (.int .u64 0))
  obtain ⟨w1, hw1⟩ : ∃ w1, w1 = ((w.alloc (.cells #[.int .u64 (s.lo : Int), .int .u64 (s.hi : Int)] 30)).alloc (.cells #[.int .u64 (t.lo : Int), .int .u64 (t.hi : Int)] 30)).alloc (.cells #[.int .u64 0, .int .u64 0] 30) := ⟨_, rfl⟩
  rw [← hw1] at F ⊢
  clear hw1
  obtain ⟨g0, h0⟩ : ∃ g, g = w.heap.size := ⟨_, rfl⟩
  rw [← h0] at F ⊢
  obtain ⟨g1, h1⟩ : ∃ g, g = g0 + 1 := ⟨_, rfl⟩
  rw [← h1] at F ⊢
  obtain ⟨g2, h2⟩ : ∃ g, g = g1 + 1 := ⟨_, rfl⟩
  rw [← h2] at F ⊢
  clear h0 h1 h2
  obtain ⟨a1, a2, a3, a4⟩ := F.out.s.two
  obtain ⟨b1, b2, b3, b4⟩ := F.out.t.two
  go_wp2_with fail
  refine (KD.out _).mono ?_
  rintro ze w2 ⟨rfl, hc⟩
  replace F := Lib.hid (F.out.calm hc)
  clear hc
  clear a1 a2 a3 a4 b1 b2 b3 b4
  obtain ⟨a1, a2, a3, a4⟩ := F.out.s.two
  obtain ⟨b1, b2, b3, b4⟩ := F.out.t.two
  go_upto_region 4 with fail
  go_cut [46] (fun s46 wc => s46 = .bool false ∧ wc = w2)
  case first =>
    by_cases h1 : s.lo = s.hi
    · have i1 : ((s.lo : Int) == (s.hi : Int)) = true := by rw [h1]; simp
      have i2 : ((t.lo : Int) == (t.hi : Int)) = false := by have := HN.out; simp; omega
      clear h1
      go_wp2_with fail
      go_meet
      exact ⟨rfl, rfl⟩
    · have i1 : ((s.lo : Int) == (s.hi : Int)) = false := by simp; omega
      clear h1
      go_wp2_with fail
      go_meet
      exact ⟨rfl, rfl⟩
  case rest =>
    obtain ⟨rfl, hw⟩ := hcut
    subst w2
    try clear a1 a2 a3 a4 b1 b2 b3 b4
    obtain ⟨a1, a2, a3, a4⟩ := F.out.s.two
    obtain ⟨b1, b2, b3, b4⟩ := F.out.t.two
    obtain ⟨x, y, ho⟩ := F.out.o
    obtain ⟨c1, c2, c3, c4⟩ := ho.two
    go_wp2_with fail
    refine (K1.out _).mono ?_
    rintro ze v0 ⟨rfl, rfl⟩
    go_wp2_with fail
    refine (K2.out _).mono ?_
    rintro ze v1 ⟨rfl, rfl⟩
    go_wp2_with fail
    refine (rall_c _).mono ?_
    rintro ze v2 ⟨rfl, hc⟩
    replace F := Lib.hid (F.out.calm (hc ▸ (Keep.refl _ _).alloc _))
    clear hc c1 c2 c3 c4
    clear a1 a2 a3 a4 b1 b2 b3 b4
    obtain ⟨a1, a2, a3, a4⟩ := F.out.s.two
    obtain ⟨b1, b2, b3, b4⟩ := F.out.t.two
    obtain ⟨x, y, ho⟩ := F.out.o
    obtain ⟨c1, c2, c3, c4⟩ := ho.two
    go_wp2_with fail
    have hR := ho.bothr (x := .int .u64 0) (y := .int .u64 18446744073709551615)
    have FP := Lib.hid (F.out.put (.int .u64 0) (.int .u64 18446744073709551615))
    revert hR FP
    refine fun hR FP => ?_
    have z := hR.two
    refine bodyPost_ret (by simp [results, Try.results34, go_sem, z.1, z.2.1]; try rfl) rfl ?_
    exact ⟨rfl, FP.out.cal⟩

set_option maxHeartbeats 3200000 in
set_option maxRecDepth 20000 in
theorem rdo64_16y (hs : s.Ok) (ht : t.Ok) (hne : ¬ (s.lo = s.hi ∧ t.lo = t.hi)) {L H : Nat} (h : t.hi ≤ s.lo) (eL : L = s.lo - t.hi) (eH : H = s.hi - t.lo) : Calls Try.prog 34 #[.int .u8 16, .bool true, .int .u64 64, .agg #[.int .u64 (s.lo : Int), .int .u64 (s.hi : Int)], .agg #[.int .u64 (t.lo : Int), .int .u64 (t.hi : Int)]] w fun x w' => x = .returned (.agg #[.int .u64 (L : Int), .int .u64 (H : Int)]) ∧ Calm w w' := by
  obtain ⟨d, ed⟩ : ∃ d, d = D (bW true) 16 s.lo t.lo := ⟨_, rfl⟩
  have KD : Hid (∀ w, Calls Try.prog 48 #[.int .u8 16, .bool true, .int .u64 (s.lo : Int), .int .u64 (t.lo : Int)] w fun x w' => x = .returned (.tuple #[.int .u64 (d : Int), .bool true]) ∧ Calm w w') := Lib.hid (by rw [ed]; exact fun w => rdo_c (op := 16) true w hs.l ht.l)
  obtain ⟨M, eM⟩ : ∃ M, M = max s.hi t.hi := ⟨_, rfl⟩
  obtain ⟨m, em⟩ : ∃ m, m = min s.hi t.hi := ⟨_, rfl⟩
  have hM : max (s.hi : Int) (t.hi : Int) = (M : Int) := by omega
  have hm : min (s.hi : Int) (t.hi : Int) = (m : Int) := by omega
  have HN := Lib.hid hne
  have lm := hs.h
  have lm' := ht.h
  have r1 := hs.r
  have r2 := ht.r
  have wl : IntKind.u64.wrap ((s.lo : Int) - (t.hi : Int)) = (L : Int) := by rw [IntKind.wrap_u64]; omega
  have wh : IntKind.u64.wrap ((s.hi : Int) - (t.lo : Int)) = (H : Int) := by rw [IntKind.wrap_u64]; omega
  clear hs ht hne ed eM em lm lm' r1 r2 eL eH
  go_enter Try.func34, Try.ntmps34
  go_upto_region 1 with fail
  have F := Lib.hid (Fr.made w s t (.int .u64 0) (.int .u64 0))
  obtain ⟨w1, hw1⟩ : ∃ w1, w1 = ((w.alloc (.cells #[.int .u64 (s.lo : Int), .int .u64 (s.hi : Int)] 30)).alloc (.cells #[.int .u64 (t.lo : Int), .int .u64 (t.hi : Int)] 30)).alloc (.cells #[.int .u64 0, .int .u64 0] 30) := ⟨_, rfl⟩
  rw [← hw1] at F ⊢
  clear hw1
  obtain ⟨g0, h0⟩ : ∃ g, g = w.heap.size := ⟨_, rfl⟩
  rw [← h0] at F ⊢
  obtain ⟨g1, h1⟩ : ∃ g, g = g0 + 1 := ⟨_, rfl⟩
  rw [← h1] at F ⊢
  obtain ⟨g2, h2⟩ : ∃ g, g = g1 + 1 := ⟨_, rfl⟩
  rw [← h2] at F ⊢
  clear h0 h1 h2
  obtain ⟨a1, a2, a3, a4⟩ := F.out.s.two
  obtain ⟨b1, b2, b3, b4⟩ := F.out.t.two
  go_wp2_with fail
  refine (KD.out _).mono ?_
  rintro ze w2 ⟨rfl, hc⟩
  replace F := Lib.hid (F.out.calm hc)
  clear hc
  clear a1 a2 a3 a4 b1 b2 b3 b4
  obtain ⟨a1, a2, a3, a4⟩ := F.out.s.two
  obtain ⟨b1, b2, b3, b4⟩ := F.out.t.two
  go_upto_region 4 with fail
  go_cut [46] (fun s46 wc => s46 = .bool false ∧ wc = w2)
  case first =>
    by_cases h1 : s.lo = s.hi
    · have i1 : ((s.lo : Int) == (s.hi : Int)) = true := by rw [h1]; simp
      have i2 : ((t.lo : Int) == (t.hi : Int)) = false := by have := HN.out; simp; omega
      clear h1
      go_wp2_with fail
      go_meet
      exact ⟨rfl, rfl⟩
    · have i1 : ((s.lo : Int) == (s.hi : Int)) = false := by simp; omega
      clear h1
      go_wp2_with fail
      go_meet
      exact ⟨rfl, rfl⟩
  case rest =>
    obtain ⟨rfl, hw⟩ := hcut
    subst w2
    try clear a1 a2 a3 a4 b1 b2 b3 b4
    obtain ⟨a1, a2, a3, a4⟩ := F.out.s.two
    obtain ⟨b1, b2, b3, b4⟩ := F.out.t.two
    obtain ⟨x, y, ho⟩ := F.out.o
    obtain ⟨c1, c2, c3, c4⟩ := ho.two
    go_wp2_with fail
    have hR := ho.bothr (x := .int .u64 (L : Int)) (y := .int .u64 (H : Int))
    have FP := Lib.hid (F.out.put (.int .u64 (L : Int)) (.int .u64 (H : Int)))
    revert hR FP
    refine fun hR FP => ?_
    have z := hR.two
    refine bodyPost_ret (by simp [results, Try.results34, go_sem, z.1, z.2.1]; try rfl) rfl ?_
    exact ⟨rfl, FP.out.cal⟩

set_option maxHeartbeats 3200000 in
set_option maxRecDepth 20000 in
theorem rdo64_16n (hs : s.Ok) (ht : t.Ok) (hne : ¬ (s.lo = s.hi ∧ t.lo = t.hi)) (h : ¬ t.hi ≤ s.lo) : Calls Try.prog 34 #[.int .u8 16, .bool true, .int .u64 64, .agg #[.int .u64 (s.lo : Int), .int .u64 (s.hi : Int)], .agg #[.int .u64 (t.lo : Int), .int .u64 (t.hi : Int)]] w fun x w' => x = .returned (.agg #[.int .u64 0, .int .u64 18446744073709551615]) ∧ Calm w w' := by
  obtain ⟨d, ed⟩ : ∃ d, d = D (bW true) 16 s.lo t.lo := ⟨_, rfl⟩
  have KD : Hid (∀ w, Calls Try.prog 48 #[.int .u8 16, .bool true, .int .u64 (s.lo : Int), .int .u64 (t.lo : Int)] w fun x w' => x = .returned (.tuple #[.int .u64 (d : Int), .bool true]) ∧ Calm w w') := Lib.hid (by rw [ed]; exact fun w => rdo_c (op := 16) true w hs.l ht.l)
  obtain ⟨M, eM⟩ : ∃ M, M = max s.hi t.hi := ⟨_, rfl⟩
  obtain ⟨m, em⟩ : ∃ m, m = min s.hi t.hi := ⟨_, rfl⟩
  have hM : max (s.hi : Int) (t.hi : Int) = (M : Int) := by omega
  have hm : min (s.hi : Int) (t.hi : Int) = (m : Int) := by omega
  have HN := Lib.hid hne
  have lm := hs.h
  have lm' := ht.h
  clear hs ht hne ed eM em lm lm' 
  go_enter Try.func34, Try.ntmps34
  go_upto_region 1 with fail
  have F := Lib.hid (Fr.made w s t (.int .u64 0) (.int .u64 0))
  obtain ⟨w1, hw1⟩ : ∃ w1, w1 = ((w.alloc (.cells #[.int .u64 (s.lo : Int), .int .u64 (s.hi : Int)] 30)).alloc (.cells #[.int .u64 (t.lo : Int), .int .u64 (t.hi : Int)] 30)).alloc (.cells #[.int .u64 0, .int .u64 0] 30) := ⟨_, rfl⟩
  rw [← hw1] at F ⊢
  clear hw1
  obtain ⟨g0, h0⟩ : ∃ g, g = w.heap.size := ⟨_, rfl⟩
  rw [← h0] at F ⊢
  obtain ⟨g1, h1⟩ : ∃ g, g = g0 + 1 := ⟨_, rfl⟩
  rw [← h1] at F ⊢
  obtain ⟨g2, h2⟩ : ∃ g, g = g1 + 1 := ⟨_, rfl⟩
  rw [← h2] at F ⊢
  clear h0 h1 h2
  obtain ⟨a1, a2, a3, a4⟩ := F.out.s.two
  obtain ⟨b1, b2, b3, b4⟩ := F.out.t.two
  go_wp2_with fail
  refine (KD.out _).mono ?_
  rintro ze w2 ⟨rfl, hc⟩
  replace F := Lib.hid (F.out.calm hc)
  clear hc
  clear a1 a2 a3 a4 b1 b2 b3 b4
  obtain ⟨a1, a2, a3, a4⟩ := F.out.s.two
  obtain ⟨b1, b2, b3, b4⟩ := F.out.t.two
  go_upto_region 4 with fail
  go_cut [46] (fun s46 wc => s46 = .bool false ∧ wc = w2)
  case first =>
    by_cases h1 : s.lo = s.hi
    · have i1 : ((s.lo : Int) == (s.hi : Int)) = true := by rw [h1]; simp
      have i2 : ((t.lo : Int) == (t.hi : Int)) = false := by have := HN.out; simp; omega
      clear h1
      go_wp2_with fail
      go_meet
      exact ⟨rfl, rfl⟩
    · have i1 : ((s.lo : Int) == (s.hi : Int)) = false := by simp; omega
      clear h1
      go_wp2_with fail
      go_meet
      exact ⟨rfl, rfl⟩
  case rest =>
    obtain ⟨rfl, hw⟩ := hcut
    subst w2
    try clear a1 a2 a3 a4 b1 b2 b3 b4
    obtain ⟨a1, a2, a3, a4⟩ := F.out.s.two
    obtain ⟨b1, b2, b3, b4⟩ := F.out.t.two
    obtain ⟨x, y, ho⟩ := F.out.o
    obtain ⟨c1, c2, c3, c4⟩ := ho.two
    go_wp2_with fail
    refine (rall_c _).mono ?_
    rintro ze v0 ⟨rfl, hc⟩
    replace F := Lib.hid (F.out.calm (hc ▸ (Keep.refl _ _).alloc _))
    clear hc c1 c2 c3 c4
    clear a1 a2 a3 a4 b1 b2 b3 b4
    obtain ⟨a1, a2, a3, a4⟩ := F.out.s.two
    obtain ⟨b1, b2, b3, b4⟩ := F.out.t.two
    obtain ⟨x, y, ho⟩ := F.out.o
    obtain ⟨c1, c2, c3, c4⟩ := ho.two
    go_wp2_with fail
    have hR := ho.bothr (x := .int .u64 0) (y := .int .u64 18446744073709551615)
    have FP := Lib.hid (F.out.put (.int .u64 0) (.int .u64 18446744073709551615))
    revert hR FP
    refine fun hR FP => ?_
    have z := hR.two
    refine bodyPost_ret (by simp [results, Try.results34, go_sem, z.1, z.2.1]; try rfl) rfl ?_
    exact ⟨rfl, FP.out.cal⟩

set_option maxHeartbeats 3200000 in
set_option maxRecDepth 20000 in
theorem rdo64_32y (hs : s.Ok) (ht : t.Ok) (hne : ¬ (s.lo = s.hi ∧ t.lo = t.hi)) {L H : Nat} (h : s.hi * t.hi < 18446744073709551616) (eL : L = s.lo * t.lo) (eH : H = s.hi * t.hi) : Calls Try.prog 34 #[.int .u8 32, .bool true, .int .u64 64, .agg #[.int .u64 (s.lo : Int), .int .u64 (s.hi : Int)], .agg #[.int .u64 (t.lo : Int), .int .u64 (t.hi : Int)]] w fun x w' => x = .returned (.agg #[.int .u64 (L : Int), .int .u64 (H : Int)]) ∧ Calm w w' := by
  obtain ⟨d, ed⟩ : ∃ d, d = D (bW true) 32 s.lo t.lo := ⟨_, rfl⟩
  have KD : Hid (∀ w, Calls Try.prog 48 #[.int .u8 32, .bool true, .int .u64 (s.lo : Int), .int .u64 (t.lo : Int)] w fun x w' => x = .returned (.tuple #[.int .u64 (d : Int), .bool true]) ∧ Calm w w') := Lib.hid (by rw [ed]; exact fun w => rdo_c (op := 32) true w hs.l ht.l)
  obtain ⟨M, eM⟩ : ∃ M, M = max s.hi t.hi := ⟨_, rfl⟩
  obtain ⟨m, em⟩ : ∃ m, m = min s.hi t.hi := ⟨_, rfl⟩
  have hM : max (s.hi : Int) (t.hi : Int) = (M : Int) := by omega
  have hm : min (s.hi : Int) (t.hi : Int) = (m : Int) := by omega
  have HN := Lib.hid hne
  have lm := hs.h
  have lm' := ht.h
  have hl : s.lo * t.lo < 18446744073709551616 := Nat.lt_of_le_of_lt (Nat.mul_le_mul hs.r ht.r) h
  have K1 : Hid (∀ w, Calls Try.prog 51 #[.int .u64 (s.hi : Int), .int .u64 (t.hi : Int)] w fun x w' => x = .returned (.tuple #[.int .u64 (H : Int), .bool true]) ∧ Calm w w') := Lib.hid (by rw [eH]; exact fun w => rproduct_yes hs.h ht.h h w)
  have wl : IntKind.u64.wrap ((s.lo : Int) * (t.lo : Int)) = (L : Int) := by rw [← Int.natCast_mul, ← eL]; exact wrapU64 (by omega)
  clear hs ht hne ed eM em lm lm' hl h eL eH
  go_enter Try.func34, Try.ntmps34
  go_upto_region 1 with fail
  have F := Lib.hid (Fr.made w s t (.int .u64 0) (.int .u64 0))
  obtain ⟨w1, hw1⟩ : ∃ w1, w1 = ((w.alloc (.cells #[.int .u64 (s.lo : Int), .int .u64 (s.hi : Int)] 30)).alloc (.cells #[.int .u64 (t.lo : Int), .int .u64 (t.hi : Int)] 30)).alloc (.cells #[.int .u64 0, .int .u64 0] 30) := ⟨_, rfl⟩
  rw [← hw1] at F ⊢
  clear hw1
  obtain ⟨g0, h0⟩ : ∃ g, g = w.heap.size := ⟨_, rfl⟩
  rw [← h0] at F ⊢
  obtain ⟨g1, h1⟩ : ∃ g, g = g0 + 1 := ⟨_, rfl⟩
  rw [← h1] at F ⊢
  obtain ⟨g2, h2⟩ : ∃ g, g = g1 + 1 := ⟨_, rfl⟩
  rw [← h2] at F ⊢
  clear h0 h1 h2
  obtain ⟨a1, a2, a3, a4⟩ := F.out.s.two
  obtain ⟨b1, b2, b3, b4⟩ := F.out.t.two
  go_wp2_with fail
  refine (KD.out _).mono ?_
  rintro ze w2 ⟨rfl, hc⟩
  replace F := Lib.hid (F.out.calm hc)
  clear hc
  clear a1 a2 a3 a4 b1 b2 b3 b4
  obtain ⟨a1, a2, a3, a4⟩ := F.out.s.two
  obtain ⟨b1, b2, b3, b4⟩ := F.out.t.two
  go_upto_region 4 with fail
  go_cut [46] (fun s46 wc => s46 = .bool false ∧ wc = w2)
  case first =>
    by_cases h1 : s.lo = s.hi
    · have i1 : ((s.lo : Int) == (s.hi : Int)) = true := by rw [h1]; simp
      have i2 : ((t.lo : Int) == (t.hi : Int)) = false := by have := HN.out; simp; omega
      clear h1
      go_wp2_with fail
      go_meet
      exact ⟨rfl, rfl⟩
    · have i1 : ((s.lo : Int) == (s.hi : Int)) = false := by simp; omega
      clear h1
      go_wp2_with fail
      go_meet
      exact ⟨rfl, rfl⟩
  case rest =>
    obtain ⟨rfl, hw⟩ := hcut
    subst w2
    try clear a1 a2 a3 a4 b1 b2 b3 b4
    obtain ⟨a1, a2, a3, a4⟩ := F.out.s.two
    obtain ⟨b1, b2, b3, b4⟩ := F.out.t.two
    obtain ⟨x, y, ho⟩ := F.out.o
    obtain ⟨c1, c2, c3, c4⟩ := ho.two
    go_wp2_with fail
    refine (K1.out _).mono ?_
    rintro ze v0 ⟨rfl, hc⟩
    replace F := Lib.hid (F.out.calm hc)
    clear hc c1 c2 c3 c4
    clear a1 a2 a3 a4 b1 b2 b3 b4
    obtain ⟨a1, a2, a3, a4⟩ := F.out.s.two
    obtain ⟨b1, b2, b3, b4⟩ := F.out.t.two
    obtain ⟨x, y, ho⟩ := F.out.o
    obtain ⟨c1, c2, c3, c4⟩ := ho.two
    go_wp2_with fail
    have hR := ho.bothr (x := .int .u64 (L : Int)) (y := .int .u64 (H : Int))
    have FP := Lib.hid (F.out.put (.int .u64 (L : Int)) (.int .u64 (H : Int)))
    revert hR FP
    refine fun hR FP => ?_
    have z := hR.two
    refine bodyPost_ret (by simp [results, Try.results34, go_sem, z.1, z.2.1]; try rfl) rfl ?_
    exact ⟨rfl, FP.out.cal⟩

set_option maxHeartbeats 3200000 in
set_option maxRecDepth 20000 in
theorem rdo64_32n (hs : s.Ok) (ht : t.Ok) (hne : ¬ (s.lo = s.hi ∧ t.lo = t.hi)) (h : ¬ s.hi * t.hi < 18446744073709551616) : Calls Try.prog 34 #[.int .u8 32, .bool true, .int .u64 64, .agg #[.int .u64 (s.lo : Int), .int .u64 (s.hi : Int)], .agg #[.int .u64 (t.lo : Int), .int .u64 (t.hi : Int)]] w fun x w' => x = .returned (.agg #[.int .u64 0, .int .u64 18446744073709551615]) ∧ Calm w w' := by
  obtain ⟨d, ed⟩ : ∃ d, d = D (bW true) 32 s.lo t.lo := ⟨_, rfl⟩
  have KD : Hid (∀ w, Calls Try.prog 48 #[.int .u8 32, .bool true, .int .u64 (s.lo : Int), .int .u64 (t.lo : Int)] w fun x w' => x = .returned (.tuple #[.int .u64 (d : Int), .bool true]) ∧ Calm w w') := Lib.hid (by rw [ed]; exact fun w => rdo_c (op := 32) true w hs.l ht.l)
  obtain ⟨M, eM⟩ : ∃ M, M = max s.hi t.hi := ⟨_, rfl⟩
  obtain ⟨m, em⟩ : ∃ m, m = min s.hi t.hi := ⟨_, rfl⟩
  have hM : max (s.hi : Int) (t.hi : Int) = (M : Int) := by omega
  have hm : min (s.hi : Int) (t.hi : Int) = (m : Int) := by omega
  have HN := Lib.hid hne
  have lm := hs.h
  have lm' := ht.h
  obtain ⟨c1, k1⟩ := rproduct_no h
  have K1 := Lib.hid k1
  clear hs ht hne ed eM em lm lm' k1 h
  go_enter Try.func34, Try.ntmps34
  go_upto_region 1 with fail
  have F := Lib.hid (Fr.made w s t (.int .u64 0) (.int .u64 0))
  obtain ⟨w1, hw1⟩ : ∃ w1, w1 = ((w.alloc (.cells #[.int .u64 (s.lo : Int), .int .u64 (s.hi : Int)] 30)).alloc (.cells #[.int .u64 (t.lo : Int), .int .u64 (t.hi : Int)] 30)).alloc (.cells #[.int .u64 0, .int .u64 0] 30) := ⟨_, rfl⟩
  rw [← hw1] at F ⊢
  clear hw1
  obtain ⟨g0, h0⟩ : ∃ g, g = w.heap.size := ⟨_, rfl⟩
  rw [← h0] at F ⊢
  obtain ⟨g1, h1⟩ : ∃ g, g = g0 + 1 := ⟨_, rfl⟩
  rw [← h1] at F ⊢
  obtain ⟨g2, h2⟩ : ∃ g, g = g1 + 1 := ⟨_, rfl⟩
  rw [← h2] at F ⊢
  clear h0 h1 h2
  obtain ⟨a1, a2, a3, a4⟩ := F.out.s.two
  obtain ⟨b1, b2, b3, b4⟩ := F.out.t.two
  go_wp2_with fail
  refine (KD.out _).mono ?_
  rintro ze w2 ⟨rfl, hc⟩
  replace F := Lib.hid (F.out.calm hc)
  clear hc
  clear a1 a2 a3 a4 b1 b2 b3 b4
  obtain ⟨a1, a2, a3, a4⟩ := F.out.s.two
  obtain ⟨b1, b2, b3, b4⟩ := F.out.t.two
  go_upto_region 4 with fail
  go_cut [46] (fun s46 wc => s46 = .bool false ∧ wc = w2)
  case first =>
    by_cases h1 : s.lo = s.hi
    · have i1 : ((s.lo : Int) == (s.hi : Int)) = true := by rw [h1]; simp
      have i2 : ((t.lo : Int) == (t.hi : Int)) = false := by have := HN.out; simp; omega
      clear h1
      go_wp2_with fail
      go_meet
      exact ⟨rfl, rfl⟩
    · have i1 : ((s.lo : Int) == (s.hi : Int)) = false := by simp; omega
      clear h1
      go_wp2_with fail
      go_meet
      exact ⟨rfl, rfl⟩
  case rest =>
    obtain ⟨rfl, hw⟩ := hcut
    subst w2
    try clear a1 a2 a3 a4 b1 b2 b3 b4
    obtain ⟨a1, a2, a3, a4⟩ := F.out.s.two
    obtain ⟨b1, b2, b3, b4⟩ := F.out.t.two
    obtain ⟨x, y, ho⟩ := F.out.o
    obtain ⟨c1, c2, c3, c4⟩ := ho.two
    go_wp2_with fail
    refine (K1.out _).mono ?_
    rintro ze v0 ⟨rfl, hc⟩
    replace F := Lib.hid (F.out.calm hc)
    clear hc c1 c2 c3 c4
    clear a1 a2 a3 a4 b1 b2 b3 b4
    obtain ⟨a1, a2, a3, a4⟩ := F.out.s.two
    obtain ⟨b1, b2, b3, b4⟩ := F.out.t.two
    obtain ⟨x, y, ho⟩ := F.out.o
    obtain ⟨c1, c2, c3, c4⟩ := ho.two
    go_wp2_with fail
    refine (rall_c _).mono ?_
    rintro ze v1 ⟨rfl, hc⟩
    replace F := Lib.hid (F.out.calm (hc ▸ (Keep.refl _ _).alloc _))
    clear hc c1 c2 c3 c4
    clear a1 a2 a3 a4 b1 b2 b3 b4
    obtain ⟨a1, a2, a3, a4⟩ := F.out.s.two
    obtain ⟨b1, b2, b3, b4⟩ := F.out.t.two
    obtain ⟨x, y, ho⟩ := F.out.o
    obtain ⟨c1, c2, c3, c4⟩ := ho.two
    go_wp2_with fail
    have hR := ho.bothr (x := .int .u64 0) (y := .int .u64 18446744073709551615)
    have FP := Lib.hid (F.out.put (.int .u64 0) (.int .u64 18446744073709551615))
    revert hR FP
    refine fun hR FP => ?_
    have z := hR.two
    refine bodyPost_ret (by simp [results, Try.results34, go_sem, z.1, z.2.1]; try rfl) rfl ?_
    exact ⟨rfl, FP.out.cal⟩

end

end Go.Proofs.Ytboiakahhkihiaa
