/-
  The reference of layer 8: do, on words of 32 bits.
-/
import Derived.Test.YtboiakahhkihiaaNR2
namespace Go.Proofs.Ytboiakahhkihiaa
open Go.RowKit
set_option linter.all false

section
variable {s t : Sp} (w : World)
set_option maxHeartbeats 3200000 in
set_option maxRecDepth 20000 in
theorem rdo32_160 (hs : s.Ok) (ht : t.Ok) (hne : ¬ (s.lo = s.hi ∧ t.lo = t.hi)) {O : Nat} (eO : O = onesN (max s.hi t.hi)) : Calls Try.prog 34 #[.int .u8 160, .bool false, .int .u64 32, .agg #[.int .u64 (s.lo : Int), .int .u64 (s.hi : Int)], .agg #[.int .u64 (t.lo : Int), .int .u64 (t.hi : Int)]] w fun x w' => x = .returned (.agg #[.int .u64 0, .int .u64 (O : Int)]) ∧ Calm w w' := by
  obtain ⟨d, ed⟩ : ∃ d, d = D (bW false) 160 s.lo t.lo := ⟨_, rfl⟩
  have KD : Hid (∀ w, Calls Try.prog 48 #[.int .u8 160, .bool false, .int .u64 (s.lo : Int), .int .u64 (t.lo : Int)] w fun x w' => x = .returned (.tuple #[.int .u64 (d : Int), .bool true]) ∧ Calm w w') := Lib.hid (by rw [ed]; exact fun w => rdo_c (op := 160) false w hs.l ht.l)
  obtain ⟨M, eM⟩ : ∃ M, M = max s.hi t.hi := ⟨_, rfl⟩
  obtain ⟨m, em⟩ : ∃ m, m = min s.hi t.hi := ⟨_, rfl⟩
  have hM : max (s.hi : Int) (t.hi : Int) = (M : Int) := by omega
  have hm : min (s.hi : Int) (t.hi : Int) = (m : Int) := by omega
  have HN := Lib.hid hne
  have lm := hs.h
  have lm' := ht.h
  have lM : M < 18446744073709551616 := by omega
  have K1 : Hid (∀ w, Calls Try.prog 52 #[.int .u64 (M : Int)] w fun x w' => x = .returned (.int .u64 (O : Int)) ∧ Calm w w') := Lib.hid (by rw [eO, ← eM]; exact fun w => rones_c w lM)
  clear hs ht hne ed eM em lm lm' lM eO
  go_enter Try.func34, Try.ntmps34
  go_upto_region 1 with fail
  have F := Lib.hid (Fr.made w s t (.int .u64 0) (.int .u64 0))
  obtain ⟨w1, hw1⟩ : ∃ w1, w1 = ((w.alloc (.cells #[.int .u64 (s.lo : Int), .int .u64 (s.hi : Int)] 30)).alloc (.cells #[.int .u64 (t.lo : Int), .int .u64 (t.hi : Int)] 30)).alloc (.cells #[.int .u64 0, .int .u64 0] 30) := ⟨_, rfl⟩
  rw [← hw1] at F ⊢
  clear hw1
  obtain ⟨g0, h0⟩ : ∃ g, g = w.heap.size := ⟨_, rfl⟩
  rw [← h0] at F ⊢
  obtain ⟨g1, h1⟩ : ∃ g, g = g0 + 1 := ⟨_, rfl⟩
  rw [← h1] at F ⊢
  obtain ⟨g2, h2⟩ : ∃ g, g = g1 + 1 := ⟨_, rfl⟩
  rw [← h2] at F ⊢
  clear h0 h1 h2
  obtain ⟨a1, a2, a3, a4⟩ := F.out.s.two
  obtain ⟨b1, b2, b3, b4⟩ := F.out.t.two
  go_wp2_with fail
  refine (KD.out _).mono ?_
  rintro ze w2 ⟨rfl, hc⟩
  replace F := Lib.hid (F.out.calm hc)
  clear hc
  clear a1 a2 a3 a4 b1 b2 b3 b4
  obtain ⟨a1, a2, a3, a4⟩ := F.out.s.two
  obtain ⟨b1, b2, b3, b4⟩ := F.out.t.two
  go_upto_region 4 with fail
  go_cut [46] (fun s46 wc => s46 = .bool false ∧ wc = w2)
  case first =>
    by_cases h1 : s.lo = s.hi
    · have i1 : ((s.lo : Int) == (s.hi : Int)) = true := by rw [h1]; simp
      have i2 : ((t.lo : Int) == (t.hi : Int)) = false := by have := HN.out; simp; omega
      clear h1
      go_wp2_with fail
      go_meet
      exact ⟨rfl, rfl⟩
    · have i1 : ((s.lo : Int) == (s.hi : Int)) = false := by simp; omega
      clear h1
      go_wp2_with fail
      go_meet
      exact ⟨rfl, rfl⟩
  case rest =>
    obtain ⟨rfl, hw⟩ := hcut
    subst w2
    try clear a1 a2 a3 a4 b1 b2 b3 b4
    obtain ⟨a1, a2, a3, a4⟩ := F.out.s.two
    obtain ⟨b1, b2, b3, b4⟩ := F.out.t.two
    obtain ⟨x, y, ho⟩ := F.out.o
    obtain ⟨c1, c2, c3, c4⟩ := ho.two
    go_wp2_with fail
    refine (K1.out _).mono ?_
    rintro ze v0 ⟨rfl, hc⟩
    replace F := Lib.hid (F.out.calm hc)
    clear hc c1 c2 c3 c4
    clear a1 a2 a3 a4 b1 b2 b3 b4
    obtain ⟨a1, a2, a3, a4⟩ := F.out.s.two
    obtain ⟨b1, b2, b3, b4⟩ := F.out.t.two
    obtain ⟨x, y, ho⟩ := F.out.o
    obtain ⟨c1, c2, c3, c4⟩ := ho.two
    go_wp2_with fail
    have hR := ho.bothr (x := .int .u64 0) (y := .int .u64 (O : Int))
    have FP := Lib.hid (F.out.put (.int .u64 0) (.int .u64 (O : Int)))
    revert hR FP
    refine fun hR FP => ?_
    have z := hR.two
    refine bodyPost_ret (by simp [results, Try.results34, go_sem, z.1, z.2.1]; try rfl) rfl ?_
    exact ⟨rfl, FP.out.cal⟩

set_option maxHeartbeats 3200000 in
set_option maxRecDepth 20000 in
theorem rdo32_64 (hs : s.Ok) (ht : t.Ok) (hne : ¬ (s.lo = s.hi ∧ t.lo = t.hi)) {L O : Nat} (eO : O = onesN (max s.hi t.hi)) (eL : L = max s.lo t.lo) : Calls Try.prog 34 #[.int .u8 64, .bool false, .int .u64 32, .agg #[.int .u64 (s.lo : Int), .int .u64 (s.hi : Int)], .agg #[.int .u64 (t.lo : Int), .int .u64 (t.hi : Int)]] w fun x w' => x = .returned (.agg #[.int .u64 (L : Int), .int .u64 (O : Int)]) ∧ Calm w w' := by
  obtain ⟨d, ed⟩ : ∃ d, d = D (bW false) 64 s.lo t.lo := ⟨_, rfl⟩
  have KD : Hid (∀ w, Calls Try.prog 48 #[.int .u8 64, .bool false, .int .u64 (s.lo : Int), .int .u64 (t.lo : Int)] w fun x w' => x = .returned (.tuple #[.int .u64 (d : Int), .bool true]) ∧ Calm w w') := Lib.hid (by rw [ed]; exact fun w => rdo_c (op := 64) false w hs.l ht.l)
  obtain ⟨M, eM⟩ : ∃ M, M = max s.hi t.hi := ⟨_, rfl⟩
  obtain ⟨m, em⟩ : ∃ m, m = min s.hi t.hi := ⟨_, rfl⟩
  have hM : max (s.hi : Int) (t.hi : Int) = (M : Int) := by omega
  have hm : min (s.hi : Int) (t.hi : Int) = (m : Int) := by omega
  have HN := Lib.hid hne
  have lm := hs.h
  have lm' := ht.h
  have lM : M < 18446744073709551616 := by omega
  have K1 : Hid (∀ w, Calls Try.prog 52 #[.int .u64 (M : Int)] w fun x w' => x = .returned (.int .u64 (O : Int)) ∧ Calm w w') := Lib.hid (by rw [eO, ← eM]; exact fun w => rones_c w lM)
  have hL : max (s.lo : Int) (t.lo : Int) = (L : Int) := by omega
  clear hs ht hne ed eM em lm lm' lM eO eL
  go_enter Try.func34, Try.ntmps34
  go_upto_region 1 with fail
  have F := Lib.hid (Fr.made w s t (.int .u64 0) (.int .u64 0))
  obtain ⟨w1, hw1⟩ : ∃ w1, w1 = ((w.alloc (.cells #[.int .u64 (s.lo : Int), .int .u64 (s.hi : Int)] 30)).alloc (.cells #[.int .u64 (t.lo : Int), .int .u64 (t.hi : Int)] 30)).alloc (.cells #[.int .u64 0, .int .u64 0] 30) := ⟨_, rfl⟩
  rw [← hw1] at F ⊢
  clear hw1
  obtain ⟨g0, h0⟩ : ∃ g, g = w.heap.size := ⟨_, rfl⟩
  rw [← h0] at F ⊢
  obtain ⟨g1, h1⟩ : ∃ g, g = g0 + 1 := ⟨_, rfl⟩
  rw [← h1] at F ⊢
  obtain ⟨g2, h2⟩ : ∃ g, g = g1 + 1 := ⟨_, rfl⟩
  rw [← h2] at F ⊢
  clear h0 h1 h2
  obtain ⟨a1, a2, a3, a4⟩ := F.out.s.two
  obtain ⟨b1, b2, b3, b4⟩ := F.out.t.two
  go_wp2_with fail
  refine (KD.out _).mono ?_
  rintro ze w2 ⟨rfl, hc⟩
  replace F := Lib.hid (F.out.calm hc)
  clear hc
  clear a1 a2 a3 a4 b1 b2 b3 b4
  obtain ⟨a1, a2, a3, a4⟩ := F.out.s.two
  obtain ⟨b1, b2, b3, b4⟩ := F.out.t.two
  go_upto_region 4 with fail
  go_cut [46] (fun s46 wc => s46 = .bool false ∧ wc = w2)
  case first =>
    by_cases h1 : s.lo = s.hi
    · have i1 : ((s.lo : Int) == (s.hi : Int)) = true := by rw [h1]; simp
      have i2 : ((t.lo : Int) == (t.hi : Int)) = false := by have := HN.out; simp; omega
      clear h1
      go_wp2_with fail
      go_meet
      exact ⟨rfl, rfl⟩
    · have i1 : ((s.lo : Int) == (s.hi : Int)) = false := by simp; omega
      clear h1
      go_wp2_with fail
      go_meet
      exact ⟨rfl, rfl⟩
  case rest =>
    obtain ⟨rfl, hw⟩ := hcut
    subst w2
    try clear a1 a2 a3 a4 b1 b2 b3 b4
    obtain ⟨a1, a2, a3, a4⟩ := F.out.s.two
    obtain ⟨b1, b2, b3, b4⟩ := F.out.t.two
    obtain ⟨x, y, ho⟩ := F.out.o
    obtain ⟨c1, c2, c3, c4⟩ := ho.two
    go_upto_region 34 with fail
    clear c1 c2 c3 c4 ho x y
    clear a1 a2 a3 a4 b1 b2 b3 b4
    refine wp_region_noPanic ?_
    refine wp_region_held_drew (S := fun w' => Fr w w' g0 g1 g2 s t) (by kernel_rfl) F.out.drew (fun hHeld => ?_)
    refine take_at 0 165 (.pointer (some ⟨g0, 0, none⟩)) rfl rfl (by kernel_rfl) (by kernel_rfl) (by kernel_rfl) (fun _ _ _ h => h) (Or.inl ⟨by rfl, ?_⟩) hHeld ?_
    · intro w hSw; go_simp
    simp only [List.setIfInBounds_toArray, List.set_cons_zero, List.set_cons_succ]
    refine take_at 1 166 (.int .u64 (s.lo : Int)) rfl rfl (by kernel_rfl) (by kernel_rfl) (by kernel_rfl) (fun _ _ _ h => h) (Or.inl ⟨by rfl, ?_⟩) hHeld ?_
    · intro w hSw; have c := hSw.s.twor; go_simp
    simp only [List.setIfInBounds_toArray, List.set_cons_zero, List.set_cons_succ]
    refine take_at 2 167 (.pointer (some ⟨g1, 0, none⟩)) rfl rfl (by kernel_rfl) (by kernel_rfl) (by kernel_rfl) (fun _ _ _ h => h) (Or.inl ⟨by rfl, ?_⟩) hHeld ?_
    · intro w hSw; go_simp
    simp only [List.setIfInBounds_toArray, List.set_cons_zero, List.set_cons_succ]
    refine take_at 3 168 (.int .u64 (t.lo : Int)) rfl rfl (by kernel_rfl) (by kernel_rfl) (by kernel_rfl) (fun _ _ _ h => h) (Or.inl ⟨by rfl, ?_⟩) hHeld ?_
    · intro w hSw; have c := hSw.t.two; go_simp
    simp only [List.setIfInBounds_toArray, List.set_cons_zero, List.set_cons_succ]
    refine take_at 4 169 (.int .u64 (L : Int)) rfl rfl (by kernel_rfl) (by kernel_rfl) (by kernel_rfl) (fun _ _ _ h => h) (Or.inl ⟨by rfl, ?_⟩) hHeld ?_
    · intro w hSw; go_simp
    simp only [List.setIfInBounds_toArray, List.set_cons_zero, List.set_cons_succ]
    refine take_at 5 170 (.int .u64 (M : Int)) rfl rfl (by kernel_rfl) (by kernel_rfl) (by kernel_rfl) (fun _ _ _ h => h) (Or.inl ⟨by rfl, ?_⟩) hHeld ?_
    · intro w hSw; go_simp
    simp only [List.setIfInBounds_toArray, List.set_cons_zero, List.set_cons_succ]
    refine wpAnyH_ready (rs := [6]) (by kernel_rfl) (by simp) ?_
    refine AllReadyH.cons rfl (fun K hK => ?_) AllReadyH.nil
    go_simp
    refine (K1.out _).mono ?_
    rintro ze w4 ⟨rfl, hc⟩
    refine hK.out _ _ (hHeld.calm hc) (fun hHeld => ?_)
    clear hK K
    try simp only [List.setIfInBounds_toArray, List.set_cons_zero, List.set_cons_succ]
    refine take_at 7 172 (.agg #[.int .u64 (L : Int), .int .u64 (O : Int)]) rfl rfl (by kernel_rfl) (by kernel_rfl) (by kernel_rfl) (fun _ _ _ h => h) (Or.inl ⟨by rfl, ?_⟩) hHeld ?_
    · intro w hSw; go_simp
    simp only [List.setIfInBounds_toArray, List.set_cons_zero, List.set_cons_succ]
    obtain ⟨x, y, hrow⟩ := hHeld.o
    have d9 := hrow.two
    refine wpAnyH_ready (rs := [8]) (by kernel_rfl) (by simp) ?_
    refine AllReadyH.cons rfl (fun K hK => ?_) AllReadyH.nil
    go_simp
    refine hK.out _ _ (hHeld.put _ _) (fun hHeld => ?_)
    clear hK K
    try simp only [List.setIfInBounds_toArray, List.set_cons_zero, List.set_cons_succ]
    refine wpAnyH_done (by kernel_rfl) (NoPanic.normal ?_) _
    have hR := hrow.bothr (x := .int .u64 (L : Int)) (y := .int .u64 (O : Int))
    go_wp2_with fail
    have z := hR.two
    refine bodyPost_ret (by simp [results, Try.results34, go_sem, z.1, z.2.1]; try rfl) rfl ?_
    exact ⟨rfl, hHeld.cal⟩

set_option maxHeartbeats 3200000 in
set_option maxRecDepth 20000 in
theorem rdo32_96y (hs : s.Ok) (ht : t.Ok) (hne : ¬ (s.lo = s.hi ∧ t.lo = t.hi)) {L H : Nat} (h1 : t.lo = t.hi) (h2 : s.hi * 2 ^ (t.lo % 32) < 18446744073709551616) (eL : L = s.lo * 2 ^ (t.lo % 32)) (eH : H = s.hi * 2 ^ (t.lo % 32)) : Calls Try.prog 34 #[.int .u8 96, .bool false, .int .u64 32, .agg #[.int .u64 (s.lo : Int), .int .u64 (s.hi : Int)], .agg #[.int .u64 (t.lo : Int), .int .u64 (t.hi : Int)]] w fun x w' => x = .returned (.agg #[.int .u64 (L : Int), .int .u64 (H : Int)]) ∧ Calm w w' := by
  obtain ⟨d, ed⟩ : ∃ d, d = D (bW false) 96 s.lo t.lo := ⟨_, rfl⟩
  have KD : Hid (∀ w, Calls Try.prog 48 #[.int .u8 96, .bool false, .int .u64 (s.lo : Int), .int .u64 (t.lo : Int)] w fun x w' => x = .returned (.tuple #[.int .u64 (d : Int), .bool true]) ∧ Calm w w') := Lib.hid (by rw [ed]; exact fun w => rdo_c (op := 96) false w hs.l ht.l)
  obtain ⟨M, eM⟩ : ∃ M, M = max s.hi t.hi := ⟨_, rfl⟩
  obtain ⟨m, em⟩ : ∃ m, m = min s.hi t.hi := ⟨_, rfl⟩
  have hM : max (s.hi : Int) (t.hi : Int) = (M : Int) := by omega
  have hm : min (s.hi : Int) (t.hi : Int) = (m : Int) := by omega
  have HN := Lib.hid hne
  have lm := hs.h
  have lm' := ht.h
  have hp := Nat.two_pow_pos (t.lo % 32)
  have eX : ((s.hi : Int) * 2 ^ (t.lo % 32)) = ((s.hi * 2 ^ (t.lo % 32) : Nat) : Int) := by rw [pow_cast, ← Int.natCast_mul]
  have eY : ((s.lo : Int) * 2 ^ (t.lo % 32)) = ((s.lo * 2 ^ (t.lo % 32) : Nat) : Int) := by rw [pow_cast, ← Int.natCast_mul]
  have HT := Lib.hid h1
  have hl : s.lo * 2 ^ (t.lo % 32) < 18446744073709551616 := Nat.lt_of_le_of_lt (Nat.mul_le_mul_right _ hs.r) h2
  have wx : IntKind.u64.wrap ((s.hi : Int) * 2 ^ (t.lo % 32)) = (H : Int) := by rw [eX, ← eH]; exact wrapU64 (by omega)
  have wy : IntKind.u64.wrap ((s.lo : Int) * 2 ^ (t.lo % 32)) = (L : Int) := by rw [eY, ← eL]; exact wrapU64 (by omega)
  have q : (H : Int) / 2 ^ (t.lo % 32) = (s.hi : Int) := by rw [pow_cast, ← Int.natCast_ediv, eH, Nat.mul_div_cancel _ hp]
  have i3 : ((t.lo : Int) == (t.hi : Int)) = true := by rw [h1]; simp
  clear hs ht hne ed eM em lm lm' hp eX eY hl h1 h2 eL eH
  go_enter Try.func34, Try.ntmps34
  go_upto_region 1 with fail
  have F := Lib.hid (Fr.made w s t (.int .u64 0) (.int .u64 0))
  obtain ⟨w1, hw1⟩ : ∃ w1, w1 = ((w.alloc (.cells #[.int .u64 (s.lo : Int), .int .u64 (s.hi : Int)] 30)).alloc (.cells #[.int .u64 (t.lo : Int), .int .u64 (t.hi : Int)] 30)).alloc (.cells #[.int .u64 0, .int .u64 0] 30) := ⟨_, rfl⟩
  rw [← hw1] at F ⊢
  clear hw1
  obtain ⟨g0, h0⟩ : ∃ g, g = w.heap.size := ⟨_, rfl⟩
  rw [← h0] at F ⊢
  obtain ⟨g1, h1⟩ : ∃ g, g = g0 + 1 := ⟨_, rfl⟩
  rw [← h1] at F ⊢
  obtain ⟨g2, h2⟩ : ∃ g, g = g1 + 1 := ⟨_, rfl⟩
  rw [← h2] at F ⊢
  clear h0 h1 h2
  obtain ⟨a1, a2, a3, a4⟩ := F.out.s.two
  obtain ⟨b1, b2, b3, b4⟩ := F.out.t.two
  go_wp2_with fail
  refine (KD.out _).mono ?_
  rintro ze w2 ⟨rfl, hc⟩
  replace F := Lib.hid (F.out.calm hc)
  clear hc
  clear a1 a2 a3 a4 b1 b2 b3 b4
  obtain ⟨a1, a2, a3, a4⟩ := F.out.s.two
  obtain ⟨b1, b2, b3, b4⟩ := F.out.t.two
  go_upto_region 4 with fail
  go_cut [46] (fun s46 wc => s46 = .bool false ∧ wc = w2)
  case first =>
    by_cases h1 : s.lo = s.hi
    · exact absurd ⟨h1, HT.out⟩ HN.out
    · have i1 : ((s.lo : Int) == (s.hi : Int)) = false := by simp; omega
      clear h1
      go_wp2_with fail
      go_meet
      exact ⟨rfl, rfl⟩
  case rest =>
    obtain ⟨rfl, hw⟩ := hcut
    subst w2
    try clear a1 a2 a3 a4 b1 b2 b3 b4
    obtain ⟨a1, a2, a3, a4⟩ := F.out.s.two
    obtain ⟨b1, b2, b3, b4⟩ := F.out.t.two
    obtain ⟨x, y, ho⟩ := F.out.o
    obtain ⟨c1, c2, c3, c4⟩ := ho.two
    go_wp2_with fail
    have hR := ho.bothr (x := .int .u64 (L : Int)) (y := .int .u64 (H : Int))
    have FP := Lib.hid (F.out.put (.int .u64 (L : Int)) (.int .u64 (H : Int)))
    revert hR FP
    refine fun hR FP => ?_
    have z := hR.two
    refine bodyPost_ret (by simp [results, Try.results34, go_sem, z.1, z.2.1]; try rfl) rfl ?_
    exact ⟨rfl, FP.out.cal⟩

set_option maxHeartbeats 3200000 in
set_option maxRecDepth 20000 in
theorem rdo32_96a (hs : s.Ok) (ht : t.Ok) (hne : ¬ (s.lo = s.hi ∧ t.lo = t.hi)) (h1 : ¬ t.lo = t.hi) : Calls Try.prog 34 #[.int .u8 96, .bool false, .int .u64 32, .agg #[.int .u64 (s.lo : Int), .int .u64 (s.hi : Int)], .agg #[.int .u64 (t.lo : Int), .int .u64 (t.hi : Int)]] w fun x w' => x = .returned (.agg #[.int .u64 0, .int .u64 18446744073709551615]) ∧ Calm w w' := by
  obtain ⟨d, ed⟩ : ∃ d, d = D (bW false) 96 s.lo t.lo := ⟨_, rfl⟩
  have KD : Hid (∀ w, Calls Try.prog 48 #[.int .u8 96, .bool false, .int .u64 (s.lo : Int), .int .u64 (t.lo : Int)] w fun x w' => x = .returned (.tuple #[.int .u64 (d : Int), .bool true]) ∧ Calm w w') := Lib.hid (by rw [ed]; exact fun w => rdo_c (op := 96) false w hs.l ht.l)
  obtain ⟨M, eM⟩ : ∃ M, M = max s.hi t.hi := ⟨_, rfl⟩
  obtain ⟨m, em⟩ : ∃ m, m = min s.hi t.hi := ⟨_, rfl⟩
  have hM : max (s.hi : Int) (t.hi : Int) = (M : Int) := by omega
  have hm : min (s.hi : Int) (t.hi : Int) = (m : Int) := by omega
  have HN := Lib.hid hne
  have lm := hs.h
  have lm' := ht.h
  have i3 : ((t.lo : Int) == (t.hi : Int)) = false := by simp; omega
  clear hs ht hne ed eM em lm lm' h1
  go_enter Try.func34, Try.ntmps34
  go_upto_region 1 with fail
  have F := Lib.hid (Fr.made w s t (.int .u64 0) (.int .u64 0))
  obtain ⟨w1, hw1⟩ : ∃ w1, w1 = ((w.alloc (.cells #[.int .u64 (s.lo : Int), .int .u64 (s.hi : Int)] 30)).alloc (.cells #[.int .u64 (t.lo : Int), .int .u64 (t.hi : Int)] 30)).alloc (.cells #[.int .u64 0, .int .u64 0] 30) := ⟨_, rfl⟩
  rw [← hw1] at F ⊢
  clear hw1
  obtain ⟨g0, h0⟩ : ∃ g, g = w.heap.size := ⟨_, rfl⟩
  rw [← h0] at F ⊢
  obtain ⟨g1, h1⟩ : ∃ g, g = g0 + 1 := ⟨_, rfl⟩
  rw [← h1] at F ⊢
  obtain ⟨g2, h2⟩ : ∃ g, g = g1 + 1 := ⟨_, rfl⟩
  rw [← h2] at F ⊢
  clear h0 h1 h2
  obtain ⟨a1, a2, a3, a4⟩ := F.out.s.two
  obtain ⟨b1, b2, b3, b4⟩ := F.out.t.two
  go_wp2_with fail
  refine (KD.out _).mono ?_
  rintro ze w2 ⟨rfl, hc⟩
  replace F := Lib.hid (F.out.calm hc)
  clear hc
  clear a1 a2 a3 a4 b1 b2 b3 b4
  obtain ⟨a1, a2, a3, a4⟩ := F.out.s.two
  obtain ⟨b1, b2, b3, b4⟩ := F.out.t.two
  go_upto_region 4 with fail
  go_cut [46] (fun s46 wc => s46 = .bool false ∧ wc = w2)
  case first =>
    by_cases h1 : s.lo = s.hi
    · have i1 : ((s.lo : Int) == (s.hi : Int)) = true := by rw [h1]; simp
      have i2 : ((t.lo : Int) == (t.hi : Int)) = false := by have := HN.out; simp; omega
      clear h1
      go_wp2_with fail
      go_meet
      exact ⟨rfl, rfl⟩
    · have i1 : ((s.lo : Int) == (s.hi : Int)) = false := by simp; omega
      clear h1
      go_wp2_with fail
      go_meet
      exact ⟨rfl, rfl⟩
  case rest =>
    obtain ⟨rfl, hw⟩ := hcut
    subst w2
    try clear a1 a2 a3 a4 b1 b2 b3 b4
    obtain ⟨a1, a2, a3, a4⟩ := F.out.s.two
    obtain ⟨b1, b2, b3, b4⟩ := F.out.t.two
    obtain ⟨x, y, ho⟩ := F.out.o
    obtain ⟨c1, c2, c3, c4⟩ := ho.two
    go_wp2_with fail
    refine (rall_c _).mono ?_
    rintro ze v0 ⟨rfl, hc⟩
    replace F := Lib.hid (F.out.calm (hc ▸ (Keep.refl _ _).alloc _))
    clear hc c1 c2 c3 c4
    clear a1 a2 a3 a4 b1 b2 b3 b4
    obtain ⟨a1, a2, a3, a4⟩ := F.out.s.two
    obtain ⟨b1, b2, b3, b4⟩ := F.out.t.two
    obtain ⟨x, y, ho⟩ := F.out.o
    obtain ⟨c1, c2, c3, c4⟩ := ho.two
    go_wp2_with fail
    have hR := ho.bothr (x := .int .u64 0) (y := .int .u64 18446744073709551615)
    have FP := Lib.hid (F.out.put (.int .u64 0) (.int .u64 18446744073709551615))
    revert hR FP
    refine fun hR FP => ?_
    have z := hR.two
    refine bodyPost_ret (by simp [results, Try.results34, go_sem, z.1, z.2.1]; try rfl) rfl ?_
    exact ⟨rfl, FP.out.cal⟩

set_option maxHeartbeats 3200000 in
set_option maxRecDepth 20000 in
theorem rdo32_96b (hs : s.Ok) (ht : t.Ok) (hne : ¬ (s.lo = s.hi ∧ t.lo = t.hi)) (h1 : t.lo = t.hi) (h2 : ¬ s.hi * 2 ^ (t.lo % 32) < 18446744073709551616) : Calls Try.prog 34 #[.int .u8 96, .bool false, .int .u64 32, .agg #[.int .u64 (s.lo : Int), .int .u64 (s.hi : Int)], .agg #[.int .u64 (t.lo : Int), .int .u64 (t.hi : Int)]] w fun x w' => x = .returned (.agg #[.int .u64 0, .int .u64 18446744073709551615]) ∧ Calm w w' := by
  obtain ⟨d, ed⟩ : ∃ d, d = D (bW false) 96 s.lo t.lo := ⟨_, rfl⟩
  have KD : Hid (∀ w, Calls Try.prog 48 #[.int .u8 96, .bool false, .int .u64 (s.lo : Int), .int .u64 (t.lo : Int)] w fun x w' => x = .returned (.tuple #[.int .u64 (d : Int), .bool true]) ∧ Calm w w') := Lib.hid (by rw [ed]; exact fun w => rdo_c (op := 96) false w hs.l ht.l)
  obtain ⟨M, eM⟩ : ∃ M, M = max s.hi t.hi := ⟨_, rfl⟩
  obtain ⟨m, em⟩ : ∃ m, m = min s.hi t.hi := ⟨_, rfl⟩
  have hM : max (s.hi : Int) (t.hi : Int) = (M : Int) := by omega
  have hm : min (s.hi : Int) (t.hi : Int) = (m : Int) := by omega
  have HN := Lib.hid hne
  have lm := hs.h
  have lm' := ht.h
  have hp := Nat.two_pow_pos (t.lo % 32)
  have eX : ((s.hi : Int) * 2 ^ (t.lo % 32)) = ((s.hi * 2 ^ (t.lo % 32) : Nat) : Int) := by rw [pow_cast, ← Int.natCast_mul]
  have eY : ((s.lo : Int) * 2 ^ (t.lo % 32)) = ((s.lo * 2 ^ (t.lo % 32) : Nat) : Int) := by rw [pow_cast, ← Int.natCast_mul]
  have HT := Lib.hid h1
  obtain ⟨X, hX⟩ : ∃ X, X = s.hi * 2 ^ (t.lo % 32) % 18446744073709551616 := ⟨_, rfl⟩
  have wx : IntKind.u64.wrap ((s.hi : Int) * 2 ^ (t.lo % 32)) = (X : Int) := by rw [eX, IntKind.wrap_u64, hX]; omega
  obtain ⟨Z, hZ⟩ : ∃ Z, Z = X / 2 ^ (t.lo % 32) := ⟨_, rfl⟩
  have q : (X : Int) / 2 ^ (t.lo % 32) = (Z : Int) := by rw [pow_cast, ← Int.natCast_ediv, hZ]
  have hb : ((Z : Int) == (s.hi : Int)) = false := by
    have hz : ¬ Z = s.hi := by
      intro hz
      have d1 : Z * 2 ^ (t.lo % 32) ≤ X := by rw [hZ]; exact Nat.div_mul_le_self _ _
      rw [hz] at d1
      have d2 : X < 18446744073709551616 := by rw [hX]; exact Nat.mod_lt _ (by decide)
      omega
    simp; omega
  have i3 : ((t.lo : Int) == (t.hi : Int)) = true := by rw [h1]; simp
  clear hs ht hne ed eM em lm lm' hp eX eY h1 h2 hX hZ
  go_enter Try.func34, Try.ntmps34
  go_upto_region 1 with fail
  have F := Lib.hid (Fr.made w s t (.int .u64 0) (.int .u64 0))
  obtain ⟨w1, hw1⟩ : ∃ w1, w1 = ((w.alloc (.cells #[.int .u64 (s.lo : Int), .int .u64 (s.hi : Int)] 30)).alloc (.cells #[.int .u64 (t.lo : Int), .int .u64 (t.hi : Int)] 30)).alloc (.cells #[.int .u64 0, .int .u64 0] 30) := ⟨_, rfl⟩
  rw [← hw1] at F ⊢
  clear hw1
  obtain ⟨g0, h0⟩ : ∃ g, g = w.heap.size := ⟨_, rfl⟩
  rw [← h0] at F ⊢
  obtain ⟨g1, h1⟩ : ∃ g, g = g0 + 1 := ⟨_, rfl⟩
  rw [← h1] at F ⊢
  obtain ⟨g2, h2⟩ : ∃ g, g = g1 + 1 := ⟨_, rfl⟩
  rw [← h2] at F ⊢
  clear h0 h1 h2
  obtain ⟨a1, a2, a3, a4⟩ := F.out.s.two
  obtain ⟨b1, b2, b3, b4⟩ := F.out.t.two
  go_wp2_with fail
  refine (KD.out _).mono ?_
  rintro ze w2 ⟨rfl, hc⟩
  replace F := Lib.hid (F.out.calm hc)
  clear hc
  clear a1 a2 a3 a4 b1 b2 b3 b4
  obtain ⟨a1, a2, a3, a4⟩ := F.out.s.two
  obtain ⟨b1, b2, b3, b4⟩ := F.out.t.two
  go_upto_region 4 with fail
  go_cut [46] (fun s46 wc => s46 = .bool false ∧ wc = w2)
  case first =>
    by_cases h1 : s.lo = s.hi
    · exact absurd ⟨h1, HT.out⟩ HN.out
    · have i1 : ((s.lo : Int) == (s.hi : Int)) = false := by simp; omega
      clear h1
      go_wp2_with fail
      go_meet
      exact ⟨rfl, rfl⟩
  case rest =>
    obtain ⟨rfl, hw⟩ := hcut
    subst w2
    try clear a1 a2 a3 a4 b1 b2 b3 b4
    obtain ⟨a1, a2, a3, a4⟩ := F.out.s.two
    obtain ⟨b1, b2, b3, b4⟩ := F.out.t.two
    obtain ⟨x, y, ho⟩ := F.out.o
    obtain ⟨c1, c2, c3, c4⟩ := ho.two
    go_wp2_with fail
    refine (rall_c _).mono ?_
    rintro ze v0 ⟨rfl, hc⟩
    replace F := Lib.hid (F.out.calm (hc ▸ (Keep.refl _ _).alloc _))
    clear hc c1 c2 c3 c4
    clear a1 a2 a3 a4 b1 b2 b3 b4
    obtain ⟨a1, a2, a3, a4⟩ := F.out.s.two
    obtain ⟨b1, b2, b3, b4⟩ := F.out.t.two
    obtain ⟨x, y, ho⟩ := F.out.o
    obtain ⟨c1, c2, c3, c4⟩ := ho.two
    go_wp2_with fail
    have hR := ho.bothr (x := .int .u64 0) (y := .int .u64 18446744073709551615)
    have FP := Lib.hid (F.out.put (.int .u64 0) (.int .u64 18446744073709551615))
    revert hR FP
    refine fun hR FP => ?_
    have z := hR.two
    refine bodyPost_ret (by simp [results, Try.results34, go_sem, z.1, z.2.1]; try rfl) rfl ?_
    exact ⟨rfl, FP.out.cal⟩

set_option maxHeartbeats 3200000 in
set_option maxRecDepth 20000 in
theorem rdo32_112 (hs : s.Ok) (ht : t.Ok) (hne : ¬ (s.lo = s.hi ∧ t.lo = t.hi))  : Calls Try.prog 34 #[.int .u8 112, .bool false, .int .u64 32, .agg #[.int .u64 (s.lo : Int), .int .u64 (s.hi : Int)], .agg #[.int .u64 (t.lo : Int), .int .u64 (t.hi : Int)]] w fun x w' => x = .returned (.agg #[.int .u64 ((downS 32 s t).lo : Int), .int .u64 ((downS 32 s t).hi : Int)]) ∧ Calm w w' := by
  obtain ⟨d, ed⟩ : ∃ d, d = D (bW false) 112 s.lo t.lo := ⟨_, rfl⟩
  have KD : Hid (∀ w, Calls Try.prog 48 #[.int .u8 112, .bool false, .int .u64 (s.lo : Int), .int .u64 (t.lo : Int)] w fun x w' => x = .returned (.tuple #[.int .u64 (d : Int), .bool true]) ∧ Calm w w') := Lib.hid (by rw [ed]; exact fun w => rdo_c (op := 112) false w hs.l ht.l)
  obtain ⟨M, eM⟩ : ∃ M, M = max s.hi t.hi := ⟨_, rfl⟩
  obtain ⟨m, em⟩ : ∃ m, m = min s.hi t.hi := ⟨_, rfl⟩
  have hM : max (s.hi : Int) (t.hi : Int) = (M : Int) := by omega
  have hm : min (s.hi : Int) (t.hi : Int) = (m : Int) := by omega
  have HN := Lib.hid hne
  have lm := hs.h
  have lm' := ht.h
  obtain ⟨v, ev⟩ : ∃ v, v = downS 32 s t := ⟨_, rfl⟩
  rw [← ev]
  have K1 : Hid (∀ w, Calls Try.prog 53 #[.agg #[.int .u64 (s.lo : Int), .int .u64 (s.hi : Int)], .agg #[.int .u64 (t.lo : Int), .int .u64 (t.hi : Int)], .int .u64 32] w fun x w' => x = .returned (.agg #[.int .u64 (v.lo : Int), .int .u64 (v.hi : Int)]) ∧ Calm w w') := Lib.hid (by rw [ev]; exact fun w => rdown32_8 w hs ht)
  clear hs ht hne ed eM em lm lm' ev
  go_enter Try.func34, Try.ntmps34
  go_upto_region 1 with fail
  have F := Lib.hid (Fr.made w s t (.int .u64 0) (.int .u64 0))
  obtain ⟨w1, hw1⟩ : ∃ w1, w1 = ((w.alloc (.cells #[.int .u64 (s.lo : Int), .int .u64 (s.hi : Int)] 30)).alloc (.cells #[.int .u64 (t.lo : Int), .int .u64 (t.hi : Int)] 30)).alloc (.cells #[.int .u64 0, .int .u64 0] 30) := ⟨_, rfl⟩
  rw [← hw1] at F ⊢
  clear hw1
  obtain ⟨g0, h0⟩ : ∃ g, g = w.heap.size := ⟨_, rfl⟩
  rw [← h0] at F ⊢
  obtain ⟨g1, h1⟩ : ∃ g, g = g0 + 1 := ⟨_, rfl⟩
  rw [← h1] at F ⊢
  obtain ⟨g2, h2⟩ : ∃ g, g = g1 + 1 := ⟨_, rfl⟩
  rw [← h2] at F ⊢
  clear h0 h1 h2
  obtain ⟨a1, a2, a3, a4⟩ := F.out.s.two
  obtain ⟨b1, b2, b3, b4⟩ := F.out.t.two
  go_wp2_with fail
  refine (KD.out _).mono ?_
  rintro ze w2 ⟨rfl, hc⟩
  replace F := Lib.hid (F.out.calm hc)
  clear hc
  clear a1 a2 a3 a4 b1 b2 b3 b4
  obtain ⟨a1, a2, a3, a4⟩ := F.out.s.two
  obtain ⟨b1, b2, b3, b4⟩ := F.out.t.two
  go_upto_region 4 with fail
  go_cut [46] (fun s46 wc => s46 = .bool false ∧ wc = w2)
  case first =>
    by_cases h1 : s.lo = s.hi
    · have i1 : ((s.lo : Int) == (s.hi : Int)) = true := by rw [h1]; simp
      have i2 : ((t.lo : Int) == (t.hi : Int)) = false := by have := HN.out; simp; omega
      clear h1
      go_wp2_with fail
      go_meet
      exact ⟨rfl, rfl⟩
    · have i1 : ((s.lo : Int) == (s.hi : Int)) = false := by simp; omega
      clear h1
      go_wp2_with fail
      go_meet
      exact ⟨rfl, rfl⟩
  case rest =>
    obtain ⟨rfl, hw⟩ := hcut
    subst w2
    try clear a1 a2 a3 a4 b1 b2 b3 b4
    obtain ⟨a1, a2, a3, a4⟩ := F.out.s.two
    obtain ⟨b1, b2, b3, b4⟩ := F.out.t.two
    obtain ⟨x, y, ho⟩ := F.out.o
    obtain ⟨c1, c2, c3, c4⟩ := ho.two
    go_wp2_with fail
    refine (K1.out _).mono ?_
    rintro ze v0 ⟨rfl, hc⟩
    replace F := Lib.hid (F.out.calm hc)
    clear hc c1 c2 c3 c4
    clear a1 a2 a3 a4 b1 b2 b3 b4
    obtain ⟨a1, a2, a3, a4⟩ := F.out.s.two
    obtain ⟨b1, b2, b3, b4⟩ := F.out.t.two
    obtain ⟨x, y, ho⟩ := F.out.o
    obtain ⟨c1, c2, c3, c4⟩ := ho.two
    go_wp2_with fail
    have hR := ho.bothr (x := .int .u64 (v.lo : Int)) (y := .int .u64 (v.hi : Int))
    have FP := Lib.hid (F.out.put (.int .u64 (v.lo : Int)) (.int .u64 (v.hi : Int)))
    revert hR FP
    refine fun hR FP => ?_
    have z := hR.two
    refine bodyPost_ret (by simp [results, Try.results34, go_sem, z.1, z.2.1]; try rfl) rfl ?_
    exact ⟨rfl, FP.out.cal⟩

end

end Go.Proofs.Ytboiakahhkihiaa
