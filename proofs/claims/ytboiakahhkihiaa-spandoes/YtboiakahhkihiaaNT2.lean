/-
  The reference of layer 8: do, on words of 32 bits.
-/
import Derived.Test.YtboiakahhkihiaaNR2
namespace Go.Proofs.Ytboiakahhkihiaa
open Go.RowKit
set_option linter.all false

section
variable {s t : Sp} (w : World)
set_option maxHeartbeats 3200000 in
set_option maxRecDepth 20000 in
theorem rdo32_48y (hs : s.Ok) (ht : t.Ok) (hne : ¬ (s.lo = s.hi ∧ t.lo = t.hi)) (h : t.lo = 0) : Calls Try.prog 34 #[.int .u8 48, .bool false, .int .u64 32, .agg #[.int .u64 (s.lo : Int), .int .u64 (s.hi : Int)], .agg #[.int .u64 (t.lo : Int), .int .u64 (t.hi : Int)]] w fun x w' => x = .returned (.agg #[.int .u64 0, .int .u64 (s.hi : Int)]) ∧ Calm w w' := by
  obtain ⟨d, ed⟩ : ∃ d, d = D (bW false) 48 s.lo t.lo := ⟨_, rfl⟩
  have KD : Hid (∀ w, Calls Try.prog 48 #[.int .u8 48, .bool false, .int .u64 (s.lo : Int), .int .u64 (t.lo : Int)] w fun x w' => x = .returned (.tuple #[.int .u64 (d : Int), .bool true]) ∧ Calm w w') := Lib.hid (by rw [ed]; exact fun w => rdo_c (op := 48) false w hs.l ht.l)
  obtain ⟨M, eM⟩ : ∃ M, M = max s.hi t.hi := ⟨_, rfl⟩
  obtain ⟨m, em⟩ : ∃ m, m = min s.hi t.hi := ⟨_, rfl⟩
  have hM : max (s.hi : Int) (t.hi : Int) = (M : Int) := by omega
  have hm : min (s.hi : Int) (t.hi : Int) = (m : Int) := by omega
  have HN := Lib.hid hne
  have lm := hs.h
  have lm' := ht.h
  have h' : ¬ 0 < t.lo := by omega
  clear hs ht hne ed eM em lm lm' h
  go_enter Try.func34, Try.ntmps34
  go_upto_region 1 with fail
  have F := Lib.hid (Fr.made w s t (.int .u64 0) (.int .u64 0))
  obtain ⟨w1, hw1⟩ : ∃ w1, w1 = ((w.alloc (.cells #[.int .u64 (s.lo : Int), .int .u64 (s.hi : Int)] 30)).alloc (.cells #[.int .u64 (t.lo : Int), .int .u64 (t.hi : Int)] 30)).alloc (.cells #[.int .u64 0, .int .u64 0] 30) := ⟨_, rfl⟩
  rw [← hw1] at F ⊢
  clear hw1
  obtain ⟨g0, h0⟩ : ∃ g, g = w.heap.size := ⟨_, rfl⟩
  rw [← h0] at F ⊢
  obtain ⟨g1, h1⟩ : ∃ g, g = g0 + 1 := ⟨_, rfl⟩
  rw [← h1] at F ⊢
  obtain ⟨g2, h2⟩ : ∃ g, g = g1 + 1 := ⟨_, rfl⟩
  rw [← h2] at F ⊢
  clear h0 h1 h2
  obtain ⟨a1, a2, a3, a4⟩ := F.out.s.two
  obtain ⟨b1, b2, b3, b4⟩ := F.out.t.two
  go_wp2_with fail
  refine (KD.out _).mono ?_
  rintro ze w2 ⟨rfl, hc⟩
  replace F := Lib.hid (F.out.calm hc)
  clear hc
  clear a1 a2 a3 a4 b1 b2 b3 b4
  obtain ⟨a1, a2, a3, a4⟩ := F.out.s.two
  obtain ⟨b1, b2, b3, b4⟩ := F.out.t.two
  go_upto_region 4 with fail
  go_cut [46] (fun s46 wc => s46 = .bool false ∧ wc = w2)
  case first =>
    by_cases h1 : s.lo = s.hi
    · have i1 : ((s.lo : Int) == (s.hi : Int)) = true := by rw [h1]; simp
      have i2 : ((t.lo : Int) == (t.hi : Int)) = false := by have := HN.out; simp; omega
      clear h1
      go_wp2_with fail
      go_meet
      exact ⟨rfl, rfl⟩
    · have i1 : ((s.lo : Int) == (s.hi : Int)) = false := by simp; omega
      clear h1
      go_wp2_with fail
      go_meet
      exact ⟨rfl, rfl⟩
  case rest =>
    obtain ⟨rfl, hw⟩ := hcut
    subst w2
    try clear a1 a2 a3 a4 b1 b2 b3 b4
    obtain ⟨a1, a2, a3, a4⟩ := F.out.s.two
    obtain ⟨b1, b2, b3, b4⟩ := F.out.t.two
    obtain ⟨x, y, ho⟩ := F.out.o
    obtain ⟨c1, c2, c3, c4⟩ := ho.two
    go_wp2_with fail
    have hR := ho.bothr (x := .int .u64 0) (y := .int .u64 (s.hi : Int))
    have FP := Lib.hid (F.out.put (.int .u64 0) (.int .u64 (s.hi : Int)))
    revert hR FP
    refine fun hR FP => ?_
    have z := hR.two
    refine bodyPost_ret (by simp [results, Try.results34, go_sem, z.1, z.2.1]; try rfl) rfl ?_
    exact ⟨rfl, FP.out.cal⟩

set_option maxHeartbeats 3200000 in
set_option maxRecDepth 20000 in
theorem rdo32_48n (hs : s.Ok) (ht : t.Ok) (hne : ¬ (s.lo = s.hi ∧ t.lo = t.hi)) {L H : Nat} (h : ¬ t.lo = 0) (eL : L = s.lo / t.hi) (eH : H = s.hi / t.lo) : Calls Try.prog 34 #[.int .u8 48, .bool false, .int .u64 32, .agg #[.int .u64 (s.lo : Int), .int .u64 (s.hi : Int)], .agg #[.int .u64 (t.lo : Int), .int .u64 (t.hi : Int)]] w fun x w' => x = .returned (.agg #[.int .u64 (L : Int), .int .u64 (H : Int)]) ∧ Calm w w' := by
  obtain ⟨d, ed⟩ : ∃ d, d = D (bW false) 48 s.lo t.lo := ⟨_, rfl⟩
  have KD : Hid (∀ w, Calls Try.prog 48 #[.int .u8 48, .bool false, .int .u64 (s.lo : Int), .int .u64 (t.lo : Int)] w fun x w' => x = .returned (.tuple #[.int .u64 (d : Int), .bool true]) ∧ Calm w w') := Lib.hid (by rw [ed]; exact fun w => rdo_c (op := 48) false w hs.l ht.l)
  obtain ⟨M, eM⟩ : ∃ M, M = max s.hi t.hi := ⟨_, rfl⟩
  obtain ⟨m, em⟩ : ∃ m, m = min s.hi t.hi := ⟨_, rfl⟩
  have hM : max (s.hi : Int) (t.hi : Int) = (M : Int) := by omega
  have hm : min (s.hi : Int) (t.hi : Int) = (m : Int) := by omega
  have HN := Lib.hid hne
  have lm := hs.h
  have lm' := ht.h
  have r1 := hs.r
  have r2 := ht.r
  have n2 : ¬ t.hi = 0 := by omega
  have hp : 0 < t.lo := by omega
  have d1 := Nat.div_le_self s.lo t.hi
  have d2 := Nat.div_le_self s.hi t.lo
  have wl : IntKind.u64.wrap ((s.lo : Int) / (t.hi : Int)) = (L : Int) := by rw [← Int.natCast_ediv, ← eL]; exact wrapU64 (by omega)
  have wh : IntKind.u64.wrap ((s.hi : Int) / (t.lo : Int)) = (H : Int) := by rw [← Int.natCast_ediv, ← eH]; exact wrapU64 (by omega)
  clear hs ht hne ed eM em lm lm' r1 r2 d1 d2 eL eH
  go_enter Try.func34, Try.ntmps34
  go_upto_region 1 with fail
  have F := Lib.hid (Fr.made w s t (.int .u64 0) (.int .u64 0))
  obtain ⟨w1, hw1⟩ : ∃ w1, w1 = ((w.alloc (.cells #[.int .u64 (s.lo : Int), .int .u64 (s.hi : Int)] 30)).alloc (.cells #[.int .u64 (t.lo : Int), .int .u64 (t.hi : Int)] 30)).alloc (.cells #[.int .u64 0, .int .u64 0] 30) := ⟨_, rfl⟩
  rw [← hw1] at F ⊢
  clear hw1
  obtain ⟨g0, h0⟩ : ∃ g, g = w.heap.size := ⟨_, rfl⟩
  rw [← h0] at F ⊢
  obtain ⟨g1, h1⟩ : ∃ g, g = g0 + 1 := ⟨_, rfl⟩
  rw [← h1] at F ⊢
  obtain ⟨g2, h2⟩ : ∃ g, g = g1 + 1 := ⟨_, rfl⟩
  rw [← h2] at F ⊢
  clear h0 h1 h2
  obtain ⟨a1, a2, a3, a4⟩ := F.out.s.two
  obtain ⟨b1, b2, b3, b4⟩ := F.out.t.two
  go_wp2_with fail
  refine (KD.out _).mono ?_
  rintro ze w2 ⟨rfl, hc⟩
  replace F := Lib.hid (F.out.calm hc)
  clear hc
  clear a1 a2 a3 a4 b1 b2 b3 b4
  obtain ⟨a1, a2, a3, a4⟩ := F.out.s.two
  obtain ⟨b1, b2, b3, b4⟩ := F.out.t.two
  go_upto_region 4 with fail
  go_cut [46] (fun s46 wc => s46 = .bool false ∧ wc = w2)
  case first =>
    by_cases h1 : s.lo = s.hi
    · have i1 : ((s.lo : Int) == (s.hi : Int)) = true := by rw [h1]; simp
      have i2 : ((t.lo : Int) == (t.hi : Int)) = false := by have := HN.out; simp; omega
      clear h1
      go_wp2_with fail
      go_meet
      exact ⟨rfl, rfl⟩
    · have i1 : ((s.lo : Int) == (s.hi : Int)) = false := by simp; omega
      clear h1
      go_wp2_with fail
      go_meet
      exact ⟨rfl, rfl⟩
  case rest =>
    obtain ⟨rfl, hw⟩ := hcut
    subst w2
    try clear a1 a2 a3 a4 b1 b2 b3 b4
    obtain ⟨a1, a2, a3, a4⟩ := F.out.s.two
    obtain ⟨b1, b2, b3, b4⟩ := F.out.t.two
    obtain ⟨x, y, ho⟩ := F.out.o
    obtain ⟨c1, c2, c3, c4⟩ := ho.two
    go_upto_region 23 with fail
    clear c1 c2 c3 c4 ho x y
    clear a1 a2 a3 a4 b1 b2 b3 b4
    refine wp_region_noPanic ?_
    refine wp_region_held_drew (S := fun w' => Fr w w' g0 g1 g2 s t) (by kernel_rfl) F.out.drew (fun hHeld => ?_)
    refine take_at 0 124 (.pointer (some ⟨g0, 0, none⟩)) rfl rfl (by kernel_rfl) (by kernel_rfl) (by kernel_rfl) (fun _ _ _ h => h) (Or.inl ⟨by rfl, ?_⟩) hHeld ?_
    · intro w hSw; go_simp
    simp only [List.setIfInBounds_toArray, List.set_cons_zero, List.set_cons_succ]
    refine take_at 1 125 (.int .u64 (s.lo : Int)) rfl rfl (by kernel_rfl) (by kernel_rfl) (by kernel_rfl) (fun _ _ _ h => h) (Or.inl ⟨by rfl, ?_⟩) hHeld ?_
    · intro w hSw; have c := hSw.s.twor; go_simp
    simp only [List.setIfInBounds_toArray, List.set_cons_zero, List.set_cons_succ]
    refine take_at 2 126 (.pointer (some ⟨g1, 1, none⟩)) rfl rfl (by kernel_rfl) (by kernel_rfl) (by kernel_rfl) (fun _ _ _ h => h) (Or.inl ⟨by rfl, ?_⟩) hHeld ?_
    · intro w hSw; go_simp
    simp only [List.setIfInBounds_toArray, List.set_cons_zero, List.set_cons_succ]
    refine take_at 3 127 (.int .u64 (t.hi : Int)) rfl rfl (by kernel_rfl) (by kernel_rfl) (by kernel_rfl) (fun _ _ _ h => h) (Or.inl ⟨by rfl, ?_⟩) hHeld ?_
    · intro w hSw; have c := hSw.t.two; go_simp
    simp only [List.setIfInBounds_toArray, List.set_cons_zero, List.set_cons_succ]
    refine take_at 4 128 (.int .u64 (L : Int)) rfl rfl (by kernel_rfl) (by kernel_rfl) (by kernel_rfl) (fun _ _ _ h => h) (Or.inl ⟨by rfl, ?_⟩) hHeld ?_
    · intro w hSw; go_simp
    simp only [List.setIfInBounds_toArray, List.set_cons_zero, List.set_cons_succ]
    refine take_at 5 129 (.pointer (some ⟨g0, 1, none⟩)) rfl rfl (by kernel_rfl) (by kernel_rfl) (by kernel_rfl) (fun _ _ _ h => h) (Or.inl ⟨by rfl, ?_⟩) hHeld ?_
    · intro w hSw; go_simp
    simp only [List.setIfInBounds_toArray, List.set_cons_zero, List.set_cons_succ]
    refine take_at 6 130 (.int .u64 (s.hi : Int)) rfl rfl (by kernel_rfl) (by kernel_rfl) (by kernel_rfl) (fun _ _ _ h => h) (Or.inl ⟨by rfl, ?_⟩) hHeld ?_
    · intro w hSw; have c := hSw.s.twor; go_simp
    simp only [List.setIfInBounds_toArray, List.set_cons_zero, List.set_cons_succ]
    refine take_at 7 131 (.pointer (some ⟨g1, 0, none⟩)) rfl rfl (by kernel_rfl) (by kernel_rfl) (by kernel_rfl) (fun _ _ _ h => h) (Or.inl ⟨by rfl, ?_⟩) hHeld ?_
    · intro w hSw; go_simp
    simp only [List.setIfInBounds_toArray, List.set_cons_zero, List.set_cons_succ]
    refine take_at 8 132 (.int .u64 (t.lo : Int)) rfl rfl (by kernel_rfl) (by kernel_rfl) (by kernel_rfl) (fun _ _ _ h => h) (Or.inl ⟨by rfl, ?_⟩) hHeld ?_
    · intro w hSw; have c := hSw.t.two; go_simp
    simp only [List.setIfInBounds_toArray, List.set_cons_zero, List.set_cons_succ]
    refine take_at 9 133 (.int .u64 (H : Int)) rfl rfl (by kernel_rfl) (by kernel_rfl) (by kernel_rfl) (fun _ _ _ h => h) (Or.inl ⟨by rfl, ?_⟩) hHeld ?_
    · intro w hSw; go_simp
    simp only [List.setIfInBounds_toArray, List.set_cons_zero, List.set_cons_succ]
    refine take_at 10 134 (.agg #[.int .u64 (L : Int), .int .u64 (H : Int)]) rfl rfl (by kernel_rfl) (by kernel_rfl) (by kernel_rfl) (fun _ _ _ h => h) (Or.inl ⟨by rfl, ?_⟩) hHeld ?_
    · intro w hSw; go_simp
    simp only [List.setIfInBounds_toArray, List.set_cons_zero, List.set_cons_succ]
    obtain ⟨x, y, hrow⟩ := hHeld.o
    obtain ⟨w6, hw6⟩ : ∃ z, z = wc.drew := ⟨_, rfl⟩
    rw [← hw6] at hrow hHeld ⊢
    clear hw6
    have d9 := hrow.two
    refine wpAnyH_ready (rs := [11]) (by kernel_rfl) (by simp) ?_
    refine AllReadyH.cons rfl (fun K hK => ?_) AllReadyH.nil
    go_simp
    refine hK.out _ _ (hHeld.put _ _) (fun hHeld => ?_)
    clear hK K
    try simp only [List.setIfInBounds_toArray, List.set_cons_zero, List.set_cons_succ]
    refine wpAnyH_done (by kernel_rfl) (NoPanic.normal ?_) _
    have hR := hrow.bothr (x := .int .u64 (L : Int)) (y := .int .u64 (H : Int))
    go_wp2_with fail
    have z := hR.two
    refine bodyPost_ret (by simp [results, Try.results34, go_sem, z.1, z.2.1]; try rfl) rfl ?_
    exact ⟨rfl, hHeld.cal⟩

set_option maxHeartbeats 3200000 in
set_option maxRecDepth 20000 in
theorem rdo32_144a (hs : s.Ok) (ht : t.Ok) (hne : ¬ (s.lo = s.hi ∧ t.lo = t.hi)) (h : s.hi < t.lo) : Calls Try.prog 34 #[.int .u8 144, .bool false, .int .u64 32, .agg #[.int .u64 (s.lo : Int), .int .u64 (s.hi : Int)], .agg #[.int .u64 (t.lo : Int), .int .u64 (t.hi : Int)]] w fun x w' => x = .returned (.agg #[.int .u64 (s.lo : Int), .int .u64 (s.hi : Int)]) ∧ Calm w w' := by
  obtain ⟨d, ed⟩ : ∃ d, d = D (bW false) 144 s.lo t.lo := ⟨_, rfl⟩
  have KD : Hid (∀ w, Calls Try.prog 48 #[.int .u8 144, .bool false, .int .u64 (s.lo : Int), .int .u64 (t.lo : Int)] w fun x w' => x = .returned (.tuple #[.int .u64 (d : Int), .bool true]) ∧ Calm w w') := Lib.hid (by rw [ed]; exact fun w => rdo_c (op := 144) false w hs.l ht.l)
  obtain ⟨M, eM⟩ : ∃ M, M = max s.hi t.hi := ⟨_, rfl⟩
  obtain ⟨m, em⟩ : ∃ m, m = min s.hi t.hi := ⟨_, rfl⟩
  have hM : max (s.hi : Int) (t.hi : Int) = (M : Int) := by omega
  have hm : min (s.hi : Int) (t.hi : Int) = (m : Int) := by omega
  have HN := Lib.hid hne
  have lm := hs.h
  have lm' := ht.h
  clear hs ht hne ed eM em lm lm' 
  go_enter Try.func34, Try.ntmps34
  go_upto_region 1 with fail
  have F := Lib.hid (Fr.made w s t (.int .u64 0) (.int .u64 0))
  obtain ⟨w1, hw1⟩ : ∃ w1, w1 = ((w.alloc (.cells #[.int .u64 (s.lo : Int), .int .u64 (s.hi : Int)] 30)).alloc (.cells #[.int .u64 (t.lo : Int), .int .u64 (t.hi : Int)] 30)).alloc (.cells #[.int .u64 0, .int .u64 0] 30) := ⟨_, rfl⟩
  rw [← hw1] at F ⊢
  clear hw1
  obtain ⟨g0, h0⟩ : ∃ g, g = w.heap.size := ⟨_, rfl⟩
  rw [← h0] at F ⊢
  obtain ⟨g1, h1⟩ : ∃ g, g = g0 + 1 := ⟨_, rfl⟩
  rw [← h1] at F ⊢
  obtain ⟨g2, h2⟩ : ∃ g, g = g1 + 1 := ⟨_, rfl⟩
  rw [← h2] at F ⊢
  clear h0 h1 h2
  obtain ⟨a1, a2, a3, a4⟩ := F.out.s.two
  obtain ⟨b1, b2, b3, b4⟩ := F.out.t.two
  go_wp2_with fail
  refine (KD.out _).mono ?_
  rintro ze w2 ⟨rfl, hc⟩
  replace F := Lib.hid (F.out.calm hc)
  clear hc
  clear a1 a2 a3 a4 b1 b2 b3 b4
  obtain ⟨a1, a2, a3, a4⟩ := F.out.s.two
  obtain ⟨b1, b2, b3, b4⟩ := F.out.t.two
  go_upto_region 4 with fail
  go_cut [46] (fun s46 wc => s46 = .bool false ∧ wc = w2)
  case first =>
    by_cases h1 : s.lo = s.hi
    · have i1 : ((s.lo : Int) == (s.hi : Int)) = true := by rw [h1]; simp
      have i2 : ((t.lo : Int) == (t.hi : Int)) = false := by have := HN.out; simp; omega
      clear h1
      go_wp2_with fail
      go_meet
      exact ⟨rfl, rfl⟩
    · have i1 : ((s.lo : Int) == (s.hi : Int)) = false := by simp; omega
      clear h1
      go_wp2_with fail
      go_meet
      exact ⟨rfl, rfl⟩
  case rest =>
    obtain ⟨rfl, hw⟩ := hcut
    subst w2
    try clear a1 a2 a3 a4 b1 b2 b3 b4
    obtain ⟨a1, a2, a3, a4⟩ := F.out.s.two
    obtain ⟨b1, b2, b3, b4⟩ := F.out.t.two
    obtain ⟨x, y, ho⟩ := F.out.o
    obtain ⟨c1, c2, c3, c4⟩ := ho.two
    go_wp2_with fail
    have hR := ho.bothr (x := .int .u64 (s.lo : Int)) (y := .int .u64 (s.hi : Int))
    have FP := Lib.hid (F.out.put (.int .u64 (s.lo : Int)) (.int .u64 (s.hi : Int)))
    revert hR FP
    refine fun hR FP => ?_
    have z := hR.two
    refine bodyPost_ret (by simp [results, Try.results34, go_sem, z.1, z.2.1]; try rfl) rfl ?_
    exact ⟨rfl, FP.out.cal⟩

set_option maxHeartbeats 3200000 in
set_option maxRecDepth 20000 in
theorem rdo32_144b (hs : s.Ok) (ht : t.Ok) (hne : ¬ (s.lo = s.hi ∧ t.lo = t.hi)) (h : ¬ s.hi < t.lo) (h0 : t.lo = 0) : Calls Try.prog 34 #[.int .u8 144, .bool false, .int .u64 32, .agg #[.int .u64 (s.lo : Int), .int .u64 (s.hi : Int)], .agg #[.int .u64 (t.lo : Int), .int .u64 (t.hi : Int)]] w fun x w' => x = .returned (.agg #[.int .u64 0, .int .u64 (s.hi : Int)]) ∧ Calm w w' := by
  obtain ⟨d, ed⟩ : ∃ d, d = D (bW false) 144 s.lo t.lo := ⟨_, rfl⟩
  have KD : Hid (∀ w, Calls Try.prog 48 #[.int .u8 144, .bool false, .int .u64 (s.lo : Int), .int .u64 (t.lo : Int)] w fun x w' => x = .returned (.tuple #[.int .u64 (d : Int), .bool true]) ∧ Calm w w') := Lib.hid (by rw [ed]; exact fun w => rdo_c (op := 144) false w hs.l ht.l)
  obtain ⟨M, eM⟩ : ∃ M, M = max s.hi t.hi := ⟨_, rfl⟩
  obtain ⟨m, em⟩ : ∃ m, m = min s.hi t.hi := ⟨_, rfl⟩
  have hM : max (s.hi : Int) (t.hi : Int) = (M : Int) := by omega
  have hm : min (s.hi : Int) (t.hi : Int) = (m : Int) := by omega
  have HN := Lib.hid hne
  have lm := hs.h
  have lm' := ht.h
  have h' : ¬ 0 < t.lo := by omega
  clear hs ht hne ed eM em lm lm' h0
  go_enter Try.func34, Try.ntmps34
  go_upto_region 1 with fail
  have F := Lib.hid (Fr.made w s t (.int .u64 0) (.int .u64 0))
  obtain ⟨w1, hw1⟩ : ∃ w1, w1 = ((w.alloc (.cells #[.int .u64 (s.lo : Int), .int .u64 (s.hi : Int)] 30)).alloc (.cells #[.int .u64 (t.lo : Int), .int .u64 (t.hi : Int)] 30)).alloc (.cells #[.int .u64 0, .int .u64 0] 30) := ⟨_, rfl⟩
  rw [← hw1] at F ⊢
  clear hw1
  obtain ⟨g0, h0⟩ : ∃ g, g = w.heap.size := ⟨_, rfl⟩
  rw [← h0] at F ⊢
  obtain ⟨g1, h1⟩ : ∃ g, g = g0 + 1 := ⟨_, rfl⟩
  rw [← h1] at F ⊢
  obtain ⟨g2, h2⟩ : ∃ g, g = g1 + 1 := ⟨_, rfl⟩
  rw [← h2] at F ⊢
  clear h0 h1 h2
  obtain ⟨a1, a2, a3, a4⟩ := F.out.s.two
  obtain ⟨b1, b2, b3, b4⟩ := F.out.t.two
  go_wp2_with fail
  refine (KD.out _).mono ?_
  rintro ze w2 ⟨rfl, hc⟩
  replace F := Lib.hid (F.out.calm hc)
  clear hc
  clear a1 a2 a3 a4 b1 b2 b3 b4
  obtain ⟨a1, a2, a3, a4⟩ := F.out.s.two
  obtain ⟨b1, b2, b3, b4⟩ := F.out.t.two
  go_upto_region 4 with fail
  go_cut [46] (fun s46 wc => s46 = .bool false ∧ wc = w2)
  case first =>
    by_cases h1 : s.lo = s.hi
    · have i1 : ((s.lo : Int) == (s.hi : Int)) = true := by rw [h1]; simp
      have i2 : ((t.lo : Int) == (t.hi : Int)) = false := by have := HN.out; simp; omega
      clear h1
      go_wp2_with fail
      go_meet
      exact ⟨rfl, rfl⟩
    · have i1 : ((s.lo : Int) == (s.hi : Int)) = false := by simp; omega
      clear h1
      go_wp2_with fail
      go_meet
      exact ⟨rfl, rfl⟩
  case rest =>
    obtain ⟨rfl, hw⟩ := hcut
    subst w2
    try clear a1 a2 a3 a4 b1 b2 b3 b4
    obtain ⟨a1, a2, a3, a4⟩ := F.out.s.two
    obtain ⟨b1, b2, b3, b4⟩ := F.out.t.two
    obtain ⟨x, y, ho⟩ := F.out.o
    obtain ⟨c1, c2, c3, c4⟩ := ho.two
    go_wp2_with fail
    have hR := ho.bothr (x := .int .u64 0) (y := .int .u64 (s.hi : Int))
    have FP := Lib.hid (F.out.put (.int .u64 0) (.int .u64 (s.hi : Int)))
    revert hR FP
    refine fun hR FP => ?_
    have z := hR.two
    refine bodyPost_ret (by simp [results, Try.results34, go_sem, z.1, z.2.1]; try rfl) rfl ?_
    exact ⟨rfl, FP.out.cal⟩

set_option maxHeartbeats 3200000 in
set_option maxRecDepth 20000 in
theorem rdo32_144c (hs : s.Ok) (ht : t.Ok) (hne : ¬ (s.lo = s.hi ∧ t.lo = t.hi)) {Q : Nat} (h : ¬ s.hi < t.lo) (h0 : ¬ t.lo = 0) (eQ : Q = min s.hi (t.hi - 1)) : Calls Try.prog 34 #[.int .u8 144, .bool false, .int .u64 32, .agg #[.int .u64 (s.lo : Int), .int .u64 (s.hi : Int)], .agg #[.int .u64 (t.lo : Int), .int .u64 (t.hi : Int)]] w fun x w' => x = .returned (.agg #[.int .u64 0, .int .u64 (Q : Int)]) ∧ Calm w w' := by
  obtain ⟨d, ed⟩ : ∃ d, d = D (bW false) 144 s.lo t.lo := ⟨_, rfl⟩
  have KD : Hid (∀ w, Calls Try.prog 48 #[.int .u8 144, .bool false, .int .u64 (s.lo : Int), .int .u64 (t.lo : Int)] w fun x w' => x = .returned (.tuple #[.int .u64 (d : Int), .bool true]) ∧ Calm w w') := Lib.hid (by rw [ed]; exact fun w => rdo_c (op := 144) false w hs.l ht.l)
  obtain ⟨M, eM⟩ : ∃ M, M = max s.hi t.hi := ⟨_, rfl⟩
  obtain ⟨m, em⟩ : ∃ m, m = min s.hi t.hi := ⟨_, rfl⟩
  have hM : max (s.hi : Int) (t.hi : Int) = (M : Int) := by omega
  have hm : min (s.hi : Int) (t.hi : Int) = (m : Int) := by omega
  have HN := Lib.hid hne
  have lm := hs.h
  have lm' := ht.h
  have r2 := ht.r
  have h' : 0 < t.lo := by omega
  obtain ⟨P, eP⟩ : ∃ P, P = t.hi - 1 := ⟨_, rfl⟩
  have wp : IntKind.u64.wrap ((t.hi : Int) - 1) = (P : Int) := by rw [IntKind.wrap_u64]; omega
  have wq : min (s.hi : Int) (P : Int) = (Q : Int) := by omega
  clear hs ht hne ed eM em lm lm' r2 h0 eP eQ
  go_enter Try.func34, Try.ntmps34
  go_upto_region 1 with fail
  have F := Lib.hid (Fr.made w s t (.int .u64 0) (.int .u64 0))
  obtain ⟨w1, hw1⟩ : ∃ w1, w1 = ((w.alloc (.cells #[.int .u64 (s.lo : Int), .int .u64 (s.hi : Int)] 30)).alloc (.cells #[.int .u64 (t.lo : Int), .int .u64 (t.hi : Int)] 30)).alloc (.cells #[.int .u64 0, .int .u64 0] 30) := ⟨_, rfl⟩
  rw [← hw1] at F ⊢
  clear hw1
  obtain ⟨g0, h0⟩ : ∃ g, g = w.heap.size := ⟨_, rfl⟩
  rw [← h0] at F ⊢
  obtain ⟨g1, h1⟩ : ∃ g, g = g0 + 1 := ⟨_, rfl⟩
  rw [← h1] at F ⊢
  obtain ⟨g2, h2⟩ : ∃ g, g = g1 + 1 := ⟨_, rfl⟩
  rw [← h2] at F ⊢
  clear h0 h1 h2
  obtain ⟨a1, a2, a3, a4⟩ := F.out.s.two
  obtain ⟨b1, b2, b3, b4⟩ := F.out.t.two
  go_wp2_with fail
  refine (KD.out _).mono ?_
  rintro ze w2 ⟨rfl, hc⟩
  replace F := Lib.hid (F.out.calm hc)
  clear hc
  clear a1 a2 a3 a4 b1 b2 b3 b4
  obtain ⟨a1, a2, a3, a4⟩ := F.out.s.two
  obtain ⟨b1, b2, b3, b4⟩ := F.out.t.two
  go_upto_region 4 with fail
  go_cut [46] (fun s46 wc => s46 = .bool false ∧ wc = w2)
  case first =>
    by_cases h1 : s.lo = s.hi
    · have i1 : ((s.lo : Int) == (s.hi : Int)) = true := by rw [h1]; simp
      have i2 : ((t.lo : Int) == (t.hi : Int)) = false := by have := HN.out; simp; omega
      clear h1
      go_wp2_with fail
      go_meet
      exact ⟨rfl, rfl⟩
    · have i1 : ((s.lo : Int) == (s.hi : Int)) = false := by simp; omega
      clear h1
      go_wp2_with fail
      go_meet
      exact ⟨rfl, rfl⟩
  case rest =>
    obtain ⟨rfl, hw⟩ := hcut
    subst w2
    try clear a1 a2 a3 a4 b1 b2 b3 b4
    obtain ⟨a1, a2, a3, a4⟩ := F.out.s.two
    obtain ⟨b1, b2, b3, b4⟩ := F.out.t.two
    obtain ⟨x, y, ho⟩ := F.out.o
    obtain ⟨c1, c2, c3, c4⟩ := ho.two
    go_wp2_with fail
    have hR := ho.bothr (x := .int .u64 0) (y := .int .u64 (Q : Int))
    have FP := Lib.hid (F.out.put (.int .u64 0) (.int .u64 (Q : Int)))
    revert hR FP
    refine fun hR FP => ?_
    have z := hR.two
    refine bodyPost_ret (by simp [results, Try.results34, go_sem, z.1, z.2.1]; try rfl) rfl ?_
    exact ⟨rfl, FP.out.cal⟩

set_option maxHeartbeats 3200000 in
set_option maxRecDepth 20000 in
theorem rdo32_80 (hs : s.Ok) (ht : t.Ok) (hne : ¬ (s.lo = s.hi ∧ t.lo = t.hi)) {Q : Nat} (eQ : Q = min s.hi t.hi) : Calls Try.prog 34 #[.int .u8 80, .bool false, .int .u64 32, .agg #[.int .u64 (s.lo : Int), .int .u64 (s.hi : Int)], .agg #[.int .u64 (t.lo : Int), .int .u64 (t.hi : Int)]] w fun x w' => x = .returned (.agg #[.int .u64 0, .int .u64 (Q : Int)]) ∧ Calm w w' := by
  obtain ⟨d, ed⟩ : ∃ d, d = D (bW false) 80 s.lo t.lo := ⟨_, rfl⟩
  have KD : Hid (∀ w, Calls Try.prog 48 #[.int .u8 80, .bool false, .int .u64 (s.lo : Int), .int .u64 (t.lo : Int)] w fun x w' => x = .returned (.tuple #[.int .u64 (d : Int), .bool true]) ∧ Calm w w') := Lib.hid (by rw [ed]; exact fun w => rdo_c (op := 80) false w hs.l ht.l)
  obtain ⟨M, eM⟩ : ∃ M, M = max s.hi t.hi := ⟨_, rfl⟩
  obtain ⟨m, em⟩ : ∃ m, m = min s.hi t.hi := ⟨_, rfl⟩
  have hM : max (s.hi : Int) (t.hi : Int) = (M : Int) := by omega
  have hm : min (s.hi : Int) (t.hi : Int) = (m : Int) := by omega
  have HN := Lib.hid hne
  have lm := hs.h
  have lm' := ht.h
  rw [← em] at eQ
  subst eQ
  clear hs ht hne ed eM em lm lm'
  go_enter Try.func34, Try.ntmps34
  go_upto_region 1 with fail
  have F := Lib.hid (Fr.made w s t (.int .u64 0) (.int .u64 0))
  obtain ⟨w1, hw1⟩ : ∃ w1, w1 = ((w.alloc (.cells #[.int .u64 (s.lo : Int), .int .u64 (s.hi : Int)] 30)).alloc (.cells #[.int .u64 (t.lo : Int), .int .u64 (t.hi : Int)] 30)).alloc (.cells #[.int .u64 0, .int .u64 0] 30) := ⟨_, rfl⟩
  rw [← hw1] at F ⊢
  clear hw1
  obtain ⟨g0, h0⟩ : ∃ g, g = w.heap.size := ⟨_, rfl⟩
  rw [← h0] at F ⊢
  obtain ⟨g1, h1⟩ : ∃ g, g = g0 + 1 := ⟨_, rfl⟩
  rw [← h1] at F ⊢
  obtain ⟨g2, h2⟩ : ∃ g, g = g1 + 1 := ⟨_, rfl⟩
  rw [← h2] at F ⊢
  clear h0 h1 h2
  obtain ⟨a1, a2, a3, a4⟩ := F.out.s.two
  obtain ⟨b1, b2, b3, b4⟩ := F.out.t.two
  go_wp2_with fail
  refine (KD.out _).mono ?_
  rintro ze w2 ⟨rfl, hc⟩
  replace F := Lib.hid (F.out.calm hc)
  clear hc
  clear a1 a2 a3 a4 b1 b2 b3 b4
  obtain ⟨a1, a2, a3, a4⟩ := F.out.s.two
  obtain ⟨b1, b2, b3, b4⟩ := F.out.t.two
  go_upto_region 4 with fail
  go_cut [46] (fun s46 wc => s46 = .bool false ∧ wc = w2)
  case first =>
    by_cases h1 : s.lo = s.hi
    · have i1 : ((s.lo : Int) == (s.hi : Int)) = true := by rw [h1]; simp
      have i2 : ((t.lo : Int) == (t.hi : Int)) = false := by have := HN.out; simp; omega
      clear h1
      go_wp2_with fail
      go_meet
      exact ⟨rfl, rfl⟩
    · have i1 : ((s.lo : Int) == (s.hi : Int)) = false := by simp; omega
      clear h1
      go_wp2_with fail
      go_meet
      exact ⟨rfl, rfl⟩
  case rest =>
    obtain ⟨rfl, hw⟩ := hcut
    subst w2
    try clear a1 a2 a3 a4 b1 b2 b3 b4
    obtain ⟨a1, a2, a3, a4⟩ := F.out.s.two
    obtain ⟨b1, b2, b3, b4⟩ := F.out.t.two
    obtain ⟨x, y, ho⟩ := F.out.o
    obtain ⟨c1, c2, c3, c4⟩ := ho.two
    go_wp2_with fail
    have hR := ho.bothr (x := .int .u64 0) (y := .int .u64 (Q : Int))
    have FP := Lib.hid (F.out.put (.int .u64 0) (.int .u64 (Q : Int)))
    revert hR FP
    refine fun hR FP => ?_
    have z := hR.two
    refine bodyPost_ret (by simp [results, Try.results34, go_sem, z.1, z.2.1]; try rfl) rfl ?_
    exact ⟨rfl, FP.out.cal⟩

end

end Go.Proofs.Ytboiakahhkihiaa
