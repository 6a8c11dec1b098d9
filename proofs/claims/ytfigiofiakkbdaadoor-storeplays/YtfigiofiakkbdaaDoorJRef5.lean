/-
  Contracts of the reference of layer 3: Replay.
-/
import Derived.Test.YtfigiofiakkbdaaDoorJRef4
import Derived.Test.YtfigiofiakkbdaaDoorLStrs
import Derived.Handy
namespace Go.Proofs.YtfigiofiakkbdaaDoor
open Go.RowKit
set_option linter.all false

/-- What 'Replay' answers. -/
def ReplayRes (s : List UInt8) (base : Nat) (e : Ending) (w' : World) : Prop :=
  (replay s = none ∧ e = .returned (.tuple #[.slice none 0 0, .int .u64 0, .int .i64 0, .bool false])) ∨
  ∃ (out : List (List UInt8)) (n used : Nat) (g c : Nat), replay s = some (out, n, used) ∧ e = .returned (.tuple #[.slice (some ⟨g, 0, none⟩) out.length c, .int .u64 (n : Int), .int .i64 (used : Int), .bool true]) ∧ Strs w' base (.slice (some ⟨g, 0, none⟩) out.length c) out ∧
    n ≤ 4611686018427387905 ∧ 1 ≤ used ∧ 512 * used ≤ s.length

set_option maxHeartbeats 3200000 in
set_option maxRecDepth 100000 in
theorem replay_c (s : List UInt8) (w : World) (h1 : 512 ≤ s.length) (h2 : s.length ≤ 1000000) (h3 : s.length % 512 = 0) :
    Calls Tryd.prog 61 #[.string (str s)] w fun e w' => ReplayRes s w.heap.size e w' ∧ Calm w w' := by
  have ss := str_size s
  have se := str_extract s 0 8
  have i0 : (8 : Int) ≤ (s.length : Int) := by omega
  have i00 : (16 : Int) ≤ (s.length : Int) := by omega
  have H1 := Lib.hid h1
  have H2 := Lib.hid h2
  have H3 := Lib.hid h3
  clear h1 h2 h3
  go_enter Tryd.func61, Tryd.ntmps61
  go_wp2_with fail
  have hl8 : (s.take 8).length = 8 := by have := H1.out; simp; omega
  refine (high_c (s.take 8) _ (by omega)).mono ?_
  rintro e w1 ⟨rfl, c1⟩
  have C1 := Lib.hid c1
  have hnb : num (s.take 8) < 18446744073709551616 := by have := num_lt (s.take 8); rw [hl8] at this; exact this
  obtain ⟨n, hn⟩ : ∃ n, n = num (s.take 8) := ⟨_, rfl⟩
  rw [← hn] at hnb ⊢
  have HN := Lib.hid hn
  have HNb := Lib.hid hnb
  clear c1 hn hnb hl8 se
  by_cases n1 : n < 1
  · obtain rfl : n = 0 := by omega
    have er := Lib.hid (show replay s = none by unfold replay; simp only; rw [← HN.out, if_pos (.inl (by decide))])
    clear n1
    go_upto_region 2 with fail
    refine wp_region_noPanic ?_
    refine wp_region_held_drew (S := fun _ => True) (by kernel_rfl) trivial (fun hHeld => ?_)
    refine take_at 0 14 (.int .u64 0) rfl rfl (by kernel_rfl) (by kernel_rfl) (by kernel_rfl) (fun _ _ _ h => h) (Or.inl ⟨by rfl, ?_⟩) hHeld ?_
    · intro w hSw; go_simp
    simp only [List.setIfInBounds_toArray, List.set_cons_zero, List.set_cons_succ]
    refine take_at 1 15 (.bool true) rfl rfl (by kernel_rfl) (by kernel_rfl) (by kernel_rfl) (fun _ _ _ h => h) (Or.inl ⟨by rfl, ?_⟩) hHeld ?_
    · intro w hSw; go_simp
    simp only [List.setIfInBounds_toArray, List.set_cons_zero, List.set_cons_succ]
    refine take_at 2 16 (.bool true) rfl rfl (by kernel_rfl) (by kernel_rfl) (by kernel_rfl) (fun _ _ _ h => h) (Or.inl ⟨by rfl, ?_⟩) hHeld ?_
    · intro w hSw; go_simp
    simp only [List.setIfInBounds_toArray, List.set_cons_zero, List.set_cons_succ]
    refine take_at 3 17 (undef) rfl rfl (by kernel_rfl) (by kernel_rfl) (by kernel_rfl) (fun _ _ _ h => h) (Or.inr ⟨by rfl, rfl⟩) hHeld ?_
    simp only [List.setIfInBounds_toArray, List.set_cons_zero, List.set_cons_succ]
    refine take_at 4 18 (undef) rfl rfl (by kernel_rfl) (by kernel_rfl) (by kernel_rfl) (fun _ _ _ h => h) (Or.inr ⟨by rfl, rfl⟩) hHeld ?_
    simp only [List.setIfInBounds_toArray, List.set_cons_zero, List.set_cons_succ]
    refine take_at 5 19 (.bool true) rfl rfl (by kernel_rfl) (by kernel_rfl) (by kernel_rfl) (fun _ _ _ h => h) (Or.inl ⟨by rfl, ?_⟩) hHeld ?_
    · intro w hSw; go_simp
    simp only [List.setIfInBounds_toArray, List.set_cons_zero, List.set_cons_succ]
    refine take_at 6 20 (.bool true) rfl rfl (by kernel_rfl) (by kernel_rfl) (by kernel_rfl) (fun _ _ _ h => h) (Or.inl ⟨by rfl, ?_⟩) hHeld ?_
    · intro w hSw; go_simp
    simp only [List.setIfInBounds_toArray, List.set_cons_zero, List.set_cons_succ]
    refine take_at 7 21 (undef) rfl rfl (by kernel_rfl) (by kernel_rfl) (by kernel_rfl) (fun _ _ _ h => h) (Or.inr ⟨by rfl, rfl⟩) hHeld ?_
    simp only [List.setIfInBounds_toArray, List.set_cons_zero, List.set_cons_succ]
    refine take_at 8 22 (undef) rfl rfl (by kernel_rfl) (by kernel_rfl) (by kernel_rfl) (fun _ _ _ h => h) (Or.inr ⟨by rfl, rfl⟩) hHeld ?_
    simp only [List.setIfInBounds_toArray, List.set_cons_zero, List.set_cons_succ]
    refine take_at 9 23 (undef) rfl rfl (by kernel_rfl) (by kernel_rfl) (by kernel_rfl) (fun _ _ _ h => h) (Or.inr ⟨by rfl, rfl⟩) hHeld ?_
    simp only [List.setIfInBounds_toArray, List.set_cons_zero, List.set_cons_succ]
    refine take_at 10 24 (undef) rfl rfl (by kernel_rfl) (by kernel_rfl) (by kernel_rfl) (fun _ _ _ h => h) (Or.inr ⟨by rfl, rfl⟩) hHeld ?_
    simp only [List.setIfInBounds_toArray, List.set_cons_zero, List.set_cons_succ]
    refine take_at 11 25 (undef) rfl rfl (by kernel_rfl) (by kernel_rfl) (by kernel_rfl) (fun _ _ _ h => h) (Or.inr ⟨by rfl, rfl⟩) hHeld ?_
    simp only [List.setIfInBounds_toArray, List.set_cons_zero, List.set_cons_succ]
    refine take_at 12 26 (undef) rfl rfl (by kernel_rfl) (by kernel_rfl) (by kernel_rfl) (fun _ _ _ h => h) (Or.inr ⟨by rfl, rfl⟩) hHeld ?_
    simp only [List.setIfInBounds_toArray, List.set_cons_zero, List.set_cons_succ]
    refine take_at 13 27 (.bool true) rfl rfl (by kernel_rfl) (by kernel_rfl) (by kernel_rfl) (fun _ _ _ h => h) (Or.inl ⟨by rfl, ?_⟩) hHeld ?_
    · intro w hSw; go_simp
    simp only [List.setIfInBounds_toArray, List.set_cons_zero, List.set_cons_succ]
    refine wpAnyH_done (by kernel_rfl) (NoPanic.normal ?_) _
    go_wp2_with fail
    go_returns
    exact ⟨.inl ⟨er.out, rfl⟩, C1.out.drew⟩
  by_cases n2 : 4611686018427387904 < n
  · have er := Lib.hid (show replay s = none by unfold replay; simp only; rw [← HN.out, if_pos (.inr (.inl n2))])
    have i1 : ¬ (n : Int) < 1 := by omega
    have i2 : (4611686018427387904 : Int) < (n : Int) := by omega
    clear n1 n2
    go_upto_region 2 with fail
    refine wp_region_noPanic ?_
    refine wp_region_held_drew (S := fun _ => True) (by kernel_rfl) trivial (fun hHeld => ?_)
    refine take_at 0 14 (.int .u64 (n : Int)) rfl rfl (by kernel_rfl) (by kernel_rfl) (by kernel_rfl) (fun _ _ _ h => h) (Or.inl ⟨by rfl, ?_⟩) hHeld ?_
    · intro w hSw; go_simp
    simp only [List.setIfInBounds_toArray, List.set_cons_zero, List.set_cons_succ]
    refine take_at 1 15 (.bool false) rfl rfl (by kernel_rfl) (by kernel_rfl) (by kernel_rfl) (fun _ _ _ h => h) (Or.inl ⟨by rfl, ?_⟩) hHeld ?_
    · intro w hSw; go_simp; try omega
    simp only [List.setIfInBounds_toArray, List.set_cons_zero, List.set_cons_succ]
    refine take_at 2 16 (.bool false) rfl rfl (by kernel_rfl) (by kernel_rfl) (by kernel_rfl) (fun _ _ _ h => h) (Or.inl ⟨by rfl, ?_⟩) hHeld ?_
    · intro w hSw; go_simp
    simp only [List.setIfInBounds_toArray, List.set_cons_zero, List.set_cons_succ]
    refine take_at 3 17 (.int .u64 (n : Int)) rfl rfl (by kernel_rfl) (by kernel_rfl) (by kernel_rfl) (fun _ _ _ h => h) (Or.inl ⟨by rfl, ?_⟩) hHeld ?_
    · intro w hSw; go_simp
    simp only [List.setIfInBounds_toArray, List.set_cons_zero, List.set_cons_succ]
    refine take_at 4 18 (.bool true) rfl rfl (by kernel_rfl) (by kernel_rfl) (by kernel_rfl) (fun _ _ _ h => h) (Or.inl ⟨by rfl, ?_⟩) hHeld ?_
    · intro w hSw; go_simp; try omega
    simp only [List.setIfInBounds_toArray, List.set_cons_zero, List.set_cons_succ]
    refine take_at 5 19 (.bool true) rfl rfl (by kernel_rfl) (by kernel_rfl) (by kernel_rfl) (fun _ _ _ h => h) (Or.inl ⟨by rfl, ?_⟩) hHeld ?_
    · intro w hSw; go_simp
    simp only [List.setIfInBounds_toArray, List.set_cons_zero, List.set_cons_succ]
    refine take_at 6 20 (.bool true) rfl rfl (by kernel_rfl) (by kernel_rfl) (by kernel_rfl) (fun _ _ _ h => h) (Or.inl ⟨by rfl, ?_⟩) hHeld ?_
    · intro w hSw; go_simp
    simp only [List.setIfInBounds_toArray, List.set_cons_zero, List.set_cons_succ]
    refine take_at 7 21 (undef) rfl rfl (by kernel_rfl) (by kernel_rfl) (by kernel_rfl) (fun _ _ _ h => h) (Or.inr ⟨by rfl, rfl⟩) hHeld ?_
    simp only [List.setIfInBounds_toArray, List.set_cons_zero, List.set_cons_succ]
    refine take_at 8 22 (undef) rfl rfl (by kernel_rfl) (by kernel_rfl) (by kernel_rfl) (fun _ _ _ h => h) (Or.inr ⟨by rfl, rfl⟩) hHeld ?_
    simp only [List.setIfInBounds_toArray, List.set_cons_zero, List.set_cons_succ]
    refine take_at 9 23 (undef) rfl rfl (by kernel_rfl) (by kernel_rfl) (by kernel_rfl) (fun _ _ _ h => h) (Or.inr ⟨by rfl, rfl⟩) hHeld ?_
    simp only [List.setIfInBounds_toArray, List.set_cons_zero, List.set_cons_succ]
    refine take_at 10 24 (undef) rfl rfl (by kernel_rfl) (by kernel_rfl) (by kernel_rfl) (fun _ _ _ h => h) (Or.inr ⟨by rfl, rfl⟩) hHeld ?_
    simp only [List.setIfInBounds_toArray, List.set_cons_zero, List.set_cons_succ]
    refine take_at 11 25 (undef) rfl rfl (by kernel_rfl) (by kernel_rfl) (by kernel_rfl) (fun _ _ _ h => h) (Or.inr ⟨by rfl, rfl⟩) hHeld ?_
    simp only [List.setIfInBounds_toArray, List.set_cons_zero, List.set_cons_succ]
    refine take_at 12 26 (undef) rfl rfl (by kernel_rfl) (by kernel_rfl) (by kernel_rfl) (fun _ _ _ h => h) (Or.inr ⟨by rfl, rfl⟩) hHeld ?_
    simp only [List.setIfInBounds_toArray, List.set_cons_zero, List.set_cons_succ]
    refine take_at 13 27 (.bool true) rfl rfl (by kernel_rfl) (by kernel_rfl) (by kernel_rfl) (fun _ _ _ h => h) (Or.inl ⟨by rfl, ?_⟩) hHeld ?_
    · intro w hSw; go_simp
    simp only [List.setIfInBounds_toArray, List.set_cons_zero, List.set_cons_succ]
    refine wpAnyH_done (by kernel_rfl) (NoPanic.normal ?_) _
    go_wp2_with fail
    go_returns
    exact ⟨.inl ⟨er.out, rfl⟩, C1.out.drew⟩
  have i1 : ¬ (n : Int) < 1 := by omega
  have i2 : ¬ (4611686018427387904 : Int) < (n : Int) := by omega
  have N1 := Lib.hid n1
  have N2 := Lib.hid n2
  clear n1 n2
  go_upto_region 2 with fail
  refine wp_region_noPanic ?_
  refine wp_region_held_drew (S := fun _ => True) (by kernel_rfl) trivial (fun hHeld => ?_)
  refine take_at 0 14 (.int .u64 (n : Int)) rfl rfl (by kernel_rfl) (by kernel_rfl) (by kernel_rfl) (fun _ _ _ h => h) (Or.inl ⟨by rfl, ?_⟩) hHeld ?_
  · intro w hSw; go_simp
  simp only [List.setIfInBounds_toArray, List.set_cons_zero, List.set_cons_succ]
  refine take_at 1 15 (.bool false) rfl rfl (by kernel_rfl) (by kernel_rfl) (by kernel_rfl) (fun _ _ _ h => h) (Or.inl ⟨by rfl, ?_⟩) hHeld ?_
  · intro w hSw; go_simp; try omega
  simp only [List.setIfInBounds_toArray, List.set_cons_zero, List.set_cons_succ]
  refine take_at 2 16 (.bool false) rfl rfl (by kernel_rfl) (by kernel_rfl) (by kernel_rfl) (fun _ _ _ h => h) (Or.inl ⟨by rfl, ?_⟩) hHeld ?_
  · intro w hSw; go_simp
  simp only [List.setIfInBounds_toArray, List.set_cons_zero, List.set_cons_succ]
  refine take_at 3 17 (.int .u64 (n : Int)) rfl rfl (by kernel_rfl) (by kernel_rfl) (by kernel_rfl) (fun _ _ _ h => h) (Or.inl ⟨by rfl, ?_⟩) hHeld ?_
  · intro w hSw; go_simp
  simp only [List.setIfInBounds_toArray, List.set_cons_zero, List.set_cons_succ]
  refine take_at 4 18 (.bool false) rfl rfl (by kernel_rfl) (by kernel_rfl) (by kernel_rfl) (fun _ _ _ h => h) (Or.inl ⟨by rfl, ?_⟩) hHeld ?_
  · intro w hSw; go_simp; try omega
  simp only [List.setIfInBounds_toArray, List.set_cons_zero, List.set_cons_succ]
  refine take_at 5 19 (.bool false) rfl rfl (by kernel_rfl) (by kernel_rfl) (by kernel_rfl) (fun _ _ _ h => h) (Or.inl ⟨by rfl, ?_⟩) hHeld ?_
  · intro w hSw; go_simp
  simp only [List.setIfInBounds_toArray, List.set_cons_zero, List.set_cons_succ]
  refine take_at 6 20 (.bool false) rfl rfl (by kernel_rfl) (by kernel_rfl) (by kernel_rfl) (fun _ _ _ h => h) (Or.inl ⟨by rfl, ?_⟩) hHeld ?_
  · intro w hSw; go_simp
  simp only [List.setIfInBounds_toArray, List.set_cons_zero, List.set_cons_succ]
  refine take_at 7 21 (.int .u64 (n : Int)) rfl rfl (by kernel_rfl) (by kernel_rfl) (by kernel_rfl) (fun _ _ _ h => h) (Or.inl ⟨by rfl, ?_⟩) hHeld ?_
  · intro w hSw; go_simp
  simp only [List.setIfInBounds_toArray, List.set_cons_zero, List.set_cons_succ]
  refine take_at 10 24 (.string (str s)) rfl rfl (by kernel_rfl) (by kernel_rfl) (by kernel_rfl) (fun _ _ _ h => h) (Or.inl ⟨by rfl, ?_⟩) hHeld ?_
  · intro w hSw; go_simp
  simp only [List.setIfInBounds_toArray, List.set_cons_zero, List.set_cons_succ]
  refine take_at 11 25 (.string (str (s.take 16))) rfl rfl (by kernel_rfl) (by kernel_rfl) (by kernel_rfl) (fun _ _ _ h => h) (Or.inl ⟨by rfl, ?_⟩) hHeld ?_
  · intro w hSw; go_simp; rw [str_extract]; rfl
  simp only [List.setIfInBounds_toArray, List.set_cons_zero, List.set_cons_succ]
  refine wpAnyH_ready (rs := [8]) (by kernel_rfl) (by simp) ?_
  refine AllReadyH.cons rfl (fun K hK => ?_) AllReadyH.nil
  go_simp
  refine (begin_c n _ HNb.out).mono ?_
  rintro e w2 ⟨rfl, c2⟩
  have C2 := Lib.hid (C1.out.drew.trans c2)
  clear c2
  refine hK.out _ _ trivial (fun hHeld => ?_)
  clear hK K
  try simp only [List.setIfInBounds_toArray, List.set_cons_zero, List.set_cons_succ]
  refine take_at 9 23 (.string (str (head16 n 4294967295 []))) rfl rfl (by kernel_rfl) (by kernel_rfl) (by kernel_rfl) (fun _ _ _ h => h) (Or.inl ⟨by rfl, ?_⟩) hHeld ?_
  · intro w hSw; have hpl := str_size (begP n); rw [begP_len] at hpl; go_simp; rw [str_extract, List.drop_zero, begP, pic_take]
  simp only [List.setIfInBounds_toArray, List.set_cons_zero, List.set_cons_succ]
  by_cases h5 : head16 n 4294967295 [] = s.take 16
  · refine take_at 12 26 (.bool false) rfl rfl (by kernel_rfl) (by kernel_rfl) (by kernel_rfl) (fun _ _ _ h => h) (Or.inl ⟨by rfl, ?_⟩) hHeld ?_
    · intro w hSw; go_simp; try simp [h5]
    simp only [List.setIfInBounds_toArray, List.set_cons_zero, List.set_cons_succ]
    refine take_at 13 27 (.bool false) rfl rfl (by kernel_rfl) (by kernel_rfl) (by kernel_rfl) (fun _ _ _ h => h) (Or.inl ⟨by rfl, ?_⟩) hHeld ?_
    · intro w hSw; go_simp
    simp only [List.setIfInBounds_toArray, List.set_cons_zero, List.set_cons_succ]
    have er := Lib.hid (show replay s = some (replayFrom s.length s (n + 1) 1 []) by unfold replay; simp only; rw [← HN.out, if_neg (by have := N1.out; have := N2.out; intro e; rcases e with e | e | e; omega; omega; exact e h5)])
    clear h5
    refine wpAnyH_done (by kernel_rfl) (NoPanic.normal ?_) _
    go_wp2_with fail
    have CA : Hid (Calm w2 (w2.alloc (.cells #[] 9))) := Lib.hid ((Keep.refl _ w2).alloc _)
    have SA := Lib.hid (Strs.made w2)
    obtain ⟨FIN, hF⟩ : ∃ F, F = replayFrom s.length s (n + 1) 1 [] := ⟨_, rfl⟩
    have HF := Lib.hid hF
    have NN : Hid (n ≤ 4611686018427387904) := Lib.hid (by have := N2.out; omega)
    clear hF i1 i2
    go_loopw [6, 7, 8] (fun v6 v7 v8 wr => ∃ (f N used : Nat) (out : List (List UInt8)) (g c : Nat), v6 = .int .u64 (N : Int) ∧ v7 = .int .i64 (used : Int) ∧ v8 = .slice (some ⟨g, 0, none⟩) out.length c ∧ Calm w2 wr ∧ Strs wr w2.heap.size (.slice (some ⟨g, 0, none⟩) out.length c) out ∧
      replayFrom f s (N + 1) used out = FIN ∧ s.length ≤ 512 * used + 512 * f ∧ 512 * used ≤ s.length ∧ 1 ≤ used ∧ N ≤ 4611686018427387904 ∧ out.length ≤ used) (fun _ v7 _ _ => s.length - 512 * (intOf v7).toNat)
    case atStart => exact ⟨s.length, n, 1, [], w2.heap.size, 0, rfl, rfl, rfl, CA.out, SA.out, HF.out.symm, by omega, by have := H1.out; omega, Nat.le_refl _, NN.out, by simp⟩
    case round =>
      obtain ⟨f, N, used, out, g, c, rfl, rfl, rfl, hc, hst, hrf, hfu, hus, hu1, hN, hol⟩ := hrel
      obtain ⟨u, hu⟩ : ∃ u : Nat, u = 512 * used := ⟨_, rfl⟩
      have hu' : 512 * (used : Int) = (u : Int) := by omega
      have se2 : (str s).extract u s.length = str (s.drop u) := by rw [str_extract, List.take_length]
      have j0 : (u : Int) ≤ (s.length : Int) := by omega
      have j1 : (N : Int) ≤ 4611686018427387904 := by omega
      have j2 : (s.length : Int) ≤ 1000000 := by have := H2.out; omega
      have HC := Lib.hid hc
      have HS := Lib.hid hst
      have HR := Lib.hid hrf
      have HA := Lib.hid (And.intro hfu (And.intro hus (And.intro hu1 (And.intro hN (And.intro hol hu)))))
      clear hc hst hrf hfu hus hu1 hN hol hu
      have hul : (s.drop u).length ≤ 1000000 := by rw [List.length_drop]; omega
      have X := one_c (s.drop u) (N + 1) wr (by omega) hul
      rw [show (((N + 1 : Nat)) : Int) = (N : Int) + 1 by omega] at X
      clear hul
      have HX := Lib.hid X
      clear X
      go_wp2_with fail
      refine HX.out.mono ?_
      rintro e w3 ⟨⟨b, k, rfl, hcase⟩, c3⟩
      have C3 := Lib.hid (HC.out.trans c3)
      have S3 := Lib.hid (HS.out.calm c3)
      clear c3 HX
      rcases hcase with ⟨h6, rfl⟩ | ⟨h6, rfl⟩
      · have hfin : Hid (FIN = (out, N + 1, used)) := Lib.hid (by
          rw [← HR.out]
          cases f with
          | zero => rfl
          | succ f =>
            have := HA.out.2.2.2.2.2
            rw [this] at h6
            simp only [replayFrom, h6])
        clear h6
        go_wp2_with fail
        go_returns
        refine ⟨.inr ⟨out, N + 1, used, g, c, by rw [er.out, ← HF.out, hfin.out], ?_, S3.out.wider (by have := C2.out.size; exact this), by have := HA.out.2.2.2.1; omega, HA.out.2.2.1, HA.out.2.1⟩, C2.out.trans C3.out⟩
        rfl
      · have hol := oneAt_len h6
        rw [List.length_drop] at hol
        have hk1 : Hid (1 ≤ secsOf b.length ∧ 512 * (used + secsOf b.length) ≤ s.length) := Lib.hid (by
          have := HA.out
          have := H3.out
          unfold secsOf
          omega)
        have hnext : Hid (∃ f', f = f' + 1 ∧ replayFrom f' s (N + 1 + 1) (used + secsOf b.length) (out ++ [b]) = FIN ∧ N + 1 ≤ 4611686018427387904) := Lib.hid (by
          have h7 := HA.out
          cases f with
          | zero => omega
          | succ f =>
            refine ⟨f, rfl, ?_, hol.2.2⟩
            rw [← HR.out]
            rw [h7.2.2.2.2.2] at h6
            simp only [replayFrom, h6])
        have k0 : ¬ ((secsOf b.length : Nat) : Int) = 0 := by have := hk1.out.1; omega
        generalize hk : secsOf b.length = k at *
        have k2 : (k : Int) ≤ 1000000 := by have := hk1.out.2; omega
        have k3 : (used : Int) ≤ 1000000 := by have := hk1.out.2; omega
        clear h6 hol hk
        go_wp2_with (at_builtin; go_loud (refine append_strs rfl (.tmp 45) (.tmp 47) rfl w2.heap.size g c out b rfl S3.out rfl (by have := HA.out.2.2.2.2.1; omega) C3.out.size ?_); rintro g' c' w4 ho hg; have O4 := Lib.hid ho; have G4 := Lib.hid hg; clear ho hg)
        go_roundw
        case rel =>
          obtain ⟨f', _, e1, e2⟩ := hnext.out
          refine ⟨f', N + 1, used + k, out ++ [b], g', c', by go_num, by go_num, by simp, (C3.out.alloc _).grown G4.out (fun x e hx => ?_), by simpa using O4.out, e1, ?_, hk1.out.2, by omega, e2, ?_⟩
          · injection e with e
            have := S3.out.base_le
            omega
          · have := HA.out; have := hk1.out; omega
          · have := HA.out.2.2.2.2.1; have := hk1.out; simp; omega
        case measure => have := hk1.out; simp [intOf]; omega
  · refine take_at 12 26 (.bool true) rfl rfl (by kernel_rfl) (by kernel_rfl) (by kernel_rfl) (fun _ _ _ h => h) (Or.inl ⟨by rfl, ?_⟩) hHeld ?_
    · intro w hSw; go_simp; rw [ByteArray.toList_eq, ByteArray.toList_eq]; exact h5
    simp only [List.setIfInBounds_toArray, List.set_cons_zero, List.set_cons_succ]
    refine take_at 13 27 (.bool true) rfl rfl (by kernel_rfl) (by kernel_rfl) (by kernel_rfl) (fun _ _ _ h => h) (Or.inl ⟨by rfl, ?_⟩) hHeld ?_
    · intro w hSw; go_simp
    simp only [List.setIfInBounds_toArray, List.set_cons_zero, List.set_cons_succ]
    have er := Lib.hid (show replay s = none by unfold replay; simp only; rw [← HN.out, if_pos (.inr (.inr h5))])
    clear h5
    refine wpAnyH_done (by kernel_rfl) (NoPanic.normal ?_) _
    go_wp2_with fail
    go_returns
    exact ⟨.inl ⟨er.out, rfl⟩, C2.out⟩
end Go.Proofs.YtfigiofiakkbdaaDoor
