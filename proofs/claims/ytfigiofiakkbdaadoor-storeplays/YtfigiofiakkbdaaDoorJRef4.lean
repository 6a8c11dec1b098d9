/-
  Contracts of the reference of layer 3: one.
-/
import Derived.Test.YtfigiofiakkbdaaDoorJRef3
namespace Go.Proofs.YtfigiofiakkbdaaDoor
open Go.RowKit
set_option linter.all false

/-- What 'one' answers. -/
def OneRes (s : List UInt8) (n : Nat) (e : Ending) : Prop := ∃ (b : List UInt8) (k : Nat), e = .returned (.tuple #[.string (str b), .int .i64 (k : Int)]) ∧ ((oneAt s n = none ∧ k = 0) ∨ (oneAt s n = some b ∧ k = secsOf b.length))
theorem OneRes.no {s : List UInt8} {n : Nat} (h : oneAt s n = none) : OneRes s n (.returned (.tuple #[.string ⟨#[]⟩, .int .i64 0])) := ⟨[], 0, rfl, .inl ⟨h, rfl⟩⟩
theorem OneRes.yes {s : List UInt8} {n : Nat} {b : List UInt8} {k : Int} (h : oneAt s n = some b) (hk : k = ((secsOf b.length : Nat) : Int)) : OneRes s n (.returned (.tuple #[.string (str b), .int .i64 k])) := by
  subst hk
  exact ⟨b, _, rfl, .inr ⟨h, rfl⟩⟩

set_option maxHeartbeats 1600000 in
set_option maxRecDepth 100000 in
theorem one_c (s : List UInt8) (n : Nat) (w : World) (hn : n < 18446744073709551616) (hs : s.length ≤ 1000000) :
    Calls Tryd.prog 78 #[.string (str s), .int .u64 (n : Int)] w fun e w' => OneRes s n e ∧ Calm w w' := by
  have ss := str_size
  have se := str_extract
  by_cases h1 : s.length < 512
  · have eo := Lib.hid (show oneAt s n = none by unfold oneAt; rw [if_pos (.inl h1)])
    have i1 : (s.length : Int) < 512 := by omega
    go_enter Tryd.func78, Tryd.ntmps78
    go_wp2_with fail
    go_ret2
    exact ⟨OneRes.no eo.out, Keep.refl _ w⟩
  by_cases h2 : 4611686018427387904 < n
  · have eo := Lib.hid (show oneAt s n = none by unfold oneAt; rw [if_pos (.inr (.inl h2))])
    have i1 : ¬ (s.length : Int) < 512 := by omega
    have i2 : (4611686018427387904 : Int) < (n : Int) := by omega
    go_enter Tryd.func78, Tryd.ntmps78
    go_wp2_with fail
    go_ret2
    exact ⟨OneRes.no eo.out, Keep.refl _ w⟩
  have i1 : ¬ (s.length : Int) < 512 := by omega
  have i2 : ¬ (4611686018427387904 : Int) < (n : Int) := by omega
  have i3 : (8 : Int) ≤ (s.length : Int) := by omega
  go_enter Tryd.func78, Tryd.ntmps78
  go_wp2_with fail
  -- from here by jref4.py
  have HN1 := Lib.hid (show (s.take 8).length ≤ 8 by simp; omega)
  refine (high_c (s.take 8) _ HN1.out).mono ?_
  rintro e w1 ⟨rfl, c1⟩
  have C1 := Lib.hid c1
  clear c1
  by_cases h3 : num (s.take 8) = n
  rotate_left
  · have eo := Lib.hid (show oneAt s n = none by unfold oneAt; rw [if_pos (.inr (.inr h3))])
    have hne : (((num (s.take 8) : Nat) : Int) != (n : Int)) = true := by rw [bne_iff_ne]; omega
    generalize num (s.take 8) = a at *
    go_wp2_with fail
    go_ret2
    exact ⟨OneRes.no eo.out, C1.out⟩
  have H3 := Lib.hid h3
  have hne : (((num (s.take 8) : Nat) : Int) != (n : Int)) = false := by rw [h3]; simp
  generalize num (s.take 8) = a at hne ⊢
  clear h3
  have i4 : (12 : Int) ≤ (s.length : Int) := by omega
  go_wp2_with fail
  have hl4 : ((s.take 12).drop 8).length = 4 := by simp; omega
  refine (high_c ((s.take 12).drop 8) _ (by omega)).mono ?_
  rintro e w2 ⟨rfl, c2⟩
  have C2 := Lib.hid (C1.out.trans c2)
  clear c2
  have hl : num ((s.take 12).drop 8) < 4294967296 := by have := num_lt ((s.take 12).drop 8); rw [hl4] at this; exact this
  obtain ⟨len, hlen⟩ : ∃ len, len = num ((s.take 12).drop 8) := ⟨_, rfl⟩
  rw [← hlen] at hl ⊢
  have Hlen := Lib.hid hlen
  have i5 : (len : Int) < 4294967296 := by omega
  clear hlen hl4 hne
  by_cases h4 : s.length < len + 16
  · have eo := Lib.hid (show oneAt s n = none by
      unfold oneAt
      rw [if_neg (by rw [H3.out]; omega)]
      simp only
      rw [← Hlen.out, if_pos h4])
    have i6 : (s.length : Int) < (len : Int) + 16 := by omega
    go_wp2_with fail
    go_ret2
    exact ⟨OneRes.no eo.out, C2.out⟩
  have hT : decide ((s.length : Int) < (len : Int) + 16) = false := decide_eq_false (by omega)
  go_upto_if 30 with fail
  try rw [hT]
  obtain ⟨B, hB⟩ : ∃ B, B = (s.take (16 + len)).drop 16 := ⟨_, rfl⟩
  obtain ⟨u, hu⟩ : ∃ u : Nat, u = 16 + len := ⟨_, rfl⟩
  have se1 : (str s).extract 16 u = str B := by rw [hB, hu]; exact str_extract _ _ _
  have hu' : (16 : Int) + (len : Int) = (u : Int) := by omega
  have i7 : (u : Int) ≤ (s.length : Int) := by omega
  have i8 : (16 : Int) ≤ (u : Int) := by omega
  have hBl : B.length = len := by rw [hB]; simp; omega
  have HBl := Lib.hid hBl
  have HB := Lib.hid hB
  have H1 := Lib.hid h1
  have H2 := Lib.hid h2
  have H4 := Lib.hid h4
  clear se hB hu hT h1 h2 h4 hBl
  go_upto_region 7 with fail
  refine wp_region_noPanic ?_
  refine wp_region_held_drew (S := fun _ => True) (by kernel_rfl) trivial (fun hHeld => ?_)
  refine take_at 0 36 (.int .u64 (n : Int)) rfl rfl (by kernel_rfl) (by kernel_rfl) (by kernel_rfl) (fun _ _ _ h => h) (Or.inl ⟨by rfl, ?_⟩) hHeld ?_
  · intro w hSw; go_simp
  simp only [List.setIfInBounds_toArray, List.set_cons_zero, List.set_cons_succ]
  refine take_at 1 37 (.int .u64 (len : Int)) rfl rfl (by kernel_rfl) (by kernel_rfl) (by kernel_rfl) (fun _ _ _ h => h) (Or.inl ⟨by rfl, ?_⟩) hHeld ?_
  · intro w hSw; go_simp
  simp only [List.setIfInBounds_toArray, List.set_cons_zero, List.set_cons_succ]
  refine take_at 2 38 (.string (str (B))) rfl rfl (by kernel_rfl) (by kernel_rfl) (by kernel_rfl) (fun _ _ _ h => h) (Or.inl ⟨by rfl, ?_⟩) hHeld ?_
  · intro w hSw; go_simp
  simp only [List.setIfInBounds_toArray, List.set_cons_zero, List.set_cons_succ]
  refine take_at 5 41 (.string (str s)) rfl rfl (by kernel_rfl) (by kernel_rfl) (by kernel_rfl) (fun _ _ _ h => h) (Or.inl ⟨by rfl, ?_⟩) hHeld ?_
  · intro w hSw; go_simp
  simp only [List.setIfInBounds_toArray, List.set_cons_zero, List.set_cons_succ]
  refine take_at 6 42 (.string (str (s.take 16))) rfl rfl (by kernel_rfl) (by kernel_rfl) (by kernel_rfl) (fun _ _ _ h => h) (Or.inl ⟨by rfl, ?_⟩) hHeld ?_
  · intro w hSw; go_simp; rw [if_pos (by omega), str_extract]; rfl
  simp only [List.setIfInBounds_toArray, List.set_cons_zero, List.set_cons_succ]
  refine wpAnyH_ready (rs := [3]) (by kernel_rfl) (by simp) ?_
  refine AllReadyH.cons rfl (fun K hK => ?_) AllReadyH.nil
  go_simp
  refine (picture_c n len (B) _ hn (by omega) (by rw [HBl.out]; omega)).mono ?_
  rintro e w3 ⟨rfl, c3⟩
  have C3 := Lib.hid ((C2.out.drew).trans c3)
  clear c3
  refine hK.out _ _ trivial (fun hHeld => ?_)
  clear hK K
  try simp only [List.setIfInBounds_toArray, List.set_cons_zero, List.set_cons_succ]
  refine take_at 4 40 (.string (str (head16 n len (B)))) rfl rfl (by kernel_rfl) (by kernel_rfl) (by kernel_rfl) (fun _ _ _ h => h) (Or.inl ⟨by rfl, ?_⟩) hHeld ?_
  · intro w hSw; have hpl := pic_len n len B; go_simp; rw [if_pos (by omega), str_extract, List.drop_zero, pic_take]
  simp only [List.setIfInBounds_toArray, List.set_cons_zero, List.set_cons_succ]
  by_cases h5 : head16 n len (B) = s.take 16
  · refine take_at 7 43 (.bool false) rfl rfl (by kernel_rfl) (by kernel_rfl) (by kernel_rfl) (fun _ _ _ h => h) (Or.inl ⟨by rfl, ?_⟩) hHeld ?_
    · intro w hSw; go_simp; try simp [h5]
    simp only [List.setIfInBounds_toArray, List.set_cons_zero, List.set_cons_succ]
    refine wpAnyH_done (by kernel_rfl) (NoPanic.normal ?_) _
    have eo := Lib.hid (show oneAt s n = some (B) by
      unfold oneAt
      rw [if_neg (by rw [H3.out]; have := H1.out; have := H2.out; omega)]
      simp only
      rw [← Hlen.out, if_neg H4.out, ← HB.out, if_pos h5])
    clear h5
    go_wp2_with fail
    go_ret2
    refine ⟨OneRes.yes eo.out ?_, C3.out⟩
    rw [HBl.out]
    unfold secsOf
    omega
  · refine take_at 7 43 (.bool true) rfl rfl (by kernel_rfl) (by kernel_rfl) (by kernel_rfl) (fun _ _ _ h => h) (Or.inl ⟨by rfl, ?_⟩) hHeld ?_
    · intro w hSw; go_simp; rw [ByteArray.toList_eq, ByteArray.toList_eq]; exact h5
    simp only [List.setIfInBounds_toArray, List.set_cons_zero, List.set_cons_succ]
    refine wpAnyH_done (by kernel_rfl) (NoPanic.normal ?_) _
    have eo := Lib.hid (show oneAt s n = none by
      unfold oneAt
      rw [if_neg (by rw [H3.out]; have := H1.out; have := H2.out; omega)]
      simp only
      rw [← Hlen.out, if_neg H4.out, ← HB.out, if_neg h5])
    clear h5
    go_wp2_with fail
    go_ret2
    exact ⟨OneRes.no eo.out, C3.out⟩
end Go.Proofs.YtfigiofiakkbdaaDoor
