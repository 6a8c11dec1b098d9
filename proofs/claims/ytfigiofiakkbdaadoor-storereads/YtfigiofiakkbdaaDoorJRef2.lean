/-
  Contracts of the reference of layer 3: high.
-/
import Derived.Test.YtfigiofiakkbdaaDoorJRef1
import Derived.Laws.Closers25
namespace Go.Proofs.YtfigiofiakkbdaaDoor
open Go.RowKit
set_option linter.all false

set_option maxHeartbeats 800000 in
theorem high_c (bs : List UInt8) : ∀ (w : World), bs.length ≤ 8 →
    Calls Tryd.prog 77 #[.string (str bs)] w fun e w' => e = .returned (.int .u64 ((num bs : Nat) : Int)) ∧ Calm w w' := by
  induction bs with
  | nil =>
    intro w hk
    have e0 := str_none
    go_enter Tryd.func77, Tryd.ntmps77
    go_wp2_with fail
    go_ret
    exact ⟨rfl, Keep.refl _ w⟩
  | cons b r ih =>
    intro w hk
    simp only [List.length_cons] at hk
    have IH := Lib.hid (fun w => ih w (by omega))
    have hn := num_lt r
    have hp : 256 ^ r.length ≤ 256 ^ 7 := Nat.pow_le_pow_right (by decide) (by omega)
    have hb := u8_lt b
    have hN : num r < 72057594037927936 := Nat.lt_of_lt_of_le hn hp
    clear ih hn hp
    have e2 : IntKind.u64.wrap (b.toNat : Int) = (b.toNat : Int) := by rw [IntKind.wrap_u64]; omega
    have e3 : IntKind.u64.wrap (256 * ((num r : Nat) : Int)) = 256 * ((num r : Nat) : Int) := by rw [IntKind.wrap_u64]; omega
    have e4 : IntKind.u64.wrap ((b.toNat : Int) + 256 * ((num r : Nat) : Int)) = (b.toNat : Int) + 256 * ((num r : Nat) : Int) := by rw [IntKind.wrap_u64]; omega
    have e0 := str_some (b :: r) (by simp)
    go_enter Tryd.func77, Tryd.ntmps77
    go_upto_region 3 with fail
    refine wp_region_noPanic ?_
    refine wp_region_held_drew (S := fun _ => True) (by kernel_rfl) trivial (fun hHeld => ?_)
    refine take_at 0 5 (.string (str (b :: r))) rfl rfl (by kernel_rfl) (by kernel_rfl) (by kernel_rfl) (fun _ _ _ h => h) (Or.inl ⟨by rfl, ?_⟩) hHeld ?_
    · intro w hSw; go_simp
    simp only [List.setIfInBounds_toArray, List.set_cons_zero, List.set_cons_succ]
    refine take_at 1 6 (.int .u8 (b.toNat : Int)) rfl rfl (by kernel_rfl) (by kernel_rfl) (by kernel_rfl) (fun _ _ _ h => h) (Or.inl ⟨by rfl, ?_⟩) hHeld ?_
    · intro w hSw; go_simp; rw [dif_pos (show 0 < (str (b :: r)).size by rw [str_size]; simp)]; rfl
    simp only [List.setIfInBounds_toArray, List.set_cons_zero, List.set_cons_succ]
    refine take_at 2 7 (.int .u64 (b.toNat : Int)) rfl rfl (by kernel_rfl) (by kernel_rfl) (by kernel_rfl) (fun _ _ _ h => h) (Or.inl ⟨by rfl, ?_⟩) hHeld ?_
    · intro w hSw; go_simp
    simp only [List.setIfInBounds_toArray, List.set_cons_zero, List.set_cons_succ]
    refine take_at 3 8 (.string (str (b :: r))) rfl rfl (by kernel_rfl) (by kernel_rfl) (by kernel_rfl) (fun _ _ _ h => h) (Or.inl ⟨by rfl, ?_⟩) hHeld ?_
    · intro w hSw; go_simp
    simp only [List.setIfInBounds_toArray, List.set_cons_zero, List.set_cons_succ]
    refine take_at 4 9 (.string (str r)) rfl rfl (by kernel_rfl) (by kernel_rfl) (by kernel_rfl) (fun _ _ _ h => h) (Or.inl ⟨by rfl, ?_⟩) hHeld ?_
    · intro w hSw; go_simp; rw [if_pos (show (1 : Int) ≤ ((str (b :: r)).size : Int) by rw [str_size, List.length_cons]; omega), str_extract, str_size, List.take_length]; rfl
    simp only [List.setIfInBounds_toArray, List.set_cons_zero, List.set_cons_succ]
    refine wpAnyH_ready (rs := [5]) (by kernel_rfl) (by simp) ?_
    refine AllReadyH.cons rfl (fun K hK => ?_) AllReadyH.nil
    go_simp
    refine (IH.out _).mono ?_
    rintro e w2 ⟨rfl, hw2⟩
    refine hK.out _ _ trivial (fun hHeld => ?_)
    clear hK K
    try simp only [List.setIfInBounds_toArray, List.set_cons_zero, List.set_cons_succ]
    refine take_at 6 11 (.int .u64 (256 * ((num r : Nat) : Int))) rfl rfl (by kernel_rfl) (by kernel_rfl) (by kernel_rfl) (fun _ _ _ h => h) (Or.inl ⟨by rfl, ?_⟩) hHeld ?_
    · intro w hSw; go_simp
    simp only [List.setIfInBounds_toArray, List.set_cons_zero, List.set_cons_succ]
    refine take_at 7 12 (.int .u64 ((b.toNat : Int) + 256 * ((num r : Nat) : Int))) rfl rfl (by kernel_rfl) (by kernel_rfl) (by kernel_rfl) (fun _ _ _ h => h) (Or.inl ⟨by rfl, ?_⟩) hHeld ?_
    · intro w hSw; go_simp
    simp only [List.setIfInBounds_toArray, List.set_cons_zero, List.set_cons_succ]
    refine wpAnyH_ready (rs := [8]) (by kernel_rfl) (by simp) ?_
    refine AllReadyH.cons rfl (fun K hK => ?_) AllReadyH.nil
    go_simp
    refine hK.out _ _ trivial (fun hHeld => ?_)
    clear hK K
    try simp only [List.setIfInBounds_toArray, List.set_cons_zero, List.set_cons_succ]
    refine wpAnyH_done (by kernel_rfl) (NoPanic.normal ?_) _
    go_wp2_with fail
    go_ret
    exact ⟨by simp [num], ((Keep.refl _ w).drew).trans hw2⟩
end Go.Proofs.YtfigiofiakkbdaaDoor
