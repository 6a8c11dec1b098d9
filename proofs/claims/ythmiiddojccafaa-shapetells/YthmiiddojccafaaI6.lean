/-
  Package isa: insnOf.
-/
import Derived.Test.YthmiiddojccafaaI6a
namespace Go.Proofs.Ythmiiddojccafaa
open Go.RowKit
set_option linter.all false

/-- What holds in insnOf's region. -/
structure SB (w w' : World) (A : Addr) (g : Nat) (b0 b1 b2 b3 b4 b5 b6 b7 : UInt8) : Prop where
  cal : Calm w w'
  c0 : w'.cell? A = some (.int .u8 (b0.toNat : Int))
  c1 : w'.cell? ⟨A.block, A.off + 1, none⟩ = some (.int .u8 (b1.toNat : Int))
  c2 : w'.cell? ⟨A.block, A.off + 2, none⟩ = some (.int .u8 (b2.toNat : Int))
  c3 : w'.cell? ⟨A.block, A.off + 3, none⟩ = some (.int .u8 (b3.toNat : Int))
  c4 : w'.cell? ⟨A.block, A.off + 4, none⟩ = some (.int .u8 (b4.toNat : Int))
  c5 : w'.cell? ⟨A.block, A.off + 5, none⟩ = some (.int .u8 (b5.toNat : Int))
  c6 : w'.cell? ⟨A.block, A.off + 6, none⟩ = some (.int .u8 (b6.toNat : Int))
  c7 : w'.cell? ⟨A.block, A.off + 7, none⟩ = some (.int .u8 (b7.toNat : Int))
  row : ∃ v0 v1 v2 v3 v4, Row w' g 34 #[v0, v1, v2, v3, v4]
theorem SB.mk' {w w' : World} {A : Addr} {g : Nat} {b0 b1 b2 b3 b4 b5 b6 b7 : UInt8} (hc : Calm w w') (c0 : w.cell? A = some (.int .u8 (b0.toNat : Int))) (c1 : w.cell? ⟨A.block, A.off + 1, none⟩ = some (.int .u8 (b1.toNat : Int))) (c2 : w.cell? ⟨A.block, A.off + 2, none⟩ = some (.int .u8 (b2.toNat : Int))) (c3 : w.cell? ⟨A.block, A.off + 3, none⟩ = some (.int .u8 (b3.toNat : Int)))
    (c4 : w.cell? ⟨A.block, A.off + 4, none⟩ = some (.int .u8 (b4.toNat : Int))) (c5 : w.cell? ⟨A.block, A.off + 5, none⟩ = some (.int .u8 (b5.toNat : Int))) (c6 : w.cell? ⟨A.block, A.off + 6, none⟩ = some (.int .u8 (b6.toNat : Int))) (c7 : w.cell? ⟨A.block, A.off + 7, none⟩ = some (.int .u8 (b7.toNat : Int))) (row : ∃ v0 v1 v2 v3 v4, Row w' g 34 #[v0, v1, v2, v3, v4]) : SB w w' A g b0 b1 b2 b3 b4 b5 b6 b7 :=
  ⟨hc, (hc.cell (World.block_lt_of_cell? _ _ c0) (fun e => e)).trans c0, (hc.cell (World.block_lt_of_cell? _ _ c1) (fun e => e)).trans c1, (hc.cell (World.block_lt_of_cell? _ _ c2) (fun e => e)).trans c2, (hc.cell (World.block_lt_of_cell? _ _ c3) (fun e => e)).trans c3, (hc.cell (World.block_lt_of_cell? _ _ c4) (fun e => e)).trans c4, (hc.cell (World.block_lt_of_cell? _ _ c5) (fun e => e)).trans c5, (hc.cell (World.block_lt_of_cell? _ _ c6) (fun e => e)).trans c6, (hc.cell (World.block_lt_of_cell? _ _ c7) (fun e => e)).trans c7, row⟩
section
variable (b0 b1 b2 b3 b4 b5 b6 b7 : UInt8)
set_option maxHeartbeats 1600000 in
theorem insnOf_c {w : World} {A : Addr} {cap : Nat} (hcap : 8 ≤ cap) (c0 : w.cell? A = some (.int .u8 (b0.toNat : Int))) (c1 : w.cell? ⟨A.block, A.off + 1, none⟩ = some (.int .u8 (b1.toNat : Int))) (c2 : w.cell? ⟨A.block, A.off + 2, none⟩ = some (.int .u8 (b2.toNat : Int))) (c3 : w.cell? ⟨A.block, A.off + 3, none⟩ = some (.int .u8 (b3.toNat : Int)))
    (c4 : w.cell? ⟨A.block, A.off + 4, none⟩ = some (.int .u8 (b4.toNat : Int))) (c5 : w.cell? ⟨A.block, A.off + 5, none⟩ = some (.int .u8 (b5.toNat : Int))) (c6 : w.cell? ⟨A.block, A.off + 6, none⟩ = some (.int .u8 (b6.toNat : Int))) (c7 : w.cell? ⟨A.block, A.off + 7, none⟩ = some (.int .u8 (b7.toNat : Int))) :
    Calls Try.prog 44 #[.slice (some A) 8 cap] w fun x w' => x = .returned (dec1 b0 b1 b2 b3 b4 b5 b6 b7).v ∧ Calm w w' := by
  have l0 := b0.toNat_lt
  have l1 := b1.toNat_lt
  have l2 := b2.toNat_lt
  have l3 := b3.toNat_lt
  have l4 := b4.toNat_lt
  have l5 := b5.toNat_lt
  have l6 := b6.toNat_lt
  have l7 := b7.toNat_lt
  have o1 := or16 b2.toNat b3.toNat (by omega) (by omega)
  have o2 := or32a b4.toNat b5.toNat (by omega) (by omega)
  have o3 := or32b (b4.toNat + 256 * b5.toNat) b6.toNat (by omega) (by omega)
  have o4 := or32c (b4.toNat + 256 * b5.toNat + 65536 * b6.toNat) b7.toNat (by omega) (by omega)
  obtain ⟨OF, hOF⟩ : ∃ z : Int, z = s16 (b2.toNat + 256 * b3.toNat) := ⟨_, rfl⟩
  obtain ⟨IM, hIM⟩ : ∃ z : Int, z = s32 (b4.toNat + 256 * b5.toNat + 65536 * b6.toNat + 16777216 * b7.toNat) := ⟨_, rfl⟩
  rw [← hOF] at o1
  rw [← hIM] at o4
  have q1 : (b1.toNat : Int).tmod 16 = (b1.toNat : Int) % 16 := Int.tmod_eq_emod_of_nonneg (by omega)
  have q2 : (b1.toNat : Int).tdiv 16 = (b1.toNat : Int) / 16 := Int.tdiv_eq_ediv_of_nonneg (by omega)
  have q3 : IntKind.u8.wrap ((b1.toNat : Int) / 16) = (b1.toNat : Int) / 16 := by rw [IntKind.wrap_u8]; omega
  have q4 : IntKind.u8.wrap ((b1.toNat : Int) % 16) = (b1.toNat : Int) % 16 := by rw [IntKind.wrap_u8]; omega
  have y2 : IntKind.i16.wrap (b2.toNat : Int) = (b2.toNat : Int) := by rw [wrap_i16]; omega
  have y3 : IntKind.i16.wrap (b3.toNat : Int) = (b3.toNat : Int) := by rw [wrap_i16]; omega
  have y4 : IntKind.i32.wrap (b4.toNat : Int) = (b4.toNat : Int) := by rw [wrap_i32]; omega
  have y5 : IntKind.i32.wrap (b5.toNat : Int) = (b5.toNat : Int) := by rw [wrap_i32]; omega
  have y6 : IntKind.i32.wrap (b6.toNat : Int) = (b6.toNat : Int) := by rw [wrap_i32]; omega
  have y7 : IntKind.i32.wrap (b7.toNat : Int) = (b7.toNat : Int) := by rw [wrap_i32]; omega
  have HOF := Lib.hid hOF
  have HIM := Lib.hid hIM
  have HS : Hid (SB w (w.alloc (.cells #[.int .u8 0, .int .u8 0, .int .u8 0, .int .i16 0, .int .i32 0] 34)) A w.heap.size b0 b1 b2 b3 b4 b5 b6 b7) := Lib.hid (SB.mk' ((Keep.refl _ w).alloc _) c0 c1 c2 c3 c4 c5 c6 c7 ⟨_, _, _, _, _, Row.made w _ _⟩)
  have HC := Lib.hid (And.intro c0 (And.intro c1 (And.intro c2 (And.intro c3 (And.intro c4 (And.intro c5 (And.intro c6 c7)))))))
  clear l0 l1 l2 l3 l4 l5 l6 l7 c0 c1 c2 c3 c4 c5 c6 c7 hOF hIM
  obtain ⟨m1, hm1⟩ : ∃ m : Nat, m = b4.toNat + 256 * b5.toNat := ⟨_, rfl⟩
  obtain ⟨m2, hm2⟩ : ∃ m : Nat, m = m1 + 65536 * b6.toNat := ⟨_, rfl⟩
  rw [← hm1] at o2 o3 o4
  rw [← hm2] at o3 o4
  clear hm1 hm2
  have j0 : (0 : Int) < 8 := by decide
  go_enter Try.func44, Try.ntmps44
  go_upto_region 1 with fail
  obtain ⟨w1, hw1⟩ : ∃ w1, w1 = w.alloc (.cells #[.int .u8 0, .int .u8 0, .int .u8 0, .int .i16 0, .int .i32 0] 34) := ⟨_, rfl⟩
  rw [← hw1] at HS ⊢
  clear hw1
  obtain ⟨g, hg⟩ : ∃ g, g = w.heap.size := ⟨_, rfl⟩
  rw [← hg] at HS ⊢
  have HG := Lib.hid hg
  clear hg
  refine wp_region_noPanic ?_
  refine wp_region_held_drew (S := fun w' => SB w w' A g b0 b1 b2 b3 b4 b5 b6 b7) (by kernel_rfl) (SB.mk' HS.out.cal.drew HC.out.1 HC.out.2.1 HC.out.2.2.1 HC.out.2.2.2.1 HC.out.2.2.2.2.1 HC.out.2.2.2.2.2.1 HC.out.2.2.2.2.2.2.1 HC.out.2.2.2.2.2.2.2 HS.out.row) (fun hHeld => ?_)
  refine take_at 0 3 (.slice (some A) 8 cap) rfl rfl (by kernel_rfl) (by kernel_rfl) (by kernel_rfl) (fun _ _ _ h => h) (Or.inl ⟨by rfl, ?_⟩) hHeld ?_
  · intro w hSw; go_simp
  simp only [List.setIfInBounds_toArray, List.set_cons_zero, List.set_cons_succ]
  refine take_at 1 4 (.pointer (some A)) rfl rfl (by kernel_rfl) (by kernel_rfl) (by kernel_rfl) (fun _ _ _ h => h) (Or.inl ⟨by rfl, ?_⟩) hHeld ?_
  · intro w hSw; go_simp
  simp only [List.setIfInBounds_toArray, List.set_cons_zero, List.set_cons_succ]
  refine take_at 2 5 (.int .u8 (b0.toNat : Int)) rfl rfl (by kernel_rfl) (by kernel_rfl) (by kernel_rfl) (fun _ _ _ h => h) (Or.inl ⟨by rfl, ?_⟩) hHeld ?_
  · intro w hSw; have c := hSw.c0; go_simp
  simp only [List.setIfInBounds_toArray, List.set_cons_zero, List.set_cons_succ]
  refine take_at 3 6 (.slice (some A) 8 cap) rfl rfl (by kernel_rfl) (by kernel_rfl) (by kernel_rfl) (fun _ _ _ h => h) (Or.inl ⟨by rfl, ?_⟩) hHeld ?_
  · intro w hSw; go_simp
  simp only [List.setIfInBounds_toArray, List.set_cons_zero, List.set_cons_succ]
  refine take_at 4 7 (.pointer (some ⟨A.block, A.off + 1, none⟩)) rfl rfl (by kernel_rfl) (by kernel_rfl) (by kernel_rfl) (fun _ _ _ h => h) (Or.inl ⟨by rfl, ?_⟩) hHeld ?_
  · intro w hSw; go_simp
  simp only [List.setIfInBounds_toArray, List.set_cons_zero, List.set_cons_succ]
  refine take_at 5 8 (.int .u8 (b1.toNat : Int)) rfl rfl (by kernel_rfl) (by kernel_rfl) (by kernel_rfl) (fun _ _ _ h => h) (Or.inl ⟨by rfl, ?_⟩) hHeld ?_
  · intro w hSw; have c := hSw.c1; go_simp
  simp only [List.setIfInBounds_toArray, List.set_cons_zero, List.set_cons_succ]
  refine take_at 6 9 (.int .u8 ((b1.toNat : Int) % 16)) rfl rfl (by kernel_rfl) (by kernel_rfl) (by kernel_rfl) (fun _ _ _ h => h) (Or.inl ⟨by rfl, ?_⟩) hHeld ?_
  · intro w hSw; go_simp
  simp only [List.setIfInBounds_toArray, List.set_cons_zero, List.set_cons_succ]
  refine take_at 7 10 (.slice (some A) 8 cap) rfl rfl (by kernel_rfl) (by kernel_rfl) (by kernel_rfl) (fun _ _ _ h => h) (Or.inl ⟨by rfl, ?_⟩) hHeld ?_
  · intro w hSw; go_simp
  simp only [List.setIfInBounds_toArray, List.set_cons_zero, List.set_cons_succ]
  refine take_at 8 11 (.pointer (some ⟨A.block, A.off + 1, none⟩)) rfl rfl (by kernel_rfl) (by kernel_rfl) (by kernel_rfl) (fun _ _ _ h => h) (Or.inl ⟨by rfl, ?_⟩) hHeld ?_
  · intro w hSw; go_simp
  simp only [List.setIfInBounds_toArray, List.set_cons_zero, List.set_cons_succ]
  refine take_at 9 12 (.int .u8 (b1.toNat : Int)) rfl rfl (by kernel_rfl) (by kernel_rfl) (by kernel_rfl) (fun _ _ _ h => h) (Or.inl ⟨by rfl, ?_⟩) hHeld ?_
  · intro w hSw; have c := hSw.c1; go_simp
  simp only [List.setIfInBounds_toArray, List.set_cons_zero, List.set_cons_succ]
  refine take_at 10 13 (.int .u8 ((b1.toNat : Int) / 16)) rfl rfl (by kernel_rfl) (by kernel_rfl) (by kernel_rfl) (fun _ _ _ h => h) (Or.inl ⟨by rfl, ?_⟩) hHeld ?_
  · intro w hSw; go_simp
  simp only [List.setIfInBounds_toArray, List.set_cons_zero, List.set_cons_succ]
  refine take_at 11 14 (.slice (some A) 8 cap) rfl rfl (by kernel_rfl) (by kernel_rfl) (by kernel_rfl) (fun _ _ _ h => h) (Or.inl ⟨by rfl, ?_⟩) hHeld ?_
  · intro w hSw; go_simp
  simp only [List.setIfInBounds_toArray, List.set_cons_zero, List.set_cons_succ]
  refine take_at 12 15 (.pointer (some ⟨A.block, A.off + 2, none⟩)) rfl rfl (by kernel_rfl) (by kernel_rfl) (by kernel_rfl) (fun _ _ _ h => h) (Or.inl ⟨by rfl, ?_⟩) hHeld ?_
  · intro w hSw; go_simp
  simp only [List.setIfInBounds_toArray, List.set_cons_zero, List.set_cons_succ]
  refine take_at 13 16 (.int .u8 (b2.toNat : Int)) rfl rfl (by kernel_rfl) (by kernel_rfl) (by kernel_rfl) (fun _ _ _ h => h) (Or.inl ⟨by rfl, ?_⟩) hHeld ?_
  · intro w hSw; have c := hSw.c2; go_simp
  simp only [List.setIfInBounds_toArray, List.set_cons_zero, List.set_cons_succ]
  refine take_at 14 17 (.int .i16 (b2.toNat : Int)) rfl rfl (by kernel_rfl) (by kernel_rfl) (by kernel_rfl) (fun _ _ _ h => h) (Or.inl ⟨by rfl, ?_⟩) hHeld ?_
  · intro w hSw; go_simp
  simp only [List.setIfInBounds_toArray, List.set_cons_zero, List.set_cons_succ]
  refine take_at 15 18 (.slice (some A) 8 cap) rfl rfl (by kernel_rfl) (by kernel_rfl) (by kernel_rfl) (fun _ _ _ h => h) (Or.inl ⟨by rfl, ?_⟩) hHeld ?_
  · intro w hSw; go_simp
  simp only [List.setIfInBounds_toArray, List.set_cons_zero, List.set_cons_succ]
  refine take_at 16 19 (.pointer (some ⟨A.block, A.off + 3, none⟩)) rfl rfl (by kernel_rfl) (by kernel_rfl) (by kernel_rfl) (fun _ _ _ h => h) (Or.inl ⟨by rfl, ?_⟩) hHeld ?_
  · intro w hSw; go_simp
  simp only [List.setIfInBounds_toArray, List.set_cons_zero, List.set_cons_succ]
  refine take_at 17 20 (.int .u8 (b3.toNat : Int)) rfl rfl (by kernel_rfl) (by kernel_rfl) (by kernel_rfl) (fun _ _ _ h => h) (Or.inl ⟨by rfl, ?_⟩) hHeld ?_
  · intro w hSw; have c := hSw.c3; go_simp
  simp only [List.setIfInBounds_toArray, List.set_cons_zero, List.set_cons_succ]
  refine take_at 18 21 (.int .i16 (b3.toNat : Int)) rfl rfl (by kernel_rfl) (by kernel_rfl) (by kernel_rfl) (fun _ _ _ h => h) (Or.inl ⟨by rfl, ?_⟩) hHeld ?_
  · intro w hSw; go_simp
  simp only [List.setIfInBounds_toArray, List.set_cons_zero, List.set_cons_succ]
  refine take_at 19 22 (.int .i16 (IntKind.i16.wrap ((b3.toNat : Int) * 256))) rfl rfl (by kernel_rfl) (by kernel_rfl) (by kernel_rfl) (fun _ _ _ h => h) (Or.inl ⟨by rfl, ?_⟩) hHeld ?_
  · intro w hSw; go_simp
  simp only [List.setIfInBounds_toArray, List.set_cons_zero, List.set_cons_succ]
  refine take_at 20 23 (.int .i16 OF) rfl rfl (by kernel_rfl) (by kernel_rfl) (by kernel_rfl) (fun _ _ _ h => h) (Or.inl ⟨by rfl, ?_⟩) hHeld ?_
  · intro w hSw; go_simp
  simp only [List.setIfInBounds_toArray, List.set_cons_zero, List.set_cons_succ]
  refine take_at 21 24 (.slice (some A) 8 cap) rfl rfl (by kernel_rfl) (by kernel_rfl) (by kernel_rfl) (fun _ _ _ h => h) (Or.inl ⟨by rfl, ?_⟩) hHeld ?_
  · intro w hSw; go_simp
  simp only [List.setIfInBounds_toArray, List.set_cons_zero, List.set_cons_succ]
  refine take_at 22 25 (.pointer (some ⟨A.block, A.off + 4, none⟩)) rfl rfl (by kernel_rfl) (by kernel_rfl) (by kernel_rfl) (fun _ _ _ h => h) (Or.inl ⟨by rfl, ?_⟩) hHeld ?_
  · intro w hSw; go_simp
  simp only [List.setIfInBounds_toArray, List.set_cons_zero, List.set_cons_succ]
  refine take_at 23 26 (.int .u8 (b4.toNat : Int)) rfl rfl (by kernel_rfl) (by kernel_rfl) (by kernel_rfl) (fun _ _ _ h => h) (Or.inl ⟨by rfl, ?_⟩) hHeld ?_
  · intro w hSw; have c := hSw.c4; go_simp
  simp only [List.setIfInBounds_toArray, List.set_cons_zero, List.set_cons_succ]
  refine take_at 24 27 (.int .i32 (b4.toNat : Int)) rfl rfl (by kernel_rfl) (by kernel_rfl) (by kernel_rfl) (fun _ _ _ h => h) (Or.inl ⟨by rfl, ?_⟩) hHeld ?_
  · intro w hSw; go_simp
  simp only [List.setIfInBounds_toArray, List.set_cons_zero, List.set_cons_succ]
  refine take_at 25 28 (.slice (some A) 8 cap) rfl rfl (by kernel_rfl) (by kernel_rfl) (by kernel_rfl) (fun _ _ _ h => h) (Or.inl ⟨by rfl, ?_⟩) hHeld ?_
  · intro w hSw; go_simp
  simp only [List.setIfInBounds_toArray, List.set_cons_zero, List.set_cons_succ]
  refine take_at 26 29 (.pointer (some ⟨A.block, A.off + 5, none⟩)) rfl rfl (by kernel_rfl) (by kernel_rfl) (by kernel_rfl) (fun _ _ _ h => h) (Or.inl ⟨by rfl, ?_⟩) hHeld ?_
  · intro w hSw; go_simp
  simp only [List.setIfInBounds_toArray, List.set_cons_zero, List.set_cons_succ]
  refine take_at 27 30 (.int .u8 (b5.toNat : Int)) rfl rfl (by kernel_rfl) (by kernel_rfl) (by kernel_rfl) (fun _ _ _ h => h) (Or.inl ⟨by rfl, ?_⟩) hHeld ?_
  · intro w hSw; have c := hSw.c5; go_simp
  simp only [List.setIfInBounds_toArray, List.set_cons_zero, List.set_cons_succ]
  refine take_at 28 31 (.int .i32 (b5.toNat : Int)) rfl rfl (by kernel_rfl) (by kernel_rfl) (by kernel_rfl) (fun _ _ _ h => h) (Or.inl ⟨by rfl, ?_⟩) hHeld ?_
  · intro w hSw; go_simp
  simp only [List.setIfInBounds_toArray, List.set_cons_zero, List.set_cons_succ]
  refine take_at 29 32 (.int .i32 (IntKind.i32.wrap ((b5.toNat : Int) * 256))) rfl rfl (by kernel_rfl) (by kernel_rfl) (by kernel_rfl) (fun _ _ _ h => h) (Or.inl ⟨by rfl, ?_⟩) hHeld ?_
  · intro w hSw; go_simp
  simp only [List.setIfInBounds_toArray, List.set_cons_zero, List.set_cons_succ]
  refine take_at 30 33 (.int .i32 (m1 : Int)) rfl rfl (by kernel_rfl) (by kernel_rfl) (by kernel_rfl) (fun _ _ _ h => h) (Or.inl ⟨by rfl, ?_⟩) hHeld ?_
  · intro w hSw; go_simp
  simp only [List.setIfInBounds_toArray, List.set_cons_zero, List.set_cons_succ]
  refine take_at 31 34 (.slice (some A) 8 cap) rfl rfl (by kernel_rfl) (by kernel_rfl) (by kernel_rfl) (fun _ _ _ h => h) (Or.inl ⟨by rfl, ?_⟩) hHeld ?_
  · intro w hSw; go_simp
  simp only [List.setIfInBounds_toArray, List.set_cons_zero, List.set_cons_succ]
  refine take_at 32 35 (.pointer (some ⟨A.block, A.off + 6, none⟩)) rfl rfl (by kernel_rfl) (by kernel_rfl) (by kernel_rfl) (fun _ _ _ h => h) (Or.inl ⟨by rfl, ?_⟩) hHeld ?_
  · intro w hSw; go_simp
  simp only [List.setIfInBounds_toArray, List.set_cons_zero, List.set_cons_succ]
  refine take_at 33 36 (.int .u8 (b6.toNat : Int)) rfl rfl (by kernel_rfl) (by kernel_rfl) (by kernel_rfl) (fun _ _ _ h => h) (Or.inl ⟨by rfl, ?_⟩) hHeld ?_
  · intro w hSw; have c := hSw.c6; go_simp
  simp only [List.setIfInBounds_toArray, List.set_cons_zero, List.set_cons_succ]
  refine take_at 34 37 (.int .i32 (b6.toNat : Int)) rfl rfl (by kernel_rfl) (by kernel_rfl) (by kernel_rfl) (fun _ _ _ h => h) (Or.inl ⟨by rfl, ?_⟩) hHeld ?_
  · intro w hSw; go_simp
  simp only [List.setIfInBounds_toArray, List.set_cons_zero, List.set_cons_succ]
  refine take_at 35 38 (.int .i32 (IntKind.i32.wrap ((b6.toNat : Int) * 65536))) rfl rfl (by kernel_rfl) (by kernel_rfl) (by kernel_rfl) (fun _ _ _ h => h) (Or.inl ⟨by rfl, ?_⟩) hHeld ?_
  · intro w hSw; go_simp
  simp only [List.setIfInBounds_toArray, List.set_cons_zero, List.set_cons_succ]
  refine take_at 36 39 (.int .i32 (m2 : Int)) rfl rfl (by kernel_rfl) (by kernel_rfl) (by kernel_rfl) (fun _ _ _ h => h) (Or.inl ⟨by rfl, ?_⟩) hHeld ?_
  · intro w hSw; go_simp
  simp only [List.setIfInBounds_toArray, List.set_cons_zero, List.set_cons_succ]
  refine take_at 37 40 (.slice (some A) 8 cap) rfl rfl (by kernel_rfl) (by kernel_rfl) (by kernel_rfl) (fun _ _ _ h => h) (Or.inl ⟨by rfl, ?_⟩) hHeld ?_
  · intro w hSw; go_simp
  simp only [List.setIfInBounds_toArray, List.set_cons_zero, List.set_cons_succ]
  refine take_at 38 41 (.pointer (some ⟨A.block, A.off + 7, none⟩)) rfl rfl (by kernel_rfl) (by kernel_rfl) (by kernel_rfl) (fun _ _ _ h => h) (Or.inl ⟨by rfl, ?_⟩) hHeld ?_
  · intro w hSw; go_simp
  simp only [List.setIfInBounds_toArray, List.set_cons_zero, List.set_cons_succ]
  refine take_at 39 42 (.int .u8 (b7.toNat : Int)) rfl rfl (by kernel_rfl) (by kernel_rfl) (by kernel_rfl) (fun _ _ _ h => h) (Or.inl ⟨by rfl, ?_⟩) hHeld ?_
  · intro w hSw; have c := hSw.c7; go_simp
  simp only [List.setIfInBounds_toArray, List.set_cons_zero, List.set_cons_succ]
  refine take_at 40 43 (.int .i32 (b7.toNat : Int)) rfl rfl (by kernel_rfl) (by kernel_rfl) (by kernel_rfl) (fun _ _ _ h => h) (Or.inl ⟨by rfl, ?_⟩) hHeld ?_
  · intro w hSw; go_simp
  simp only [List.setIfInBounds_toArray, List.set_cons_zero, List.set_cons_succ]
  refine take_at 41 44 (.int .i32 (IntKind.i32.wrap ((b7.toNat : Int) * 16777216))) rfl rfl (by kernel_rfl) (by kernel_rfl) (by kernel_rfl) (fun _ _ _ h => h) (Or.inl ⟨by rfl, ?_⟩) hHeld ?_
  · intro w hSw; go_simp
  simp only [List.setIfInBounds_toArray, List.set_cons_zero, List.set_cons_succ]
  refine take_at 42 45 (.int .i32 IM) rfl rfl (by kernel_rfl) (by kernel_rfl) (by kernel_rfl) (fun _ _ _ h => h) (Or.inl ⟨by rfl, ?_⟩) hHeld ?_
  · intro w hSw; go_simp
  simp only [List.setIfInBounds_toArray, List.set_cons_zero, List.set_cons_succ]
  refine take_at 43 46 (.agg #[.int .u8 (b0.toNat : Int), .int .u8 ((b1.toNat : Int) % 16), .int .u8 ((b1.toNat : Int) / 16), .int .i16 OF, .int .i32 IM]) rfl rfl (by kernel_rfl) (by kernel_rfl) (by kernel_rfl) (fun _ _ _ h => h) (Or.inl ⟨by rfl, ?_⟩) hHeld ?_
  · intro w hSw; go_simp
  simp only [List.setIfInBounds_toArray, List.set_cons_zero, List.set_cons_succ]
  obtain ⟨v0, v1, v2, v3, v4, hrow⟩ := hHeld.row
  obtain ⟨w2, hw2⟩ : ∃ w2, w2 = w1.drew := ⟨_, rfl⟩
  rw [← hw2] at hrow hHeld ⊢
  clear hw2
  have d0 : w2.cell? ⟨g, 0, none⟩ = some v0 := hrow.cell 0
  have d1 : w2.cell? ⟨g, 1, none⟩ = some v1 := hrow.cell 1
  have d2 : w2.cell? ⟨g, 2, none⟩ = some v2 := hrow.cell 2
  have d3 : w2.cell? ⟨g, 3, none⟩ = some v3 := hrow.cell 3
  have d4 : w2.cell? ⟨g, 4, none⟩ = some v4 := hrow.cell 4
  have f0 : ∀ i, w2.frozen? ⟨g, i, none⟩ = false := fun i => hrow.soft i
  refine wpAnyH_ready (rs := [44]) (by kernel_rfl) (by simp) ?_
  refine AllReadyH.cons rfl (fun K hK => ?_) AllReadyH.nil
  go_simp
  refine hK.out _ _ (SB.mk' (Keep.store (Keep.store (Keep.store (Keep.store (Keep.store hHeld.cal (p := ⟨g, 0, none⟩) (fun e => absurd e (by show ¬ g < _; rw [HG.out]; exact Nat.lt_irrefl _)) _) (p := ⟨g, 1, none⟩) (fun e => absurd e (by show ¬ g < _; rw [HG.out]; exact Nat.lt_irrefl _)) _) (p := ⟨g, 2, none⟩) (fun e => absurd e (by show ¬ g < _; rw [HG.out]; exact Nat.lt_irrefl _)) _) (p := ⟨g, 3, none⟩) (fun e => absurd e (by show ¬ g < _; rw [HG.out]; exact Nat.lt_irrefl _)) _) (p := ⟨g, 4, none⟩) (fun e => absurd e (by show ¬ g < _; rw [HG.out]; exact Nat.lt_irrefl _)) _) HC.out.1 HC.out.2.1 HC.out.2.2.1 HC.out.2.2.2.1 HC.out.2.2.2.2.1 HC.out.2.2.2.2.2.1 HC.out.2.2.2.2.2.2.1 HC.out.2.2.2.2.2.2.2 ⟨_, _, _, _, _, ((((hrow.store 0 _).store 1 _).store 2 _).store 3 _).store 4 _⟩) (fun hHeld => ?_)
  clear hK K
  try simp only [List.setIfInBounds_toArray, List.set_cons_zero, List.set_cons_succ]
  refine wpAnyH_done (by kernel_rfl) (NoPanic.normal ?_) _
  go_wp2_with fail
  have hR := ((((hrow.store 0 (.int .u8 (b0.toNat : Int))).store 1 (.int .u8 ((b1.toNat : Int) % 16))).store 2 (.int .u8 ((b1.toNat : Int) / 16))).store 3 (.int .i16 OF)).store 4 (.int .i32 IM)
  obtain ⟨w5, h5⟩ : ∃ w5, w5 = ((((w2.setCell ⟨g, 0, none⟩ (.int .u8 (b0.toNat : Int))).setCell ⟨g, 1, none⟩ (.int .u8 ((b1.toNat : Int) % 16))).setCell ⟨g, 2, none⟩ (.int .u8 ((b1.toNat : Int) / 16))).setCell ⟨g, 3, none⟩ (.int .i16 OF)).setCell ⟨g, 4, none⟩ (.int .i32 IM) := ⟨_, rfl⟩
  rw [← h5] at hR hHeld ⊢
  have q0 : w5.cell? ⟨g, 0, none⟩ = some (.int .u8 (b0.toNat : Int)) := hR.cell 0
  have q1 : w5.cell? ⟨g, 1, none⟩ = some (.int .u8 ((b1.toNat : Int) % 16)) := hR.cell 1
  have q2 : w5.cell? ⟨g, 2, none⟩ = some (.int .u8 ((b1.toNat : Int) / 16)) := hR.cell 2
  have q3 : w5.cell? ⟨g, 3, none⟩ = some (.int .i16 OF) := hR.cell 3
  have q4 : w5.cell? ⟨g, 4, none⟩ = some (.int .i32 IM) := hR.cell 4
  refine bodyPost_ret (by simp [results, Try.results44, go_sem, q0, q1, q2, q3, q4]; try rfl) rfl ?_
  exact ⟨by unfold In.v dec1; rw [HOF.out, HIM.out]; rfl, hHeld.cal⟩
end
end Go.Proofs.Ythmiiddojccafaa
