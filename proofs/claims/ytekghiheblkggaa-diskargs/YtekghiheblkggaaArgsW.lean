/-
  DiskArgs: the walk.
-/
import Derived.Test.YtekghiheblkggaaLaw1
import Derived.Test.YtekghiheblkggaaMasks
namespace Go.Proofs.Ytekghiheblkggaa
open Go.RowKit
set_option linter.all false

theorem run_makeI (w : World) (L : Int) (n : Nat) (hL : L = (n : Int)) (hn : n ≤ 1000000) :
    Sem.run Try.prog (Instr.makeSlice 45 (.int .i64 L) (.int .i64 L)) w = .ok (.slice (some ⟨w.heap.size, 0, none⟩) n n) (w.alloc (.cells (zeros (.int .u8 0) n) 5)) := by
  subst hL
  exact run_make1 w 45 5 (.int .u8 0) 1 n Try.underlying45 info5 rfl (by omega) (by omega)

set_option maxHeartbeats 6400000 in
theorem diskArgs_c (a0 a1 a2 : Int) (a3 : Bool) (w : World) :
    Calls Try.prog 9 #[.int .i64 a0, .int .i64 a1, .int .i64 a2, .bool a3] w fun e w' => e = .returned (.bool true) ∧ Calm w w' := by
  obtain ⟨n, hn, en⟩ := mask_nat a0 4 15 (by omega) (by decide)
  obtain ⟨sz, hsz, es⟩ := mask_nat a2 3 7 (by omega) (by decide)
  obtain ⟨N, hN⟩ : ∃ N : Nat, N = 1 + n := ⟨_, rfl⟩
  obtain ⟨Z, hZ⟩ : ∃ Z : Nat, Z = 508 + sz := ⟨_, rfl⟩
  have eN : (1 : Int) + (n : Int) = (N : Int) := by omega
  have eZ : (508 : Int) + (sz : Int) = (Z : Int) := by omega
  have N1 : 1 ≤ N := by omega
  have N2 : N ≤ 16 := by omega
  have Z1 : 508 ≤ Z := by omega
  have Z2 : Z ≤ 515 := by omega
  clear hN hZ
  go_enter Try.func9, Try.ntmps9
  go_wp2_with fail
  refine (shown_c w).mono ?_
  rintro e w1 ⟨rfl, hc⟩
  have c1 := Lib.hid hc
  clear hc
  go_wp2_with fail
  refine (new_ok w1 N (by omega) (by omega)).mono ?_
  rintro e w2 ⟨d, rfl, hd, hc⟩
  have s2 := Lib.hid (St.made hd hc)
  clear hd hc en es eN eZ
  generalize Grow (fun _ => False) w1 w2 = R2 at s2
  go_wp2_with fail
  refine (st_arm s2.out 1 (by omega) (by simp [big]) (.slice none 0 0) [] (Bools.none_ _ _) (by simp)).mono ?_
  rintro e w3 ⟨rfl, h, k⟩
  have s3 := Lib.hid h
  clear h k s2
  generalize Grow R2 w2 w3 = R3 at s3
  have hl0 : (List.replicate N (full 0)).length = N := List.length_replicate
  cases a3
  · by_cases hin : 0 ≤ a1 ∧ a1 < N
    · obtain ⟨x, rfl⟩ := Int.eq_ofNat_of_zero_le hin.1
      have hx0 : (0 : Int) ≤ (x : Int) := hin.1
      have hx1 : (x : Int) < (N : Int) := hin.2
      clear hin
      by_cases h512 : Z = 512
      · subst h512
        have q := run_makeI w3 512 512 rfl (by omega)
        have s4 := Lib.hid (s3.out.rest ((Keep.refl (fun _ => False) w3).alloc (.cells (zeros (.int .u8 0) 512) 5)))
        have D4 := Lib.hid (data_zero (Row.made w3 5 (zeros (.int .u8 0) 512)) (fun k => ¬ R3 k) (s3.out.fresh (Nat.le_refl _)))
        clear hl0
        go_wp2_with fail
        refine (st_write s4.out (by simp) (by simp) rfl x (by simp; omega) w3.heap.size 512 (full 0) D4.out (fun _ h => h)).mono ?_
        rintro e w4 ⟨rfl, h, k⟩
        have s5' := Lib.hid h
        clear h k s4 D4 q s3
        generalize Grow R3 _ w4 = R4 at s5'
        go_wp2_with fail
        refine (st_read_no s5'.out (by simp) (by simp) rfl x (by simp; omega)).mono ?_
        rintro e w5 ⟨rfl, h, k⟩
        have s5 := Lib.hid h
        clear h k s5'
        go_wp2_with fail
        refine (isops_c s5.out.disk).mono ?_
        rintro e w9 ⟨rfl, rfl⟩
        go_wp2_with fail
        go_ret
        exact ⟨rfl, c1.out.trans s5.out.calm⟩
      · have z1 : ((Z : Int) != 512) = true := by rw [bne_iff_ne]; omega
        have q := run_makeI w3 Z Z rfl (by omega)
        have s4 := Lib.hid (s3.out.rest ((Keep.refl (fun _ => False) w3).alloc (.cells (zeros (.int .u8 0) Z) 5)))
        clear hl0
        go_wp2_with fail
        refine (write_arg s4.out.disk x _ Z Z (.inr h512)).mono ?_
        rintro e w4 ⟨rfl, rfl⟩
        go_wp2_with fail
        refine (st_read s4.out (by simp) (by simp) rfl x (by simp; omega)).mono ?_
        rintro e w5 ⟨g, cp, rfl, _, h, k⟩
        have s5 := Lib.hid h
        clear h k s4 q s3
        go_wp2_with fail
        refine (isops_c s5.out.disk).mono ?_
        rintro e w9 ⟨rfl, rfl⟩
        go_wp2_with fail
        go_ret
        exact ⟨rfl, c1.out.trans s5.out.calm⟩
    · have q := run_makeI w3 Z Z rfl (by omega)
      have s5 := Lib.hid (s3.out.rest ((Keep.refl (fun _ => False) w3).alloc (.cells (zeros (.int .u8 0) Z) 5)))
      have Hin := Lib.hid hin
      clear hl0 hin
      by_cases h0 : 0 ≤ a1
      · have h1 : ¬ a1 < N := fun e => Hin.out ⟨h0, e⟩
        go_wp2_with fail
        refine (write_arg s5.out.disk a1 _ Z Z (.inl (by simpa using Hin.out))).mono ?_
        rintro e w4 ⟨rfl, rfl⟩
        go_wp2_with fail
        refine (read_arg s5.out.disk a1 (by simpa using Hin.out)).mono ?_
        rintro e w5 ⟨rfl, rfl⟩
        go_wp2_with fail
        refine (isops_c s5.out.disk).mono ?_
        rintro e w9 ⟨rfl, rfl⟩
        go_wp2_with fail
        go_ret
        exact ⟨rfl, c1.out.trans s5.out.calm⟩
      · go_wp2_with fail
        refine (write_arg s5.out.disk a1 _ Z Z (.inl (by simpa using Hin.out))).mono ?_
        rintro e w4 ⟨rfl, rfl⟩
        go_wp2_with fail
        refine (read_arg s5.out.disk a1 (by simpa using Hin.out)).mono ?_
        rintro e w5 ⟨rfl, rfl⟩
        go_wp2_with fail
        refine (isops_c s5.out.disk).mono ?_
        rintro e w9 ⟨rfl, rfl⟩
        go_wp2_with fail
        go_ret
        exact ⟨rfl, c1.out.trans s5.out.calm⟩
  · go_wp2_with fail
    refine (st_crash s3.out (by simp) _ [] (Bools.none_ _ _) (by simp)).mono ?_
    rintro e w4 ⟨rfl, h, k⟩
    have s4 := Lib.hid h
    clear h k s3 hl0
    by_cases hin : 0 ≤ a1 ∧ a1 < N
    · obtain ⟨x, rfl⟩ := Int.eq_ofNat_of_zero_le hin.1
      have hx0 : (0 : Int) ≤ (x : Int) := hin.1
      have hx1 : (x : Int) < (N : Int) := hin.2
      clear hin
      by_cases h512 : Z = 512
      · subst h512
        have q := run_makeI w4 512 512 rfl (by omega)
        have s4' := Lib.hid (s4.out.rest ((Keep.refl (fun _ => False) w4).alloc (.cells (zeros (.int .u8 0) 512) 5)))
        go_wp2_with fail
        refine (st_write_no s4'.out (by simp [DS.crash]) (by simp [DS.crash]) rfl x (by simp [DS.crash, putTo_len]; omega) _ 512).mono ?_
        rintro e w4 ⟨rfl, h, k⟩
        have s5' := Lib.hid h
        clear h k s4 s4' q
        go_wp2_with fail
        refine (st_read_no s5'.out (by simp [DS.crash]) (by simp [DS.crash]) rfl x (by simp [DS.crash, putTo_len]; omega)).mono ?_
        rintro e w5 ⟨rfl, h, k⟩
        have s5 := Lib.hid h
        clear h k s5'
        go_wp2_with fail
        refine (isops_c s5.out.disk).mono ?_
        rintro e w9 ⟨rfl, rfl⟩
        go_wp2_with fail
        go_ret
        exact ⟨rfl, c1.out.trans s5.out.calm⟩
      · have z1 : ((Z : Int) != 512) = true := by rw [bne_iff_ne]; omega
        have q := run_makeI w4 Z Z rfl (by omega)
        have s4' := Lib.hid (s4.out.rest ((Keep.refl (fun _ => False) w4).alloc (.cells (zeros (.int .u8 0) Z) 5)))
        go_wp2_with fail
        refine (write_arg s4'.out.disk x _ Z Z (.inr h512)).mono ?_
        rintro e w4 ⟨rfl, rfl⟩
        go_wp2_with fail
        refine (st_read_no s4'.out (by simp [DS.crash]) (by simp [DS.crash]) rfl x (by simp [DS.crash, putTo_len]; omega)).mono ?_
        rintro e w5 ⟨rfl, h, k⟩
        have s5 := Lib.hid h
        clear h k s4 s4' q
        go_wp2_with fail
        refine (isops_c s5.out.disk).mono ?_
        rintro e w9 ⟨rfl, rfl⟩
        go_wp2_with fail
        go_ret
        exact ⟨rfl, c1.out.trans s5.out.calm⟩
    · have q := run_makeI w4 Z Z rfl (by omega)
      have s5 := Lib.hid (s4.out.rest ((Keep.refl (fun _ => False) w4).alloc (.cells (zeros (.int .u8 0) Z) 5)))
      have Hin := Lib.hid hin
      clear hin
      by_cases h0 : 0 ≤ a1
      · have h1 : ¬ a1 < N := fun e => Hin.out ⟨h0, e⟩
        go_wp2_with fail
        refine (write_arg s5.out.disk a1 _ Z Z (.inl (by simpa [DS.crash, putTo_len] using Hin.out))).mono ?_
        rintro e w4 ⟨rfl, rfl⟩
        go_wp2_with fail
        refine (read_arg s5.out.disk a1 (by simpa [DS.crash, putTo_len] using Hin.out)).mono ?_
        rintro e w5 ⟨rfl, rfl⟩
        go_wp2_with fail
        refine (isops_c s5.out.disk).mono ?_
        rintro e w9 ⟨rfl, rfl⟩
        go_wp2_with fail
        go_ret
        exact ⟨rfl, c1.out.trans s5.out.calm⟩
      · go_wp2_with fail
        refine (write_arg s5.out.disk a1 _ Z Z (.inl (by simpa [DS.crash, putTo_len] using Hin.out))).mono ?_
        rintro e w4 ⟨rfl, rfl⟩
        go_wp2_with fail
        refine (read_arg s5.out.disk a1 (by simpa [DS.crash, putTo_len] using Hin.out)).mono ?_
        rintro e w5 ⟨rfl, rfl⟩
        go_wp2_with fail
        refine (isops_c s5.out.disk).mono ?_
        rintro e w9 ⟨rfl, rfl⟩
        go_wp2_with fail
        go_ret
        exact ⟨rfl, c1.out.trans s5.out.calm⟩
end Go.Proofs.Ytekghiheblkggaa
