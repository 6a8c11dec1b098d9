/-
  The walk of AluTurned.
-/
import Derived.Test.YtilkmopclijclaaA4
import Derived.Test.YtilkmopclijclaaAL
namespace Go.Proofs.Ytilkmopclijclaa
open Go.RowKit
set_option linter.all false


set_option maxHeartbeats 3200000 in
theorem aluTurned_false {a b : Nat} (ha : a < 18446744073709551616) (hb : b < 18446744073709551616) (w : World) : Calls Try.prog 7 #[.bool false, .int .u64 (a : Int), .int .u64 (b : Int)] w fun e w' => e = .returned (.bool true) ∧ Calm w w' := by
  obtain ⟨t16, e16⟩ : ∃ z, z = T (bW false) 16 a b := ⟨_, rfl⟩
  have K16 : Hid (∀ w, Calls Try.prog 18 #[.int .u8 16, .bool false, .int .u64 (a : Int), .int .u64 (b : Int)] w fun ee w' => ee = .returned (.tuple #[.bool t16, .bool true]) ∧ Calm w w') := Lib.hid fun w => by
    have h := test_c (op := 16) (a := a) (b := b) false w ha hb
    rw [← e16] at h
    exact h
  obtain ⟨t32, e32⟩ : ∃ z, z = T (bW false) 32 a b := ⟨_, rfl⟩
  have K32 : Hid (∀ w, Calls Try.prog 18 #[.int .u8 32, .bool false, .int .u64 (a : Int), .int .u64 (b : Int)] w fun ee w' => ee = .returned (.tuple #[.bool t32, .bool true]) ∧ Calm w w') := Lib.hid fun w => by
    have h := test_c (op := 32) (a := a) (b := b) false w ha hb
    rw [← e32] at h
    exact h
  obtain ⟨t48, e48⟩ : ∃ z, z = T (bW false) 48 a b := ⟨_, rfl⟩
  have K48 : Hid (∀ w, Calls Try.prog 18 #[.int .u8 48, .bool false, .int .u64 (a : Int), .int .u64 (b : Int)] w fun ee w' => ee = .returned (.tuple #[.bool t48, .bool true]) ∧ Calm w w') := Lib.hid fun w => by
    have h := test_c (op := 48) (a := a) (b := b) false w ha hb
    rw [← e48] at h
    exact h
  obtain ⟨t96, e96⟩ : ∃ z, z = T (bW false) 96 a b := ⟨_, rfl⟩
  have K96 : Hid (∀ w, Calls Try.prog 18 #[.int .u8 96, .bool false, .int .u64 (a : Int), .int .u64 (b : Int)] w fun ee w' => ee = .returned (.tuple #[.bool t96, .bool true]) ∧ Calm w w') := Lib.hid fun w => by
    have h := test_c (op := 96) (a := a) (b := b) false w ha hb
    rw [← e96] at h
    exact h
  obtain ⟨t112, e112⟩ : ∃ z, z = T (bW false) 112 a b := ⟨_, rfl⟩
  have K112 : Hid (∀ w, Calls Try.prog 18 #[.int .u8 112, .bool false, .int .u64 (a : Int), .int .u64 (b : Int)] w fun ee w' => ee = .returned (.tuple #[.bool t112, .bool true]) ∧ Calm w w') := Lib.hid fun w => by
    have h := test_c (op := 112) (a := a) (b := b) false w ha hb
    rw [← e112] at h
    exact h
  obtain ⟨t64, e64⟩ : ∃ z, z = T (bW false) 64 a b := ⟨_, rfl⟩
  have K64 : Hid (∀ w, Calls Try.prog 18 #[.int .u8 64, .bool false, .int .u64 (a : Int), .int .u64 (b : Int)] w fun ee w' => ee = .returned (.tuple #[.bool t64, .bool true]) ∧ Calm w w') := Lib.hid fun w => by
    have h := test_c (op := 64) (a := a) (b := b) false w ha hb
    rw [← e64] at h
    exact h
  have M0 : Hid (∀ w, Calls Try.prog 18 #[.int .u8 80, .bool false, .int .u64 (a : Int), .int .u64 (b : Int)] w fun ee w' => ee = .returned (.tuple #[.bool (!t16), .bool true]) ∧ Calm w w') := Lib.hid fun w => by
    have h := test_c (op := 80) (a := a) (b := b) false w ha hb
    rw [show T (bW false) 80 a b = !t16 from by have := turn1 (bW false) a b; rw [← e16] at this; cases t16 <;> simpa using this.symm] at h
    exact h
  have M1 : Hid (∀ w, Calls Try.prog 18 #[.int .u8 176, .bool false, .int .u64 (a : Int), .int .u64 (b : Int)] w fun ee w' => ee = .returned (.tuple #[.bool (!t32), .bool true]) ∧ Calm w w') := Lib.hid fun w => by
    have h := test_c (op := 176) (a := a) (b := b) false w ha hb
    rw [show T (bW false) 176 a b = !t32 from by have := turn2 (bW false) a b; rw [← e32] at this; cases t32 <;> simpa using this.symm] at h
    exact h
  have M2 : Hid (∀ w, Calls Try.prog 18 #[.int .u8 160, .bool false, .int .u64 (a : Int), .int .u64 (b : Int)] w fun ee w' => ee = .returned (.tuple #[.bool (!t48), .bool true]) ∧ Calm w w') := Lib.hid fun w => by
    have h := test_c (op := 160) (a := a) (b := b) false w ha hb
    rw [show T (bW false) 160 a b = !t48 from by have := turn3 (bW false) a b; rw [← e48] at this; cases t48 <;> simpa using this.symm] at h
    exact h
  have M3 : Hid (∀ w, Calls Try.prog 18 #[.int .u8 208, .bool false, .int .u64 (a : Int), .int .u64 (b : Int)] w fun ee w' => ee = .returned (.tuple #[.bool (!t96), .bool true]) ∧ Calm w w') := Lib.hid fun w => by
    have h := test_c (op := 208) (a := a) (b := b) false w ha hb
    rw [show T (bW false) 208 a b = !t96 from by have := turn4 (bW false) a b; rw [← e96] at this; cases t96 <;> simpa using this.symm] at h
    exact h
  have M4 : Hid (∀ w, Calls Try.prog 18 #[.int .u8 192, .bool false, .int .u64 (a : Int), .int .u64 (b : Int)] w fun ee w' => ee = .returned (.tuple #[.bool (!t112), .bool true]) ∧ Calm w w') := Lib.hid fun w => by
    have h := test_c (op := 192) (a := a) (b := b) false w ha hb
    rw [show T (bW false) 192 a b = !t112 from by have := turn5 (bW false) a b; rw [← e112] at this; cases t112 <;> simpa using this.symm] at h
    exact h
  have N0 : Hid (∀ w, Calls Try.prog 18 #[.int .u8 16, .bool false, .int .u64 (b : Int), .int .u64 (a : Int)] w fun ee w' => ee = .returned (.tuple #[.bool t16, .bool true]) ∧ Calm w w') := Lib.hid fun w => by
    have h := test_c (op := 16) (a := b) (b := a) false w hb ha
    rw [← round1, ← e16] at h
    exact h
  have N1 : Hid (∀ w, Calls Try.prog 18 #[.int .u8 160, .bool false, .int .u64 (b : Int), .int .u64 (a : Int)] w fun ee w' => ee = .returned (.tuple #[.bool t32, .bool true]) ∧ Calm w w') := Lib.hid fun w => by
    have h := test_c (op := 160) (a := b) (b := a) false w hb ha
    rw [← round2, ← e32] at h
    exact h
  have N2 : Hid (∀ w, Calls Try.prog 18 #[.int .u8 176, .bool false, .int .u64 (b : Int), .int .u64 (a : Int)] w fun ee w' => ee = .returned (.tuple #[.bool t48, .bool true]) ∧ Calm w w') := Lib.hid fun w => by
    have h := test_c (op := 176) (a := b) (b := a) false w hb ha
    rw [← round3, ← e48] at h
    exact h
  have N3 : Hid (∀ w, Calls Try.prog 18 #[.int .u8 192, .bool false, .int .u64 (b : Int), .int .u64 (a : Int)] w fun ee w' => ee = .returned (.tuple #[.bool t96, .bool true]) ∧ Calm w w') := Lib.hid fun w => by
    have h := test_c (op := 192) (a := b) (b := a) false w hb ha
    rw [← round4, ← e96] at h
    exact h
  have N4 : Hid (∀ w, Calls Try.prog 18 #[.int .u8 208, .bool false, .int .u64 (b : Int), .int .u64 (a : Int)] w fun ee w' => ee = .returned (.tuple #[.bool t112, .bool true]) ∧ Calm w w') := Lib.hid fun w => by
    have h := test_c (op := 208) (a := b) (b := a) false w hb ha
    rw [← round5, ← e112] at h
    exact h
  have N5 : Hid (∀ w, Calls Try.prog 18 #[.int .u8 64, .bool false, .int .u64 (b : Int), .int .u64 (a : Int)] w fun ee w' => ee = .returned (.tuple #[.bool t64, .bool true]) ∧ Calm w w') := Lib.hid fun w => by
    have h := test_c (op := 64) (a := b) (b := a) false w hb ha
    rw [← round6, ← e64] at h
    exact h
  clear ha hb e16 e32 e48 e96 e112 e64
  go_enter Try.func7, Try.ntmps7
  go_wp2_with fail
  refine (shown7_c _).mono ?_
  rintro x w0 ⟨rfl, hc⟩
  have C0 := Lib.hid hc
  clear hc
  have R0 : Hid (Row ((((((w0.alloc (.cells #[.int .u8 16, .int .u8 80] 5)).alloc (.cells #[.int .u8 32, .int .u8 176] 5)).alloc (.cells #[.int .u8 48, .int .u8 160] 5)).alloc (.cells #[.int .u8 96, .int .u8 208] 5)).alloc (.cells #[.int .u8 112, .int .u8 192] 5)).alloc (.cells #[.slice (some ⟨w0.heap.size, 0, none⟩) 2 2, .slice (some ⟨w0.heap.size + 1, 0, none⟩) 2 2, .slice (some ⟨w0.heap.size + 1 + 1, 0, none⟩) 2 2, .slice (some ⟨w0.heap.size + 1 + 1 + 1, 0, none⟩) 2 2, .slice (some ⟨w0.heap.size + 1 + 1 + 1 + 1, 0, none⟩) 2 2] 27)) (w0.heap.size) 5 #[.int .u8 16, .int .u8 80]) := Lib.hid ((((((Row.made' w0 _ _ _ (by simp [size_alloc])).alloc _).alloc _).alloc _).alloc _).alloc _)
  have R1 : Hid (Row ((((((w0.alloc (.cells #[.int .u8 16, .int .u8 80] 5)).alloc (.cells #[.int .u8 32, .int .u8 176] 5)).alloc (.cells #[.int .u8 48, .int .u8 160] 5)).alloc (.cells #[.int .u8 96, .int .u8 208] 5)).alloc (.cells #[.int .u8 112, .int .u8 192] 5)).alloc (.cells #[.slice (some ⟨w0.heap.size, 0, none⟩) 2 2, .slice (some ⟨w0.heap.size + 1, 0, none⟩) 2 2, .slice (some ⟨w0.heap.size + 1 + 1, 0, none⟩) 2 2, .slice (some ⟨w0.heap.size + 1 + 1 + 1, 0, none⟩) 2 2, .slice (some ⟨w0.heap.size + 1 + 1 + 1 + 1, 0, none⟩) 2 2] 27)) (w0.heap.size + 1) 5 #[.int .u8 32, .int .u8 176]) := Lib.hid (((((Row.made' (w0.alloc (.cells #[.int .u8 16, .int .u8 80] 5)) _ _ _ (by simp [size_alloc])).alloc _).alloc _).alloc _).alloc _)
  have R2 : Hid (Row ((((((w0.alloc (.cells #[.int .u8 16, .int .u8 80] 5)).alloc (.cells #[.int .u8 32, .int .u8 176] 5)).alloc (.cells #[.int .u8 48, .int .u8 160] 5)).alloc (.cells #[.int .u8 96, .int .u8 208] 5)).alloc (.cells #[.int .u8 112, .int .u8 192] 5)).alloc (.cells #[.slice (some ⟨w0.heap.size, 0, none⟩) 2 2, .slice (some ⟨w0.heap.size + 1, 0, none⟩) 2 2, .slice (some ⟨w0.heap.size + 1 + 1, 0, none⟩) 2 2, .slice (some ⟨w0.heap.size + 1 + 1 + 1, 0, none⟩) 2 2, .slice (some ⟨w0.heap.size + 1 + 1 + 1 + 1, 0, none⟩) 2 2] 27)) (w0.heap.size + 1 + 1) 5 #[.int .u8 48, .int .u8 160]) := Lib.hid ((((Row.made' ((w0.alloc (.cells #[.int .u8 16, .int .u8 80] 5)).alloc (.cells #[.int .u8 32, .int .u8 176] 5)) _ _ _ (by simp [size_alloc])).alloc _).alloc _).alloc _)
  have R3 : Hid (Row ((((((w0.alloc (.cells #[.int .u8 16, .int .u8 80] 5)).alloc (.cells #[.int .u8 32, .int .u8 176] 5)).alloc (.cells #[.int .u8 48, .int .u8 160] 5)).alloc (.cells #[.int .u8 96, .int .u8 208] 5)).alloc (.cells #[.int .u8 112, .int .u8 192] 5)).alloc (.cells #[.slice (some ⟨w0.heap.size, 0, none⟩) 2 2, .slice (some ⟨w0.heap.size + 1, 0, none⟩) 2 2, .slice (some ⟨w0.heap.size + 1 + 1, 0, none⟩) 2 2, .slice (some ⟨w0.heap.size + 1 + 1 + 1, 0, none⟩) 2 2, .slice (some ⟨w0.heap.size + 1 + 1 + 1 + 1, 0, none⟩) 2 2] 27)) (w0.heap.size + 1 + 1 + 1) 5 #[.int .u8 96, .int .u8 208]) := Lib.hid (((Row.made' (((w0.alloc (.cells #[.int .u8 16, .int .u8 80] 5)).alloc (.cells #[.int .u8 32, .int .u8 176] 5)).alloc (.cells #[.int .u8 48, .int .u8 160] 5)) _ _ _ (by simp [size_alloc])).alloc _).alloc _)
  have R4 : Hid (Row ((((((w0.alloc (.cells #[.int .u8 16, .int .u8 80] 5)).alloc (.cells #[.int .u8 32, .int .u8 176] 5)).alloc (.cells #[.int .u8 48, .int .u8 160] 5)).alloc (.cells #[.int .u8 96, .int .u8 208] 5)).alloc (.cells #[.int .u8 112, .int .u8 192] 5)).alloc (.cells #[.slice (some ⟨w0.heap.size, 0, none⟩) 2 2, .slice (some ⟨w0.heap.size + 1, 0, none⟩) 2 2, .slice (some ⟨w0.heap.size + 1 + 1, 0, none⟩) 2 2, .slice (some ⟨w0.heap.size + 1 + 1 + 1, 0, none⟩) 2 2, .slice (some ⟨w0.heap.size + 1 + 1 + 1 + 1, 0, none⟩) 2 2] 27)) (w0.heap.size + 1 + 1 + 1 + 1) 5 #[.int .u8 112, .int .u8 192]) := Lib.hid ((Row.made' ((((w0.alloc (.cells #[.int .u8 16, .int .u8 80] 5)).alloc (.cells #[.int .u8 32, .int .u8 176] 5)).alloc (.cells #[.int .u8 48, .int .u8 160] 5)).alloc (.cells #[.int .u8 96, .int .u8 208] 5)) _ _ _ (by simp [size_alloc])).alloc _)
  have Ro : Hid (Row ((((((w0.alloc (.cells #[.int .u8 16, .int .u8 80] 5)).alloc (.cells #[.int .u8 32, .int .u8 176] 5)).alloc (.cells #[.int .u8 48, .int .u8 160] 5)).alloc (.cells #[.int .u8 96, .int .u8 208] 5)).alloc (.cells #[.int .u8 112, .int .u8 192] 5)).alloc (.cells #[.slice (some ⟨w0.heap.size, 0, none⟩) 2 2, .slice (some ⟨w0.heap.size + 1, 0, none⟩) 2 2, .slice (some ⟨w0.heap.size + 1 + 1, 0, none⟩) 2 2, .slice (some ⟨w0.heap.size + 1 + 1 + 1, 0, none⟩) 2 2, .slice (some ⟨w0.heap.size + 1 + 1 + 1 + 1, 0, none⟩) 2 2] 27)) (w0.heap.size + 1 + 1 + 1 + 1 + 1) 27 #[.slice (some ⟨w0.heap.size, 0, none⟩) 2 2, .slice (some ⟨w0.heap.size + 1, 0, none⟩) 2 2, .slice (some ⟨w0.heap.size + 1 + 1, 0, none⟩) 2 2, .slice (some ⟨w0.heap.size + 1 + 1 + 1, 0, none⟩) 2 2, .slice (some ⟨w0.heap.size + 1 + 1 + 1 + 1, 0, none⟩) 2 2]) := Lib.hid (Row.made' (((((w0.alloc (.cells #[.int .u8 16, .int .u8 80] 5)).alloc (.cells #[.int .u8 32, .int .u8 176] 5)).alloc (.cells #[.int .u8 48, .int .u8 160] 5)).alloc (.cells #[.int .u8 96, .int .u8 208] 5)).alloc (.cells #[.int .u8 112, .int .u8 192] 5)) _ _ _ (by simp [size_alloc]))
  have Rc : Hid (Calm w0 ((((((w0.alloc (.cells #[.int .u8 16, .int .u8 80] 5)).alloc (.cells #[.int .u8 32, .int .u8 176] 5)).alloc (.cells #[.int .u8 48, .int .u8 160] 5)).alloc (.cells #[.int .u8 96, .int .u8 208] 5)).alloc (.cells #[.int .u8 112, .int .u8 192] 5)).alloc (.cells #[.slice (some ⟨w0.heap.size, 0, none⟩) 2 2, .slice (some ⟨w0.heap.size + 1, 0, none⟩) 2 2, .slice (some ⟨w0.heap.size + 1 + 1, 0, none⟩) 2 2, .slice (some ⟨w0.heap.size + 1 + 1 + 1, 0, none⟩) 2 2, .slice (some ⟨w0.heap.size + 1 + 1 + 1 + 1, 0, none⟩) 2 2] 27))) := Lib.hid (((((((Keep.refl _ w0).alloc _).alloc _).alloc _).alloc _).alloc _).alloc _)
  go_upto_block 0 with fail
  obtain ⟨wBR, hBR⟩ : ∃ x, x = ((((((w0.alloc (.cells #[.int .u8 16, .int .u8 80] 5)).alloc (.cells #[.int .u8 32, .int .u8 176] 5)).alloc (.cells #[.int .u8 48, .int .u8 160] 5)).alloc (.cells #[.int .u8 96, .int .u8 208] 5)).alloc (.cells #[.int .u8 112, .int .u8 192] 5)).alloc (.cells #[.slice (some ⟨w0.heap.size, 0, none⟩) 2 2, .slice (some ⟨w0.heap.size + 1, 0, none⟩) 2 2, .slice (some ⟨w0.heap.size + 1 + 1, 0, none⟩) 2 2, .slice (some ⟨w0.heap.size + 1 + 1 + 1, 0, none⟩) 2 2, .slice (some ⟨w0.heap.size + 1 + 1 + 1 + 1, 0, none⟩) 2 2] 27)) := ⟨_, rfl⟩
  rw [← hBR] at R0 R1 R2 R3 R4 Ro Rc ⊢
  clear hBR
  go_cut [] (fun wc => Calm wBR wc)
  case first =>
    go_wp2_with fail
    go_loopw [9] (fun i wr => ∃ k : Nat, k ≤ 5 ∧ i = .int .i64 k ∧ Calm wBR wr) (fun i _ => 5 - (intOf i).toNat)
    case atStart => exact ⟨0, by omega, rfl, Keep.refl _ _⟩
    case round =>
      obtain ⟨k, hk, rfl, hcal⟩ := hrel
      have HC := Lib.hid hcal
      clear hcal
      have hk4 : k = 0 ∨ k = 1 ∨ k = 2 ∨ k = 3 ∨ k = 4 ∨ k = 5 := by omega
      clear hk
      rcases hk4 with rfl | rfl | rfl | rfl | rfl | rfl
      · have c0 : wr.cell? ⟨w0.heap.size + 1 + 1 + 1 + 1 + 1, 0, none⟩ = _ := (Ro.out.keep HC.out (fun e => e)).cell 0
        have c1 : wr.cell? ⟨w0.heap.size, 0, none⟩ = _ := (R0.out.keep HC.out (fun e => e)).cell 0
        simp only [List.getElem?_toArray, List.getElem?_cons_zero, List.getElem?_cons_succ] at c0 c1
        go_wp2_with fail
        refine (K16.out _).mono ?_
        rintro x w1 ⟨rfl, hc⟩
        have D1 := Lib.hid (HC.out.trans hc)
        clear hc c0 c1
        have c0 : w1.cell? ⟨w0.heap.size + 1 + 1 + 1 + 1 + 1, 0, none⟩ = _ := (Ro.out.keep D1.out (fun e => e)).cell 0
        have c1 : w1.cell? ⟨w0.heap.size, 1, none⟩ = _ := (R0.out.keep D1.out (fun e => e)).cell 1
        simp only [List.getElem?_toArray, List.getElem?_cons_zero, List.getElem?_cons_succ] at c0 c1
        go_wp2_with fail
        refine (M0.out _).mono ?_
        rintro x w2 ⟨rfl, hc⟩
        have D2 := Lib.hid (D1.out.trans hc)
        clear hc c0 c1
        go_wp2_with fail
        go_roundw
        case rel => exact ⟨1, by omega, by go_num, D2.out⟩
        case measure => simp [intOf]
      · have c0 : wr.cell? ⟨w0.heap.size + 1 + 1 + 1 + 1 + 1, 1, none⟩ = _ := (Ro.out.keep HC.out (fun e => e)).cell 1
        have c1 : wr.cell? ⟨w0.heap.size + 1, 0, none⟩ = _ := (R1.out.keep HC.out (fun e => e)).cell 0
        simp only [List.getElem?_toArray, List.getElem?_cons_zero, List.getElem?_cons_succ] at c0 c1
        go_wp2_with fail
        refine (K32.out _).mono ?_
        rintro x w1 ⟨rfl, hc⟩
        have D1 := Lib.hid (HC.out.trans hc)
        clear hc c0 c1
        have c0 : w1.cell? ⟨w0.heap.size + 1 + 1 + 1 + 1 + 1, 1, none⟩ = _ := (Ro.out.keep D1.out (fun e => e)).cell 1
        have c1 : w1.cell? ⟨w0.heap.size + 1, 1, none⟩ = _ := (R1.out.keep D1.out (fun e => e)).cell 1
        simp only [List.getElem?_toArray, List.getElem?_cons_zero, List.getElem?_cons_succ] at c0 c1
        go_wp2_with fail
        refine (M1.out _).mono ?_
        rintro x w2 ⟨rfl, hc⟩
        have D2 := Lib.hid (D1.out.trans hc)
        clear hc c0 c1
        go_wp2_with fail
        go_roundw
        case rel => exact ⟨2, by omega, by go_num, D2.out⟩
        case measure => simp [intOf]
      · have c0 : wr.cell? ⟨w0.heap.size + 1 + 1 + 1 + 1 + 1, 2, none⟩ = _ := (Ro.out.keep HC.out (fun e => e)).cell 2
        have c1 : wr.cell? ⟨w0.heap.size + 1 + 1, 0, none⟩ = _ := (R2.out.keep HC.out (fun e => e)).cell 0
        simp only [List.getElem?_toArray, List.getElem?_cons_zero, List.getElem?_cons_succ] at c0 c1
        go_wp2_with fail
        refine (K48.out _).mono ?_
        rintro x w1 ⟨rfl, hc⟩
        have D1 := Lib.hid (HC.out.trans hc)
        clear hc c0 c1
        have c0 : w1.cell? ⟨w0.heap.size + 1 + 1 + 1 + 1 + 1, 2, none⟩ = _ := (Ro.out.keep D1.out (fun e => e)).cell 2
        have c1 : w1.cell? ⟨w0.heap.size + 1 + 1, 1, none⟩ = _ := (R2.out.keep D1.out (fun e => e)).cell 1
        simp only [List.getElem?_toArray, List.getElem?_cons_zero, List.getElem?_cons_succ] at c0 c1
        go_wp2_with fail
        refine (M2.out _).mono ?_
        rintro x w2 ⟨rfl, hc⟩
        have D2 := Lib.hid (D1.out.trans hc)
        clear hc c0 c1
        go_wp2_with fail
        go_roundw
        case rel => exact ⟨3, by omega, by go_num, D2.out⟩
        case measure => simp [intOf]
      · have c0 : wr.cell? ⟨w0.heap.size + 1 + 1 + 1 + 1 + 1, 3, none⟩ = _ := (Ro.out.keep HC.out (fun e => e)).cell 3
        have c1 : wr.cell? ⟨w0.heap.size + 1 + 1 + 1, 0, none⟩ = _ := (R3.out.keep HC.out (fun e => e)).cell 0
        simp only [List.getElem?_toArray, List.getElem?_cons_zero, List.getElem?_cons_succ] at c0 c1
        go_wp2_with fail
        refine (K96.out _).mono ?_
        rintro x w1 ⟨rfl, hc⟩
        have D1 := Lib.hid (HC.out.trans hc)
        clear hc c0 c1
        have c0 : w1.cell? ⟨w0.heap.size + 1 + 1 + 1 + 1 + 1, 3, none⟩ = _ := (Ro.out.keep D1.out (fun e => e)).cell 3
        have c1 : w1.cell? ⟨w0.heap.size + 1 + 1 + 1, 1, none⟩ = _ := (R3.out.keep D1.out (fun e => e)).cell 1
        simp only [List.getElem?_toArray, List.getElem?_cons_zero, List.getElem?_cons_succ] at c0 c1
        go_wp2_with fail
        refine (M3.out _).mono ?_
        rintro x w2 ⟨rfl, hc⟩
        have D2 := Lib.hid (D1.out.trans hc)
        clear hc c0 c1
        go_wp2_with fail
        go_roundw
        case rel => exact ⟨4, by omega, by go_num, D2.out⟩
        case measure => simp [intOf]
      · have c0 : wr.cell? ⟨w0.heap.size + 1 + 1 + 1 + 1 + 1, 4, none⟩ = _ := (Ro.out.keep HC.out (fun e => e)).cell 4
        have c1 : wr.cell? ⟨w0.heap.size + 1 + 1 + 1 + 1, 0, none⟩ = _ := (R4.out.keep HC.out (fun e => e)).cell 0
        simp only [List.getElem?_toArray, List.getElem?_cons_zero, List.getElem?_cons_succ] at c0 c1
        go_wp2_with fail
        refine (K112.out _).mono ?_
        rintro x w1 ⟨rfl, hc⟩
        have D1 := Lib.hid (HC.out.trans hc)
        clear hc c0 c1
        have c0 : w1.cell? ⟨w0.heap.size + 1 + 1 + 1 + 1 + 1, 4, none⟩ = _ := (Ro.out.keep D1.out (fun e => e)).cell 4
        have c1 : w1.cell? ⟨w0.heap.size + 1 + 1 + 1 + 1, 1, none⟩ = _ := (R4.out.keep D1.out (fun e => e)).cell 1
        simp only [List.getElem?_toArray, List.getElem?_cons_zero, List.getElem?_cons_succ] at c0 c1
        go_wp2_with fail
        refine (M4.out _).mono ?_
        rintro x w2 ⟨rfl, hc⟩
        have D2 := Lib.hid (D1.out.trans hc)
        clear hc c0 c1
        go_wp2_with fail
        go_roundw
        case rel => exact ⟨5, by omega, by go_num, D2.out⟩
        case measure => simp [intOf]
      · go_wp2_with fail
        go_meet
        case rel => exact HC.out
  case rest =>
    have C9 := Lib.hid (C0.out.trans (Rc.out.trans hcut))
    have Q0 : Hid (Row (((((((wc.alloc (.cells #[.int .u8 16, .int .u8 16] 5)).alloc (.cells #[.int .u8 32, .int .u8 160] 5)).alloc (.cells #[.int .u8 48, .int .u8 176] 5)).alloc (.cells #[.int .u8 96, .int .u8 192] 5)).alloc (.cells #[.int .u8 112, .int .u8 208] 5)).alloc (.cells #[.int .u8 64, .int .u8 64] 5)).alloc (.cells #[.slice (some ⟨wc.heap.size, 0, none⟩) 2 2, .slice (some ⟨wc.heap.size + 1, 0, none⟩) 2 2, .slice (some ⟨wc.heap.size + 1 + 1, 0, none⟩) 2 2, .slice (some ⟨wc.heap.size + 1 + 1 + 1, 0, none⟩) 2 2, .slice (some ⟨wc.heap.size + 1 + 1 + 1 + 1, 0, none⟩) 2 2, .slice (some ⟨wc.heap.size + 1 + 1 + 1 + 1 + 1, 0, none⟩) 2 2] 27)) (wc.heap.size) 5 #[.int .u8 16, .int .u8 16]) := Lib.hid (((((((Row.made' wc _ _ _ (by simp [size_alloc])).alloc _).alloc _).alloc _).alloc _).alloc _).alloc _)
    have Q1 : Hid (Row (((((((wc.alloc (.cells #[.int .u8 16, .int .u8 16] 5)).alloc (.cells #[.int .u8 32, .int .u8 160] 5)).alloc (.cells #[.int .u8 48, .int .u8 176] 5)).alloc (.cells #[.int .u8 96, .int .u8 192] 5)).alloc (.cells #[.int .u8 112, .int .u8 208] 5)).alloc (.cells #[.int .u8 64, .int .u8 64] 5)).alloc (.cells #[.slice (some ⟨wc.heap.size, 0, none⟩) 2 2, .slice (some ⟨wc.heap.size + 1, 0, none⟩) 2 2, .slice (some ⟨wc.heap.size + 1 + 1, 0, none⟩) 2 2, .slice (some ⟨wc.heap.size + 1 + 1 + 1, 0, none⟩) 2 2, .slice (some ⟨wc.heap.size + 1 + 1 + 1 + 1, 0, none⟩) 2 2, .slice (some ⟨wc.heap.size + 1 + 1 + 1 + 1 + 1, 0, none⟩) 2 2] 27)) (wc.heap.size + 1) 5 #[.int .u8 32, .int .u8 160]) := Lib.hid ((((((Row.made' (wc.alloc (.cells #[.int .u8 16, .int .u8 16] 5)) _ _ _ (by simp [size_alloc])).alloc _).alloc _).alloc _).alloc _).alloc _)
    have Q2 : Hid (Row (((((((wc.alloc (.cells #[.int .u8 16, .int .u8 16] 5)).alloc (.cells #[.int .u8 32, .int .u8 160] 5)).alloc (.cells #[.int .u8 48, .int .u8 176] 5)).alloc (.cells #[.int .u8 96, .int .u8 192] 5)).alloc (.cells #[.int .u8 112, .int .u8 208] 5)).alloc (.cells #[.int .u8 64, .int .u8 64] 5)).alloc (.cells #[.slice (some ⟨wc.heap.size, 0, none⟩) 2 2, .slice (some ⟨wc.heap.size + 1, 0, none⟩) 2 2, .slice (some ⟨wc.heap.size + 1 + 1, 0, none⟩) 2 2, .slice (some ⟨wc.heap.size + 1 + 1 + 1, 0, none⟩) 2 2, .slice (some ⟨wc.heap.size + 1 + 1 + 1 + 1, 0, none⟩) 2 2, .slice (some ⟨wc.heap.size + 1 + 1 + 1 + 1 + 1, 0, none⟩) 2 2] 27)) (wc.heap.size + 1 + 1) 5 #[.int .u8 48, .int .u8 176]) := Lib.hid (((((Row.made' ((wc.alloc (.cells #[.int .u8 16, .int .u8 16] 5)).alloc (.cells #[.int .u8 32, .int .u8 160] 5)) _ _ _ (by simp [size_alloc])).alloc _).alloc _).alloc _).alloc _)
    have Q3 : Hid (Row (((((((wc.alloc (.cells #[.int .u8 16, .int .u8 16] 5)).alloc (.cells #[.int .u8 32, .int .u8 160] 5)).alloc (.cells #[.int .u8 48, .int .u8 176] 5)).alloc (.cells #[.int .u8 96, .int .u8 192] 5)).alloc (.cells #[.int .u8 112, .int .u8 208] 5)).alloc (.cells #[.int .u8 64, .int .u8 64] 5)).alloc (.cells #[.slice (some ⟨wc.heap.size, 0, none⟩) 2 2, .slice (some ⟨wc.heap.size + 1, 0, none⟩) 2 2, .slice (some ⟨wc.heap.size + 1 + 1, 0, none⟩) 2 2, .slice (some ⟨wc.heap.size + 1 + 1 + 1, 0, none⟩) 2 2, .slice (some ⟨wc.heap.size + 1 + 1 + 1 + 1, 0, none⟩) 2 2, .slice (some ⟨wc.heap.size + 1 + 1 + 1 + 1 + 1, 0, none⟩) 2 2] 27)) (wc.heap.size + 1 + 1 + 1) 5 #[.int .u8 96, .int .u8 192]) := Lib.hid ((((Row.made' (((wc.alloc (.cells #[.int .u8 16, .int .u8 16] 5)).alloc (.cells #[.int .u8 32, .int .u8 160] 5)).alloc (.cells #[.int .u8 48, .int .u8 176] 5)) _ _ _ (by simp [size_alloc])).alloc _).alloc _).alloc _)
    have Q4 : Hid (Row (((((((wc.alloc (.cells #[.int .u8 16, .int .u8 16] 5)).alloc (.cells #[.int .u8 32, .int .u8 160] 5)).alloc (.cells #[.int .u8 48, .int .u8 176] 5)).alloc (.cells #[.int .u8 96, .int .u8 192] 5)).alloc (.cells #[.int .u8 112, .int .u8 208] 5)).alloc (.cells #[.int .u8 64, .int .u8 64] 5)).alloc (.cells #[.slice (some ⟨wc.heap.size, 0, none⟩) 2 2, .slice (some ⟨wc.heap.size + 1, 0, none⟩) 2 2, .slice (some ⟨wc.heap.size + 1 + 1, 0, none⟩) 2 2, .slice (some ⟨wc.heap.size + 1 + 1 + 1, 0, none⟩) 2 2, .slice (some ⟨wc.heap.size + 1 + 1 + 1 + 1, 0, none⟩) 2 2, .slice (some ⟨wc.heap.size + 1 + 1 + 1 + 1 + 1, 0, none⟩) 2 2] 27)) (wc.heap.size + 1 + 1 + 1 + 1) 5 #[.int .u8 112, .int .u8 208]) := Lib.hid (((Row.made' ((((wc.alloc (.cells #[.int .u8 16, .int .u8 16] 5)).alloc (.cells #[.int .u8 32, .int .u8 160] 5)).alloc (.cells #[.int .u8 48, .int .u8 176] 5)).alloc (.cells #[.int .u8 96, .int .u8 192] 5)) _ _ _ (by simp [size_alloc])).alloc _).alloc _)
    have Q5 : Hid (Row (((((((wc.alloc (.cells #[.int .u8 16, .int .u8 16] 5)).alloc (.cells #[.int .u8 32, .int .u8 160] 5)).alloc (.cells #[.int .u8 48, .int .u8 176] 5)).alloc (.cells #[.int .u8 96, .int .u8 192] 5)).alloc (.cells #[.int .u8 112, .int .u8 208] 5)).alloc (.cells #[.int .u8 64, .int .u8 64] 5)).alloc (.cells #[.slice (some ⟨wc.heap.size, 0, none⟩) 2 2, .slice (some ⟨wc.heap.size + 1, 0, none⟩) 2 2, .slice (some ⟨wc.heap.size + 1 + 1, 0, none⟩) 2 2, .slice (some ⟨wc.heap.size + 1 + 1 + 1, 0, none⟩) 2 2, .slice (some ⟨wc.heap.size + 1 + 1 + 1 + 1, 0, none⟩) 2 2, .slice (some ⟨wc.heap.size + 1 + 1 + 1 + 1 + 1, 0, none⟩) 2 2] 27)) (wc.heap.size + 1 + 1 + 1 + 1 + 1) 5 #[.int .u8 64, .int .u8 64]) := Lib.hid ((Row.made' (((((wc.alloc (.cells #[.int .u8 16, .int .u8 16] 5)).alloc (.cells #[.int .u8 32, .int .u8 160] 5)).alloc (.cells #[.int .u8 48, .int .u8 176] 5)).alloc (.cells #[.int .u8 96, .int .u8 192] 5)).alloc (.cells #[.int .u8 112, .int .u8 208] 5)) _ _ _ (by simp [size_alloc])).alloc _)
    have Qo : Hid (Row (((((((wc.alloc (.cells #[.int .u8 16, .int .u8 16] 5)).alloc (.cells #[.int .u8 32, .int .u8 160] 5)).alloc (.cells #[.int .u8 48, .int .u8 176] 5)).alloc (.cells #[.int .u8 96, .int .u8 192] 5)).alloc (.cells #[.int .u8 112, .int .u8 208] 5)).alloc (.cells #[.int .u8 64, .int .u8 64] 5)).alloc (.cells #[.slice (some ⟨wc.heap.size, 0, none⟩) 2 2, .slice (some ⟨wc.heap.size + 1, 0, none⟩) 2 2, .slice (some ⟨wc.heap.size + 1 + 1, 0, none⟩) 2 2, .slice (some ⟨wc.heap.size + 1 + 1 + 1, 0, none⟩) 2 2, .slice (some ⟨wc.heap.size + 1 + 1 + 1 + 1, 0, none⟩) 2 2, .slice (some ⟨wc.heap.size + 1 + 1 + 1 + 1 + 1, 0, none⟩) 2 2] 27)) (wc.heap.size + 1 + 1 + 1 + 1 + 1 + 1) 27 #[.slice (some ⟨wc.heap.size, 0, none⟩) 2 2, .slice (some ⟨wc.heap.size + 1, 0, none⟩) 2 2, .slice (some ⟨wc.heap.size + 1 + 1, 0, none⟩) 2 2, .slice (some ⟨wc.heap.size + 1 + 1 + 1, 0, none⟩) 2 2, .slice (some ⟨wc.heap.size + 1 + 1 + 1 + 1, 0, none⟩) 2 2, .slice (some ⟨wc.heap.size + 1 + 1 + 1 + 1 + 1, 0, none⟩) 2 2]) := Lib.hid (Row.made' ((((((wc.alloc (.cells #[.int .u8 16, .int .u8 16] 5)).alloc (.cells #[.int .u8 32, .int .u8 160] 5)).alloc (.cells #[.int .u8 48, .int .u8 176] 5)).alloc (.cells #[.int .u8 96, .int .u8 192] 5)).alloc (.cells #[.int .u8 112, .int .u8 208] 5)).alloc (.cells #[.int .u8 64, .int .u8 64] 5)) _ _ _ (by simp [size_alloc]))
    have Qc : Hid (Calm wc (((((((wc.alloc (.cells #[.int .u8 16, .int .u8 16] 5)).alloc (.cells #[.int .u8 32, .int .u8 160] 5)).alloc (.cells #[.int .u8 48, .int .u8 176] 5)).alloc (.cells #[.int .u8 96, .int .u8 192] 5)).alloc (.cells #[.int .u8 112, .int .u8 208] 5)).alloc (.cells #[.int .u8 64, .int .u8 64] 5)).alloc (.cells #[.slice (some ⟨wc.heap.size, 0, none⟩) 2 2, .slice (some ⟨wc.heap.size + 1, 0, none⟩) 2 2, .slice (some ⟨wc.heap.size + 1 + 1, 0, none⟩) 2 2, .slice (some ⟨wc.heap.size + 1 + 1 + 1, 0, none⟩) 2 2, .slice (some ⟨wc.heap.size + 1 + 1 + 1 + 1, 0, none⟩) 2 2, .slice (some ⟨wc.heap.size + 1 + 1 + 1 + 1 + 1, 0, none⟩) 2 2] 27))) := Lib.hid ((((((((Keep.refl _ wc).alloc _).alloc _).alloc _).alloc _).alloc _).alloc _).alloc _)
    clear hcut R0 R1 R2 R3 R4 Ro Rc
    go_wp2_with fail
    obtain ⟨wBQ, hBQ⟩ : ∃ x, x = (((((((wc.alloc (.cells #[.int .u8 16, .int .u8 16] 5)).alloc (.cells #[.int .u8 32, .int .u8 160] 5)).alloc (.cells #[.int .u8 48, .int .u8 176] 5)).alloc (.cells #[.int .u8 96, .int .u8 192] 5)).alloc (.cells #[.int .u8 112, .int .u8 208] 5)).alloc (.cells #[.int .u8 64, .int .u8 64] 5)).alloc (.cells #[.slice (some ⟨wc.heap.size, 0, none⟩) 2 2, .slice (some ⟨wc.heap.size + 1, 0, none⟩) 2 2, .slice (some ⟨wc.heap.size + 1 + 1, 0, none⟩) 2 2, .slice (some ⟨wc.heap.size + 1 + 1 + 1, 0, none⟩) 2 2, .slice (some ⟨wc.heap.size + 1 + 1 + 1 + 1, 0, none⟩) 2 2, .slice (some ⟨wc.heap.size + 1 + 1 + 1 + 1 + 1, 0, none⟩) 2 2] 27)) := ⟨_, rfl⟩
    rw [← hBQ] at Q0 Q1 Q2 Q3 Q4 Q5 Qo Qc ⊢
    clear hBQ
    go_loopw [15] (fun i wr => ∃ k : Nat, k ≤ 6 ∧ i = .int .i64 k ∧ Calm wBQ wr) (fun i _ => 6 - (intOf i).toNat)
    case atStart => exact ⟨0, by omega, rfl, Keep.refl _ _⟩
    case round =>
      obtain ⟨k, hk, rfl, hcal⟩ := hrel
      have HC := Lib.hid hcal
      clear hcal
      have hk4 : k = 0 ∨ k = 1 ∨ k = 2 ∨ k = 3 ∨ k = 4 ∨ k = 5 ∨ k = 6 := by omega
      clear hk
      rcases hk4 with rfl | rfl | rfl | rfl | rfl | rfl | rfl
      · have c0 : wr.cell? ⟨wc.heap.size + 1 + 1 + 1 + 1 + 1 + 1, 0, none⟩ = _ := (Qo.out.keep HC.out (fun e => e)).cell 0
        have c1 : wr.cell? ⟨wc.heap.size, 0, none⟩ = _ := (Q0.out.keep HC.out (fun e => e)).cell 0
        simp only [List.getElem?_toArray, List.getElem?_cons_zero, List.getElem?_cons_succ] at c0 c1
        go_wp2_with fail
        refine (K16.out _).mono ?_
        rintro x w1 ⟨rfl, hc⟩
        have D1 := Lib.hid (HC.out.trans hc)
        clear hc c0 c1
        have c0 : w1.cell? ⟨wc.heap.size + 1 + 1 + 1 + 1 + 1 + 1, 0, none⟩ = _ := (Qo.out.keep D1.out (fun e => e)).cell 0
        have c1 : w1.cell? ⟨wc.heap.size, 1, none⟩ = _ := (Q0.out.keep D1.out (fun e => e)).cell 1
        simp only [List.getElem?_toArray, List.getElem?_cons_zero, List.getElem?_cons_succ] at c0 c1
        go_wp2_with fail
        refine (N0.out _).mono ?_
        rintro x w2 ⟨rfl, hc⟩
        have D2 := Lib.hid (D1.out.trans hc)
        clear hc c0 c1
        go_wp2_with fail
        go_roundw
        case rel => exact ⟨1, by omega, by go_num, D2.out⟩
        case measure => simp [intOf]
      · have c0 : wr.cell? ⟨wc.heap.size + 1 + 1 + 1 + 1 + 1 + 1, 1, none⟩ = _ := (Qo.out.keep HC.out (fun e => e)).cell 1
        have c1 : wr.cell? ⟨wc.heap.size + 1, 0, none⟩ = _ := (Q1.out.keep HC.out (fun e => e)).cell 0
        simp only [List.getElem?_toArray, List.getElem?_cons_zero, List.getElem?_cons_succ] at c0 c1
        go_wp2_with fail
        refine (K32.out _).mono ?_
        rintro x w1 ⟨rfl, hc⟩
        have D1 := Lib.hid (HC.out.trans hc)
        clear hc c0 c1
        have c0 : w1.cell? ⟨wc.heap.size + 1 + 1 + 1 + 1 + 1 + 1, 1, none⟩ = _ := (Qo.out.keep D1.out (fun e => e)).cell 1
        have c1 : w1.cell? ⟨wc.heap.size + 1, 1, none⟩ = _ := (Q1.out.keep D1.out (fun e => e)).cell 1
        simp only [List.getElem?_toArray, List.getElem?_cons_zero, List.getElem?_cons_succ] at c0 c1
        go_wp2_with fail
        refine (N1.out _).mono ?_
        rintro x w2 ⟨rfl, hc⟩
        have D2 := Lib.hid (D1.out.trans hc)
        clear hc c0 c1
        go_wp2_with fail
        go_roundw
        case rel => exact ⟨2, by omega, by go_num, D2.out⟩
        case measure => simp [intOf]
      · have c0 : wr.cell? ⟨wc.heap.size + 1 + 1 + 1 + 1 + 1 + 1, 2, none⟩ = _ := (Qo.out.keep HC.out (fun e => e)).cell 2
        have c1 : wr.cell? ⟨wc.heap.size + 1 + 1, 0, none⟩ = _ := (Q2.out.keep HC.out (fun e => e)).cell 0
        simp only [List.getElem?_toArray, List.getElem?_cons_zero, List.getElem?_cons_succ] at c0 c1
        go_wp2_with fail
        refine (K48.out _).mono ?_
        rintro x w1 ⟨rfl, hc⟩
        have D1 := Lib.hid (HC.out.trans hc)
        clear hc c0 c1
        have c0 : w1.cell? ⟨wc.heap.size + 1 + 1 + 1 + 1 + 1 + 1, 2, none⟩ = _ := (Qo.out.keep D1.out (fun e => e)).cell 2
        have c1 : w1.cell? ⟨wc.heap.size + 1 + 1, 1, none⟩ = _ := (Q2.out.keep D1.out (fun e => e)).cell 1
        simp only [List.getElem?_toArray, List.getElem?_cons_zero, List.getElem?_cons_succ] at c0 c1
        go_wp2_with fail
        refine (N2.out _).mono ?_
        rintro x w2 ⟨rfl, hc⟩
        have D2 := Lib.hid (D1.out.trans hc)
        clear hc c0 c1
        go_wp2_with fail
        go_roundw
        case rel => exact ⟨3, by omega, by go_num, D2.out⟩
        case measure => simp [intOf]
      · have c0 : wr.cell? ⟨wc.heap.size + 1 + 1 + 1 + 1 + 1 + 1, 3, none⟩ = _ := (Qo.out.keep HC.out (fun e => e)).cell 3
        have c1 : wr.cell? ⟨wc.heap.size + 1 + 1 + 1, 0, none⟩ = _ := (Q3.out.keep HC.out (fun e => e)).cell 0
        simp only [List.getElem?_toArray, List.getElem?_cons_zero, List.getElem?_cons_succ] at c0 c1
        go_wp2_with fail
        refine (K96.out _).mono ?_
        rintro x w1 ⟨rfl, hc⟩
        have D1 := Lib.hid (HC.out.trans hc)
        clear hc c0 c1
        have c0 : w1.cell? ⟨wc.heap.size + 1 + 1 + 1 + 1 + 1 + 1, 3, none⟩ = _ := (Qo.out.keep D1.out (fun e => e)).cell 3
        have c1 : w1.cell? ⟨wc.heap.size + 1 + 1 + 1, 1, none⟩ = _ := (Q3.out.keep D1.out (fun e => e)).cell 1
        simp only [List.getElem?_toArray, List.getElem?_cons_zero, List.getElem?_cons_succ] at c0 c1
        go_wp2_with fail
        refine (N3.out _).mono ?_
        rintro x w2 ⟨rfl, hc⟩
        have D2 := Lib.hid (D1.out.trans hc)
        clear hc c0 c1
        go_wp2_with fail
        go_roundw
        case rel => exact ⟨4, by omega, by go_num, D2.out⟩
        case measure => simp [intOf]
      · have c0 : wr.cell? ⟨wc.heap.size + 1 + 1 + 1 + 1 + 1 + 1, 4, none⟩ = _ := (Qo.out.keep HC.out (fun e => e)).cell 4
        have c1 : wr.cell? ⟨wc.heap.size + 1 + 1 + 1 + 1, 0, none⟩ = _ := (Q4.out.keep HC.out (fun e => e)).cell 0
        simp only [List.getElem?_toArray, List.getElem?_cons_zero, List.getElem?_cons_succ] at c0 c1
        go_wp2_with fail
        refine (K112.out _).mono ?_
        rintro x w1 ⟨rfl, hc⟩
        have D1 := Lib.hid (HC.out.trans hc)
        clear hc c0 c1
        have c0 : w1.cell? ⟨wc.heap.size + 1 + 1 + 1 + 1 + 1 + 1, 4, none⟩ = _ := (Qo.out.keep D1.out (fun e => e)).cell 4
        have c1 : w1.cell? ⟨wc.heap.size + 1 + 1 + 1 + 1, 1, none⟩ = _ := (Q4.out.keep D1.out (fun e => e)).cell 1
        simp only [List.getElem?_toArray, List.getElem?_cons_zero, List.getElem?_cons_succ] at c0 c1
        go_wp2_with fail
        refine (N4.out _).mono ?_
        rintro x w2 ⟨rfl, hc⟩
        have D2 := Lib.hid (D1.out.trans hc)
        clear hc c0 c1
        go_wp2_with fail
        go_roundw
        case rel => exact ⟨5, by omega, by go_num, D2.out⟩
        case measure => simp [intOf]
      · have c0 : wr.cell? ⟨wc.heap.size + 1 + 1 + 1 + 1 + 1 + 1, 5, none⟩ = _ := (Qo.out.keep HC.out (fun e => e)).cell 5
        have c1 : wr.cell? ⟨wc.heap.size + 1 + 1 + 1 + 1 + 1, 0, none⟩ = _ := (Q5.out.keep HC.out (fun e => e)).cell 0
        simp only [List.getElem?_toArray, List.getElem?_cons_zero, List.getElem?_cons_succ] at c0 c1
        go_wp2_with fail
        refine (K64.out _).mono ?_
        rintro x w1 ⟨rfl, hc⟩
        have D1 := Lib.hid (HC.out.trans hc)
        clear hc c0 c1
        have c0 : w1.cell? ⟨wc.heap.size + 1 + 1 + 1 + 1 + 1 + 1, 5, none⟩ = _ := (Qo.out.keep D1.out (fun e => e)).cell 5
        have c1 : w1.cell? ⟨wc.heap.size + 1 + 1 + 1 + 1 + 1, 1, none⟩ = _ := (Q5.out.keep D1.out (fun e => e)).cell 1
        simp only [List.getElem?_toArray, List.getElem?_cons_zero, List.getElem?_cons_succ] at c0 c1
        go_wp2_with fail
        refine (N5.out _).mono ?_
        rintro x w2 ⟨rfl, hc⟩
        have D2 := Lib.hid (D1.out.trans hc)
        clear hc c0 c1
        go_wp2_with fail
        go_roundw
        case rel => exact ⟨6, by omega, by go_num, D2.out⟩
        case measure => simp [intOf]
      · go_wp2_with fail
        go_ret
        exact ⟨rfl, C9.out.trans (Qc.out.trans HC.out)⟩

set_option maxHeartbeats 3200000 in
theorem aluTurned_true {a b : Nat} (ha : a < 18446744073709551616) (hb : b < 18446744073709551616) (w : World) : Calls Try.prog 7 #[.bool true, .int .u64 (a : Int), .int .u64 (b : Int)] w fun e w' => e = .returned (.bool true) ∧ Calm w w' := by
  obtain ⟨t16, e16⟩ : ∃ z, z = T (bW true) 16 a b := ⟨_, rfl⟩
  have K16 : Hid (∀ w, Calls Try.prog 18 #[.int .u8 16, .bool true, .int .u64 (a : Int), .int .u64 (b : Int)] w fun ee w' => ee = .returned (.tuple #[.bool t16, .bool true]) ∧ Calm w w') := Lib.hid fun w => by
    have h := test_c (op := 16) (a := a) (b := b) true w ha hb
    rw [← e16] at h
    exact h
  obtain ⟨t32, e32⟩ : ∃ z, z = T (bW true) 32 a b := ⟨_, rfl⟩
  have K32 : Hid (∀ w, Calls Try.prog 18 #[.int .u8 32, .bool true, .int .u64 (a : Int), .int .u64 (b : Int)] w fun ee w' => ee = .returned (.tuple #[.bool t32, .bool true]) ∧ Calm w w') := Lib.hid fun w => by
    have h := test_c (op := 32) (a := a) (b := b) true w ha hb
    rw [← e32] at h
    exact h
  obtain ⟨t48, e48⟩ : ∃ z, z = T (bW true) 48 a b := ⟨_, rfl⟩
  have K48 : Hid (∀ w, Calls Try.prog 18 #[.int .u8 48, .bool true, .int .u64 (a : Int), .int .u64 (b : Int)] w fun ee w' => ee = .returned (.tuple #[.bool t48, .bool true]) ∧ Calm w w') := Lib.hid fun w => by
    have h := test_c (op := 48) (a := a) (b := b) true w ha hb
    rw [← e48] at h
    exact h
  obtain ⟨t96, e96⟩ : ∃ z, z = T (bW true) 96 a b := ⟨_, rfl⟩
  have K96 : Hid (∀ w, Calls Try.prog 18 #[.int .u8 96, .bool true, .int .u64 (a : Int), .int .u64 (b : Int)] w fun ee w' => ee = .returned (.tuple #[.bool t96, .bool true]) ∧ Calm w w') := Lib.hid fun w => by
    have h := test_c (op := 96) (a := a) (b := b) true w ha hb
    rw [← e96] at h
    exact h
  obtain ⟨t112, e112⟩ : ∃ z, z = T (bW true) 112 a b := ⟨_, rfl⟩
  have K112 : Hid (∀ w, Calls Try.prog 18 #[.int .u8 112, .bool true, .int .u64 (a : Int), .int .u64 (b : Int)] w fun ee w' => ee = .returned (.tuple #[.bool t112, .bool true]) ∧ Calm w w') := Lib.hid fun w => by
    have h := test_c (op := 112) (a := a) (b := b) true w ha hb
    rw [← e112] at h
    exact h
  obtain ⟨t64, e64⟩ : ∃ z, z = T (bW true) 64 a b := ⟨_, rfl⟩
  have K64 : Hid (∀ w, Calls Try.prog 18 #[.int .u8 64, .bool true, .int .u64 (a : Int), .int .u64 (b : Int)] w fun ee w' => ee = .returned (.tuple #[.bool t64, .bool true]) ∧ Calm w w') := Lib.hid fun w => by
    have h := test_c (op := 64) (a := a) (b := b) true w ha hb
    rw [← e64] at h
    exact h
  have M0 : Hid (∀ w, Calls Try.prog 18 #[.int .u8 80, .bool true, .int .u64 (a : Int), .int .u64 (b : Int)] w fun ee w' => ee = .returned (.tuple #[.bool (!t16), .bool true]) ∧ Calm w w') := Lib.hid fun w => by
    have h := test_c (op := 80) (a := a) (b := b) true w ha hb
    rw [show T (bW true) 80 a b = !t16 from by have := turn1 (bW true) a b; rw [← e16] at this; cases t16 <;> simpa using this.symm] at h
    exact h
  have M1 : Hid (∀ w, Calls Try.prog 18 #[.int .u8 176, .bool true, .int .u64 (a : Int), .int .u64 (b : Int)] w fun ee w' => ee = .returned (.tuple #[.bool (!t32), .bool true]) ∧ Calm w w') := Lib.hid fun w => by
    have h := test_c (op := 176) (a := a) (b := b) true w ha hb
    rw [show T (bW true) 176 a b = !t32 from by have := turn2 (bW true) a b; rw [← e32] at this; cases t32 <;> simpa using this.symm] at h
    exact h
  have M2 : Hid (∀ w, Calls Try.prog 18 #[.int .u8 160, .bool true, .int .u64 (a : Int), .int .u64 (b : Int)] w fun ee w' => ee = .returned (.tuple #[.bool (!t48), .bool true]) ∧ Calm w w') := Lib.hid fun w => by
    have h := test_c (op := 160) (a := a) (b := b) true w ha hb
    rw [show T (bW true) 160 a b = !t48 from by have := turn3 (bW true) a b; rw [← e48] at this; cases t48 <;> simpa using this.symm] at h
    exact h
  have M3 : Hid (∀ w, Calls Try.prog 18 #[.int .u8 208, .bool true, .int .u64 (a : Int), .int .u64 (b : Int)] w fun ee w' => ee = .returned (.tuple #[.bool (!t96), .bool true]) ∧ Calm w w') := Lib.hid fun w => by
    have h := test_c (op := 208) (a := a) (b := b) true w ha hb
    rw [show T (bW true) 208 a b = !t96 from by have := turn4 (bW true) a b; rw [← e96] at this; cases t96 <;> simpa using this.symm] at h
    exact h
  have M4 : Hid (∀ w, Calls Try.prog 18 #[.int .u8 192, .bool true, .int .u64 (a : Int), .int .u64 (b : Int)] w fun ee w' => ee = .returned (.tuple #[.bool (!t112), .bool true]) ∧ Calm w w') := Lib.hid fun w => by
    have h := test_c (op := 192) (a := a) (b := b) true w ha hb
    rw [show T (bW true) 192 a b = !t112 from by have := turn5 (bW true) a b; rw [← e112] at this; cases t112 <;> simpa using this.symm] at h
    exact h
  have N0 : Hid (∀ w, Calls Try.prog 18 #[.int .u8 16, .bool true, .int .u64 (b : Int), .int .u64 (a : Int)] w fun ee w' => ee = .returned (.tuple #[.bool t16, .bool true]) ∧ Calm w w') := Lib.hid fun w => by
    have h := test_c (op := 16) (a := b) (b := a) true w hb ha
    rw [← round1, ← e16] at h
    exact h
  have N1 : Hid (∀ w, Calls Try.prog 18 #[.int .u8 160, .bool true, .int .u64 (b : Int), .int .u64 (a : Int)] w fun ee w' => ee = .returned (.tuple #[.bool t32, .bool true]) ∧ Calm w w') := Lib.hid fun w => by
    have h := test_c (op := 160) (a := b) (b := a) true w hb ha
    rw [← round2, ← e32] at h
    exact h
  have N2 : Hid (∀ w, Calls Try.prog 18 #[.int .u8 176, .bool true, .int .u64 (b : Int), .int .u64 (a : Int)] w fun ee w' => ee = .returned (.tuple #[.bool t48, .bool true]) ∧ Calm w w') := Lib.hid fun w => by
    have h := test_c (op := 176) (a := b) (b := a) true w hb ha
    rw [← round3, ← e48] at h
    exact h
  have N3 : Hid (∀ w, Calls Try.prog 18 #[.int .u8 192, .bool true, .int .u64 (b : Int), .int .u64 (a : Int)] w fun ee w' => ee = .returned (.tuple #[.bool t96, .bool true]) ∧ Calm w w') := Lib.hid fun w => by
    have h := test_c (op := 192) (a := b) (b := a) true w hb ha
    rw [← round4, ← e96] at h
    exact h
  have N4 : Hid (∀ w, Calls Try.prog 18 #[.int .u8 208, .bool true, .int .u64 (b : Int), .int .u64 (a : Int)] w fun ee w' => ee = .returned (.tuple #[.bool t112, .bool true]) ∧ Calm w w') := Lib.hid fun w => by
    have h := test_c (op := 208) (a := b) (b := a) true w hb ha
    rw [← round5, ← e112] at h
    exact h
  have N5 : Hid (∀ w, Calls Try.prog 18 #[.int .u8 64, .bool true, .int .u64 (b : Int), .int .u64 (a : Int)] w fun ee w' => ee = .returned (.tuple #[.bool t64, .bool true]) ∧ Calm w w') := Lib.hid fun w => by
    have h := test_c (op := 64) (a := b) (b := a) true w hb ha
    rw [← round6, ← e64] at h
    exact h
  clear ha hb e16 e32 e48 e96 e112 e64
  go_enter Try.func7, Try.ntmps7
  go_wp2_with fail
  refine (shown7_c _).mono ?_
  rintro x w0 ⟨rfl, hc⟩
  have C0 := Lib.hid hc
  clear hc
  have R0 : Hid (Row ((((((w0.alloc (.cells #[.int .u8 16, .int .u8 80] 5)).alloc (.cells #[.int .u8 32, .int .u8 176] 5)).alloc (.cells #[.int .u8 48, .int .u8 160] 5)).alloc (.cells #[.int .u8 96, .int .u8 208] 5)).alloc (.cells #[.int .u8 112, .int .u8 192] 5)).alloc (.cells #[.slice (some ⟨w0.heap.size, 0, none⟩) 2 2, .slice (some ⟨w0.heap.size + 1, 0, none⟩) 2 2, .slice (some ⟨w0.heap.size + 1 + 1, 0, none⟩) 2 2, .slice (some ⟨w0.heap.size + 1 + 1 + 1, 0, none⟩) 2 2, .slice (some ⟨w0.heap.size + 1 + 1 + 1 + 1, 0, none⟩) 2 2] 27)) (w0.heap.size) 5 #[.int .u8 16, .int .u8 80]) := Lib.hid ((((((Row.made' w0 _ _ _ (by simp [size_alloc])).alloc _).alloc _).alloc _).alloc _).alloc _)
  have R1 : Hid (Row ((((((w0.alloc (.cells #[.int .u8 16, .int .u8 80] 5)).alloc (.cells #[.int .u8 32, .int .u8 176] 5)).alloc (.cells #[.int .u8 48, .int .u8 160] 5)).alloc (.cells #[.int .u8 96, .int .u8 208] 5)).alloc (.cells #[.int .u8 112, .int .u8 192] 5)).alloc (.cells #[.slice (some ⟨w0.heap.size, 0, none⟩) 2 2, .slice (some ⟨w0.heap.size + 1, 0, none⟩) 2 2, .slice (some ⟨w0.heap.size + 1 + 1, 0, none⟩) 2 2, .slice (some ⟨w0.heap.size + 1 + 1 + 1, 0, none⟩) 2 2, .slice (some ⟨w0.heap.size + 1 + 1 + 1 + 1, 0, none⟩) 2 2] 27)) (w0.heap.size + 1) 5 #[.int .u8 32, .int .u8 176]) := Lib.hid (((((Row.made' (w0.alloc (.cells #[.int .u8 16, .int .u8 80] 5)) _ _ _ (by simp [size_alloc])).alloc _).alloc _).alloc _).alloc _)
  have R2 : Hid (Row ((((((w0.alloc (.cells #[.int .u8 16, .int .u8 80] 5)).alloc (.cells #[.int .u8 32, .int .u8 176] 5)).alloc (.cells #[.int .u8 48, .int .u8 160] 5)).alloc (.cells #[.int .u8 96, .int .u8 208] 5)).alloc (.cells #[.int .u8 112, .int .u8 192] 5)).alloc (.cells #[.slice (some ⟨w0.heap.size, 0, none⟩) 2 2, .slice (some ⟨w0.heap.size + 1, 0, none⟩) 2 2, .slice (some ⟨w0.heap.size + 1 + 1, 0, none⟩) 2 2, .slice (some ⟨w0.heap.size + 1 + 1 + 1, 0, none⟩) 2 2, .slice (some ⟨w0.heap.size + 1 + 1 + 1 + 1, 0, none⟩) 2 2] 27)) (w0.heap.size + 1 + 1) 5 #[.int .u8 48, .int .u8 160]) := Lib.hid ((((Row.made' ((w0.alloc (.cells #[.int .u8 16, .int .u8 80] 5)).alloc (.cells #[.int .u8 32, .int .u8 176] 5)) _ _ _ (by simp [size_alloc])).alloc _).alloc _).alloc _)
  have R3 : Hid (Row ((((((w0.alloc (.cells #[.int .u8 16, .int .u8 80] 5)).alloc (.cells #[.int .u8 32, .int .u8 176] 5)).alloc (.cells #[.int .u8 48, .int .u8 160] 5)).alloc (.cells #[.int .u8 96, .int .u8 208] 5)).alloc (.cells #[.int .u8 112, .int .u8 192] 5)).alloc (.cells #[.slice (some ⟨w0.heap.size, 0, none⟩) 2 2, .slice (some ⟨w0.heap.size + 1, 0, none⟩) 2 2, .slice (some ⟨w0.heap.size + 1 + 1, 0, none⟩) 2 2, .slice (some ⟨w0.heap.size + 1 + 1 + 1, 0, none⟩) 2 2, .slice (some ⟨w0.heap.size + 1 + 1 + 1 + 1, 0, none⟩) 2 2] 27)) (w0.heap.size + 1 + 1 + 1) 5 #[.int .u8 96, .int .u8 208]) := Lib.hid (((Row.made' (((w0.alloc (.cells #[.int .u8 16, .int .u8 80] 5)).alloc (.cells #[.int .u8 32, .int .u8 176] 5)).alloc (.cells #[.int .u8 48, .int .u8 160] 5)) _ _ _ (by simp [size_alloc])).alloc _).alloc _)
  have R4 : Hid (Row ((((((w0.alloc (.cells #[.int .u8 16, .int .u8 80] 5)).alloc (.cells #[.int .u8 32, .int .u8 176] 5)).alloc (.cells #[.int .u8 48, .int .u8 160] 5)).alloc (.cells #[.int .u8 96, .int .u8 208] 5)).alloc (.cells #[.int .u8 112, .int .u8 192] 5)).alloc (.cells #[.slice (some ⟨w0.heap.size, 0, none⟩) 2 2, .slice (some ⟨w0.heap.size + 1, 0, none⟩) 2 2, .slice (some ⟨w0.heap.size + 1 + 1, 0, none⟩) 2 2, .slice (some ⟨w0.heap.size + 1 + 1 + 1, 0, none⟩) 2 2, .slice (some ⟨w0.heap.size + 1 + 1 + 1 + 1, 0, none⟩) 2 2] 27)) (w0.heap.size + 1 + 1 + 1 + 1) 5 #[.int .u8 112, .int .u8 192]) := Lib.hid ((Row.made' ((((w0.alloc (.cells #[.int .u8 16, .int .u8 80] 5)).alloc (.cells #[.int .u8 32, .int .u8 176] 5)).alloc (.cells #[.int .u8 48, .int .u8 160] 5)).alloc (.cells #[.int .u8 96, .int .u8 208] 5)) _ _ _ (by simp [size_alloc])).alloc _)
  have Ro : Hid (Row ((((((w0.alloc (.cells #[.int .u8 16, .int .u8 80] 5)).alloc (.cells #[.int .u8 32, .int .u8 176] 5)).alloc (.cells #[.int .u8 48, .int .u8 160] 5)).alloc (.cells #[.int .u8 96, .int .u8 208] 5)).alloc (.cells #[.int .u8 112, .int .u8 192] 5)).alloc (.cells #[.slice (some ⟨w0.heap.size, 0, none⟩) 2 2, .slice (some ⟨w0.heap.size + 1, 0, none⟩) 2 2, .slice (some ⟨w0.heap.size + 1 + 1, 0, none⟩) 2 2, .slice (some ⟨w0.heap.size + 1 + 1 + 1, 0, none⟩) 2 2, .slice (some ⟨w0.heap.size + 1 + 1 + 1 + 1, 0, none⟩) 2 2] 27)) (w0.heap.size + 1 + 1 + 1 + 1 + 1) 27 #[.slice (some ⟨w0.heap.size, 0, none⟩) 2 2, .slice (some ⟨w0.heap.size + 1, 0, none⟩) 2 2, .slice (some ⟨w0.heap.size + 1 + 1, 0, none⟩) 2 2, .slice (some ⟨w0.heap.size + 1 + 1 + 1, 0, none⟩) 2 2, .slice (some ⟨w0.heap.size + 1 + 1 + 1 + 1, 0, none⟩) 2 2]) := Lib.hid (Row.made' (((((w0.alloc (.cells #[.int .u8 16, .int .u8 80] 5)).alloc (.cells #[.int .u8 32, .int .u8 176] 5)).alloc (.cells #[.int .u8 48, .int .u8 160] 5)).alloc (.cells #[.int .u8 96, .int .u8 208] 5)).alloc (.cells #[.int .u8 112, .int .u8 192] 5)) _ _ _ (by simp [size_alloc]))
  have Rc : Hid (Calm w0 ((((((w0.alloc (.cells #[.int .u8 16, .int .u8 80] 5)).alloc (.cells #[.int .u8 32, .int .u8 176] 5)).alloc (.cells #[.int .u8 48, .int .u8 160] 5)).alloc (.cells #[.int .u8 96, .int .u8 208] 5)).alloc (.cells #[.int .u8 112, .int .u8 192] 5)).alloc (.cells #[.slice (some ⟨w0.heap.size, 0, none⟩) 2 2, .slice (some ⟨w0.heap.size + 1, 0, none⟩) 2 2, .slice (some ⟨w0.heap.size + 1 + 1, 0, none⟩) 2 2, .slice (some ⟨w0.heap.size + 1 + 1 + 1, 0, none⟩) 2 2, .slice (some ⟨w0.heap.size + 1 + 1 + 1 + 1, 0, none⟩) 2 2] 27))) := Lib.hid (((((((Keep.refl _ w0).alloc _).alloc _).alloc _).alloc _).alloc _).alloc _)
  go_upto_block 0 with fail
  obtain ⟨wBR, hBR⟩ : ∃ x, x = ((((((w0.alloc (.cells #[.int .u8 16, .int .u8 80] 5)).alloc (.cells #[.int .u8 32, .int .u8 176] 5)).alloc (.cells #[.int .u8 48, .int .u8 160] 5)).alloc (.cells #[.int .u8 96, .int .u8 208] 5)).alloc (.cells #[.int .u8 112, .int .u8 192] 5)).alloc (.cells #[.slice (some ⟨w0.heap.size, 0, none⟩) 2 2, .slice (some ⟨w0.heap.size + 1, 0, none⟩) 2 2, .slice (some ⟨w0.heap.size + 1 + 1, 0, none⟩) 2 2, .slice (some ⟨w0.heap.size + 1 + 1 + 1, 0, none⟩) 2 2, .slice (some ⟨w0.heap.size + 1 + 1 + 1 + 1, 0, none⟩) 2 2] 27)) := ⟨_, rfl⟩
  rw [← hBR] at R0 R1 R2 R3 R4 Ro Rc ⊢
  clear hBR
  go_cut [] (fun wc => Calm wBR wc)
  case first =>
    go_wp2_with fail
    go_loopw [9] (fun i wr => ∃ k : Nat, k ≤ 5 ∧ i = .int .i64 k ∧ Calm wBR wr) (fun i _ => 5 - (intOf i).toNat)
    case atStart => exact ⟨0, by omega, rfl, Keep.refl _ _⟩
    case round =>
      obtain ⟨k, hk, rfl, hcal⟩ := hrel
      have HC := Lib.hid hcal
      clear hcal
      have hk4 : k = 0 ∨ k = 1 ∨ k = 2 ∨ k = 3 ∨ k = 4 ∨ k = 5 := by omega
      clear hk
      rcases hk4 with rfl | rfl | rfl | rfl | rfl | rfl
      · have c0 : wr.cell? ⟨w0.heap.size + 1 + 1 + 1 + 1 + 1, 0, none⟩ = _ := (Ro.out.keep HC.out (fun e => e)).cell 0
        have c1 : wr.cell? ⟨w0.heap.size, 0, none⟩ = _ := (R0.out.keep HC.out (fun e => e)).cell 0
        simp only [List.getElem?_toArray, List.getElem?_cons_zero, List.getElem?_cons_succ] at c0 c1
        go_wp2_with fail
        refine (K16.out _).mono ?_
        rintro x w1 ⟨rfl, hc⟩
        have D1 := Lib.hid (HC.out.trans hc)
        clear hc c0 c1
        have c0 : w1.cell? ⟨w0.heap.size + 1 + 1 + 1 + 1 + 1, 0, none⟩ = _ := (Ro.out.keep D1.out (fun e => e)).cell 0
        have c1 : w1.cell? ⟨w0.heap.size, 1, none⟩ = _ := (R0.out.keep D1.out (fun e => e)).cell 1
        simp only [List.getElem?_toArray, List.getElem?_cons_zero, List.getElem?_cons_succ] at c0 c1
        go_wp2_with fail
        refine (M0.out _).mono ?_
        rintro x w2 ⟨rfl, hc⟩
        have D2 := Lib.hid (D1.out.trans hc)
        clear hc c0 c1
        go_wp2_with fail
        go_roundw
        case rel => exact ⟨1, by omega, by go_num, D2.out⟩
        case measure => simp [intOf]
      · have c0 : wr.cell? ⟨w0.heap.size + 1 + 1 + 1 + 1 + 1, 1, none⟩ = _ := (Ro.out.keep HC.out (fun e => e)).cell 1
        have c1 : wr.cell? ⟨w0.heap.size + 1, 0, none⟩ = _ := (R1.out.keep HC.out (fun e => e)).cell 0
        simp only [List.getElem?_toArray, List.getElem?_cons_zero, List.getElem?_cons_succ] at c0 c1
        go_wp2_with fail
        refine (K32.out _).mono ?_
        rintro x w1 ⟨rfl, hc⟩
        have D1 := Lib.hid (HC.out.trans hc)
        clear hc c0 c1
        have c0 : w1.cell? ⟨w0.heap.size + 1 + 1 + 1 + 1 + 1, 1, none⟩ = _ := (Ro.out.keep D1.out (fun e => e)).cell 1
        have c1 : w1.cell? ⟨w0.heap.size + 1, 1, none⟩ = _ := (R1.out.keep D1.out (fun e => e)).cell 1
        simp only [List.getElem?_toArray, List.getElem?_cons_zero, List.getElem?_cons_succ] at c0 c1
        go_wp2_with fail
        refine (M1.out _).mono ?_
        rintro x w2 ⟨rfl, hc⟩
        have D2 := Lib.hid (D1.out.trans hc)
        clear hc c0 c1
        go_wp2_with fail
        go_roundw
        case rel => exact ⟨2, by omega, by go_num, D2.out⟩
        case measure => simp [intOf]
      · have c0 : wr.cell? ⟨w0.heap.size + 1 + 1 + 1 + 1 + 1, 2, none⟩ = _ := (Ro.out.keep HC.out (fun e => e)).cell 2
        have c1 : wr.cell? ⟨w0.heap.size + 1 + 1, 0, none⟩ = _ := (R2.out.keep HC.out (fun e => e)).cell 0
        simp only [List.getElem?_toArray, List.getElem?_cons_zero, List.getElem?_cons_succ] at c0 c1
        go_wp2_with fail
        refine (K48.out _).mono ?_
        rintro x w1 ⟨rfl, hc⟩
        have D1 := Lib.hid (HC.out.trans hc)
        clear hc c0 c1
        have c0 : w1.cell? ⟨w0.heap.size + 1 + 1 + 1 + 1 + 1, 2, none⟩ = _ := (Ro.out.keep D1.out (fun e => e)).cell 2
        have c1 : w1.cell? ⟨w0.heap.size + 1 + 1, 1, none⟩ = _ := (R2.out.keep D1.out (fun e => e)).cell 1
        simp only [List.getElem?_toArray, List.getElem?_cons_zero, List.getElem?_cons_succ] at c0 c1
        go_wp2_with fail
        refine (M2.out _).mono ?_
        rintro x w2 ⟨rfl, hc⟩
        have D2 := Lib.hid (D1.out.trans hc)
        clear hc c0 c1
        go_wp2_with fail
        go_roundw
        case rel => exact ⟨3, by omega, by go_num, D2.out⟩
        case measure => simp [intOf]
      · have c0 : wr.cell? ⟨w0.heap.size + 1 + 1 + 1 + 1 + 1, 3, none⟩ = _ := (Ro.out.keep HC.out (fun e => e)).cell 3
        have c1 : wr.cell? ⟨w0.heap.size + 1 + 1 + 1, 0, none⟩ = _ := (R3.out.keep HC.out (fun e => e)).cell 0
        simp only [List.getElem?_toArray, List.getElem?_cons_zero, List.getElem?_cons_succ] at c0 c1
        go_wp2_with fail
        refine (K96.out _).mono ?_
        rintro x w1 ⟨rfl, hc⟩
        have D1 := Lib.hid (HC.out.trans hc)
        clear hc c0 c1
        have c0 : w1.cell? ⟨w0.heap.size + 1 + 1 + 1 + 1 + 1, 3, none⟩ = _ := (Ro.out.keep D1.out (fun e => e)).cell 3
        have c1 : w1.cell? ⟨w0.heap.size + 1 + 1 + 1, 1, none⟩ = _ := (R3.out.keep D1.out (fun e => e)).cell 1
        simp only [List.getElem?_toArray, List.getElem?_cons_zero, List.getElem?_cons_succ] at c0 c1
        go_wp2_with fail
        refine (M3.out _).mono ?_
        rintro x w2 ⟨rfl, hc⟩
        have D2 := Lib.hid (D1.out.trans hc)
        clear hc c0 c1
        go_wp2_with fail
        go_roundw
        case rel => exact ⟨4, by omega, by go_num, D2.out⟩
        case measure => simp [intOf]
      · have c0 : wr.cell? ⟨w0.heap.size + 1 + 1 + 1 + 1 + 1, 4, none⟩ = _ := (Ro.out.keep HC.out (fun e => e)).cell 4
        have c1 : wr.cell? ⟨w0.heap.size + 1 + 1 + 1 + 1, 0, none⟩ = _ := (R4.out.keep HC.out (fun e => e)).cell 0
        simp only [List.getElem?_toArray, List.getElem?_cons_zero, List.getElem?_cons_succ] at c0 c1
        go_wp2_with fail
        refine (K112.out _).mono ?_
        rintro x w1 ⟨rfl, hc⟩
        have D1 := Lib.hid (HC.out.trans hc)
        clear hc c0 c1
        have c0 : w1.cell? ⟨w0.heap.size + 1 + 1 + 1 + 1 + 1, 4, none⟩ = _ := (Ro.out.keep D1.out (fun e => e)).cell 4
        have c1 : w1.cell? ⟨w0.heap.size + 1 + 1 + 1 + 1, 1, none⟩ = _ := (R4.out.keep D1.out (fun e => e)).cell 1
        simp only [List.getElem?_toArray, List.getElem?_cons_zero, List.getElem?_cons_succ] at c0 c1
        go_wp2_with fail
        refine (M4.out _).mono ?_
        rintro x w2 ⟨rfl, hc⟩
        have D2 := Lib.hid (D1.out.trans hc)
        clear hc c0 c1
        go_wp2_with fail
        go_roundw
        case rel => exact ⟨5, by omega, by go_num, D2.out⟩
        case measure => simp [intOf]
      · go_wp2_with fail
        go_meet
        case rel => exact HC.out
  case rest =>
    have C9 := Lib.hid (C0.out.trans (Rc.out.trans hcut))
    have Q0 : Hid (Row (((((((wc.alloc (.cells #[.int .u8 16, .int .u8 16] 5)).alloc (.cells #[.int .u8 32, .int .u8 160] 5)).alloc (.cells #[.int .u8 48, .int .u8 176] 5)).alloc (.cells #[.int .u8 96, .int .u8 192] 5)).alloc (.cells #[.int .u8 112, .int .u8 208] 5)).alloc (.cells #[.int .u8 64, .int .u8 64] 5)).alloc (.cells #[.slice (some ⟨wc.heap.size, 0, none⟩) 2 2, .slice (some ⟨wc.heap.size + 1, 0, none⟩) 2 2, .slice (some ⟨wc.heap.size + 1 + 1, 0, none⟩) 2 2, .slice (some ⟨wc.heap.size + 1 + 1 + 1, 0, none⟩) 2 2, .slice (some ⟨wc.heap.size + 1 + 1 + 1 + 1, 0, none⟩) 2 2, .slice (some ⟨wc.heap.size + 1 + 1 + 1 + 1 + 1, 0, none⟩) 2 2] 27)) (wc.heap.size) 5 #[.int .u8 16, .int .u8 16]) := Lib.hid (((((((Row.made' wc _ _ _ (by simp [size_alloc])).alloc _).alloc _).alloc _).alloc _).alloc _).alloc _)
    have Q1 : Hid (Row (((((((wc.alloc (.cells #[.int .u8 16, .int .u8 16] 5)).alloc (.cells #[.int .u8 32, .int .u8 160] 5)).alloc (.cells #[.int .u8 48, .int .u8 176] 5)).alloc (.cells #[.int .u8 96, .int .u8 192] 5)).alloc (.cells #[.int .u8 112, .int .u8 208] 5)).alloc (.cells #[.int .u8 64, .int .u8 64] 5)).alloc (.cells #[.slice (some ⟨wc.heap.size, 0, none⟩) 2 2, .slice (some ⟨wc.heap.size + 1, 0, none⟩) 2 2, .slice (some ⟨wc.heap.size + 1 + 1, 0, none⟩) 2 2, .slice (some ⟨wc.heap.size + 1 + 1 + 1, 0, none⟩) 2 2, .slice (some ⟨wc.heap.size + 1 + 1 + 1 + 1, 0, none⟩) 2 2, .slice (some ⟨wc.heap.size + 1 + 1 + 1 + 1 + 1, 0, none⟩) 2 2] 27)) (wc.heap.size + 1) 5 #[.int .u8 32, .int .u8 160]) := Lib.hid ((((((Row.made' (wc.alloc (.cells #[.int .u8 16, .int .u8 16] 5)) _ _ _ (by simp [size_alloc])).alloc _).alloc _).alloc _).alloc _).alloc _)
    have Q2 : Hid (Row (((((((wc.alloc (.cells #[.int .u8 16, .int .u8 16] 5)).alloc (.cells #[.int .u8 32, .int .u8 160] 5)).alloc (.cells #[.int .u8 48, .int .u8 176] 5)).alloc (.cells #[.int .u8 96, .int .u8 192] 5)).alloc (.cells #[.int .u8 112, .int .u8 208] 5)).alloc (.cells #[.int .u8 64, .int .u8 64] 5)).alloc (.cells #[.slice (some ⟨wc.heap.size, 0, none⟩) 2 2, .slice (some ⟨wc.heap.size + 1, 0, none⟩) 2 2, .slice (some ⟨wc.heap.size + 1 + 1, 0, none⟩) 2 2, .slice (some ⟨wc.heap.size + 1 + 1 + 1, 0, none⟩) 2 2, .slice (some ⟨wc.heap.size + 1 + 1 + 1 + 1, 0, none⟩) 2 2, .slice (some ⟨wc.heap.size + 1 + 1 + 1 + 1 + 1, 0, none⟩) 2 2] 27)) (wc.heap.size + 1 + 1) 5 #[.int .u8 48, .int .u8 176]) := Lib.hid (((((Row.made' ((wc.alloc (.cells #[.int .u8 16, .int .u8 16] 5)).alloc (.cells #[.int .u8 32, .int .u8 160] 5)) _ _ _ (by simp [size_alloc])).alloc _).alloc _).alloc _).alloc _)
    have Q3 : Hid (Row (((((((wc.alloc (.cells #[.int .u8 16, .int .u8 16] 5)).alloc (.cells #[.int .u8 32, .int .u8 160] 5)).alloc (.cells #[.int .u8 48, .int .u8 176] 5)).alloc (.cells #[.int .u8 96, .int .u8 192] 5)).alloc (.cells #[.int .u8 112, .int .u8 208] 5)).alloc (.cells #[.int .u8 64, .int .u8 64] 5)).alloc (.cells #[.slice (some ⟨wc.heap.size, 0, none⟩) 2 2, .slice (some ⟨wc.heap.size + 1, 0, none⟩) 2 2, .slice (some ⟨wc.heap.size + 1 + 1, 0, none⟩) 2 2, .slice (some ⟨wc.heap.size + 1 + 1 + 1, 0, none⟩) 2 2, .slice (some ⟨wc.heap.size + 1 + 1 + 1 + 1, 0, none⟩) 2 2, .slice (some ⟨wc.heap.size + 1 + 1 + 1 + 1 + 1, 0, none⟩) 2 2] 27)) (wc.heap.size + 1 + 1 + 1) 5 #[.int .u8 96, .int .u8 192]) := Lib.hid ((((Row.made' (((wc.alloc (.cells #[.int .u8 16, .int .u8 16] 5)).alloc (.cells #[.int .u8 32, .int .u8 160] 5)).alloc (.cells #[.int .u8 48, .int .u8 176] 5)) _ _ _ (by simp [size_alloc])).alloc _).alloc _).alloc _)
    have Q4 : Hid (Row (((((((wc.alloc (.cells #[.int .u8 16, .int .u8 16] 5)).alloc (.cells #[.int .u8 32, .int .u8 160] 5)).alloc (.cells #[.int .u8 48, .int .u8 176] 5)).alloc (.cells #[.int .u8 96, .int .u8 192] 5)).alloc (.cells #[.int .u8 112, .int .u8 208] 5)).alloc (.cells #[.int .u8 64, .int .u8 64] 5)).alloc (.cells #[.slice (some ⟨wc.heap.size, 0, none⟩) 2 2, .slice (some ⟨wc.heap.size + 1, 0, none⟩) 2 2, .slice (some ⟨wc.heap.size + 1 + 1, 0, none⟩) 2 2, .slice (some ⟨wc.heap.size + 1 + 1 + 1, 0, none⟩) 2 2, .slice (some ⟨wc.heap.size + 1 + 1 + 1 + 1, 0, none⟩) 2 2, .slice (some ⟨wc.heap.size + 1 + 1 + 1 + 1 + 1, 0, none⟩) 2 2] 27)) (wc.heap.size + 1 + 1 + 1 + 1) 5 #[.int .u8 112, .int .u8 208]) := Lib.hid (((Row.made' ((((wc.alloc (.cells #[.int .u8 16, .int .u8 16] 5)).alloc (.cells #[.int .u8 32, .int .u8 160] 5)).alloc (.cells #[.int .u8 48, .int .u8 176] 5)).alloc (.cells #[.int .u8 96, .int .u8 192] 5)) _ _ _ (by simp [size_alloc])).alloc _).alloc _)
    have Q5 : Hid (Row (((((((wc.alloc (.cells #[.int .u8 16, .int .u8 16] 5)).alloc (.cells #[.int .u8 32, .int .u8 160] 5)).alloc (.cells #[.int .u8 48, .int .u8 176] 5)).alloc (.cells #[.int .u8 96, .int .u8 192] 5)).alloc (.cells #[.int .u8 112, .int .u8 208] 5)).alloc (.cells #[.int .u8 64, .int .u8 64] 5)).alloc (.cells #[.slice (some ⟨wc.heap.size, 0, none⟩) 2 2, .slice (some ⟨wc.heap.size + 1, 0, none⟩) 2 2, .slice (some ⟨wc.heap.size + 1 + 1, 0, none⟩) 2 2, .slice (some ⟨wc.heap.size + 1 + 1 + 1, 0, none⟩) 2 2, .slice (some ⟨wc.heap.size + 1 + 1 + 1 + 1, 0, none⟩) 2 2, .slice (some ⟨wc.heap.size + 1 + 1 + 1 + 1 + 1, 0, none⟩) 2 2] 27)) (wc.heap.size + 1 + 1 + 1 + 1 + 1) 5 #[.int .u8 64, .int .u8 64]) := Lib.hid ((Row.made' (((((wc.alloc (.cells #[.int .u8 16, .int .u8 16] 5)).alloc (.cells #[.int .u8 32, .int .u8 160] 5)).alloc (.cells #[.int .u8 48, .int .u8 176] 5)).alloc (.cells #[.int .u8 96, .int .u8 192] 5)).alloc (.cells #[.int .u8 112, .int .u8 208] 5)) _ _ _ (by simp [size_alloc])).alloc _)
    have Qo : Hid (Row (((((((wc.alloc (.cells #[.int .u8 16, .int .u8 16] 5)).alloc (.cells #[.int .u8 32, .int .u8 160] 5)).alloc (.cells #[.int .u8 48, .int .u8 176] 5)).alloc (.cells #[.int .u8 96, .int .u8 192] 5)).alloc (.cells #[.int .u8 112, .int .u8 208] 5)).alloc (.cells #[.int .u8 64, .int .u8 64] 5)).alloc (.cells #[.slice (some ⟨wc.heap.size, 0, none⟩) 2 2, .slice (some ⟨wc.heap.size + 1, 0, none⟩) 2 2, .slice (some ⟨wc.heap.size + 1 + 1, 0, none⟩) 2 2, .slice (some ⟨wc.heap.size + 1 + 1 + 1, 0, none⟩) 2 2, .slice (some ⟨wc.heap.size + 1 + 1 + 1 + 1, 0, none⟩) 2 2, .slice (some ⟨wc.heap.size + 1 + 1 + 1 + 1 + 1, 0, none⟩) 2 2] 27)) (wc.heap.size + 1 + 1 + 1 + 1 + 1 + 1) 27 #[.slice (some ⟨wc.heap.size, 0, none⟩) 2 2, .slice (some ⟨wc.heap.size + 1, 0, none⟩) 2 2, .slice (some ⟨wc.heap.size + 1 + 1, 0, none⟩) 2 2, .slice (some ⟨wc.heap.size + 1 + 1 + 1, 0, none⟩) 2 2, .slice (some ⟨wc.heap.size + 1 + 1 + 1 + 1, 0, none⟩) 2 2, .slice (some ⟨wc.heap.size + 1 + 1 + 1 + 1 + 1, 0, none⟩) 2 2]) := Lib.hid (Row.made' ((((((wc.alloc (.cells #[.int .u8 16, .int .u8 16] 5)).alloc (.cells #[.int .u8 32, .int .u8 160] 5)).alloc (.cells #[.int .u8 48, .int .u8 176] 5)).alloc (.cells #[.int .u8 96, .int .u8 192] 5)).alloc (.cells #[.int .u8 112, .int .u8 208] 5)).alloc (.cells #[.int .u8 64, .int .u8 64] 5)) _ _ _ (by simp [size_alloc]))
    have Qc : Hid (Calm wc (((((((wc.alloc (.cells #[.int .u8 16, .int .u8 16] 5)).alloc (.cells #[.int .u8 32, .int .u8 160] 5)).alloc (.cells #[.int .u8 48, .int .u8 176] 5)).alloc (.cells #[.int .u8 96, .int .u8 192] 5)).alloc (.cells #[.int .u8 112, .int .u8 208] 5)).alloc (.cells #[.int .u8 64, .int .u8 64] 5)).alloc (.cells #[.slice (some ⟨wc.heap.size, 0, none⟩) 2 2, .slice (some ⟨wc.heap.size + 1, 0, none⟩) 2 2, .slice (some ⟨wc.heap.size + 1 + 1, 0, none⟩) 2 2, .slice (some ⟨wc.heap.size + 1 + 1 + 1, 0, none⟩) 2 2, .slice (some ⟨wc.heap.size + 1 + 1 + 1 + 1, 0, none⟩) 2 2, .slice (some ⟨wc.heap.size + 1 + 1 + 1 + 1 + 1, 0, none⟩) 2 2] 27))) := Lib.hid ((((((((Keep.refl _ wc).alloc _).alloc _).alloc _).alloc _).alloc _).alloc _).alloc _)
    clear hcut R0 R1 R2 R3 R4 Ro Rc
    go_wp2_with fail
    obtain ⟨wBQ, hBQ⟩ : ∃ x, x = (((((((wc.alloc (.cells #[.int .u8 16, .int .u8 16] 5)).alloc (.cells #[.int .u8 32, .int .u8 160] 5)).alloc (.cells #[.int .u8 48, .int .u8 176] 5)).alloc (.cells #[.int .u8 96, .int .u8 192] 5)).alloc (.cells #[.int .u8 112, .int .u8 208] 5)).alloc (.cells #[.int .u8 64, .int .u8 64] 5)).alloc (.cells #[.slice (some ⟨wc.heap.size, 0, none⟩) 2 2, .slice (some ⟨wc.heap.size + 1, 0, none⟩) 2 2, .slice (some ⟨wc.heap.size + 1 + 1, 0, none⟩) 2 2, .slice (some ⟨wc.heap.size + 1 + 1 + 1, 0, none⟩) 2 2, .slice (some ⟨wc.heap.size + 1 + 1 + 1 + 1, 0, none⟩) 2 2, .slice (some ⟨wc.heap.size + 1 + 1 + 1 + 1 + 1, 0, none⟩) 2 2] 27)) := ⟨_, rfl⟩
    rw [← hBQ] at Q0 Q1 Q2 Q3 Q4 Q5 Qo Qc ⊢
    clear hBQ
    go_loopw [15] (fun i wr => ∃ k : Nat, k ≤ 6 ∧ i = .int .i64 k ∧ Calm wBQ wr) (fun i _ => 6 - (intOf i).toNat)
    case atStart => exact ⟨0, by omega, rfl, Keep.refl _ _⟩
    case round =>
      obtain ⟨k, hk, rfl, hcal⟩ := hrel
      have HC := Lib.hid hcal
      clear hcal
      have hk4 : k = 0 ∨ k = 1 ∨ k = 2 ∨ k = 3 ∨ k = 4 ∨ k = 5 ∨ k = 6 := by omega
      clear hk
      rcases hk4 with rfl | rfl | rfl | rfl | rfl | rfl | rfl
      · have c0 : wr.cell? ⟨wc.heap.size + 1 + 1 + 1 + 1 + 1 + 1, 0, none⟩ = _ := (Qo.out.keep HC.out (fun e => e)).cell 0
        have c1 : wr.cell? ⟨wc.heap.size, 0, none⟩ = _ := (Q0.out.keep HC.out (fun e => e)).cell 0
        simp only [List.getElem?_toArray, List.getElem?_cons_zero, List.getElem?_cons_succ] at c0 c1
        go_wp2_with fail
        refine (K16.out _).mono ?_
        rintro x w1 ⟨rfl, hc⟩
        have D1 := Lib.hid (HC.out.trans hc)
        clear hc c0 c1
        have c0 : w1.cell? ⟨wc.heap.size + 1 + 1 + 1 + 1 + 1 + 1, 0, none⟩ = _ := (Qo.out.keep D1.out (fun e => e)).cell 0
        have c1 : w1.cell? ⟨wc.heap.size, 1, none⟩ = _ := (Q0.out.keep D1.out (fun e => e)).cell 1
        simp only [List.getElem?_toArray, List.getElem?_cons_zero, List.getElem?_cons_succ] at c0 c1
        go_wp2_with fail
        refine (N0.out _).mono ?_
        rintro x w2 ⟨rfl, hc⟩
        have D2 := Lib.hid (D1.out.trans hc)
        clear hc c0 c1
        go_wp2_with fail
        go_roundw
        case rel => exact ⟨1, by omega, by go_num, D2.out⟩
        case measure => simp [intOf]
      · have c0 : wr.cell? ⟨wc.heap.size + 1 + 1 + 1 + 1 + 1 + 1, 1, none⟩ = _ := (Qo.out.keep HC.out (fun e => e)).cell 1
        have c1 : wr.cell? ⟨wc.heap.size + 1, 0, none⟩ = _ := (Q1.out.keep HC.out (fun e => e)).cell 0
        simp only [List.getElem?_toArray, List.getElem?_cons_zero, List.getElem?_cons_succ] at c0 c1
        go_wp2_with fail
        refine (K32.out _).mono ?_
        rintro x w1 ⟨rfl, hc⟩
        have D1 := Lib.hid (HC.out.trans hc)
        clear hc c0 c1
        have c0 : w1.cell? ⟨wc.heap.size + 1 + 1 + 1 + 1 + 1 + 1, 1, none⟩ = _ := (Qo.out.keep D1.out (fun e => e)).cell 1
        have c1 : w1.cell? ⟨wc.heap.size + 1, 1, none⟩ = _ := (Q1.out.keep D1.out (fun e => e)).cell 1
        simp only [List.getElem?_toArray, List.getElem?_cons_zero, List.getElem?_cons_succ] at c0 c1
        go_wp2_with fail
        refine (N1.out _).mono ?_
        rintro x w2 ⟨rfl, hc⟩
        have D2 := Lib.hid (D1.out.trans hc)
        clear hc c0 c1
        go_wp2_with fail
        go_roundw
        case rel => exact ⟨2, by omega, by go_num, D2.out⟩
        case measure => simp [intOf]
      · have c0 : wr.cell? ⟨wc.heap.size + 1 + 1 + 1 + 1 + 1 + 1, 2, none⟩ = _ := (Qo.out.keep HC.out (fun e => e)).cell 2
        have c1 : wr.cell? ⟨wc.heap.size + 1 + 1, 0, none⟩ = _ := (Q2.out.keep HC.out (fun e => e)).cell 0
        simp only [List.getElem?_toArray, List.getElem?_cons_zero, List.getElem?_cons_succ] at c0 c1
        go_wp2_with fail
        refine (K48.out _).mono ?_
        rintro x w1 ⟨rfl, hc⟩
        have D1 := Lib.hid (HC.out.trans hc)
        clear hc c0 c1
        have c0 : w1.cell? ⟨wc.heap.size + 1 + 1 + 1 + 1 + 1 + 1, 2, none⟩ = _ := (Qo.out.keep D1.out (fun e => e)).cell 2
        have c1 : w1.cell? ⟨wc.heap.size + 1 + 1, 1, none⟩ = _ := (Q2.out.keep D1.out (fun e => e)).cell 1
        simp only [List.getElem?_toArray, List.getElem?_cons_zero, List.getElem?_cons_succ] at c0 c1
        go_wp2_with fail
        refine (N2.out _).mono ?_
        rintro x w2 ⟨rfl, hc⟩
        have D2 := Lib.hid (D1.out.trans hc)
        clear hc c0 c1
        go_wp2_with fail
        go_roundw
        case rel => exact ⟨3, by omega, by go_num, D2.out⟩
        case measure => simp [intOf]
      · have c0 : wr.cell? ⟨wc.heap.size + 1 + 1 + 1 + 1 + 1 + 1, 3, none⟩ = _ := (Qo.out.keep HC.out (fun e => e)).cell 3
        have c1 : wr.cell? ⟨wc.heap.size + 1 + 1 + 1, 0, none⟩ = _ := (Q3.out.keep HC.out (fun e => e)).cell 0
        simp only [List.getElem?_toArray, List.getElem?_cons_zero, List.getElem?_cons_succ] at c0 c1
        go_wp2_with fail
        refine (K96.out _).mono ?_
        rintro x w1 ⟨rfl, hc⟩
        have D1 := Lib.hid (HC.out.trans hc)
        clear hc c0 c1
        have c0 : w1.cell? ⟨wc.heap.size + 1 + 1 + 1 + 1 + 1 + 1, 3, none⟩ = _ := (Qo.out.keep D1.out (fun e => e)).cell 3
        have c1 : w1.cell? ⟨wc.heap.size + 1 + 1 + 1, 1, none⟩ = _ := (Q3.out.keep D1.out (fun e => e)).cell 1
        simp only [List.getElem?_toArray, List.getElem?_cons_zero, List.getElem?_cons_succ] at c0 c1
        go_wp2_with fail
        refine (N3.out _).mono ?_
        rintro x w2 ⟨rfl, hc⟩
        have D2 := Lib.hid (D1.out.trans hc)
        clear hc c0 c1
        go_wp2_with fail
        go_roundw
        case rel => exact ⟨4, by omega, by go_num, D2.out⟩
        case measure => simp [intOf]
      · have c0 : wr.cell? ⟨wc.heap.size + 1 + 1 + 1 + 1 + 1 + 1, 4, none⟩ = _ := (Qo.out.keep HC.out (fun e => e)).cell 4
        have c1 : wr.cell? ⟨wc.heap.size + 1 + 1 + 1 + 1, 0, none⟩ = _ := (Q4.out.keep HC.out (fun e => e)).cell 0
        simp only [List.getElem?_toArray, List.getElem?_cons_zero, List.getElem?_cons_succ] at c0 c1
        go_wp2_with fail
        refine (K112.out _).mono ?_
        rintro x w1 ⟨rfl, hc⟩
        have D1 := Lib.hid (HC.out.trans hc)
        clear hc c0 c1
        have c0 : w1.cell? ⟨wc.heap.size + 1 + 1 + 1 + 1 + 1 + 1, 4, none⟩ = _ := (Qo.out.keep D1.out (fun e => e)).cell 4
        have c1 : w1.cell? ⟨wc.heap.size + 1 + 1 + 1 + 1, 1, none⟩ = _ := (Q4.out.keep D1.out (fun e => e)).cell 1
        simp only [List.getElem?_toArray, List.getElem?_cons_zero, List.getElem?_cons_succ] at c0 c1
        go_wp2_with fail
        refine (N4.out _).mono ?_
        rintro x w2 ⟨rfl, hc⟩
        have D2 := Lib.hid (D1.out.trans hc)
        clear hc c0 c1
        go_wp2_with fail
        go_roundw
        case rel => exact ⟨5, by omega, by go_num, D2.out⟩
        case measure => simp [intOf]
      · have c0 : wr.cell? ⟨wc.heap.size + 1 + 1 + 1 + 1 + 1 + 1, 5, none⟩ = _ := (Qo.out.keep HC.out (fun e => e)).cell 5
        have c1 : wr.cell? ⟨wc.heap.size + 1 + 1 + 1 + 1 + 1, 0, none⟩ = _ := (Q5.out.keep HC.out (fun e => e)).cell 0
        simp only [List.getElem?_toArray, List.getElem?_cons_zero, List.getElem?_cons_succ] at c0 c1
        go_wp2_with fail
        refine (K64.out _).mono ?_
        rintro x w1 ⟨rfl, hc⟩
        have D1 := Lib.hid (HC.out.trans hc)
        clear hc c0 c1
        have c0 : w1.cell? ⟨wc.heap.size + 1 + 1 + 1 + 1 + 1 + 1, 5, none⟩ = _ := (Qo.out.keep D1.out (fun e => e)).cell 5
        have c1 : w1.cell? ⟨wc.heap.size + 1 + 1 + 1 + 1 + 1, 1, none⟩ = _ := (Q5.out.keep D1.out (fun e => e)).cell 1
        simp only [List.getElem?_toArray, List.getElem?_cons_zero, List.getElem?_cons_succ] at c0 c1
        go_wp2_with fail
        refine (N5.out _).mono ?_
        rintro x w2 ⟨rfl, hc⟩
        have D2 := Lib.hid (D1.out.trans hc)
        clear hc c0 c1
        go_wp2_with fail
        go_roundw
        case rel => exact ⟨6, by omega, by go_num, D2.out⟩
        case measure => simp [intOf]
      · go_wp2_with fail
        go_ret
        exact ⟨rfl, C9.out.trans (Qc.out.trans HC.out)⟩

theorem aluTurned_w (wide : Bool) {a b : Nat} (ha : a < 18446744073709551616) (hb : b < 18446744073709551616) (w : World) : Calls Try.prog 7 #[.bool wide, .int .u64 (a : Int), .int .u64 (b : Int)] w fun e w' => e = .returned (.bool true) ∧ Calm w w' := by
  cases wide
  · exact aluTurned_false ha hb w
  · exact aluTurned_true ha hb w
end Go.Proofs.Ytilkmopclijclaa