/-
  Contracts of the reference of layer 5: shape, the other classes.
-/
import Derived.Test.YthmiiddojccafaaR5D
namespace Go.Proofs.Ythmiiddojccafaa
open Go.RowKit
set_option linter.all false
theorem shape_7a (op : Nat) (ho : op < 256) (hc : op % 8 = 7) (h : op / 16 = 8) (hr : op / 8 % 2 = 0) (w : World) : Calls Try.prog 67 #[.int .i64 ((op : Nat) : Int)] w fun e w' => e = .returned (.string (str (shpO op))) ∧ w = w' := by
  have hz : shpO op = [100] := by
    have key : ∀ k : Fin 256, (k.1 % 8 = 7 ∧ k.1 / 16 = 8 ∧ k.1 / 8 % 2 = 0) → shpO k.1 = [100] := by decide +kernel
    exact key ⟨op, ho⟩ ⟨hc, h, hr⟩
  rw [hz]
  have m0 : (op : Int) % 8 = 7 := by omega
  have m1 : (op : Int) / 16 = 8 := by omega
  have m2 : (op : Int) / 8 % 2 = 0 := by omega
  have b0 : (op : Int) < 256 := by omega
  have HO := Lib.hid ho
  clear hz hc h hr ho
  go_enter Try.func67, Try.ntmps67
  go_wp2_with fail
  go_ret
  exact ⟨rfl, rfl⟩
theorem shape_7b (op : Nat) (ho : op < 256) (hc : op % 8 = 7) (h : op / 16 = 8) (hr : op / 8 % 2 = 1) (w : World) : Calls Try.prog 67 #[.int .i64 ((op : Nat) : Int)] w fun e w' => e = .returned (.string (str (shpO op))) ∧ w = w' := by
  have hz : shpO op = [45] := by
    have key : ∀ k : Fin 256, (k.1 % 8 = 7 ∧ k.1 / 16 = 8 ∧ k.1 / 8 % 2 = 1) → shpO k.1 = [45] := by decide +kernel
    exact key ⟨op, ho⟩ ⟨hc, h, hr⟩
  rw [hz]
  have m0 : (op : Int) % 8 = 7 := by omega
  have m1 : (op : Int) / 16 = 8 := by omega
  have m2 : (op : Int) / 8 % 2 = 1 := by omega
  have b0 : (op : Int) < 256 := by omega
  have HO := Lib.hid ho
  clear hz hc h hr ho
  go_enter Try.func67, Try.ntmps67
  go_wp2_with fail
  go_ret
  exact ⟨rfl, rfl⟩
theorem shape_7c (op : Nat) (ho : op < 256) (hc : op % 8 = 7) (h : op / 16 ≠ 8) (h2 : op / 16 ≤ 12) (hr : op / 8 % 2 = 1) (w : World) : Calls Try.prog 67 #[.int .i64 ((op : Nat) : Int)] w fun e w' => e = .returned (.string (str (shpO op))) ∧ w = w' := by
  have hz : shpO op = [100, 115] := by
    have key : ∀ k : Fin 256, (k.1 % 8 = 7 ∧ k.1 / 16 ≠ 8 ∧ k.1 / 16 ≤ 12 ∧ k.1 / 8 % 2 = 1) → shpO k.1 = [100, 115] := by decide +kernel
    exact key ⟨op, ho⟩ ⟨hc, h, h2, hr⟩
  rw [hz]
  have m0 : (op : Int) % 8 = 7 := by omega
  have m3 : ((op : Int) / 16 * 16 == 128) = false := by rw [beq_eq_false_iff_ne]; omega
  have m4 : ((op : Int) / 16 * 16 != 128) = true := by rw [bne_iff_ne]; omega
  have m5 : (op : Int) / 16 * 16 ≤ 192 := by omega
  have m2 : (op : Int) / 8 % 2 = 1 := by omega
  have b0 : (op : Int) < 256 := by omega
  have HO := Lib.hid ho
  clear hz hc h h2 hr ho
  go_enter Try.func67, Try.ntmps67
  go_wp2_with fail
  go_ret
  exact ⟨rfl, rfl⟩
theorem shape_7d (op : Nat) (ho : op < 256) (hc : op % 8 = 7) (h : op / 16 ≠ 8) (h2 : op / 16 ≤ 12) (hr : op / 8 % 2 = 0) (w : World) : Calls Try.prog 67 #[.int .i64 ((op : Nat) : Int)] w fun e w' => e = .returned (.string (str (shpO op))) ∧ w = w' := by
  have hz : shpO op = [100, 105] := by
    have key : ∀ k : Fin 256, (k.1 % 8 = 7 ∧ k.1 / 16 ≠ 8 ∧ k.1 / 16 ≤ 12 ∧ k.1 / 8 % 2 = 0) → shpO k.1 = [100, 105] := by decide +kernel
    exact key ⟨op, ho⟩ ⟨hc, h, h2, hr⟩
  rw [hz]
  have m0 : (op : Int) % 8 = 7 := by omega
  have m3 : ((op : Int) / 16 * 16 == 128) = false := by rw [beq_eq_false_iff_ne]; omega
  have m4 : ((op : Int) / 16 * 16 != 128) = true := by rw [bne_iff_ne]; omega
  have m5 : (op : Int) / 16 * 16 ≤ 192 := by omega
  have m2 : (op : Int) / 8 % 2 = 0 := by omega
  have b0 : (op : Int) < 256 := by omega
  have HO := Lib.hid ho
  clear hz hc h h2 hr ho
  go_enter Try.func67, Try.ntmps67
  go_wp2_with fail
  go_ret
  exact ⟨rfl, rfl⟩
theorem shape_7e (op : Nat) (ho : op < 256) (hc : op % 8 = 7) (h2 : 12 < op / 16) (w : World) : Calls Try.prog 67 #[.int .i64 ((op : Nat) : Int)] w fun e w' => e = .returned (.string (str (shpO op))) ∧ w = w' := by
  have hz : shpO op = [45] := by
    have key : ∀ k : Fin 256, (k.1 % 8 = 7 ∧ 12 < k.1 / 16) → shpO k.1 = [45] := by decide +kernel
    exact key ⟨op, ho⟩ ⟨hc, h2⟩
  rw [hz]
  have m0 : (op : Int) % 8 = 7 := by omega
  have m3 : ((op : Int) / 16 * 16 == 128) = false := by rw [beq_eq_false_iff_ne]; omega
  have m4 : ((op : Int) / 16 * 16 != 128) = true := by rw [bne_iff_ne]; omega
  have m5 : ¬ ((op : Int) / 16 * 16 ≤ 192) := by omega
  have b0 : (op : Int) < 256 := by omega
  have HO := Lib.hid ho
  clear hz hc h2 ho
  go_enter Try.func67, Try.ntmps67
  go_wp2_with fail
  go_ret
  exact ⟨rfl, rfl⟩
theorem shape_5a (op : Nat) (ho : op < 256) (hc : op % 8 = 5) (h5 : op ≠ 5) (h6 : op ≠ 133) (h7 : op ≠ 149) (h1 : 1 ≤ op / 16) (h2 : op / 16 ≤ 13) (h3 : op / 16 ≠ 8) (h4 : op / 16 ≠ 9) (hr : op / 8 % 2 = 1) (w : World) : Calls Try.prog 67 #[.int .i64 ((op : Nat) : Int)] w fun e w' => e = .returned (.string (str (shpO op))) ∧ w = w' := by
  have hz : shpO op = [100, 115, 111] := by
    have key : ∀ k : Fin 256, (k.1 % 8 = 5 ∧ k.1 ≠ 5 ∧ k.1 ≠ 133 ∧ k.1 ≠ 149 ∧ 1 ≤ k.1 / 16 ∧ k.1 / 16 ≤ 13 ∧ k.1 / 16 ≠ 8 ∧ k.1 / 16 ≠ 9 ∧ k.1 / 8 % 2 = 1) → shpO k.1 = [100, 115, 111] := by decide +kernel
    exact key ⟨op, ho⟩ ⟨hc, h5, h6, h7, h1, h2, h3, h4, hr⟩
  rw [hz]
  have m0 : (op : Int) % 8 = 5 := by omega
  have n5 : ((op : Int) == 5) = false := by rw [beq_eq_false_iff_ne]; omega
  have n133 : ((op : Int) == 133) = false := by rw [beq_eq_false_iff_ne]; omega
  have n149 : ((op : Int) == 149) = false := by rw [beq_eq_false_iff_ne]; omega
  have m1 : (16 : Int) ≤ (op : Int) / 16 * 16 := by omega
  have m2 : (op : Int) / 16 * 16 ≤ 208 := by omega
  have m3 : ((op : Int) / 16 * 16 != 128) = true := by rw [bne_iff_ne]; omega
  have m4 : ((op : Int) / 16 * 16 != 144) = true := by rw [bne_iff_ne]; omega
  have m6 : (op : Int) / 8 % 2 = 1 := by omega
  have b0 : (op : Int) < 256 := by omega
  have HO := Lib.hid ho
  clear hz hc h5 h6 h7 h1 h2 h3 h4 hr ho
  go_enter Try.func67, Try.ntmps67
  go_wp2_with fail
  go_ret
  exact ⟨rfl, rfl⟩
theorem shape_5b (op : Nat) (ho : op < 256) (hc : op % 8 = 5) (h5 : op ≠ 5) (h6 : op ≠ 133) (h7 : op ≠ 149) (h1 : 1 ≤ op / 16) (h2 : op / 16 ≤ 13) (h3 : op / 16 ≠ 8) (h4 : op / 16 ≠ 9) (hr : op / 8 % 2 = 0) (w : World) : Calls Try.prog 67 #[.int .i64 ((op : Nat) : Int)] w fun e w' => e = .returned (.string (str (shpO op))) ∧ w = w' := by
  have hz : shpO op = [100, 111, 105] := by
    have key : ∀ k : Fin 256, (k.1 % 8 = 5 ∧ k.1 ≠ 5 ∧ k.1 ≠ 133 ∧ k.1 ≠ 149 ∧ 1 ≤ k.1 / 16 ∧ k.1 / 16 ≤ 13 ∧ k.1 / 16 ≠ 8 ∧ k.1 / 16 ≠ 9 ∧ k.1 / 8 % 2 = 0) → shpO k.1 = [100, 111, 105] := by decide +kernel
    exact key ⟨op, ho⟩ ⟨hc, h5, h6, h7, h1, h2, h3, h4, hr⟩
  rw [hz]
  have m0 : (op : Int) % 8 = 5 := by omega
  have n5 : ((op : Int) == 5) = false := by rw [beq_eq_false_iff_ne]; omega
  have n133 : ((op : Int) == 133) = false := by rw [beq_eq_false_iff_ne]; omega
  have n149 : ((op : Int) == 149) = false := by rw [beq_eq_false_iff_ne]; omega
  have m1 : (16 : Int) ≤ (op : Int) / 16 * 16 := by omega
  have m2 : (op : Int) / 16 * 16 ≤ 208 := by omega
  have m3 : ((op : Int) / 16 * 16 != 128) = true := by rw [bne_iff_ne]; omega
  have m4 : ((op : Int) / 16 * 16 != 144) = true := by rw [bne_iff_ne]; omega
  have m6 : (op : Int) / 8 % 2 = 0 := by omega
  have b0 : (op : Int) < 256 := by omega
  have HO := Lib.hid ho
  clear hz hc h5 h6 h7 h1 h2 h3 h4 hr ho
  go_enter Try.func67, Try.ntmps67
  go_wp2_with fail
  go_ret
  exact ⟨rfl, rfl⟩
theorem shape_5c (op : Nat) (ho : op < 256) (hc : op % 8 = 5) (h5 : op ≠ 5) (h6 : op ≠ 133) (h7 : op ≠ 149) (h1 : op / 16 = 0) (w : World) : Calls Try.prog 67 #[.int .i64 ((op : Nat) : Int)] w fun e w' => e = .returned (.string (str (shpO op))) ∧ w = w' := by
  have hz : shpO op = [45] := by
    have key : ∀ k : Fin 256, (k.1 % 8 = 5 ∧ k.1 ≠ 5 ∧ k.1 ≠ 133 ∧ k.1 ≠ 149 ∧ k.1 / 16 = 0) → shpO k.1 = [45] := by decide +kernel
    exact key ⟨op, ho⟩ ⟨hc, h5, h6, h7, h1⟩
  rw [hz]
  have m0 : (op : Int) % 8 = 5 := by omega
  have n5 : ((op : Int) == 5) = false := by rw [beq_eq_false_iff_ne]; omega
  have n133 : ((op : Int) == 133) = false := by rw [beq_eq_false_iff_ne]; omega
  have n149 : ((op : Int) == 149) = false := by rw [beq_eq_false_iff_ne]; omega
  have m1 : ¬ ((16 : Int) ≤ (op : Int) / 16 * 16) := by omega
  have b0 : (op : Int) < 256 := by omega
  have HO := Lib.hid ho
  clear hz hc h5 h6 h7 h1 ho
  go_enter Try.func67, Try.ntmps67
  go_wp2_with fail
  go_ret
  exact ⟨rfl, rfl⟩
theorem shape_5d (op : Nat) (ho : op < 256) (hc : op % 8 = 5) (h5 : op ≠ 5) (h6 : op ≠ 133) (h7 : op ≠ 149) (h1 : 13 < op / 16) (w : World) : Calls Try.prog 67 #[.int .i64 ((op : Nat) : Int)] w fun e w' => e = .returned (.string (str (shpO op))) ∧ w = w' := by
  have hz : shpO op = [45] := by
    have key : ∀ k : Fin 256, (k.1 % 8 = 5 ∧ k.1 ≠ 5 ∧ k.1 ≠ 133 ∧ k.1 ≠ 149 ∧ 13 < k.1 / 16) → shpO k.1 = [45] := by decide +kernel
    exact key ⟨op, ho⟩ ⟨hc, h5, h6, h7, h1⟩
  rw [hz]
  have m0 : (op : Int) % 8 = 5 := by omega
  have n5 : ((op : Int) == 5) = false := by rw [beq_eq_false_iff_ne]; omega
  have n133 : ((op : Int) == 133) = false := by rw [beq_eq_false_iff_ne]; omega
  have n149 : ((op : Int) == 149) = false := by rw [beq_eq_false_iff_ne]; omega
  have m1 : (16 : Int) ≤ (op : Int) / 16 * 16 := by omega
  have m2 : ¬ ((op : Int) / 16 * 16 ≤ 208) := by omega
  have b0 : (op : Int) < 256 := by omega
  have HO := Lib.hid ho
  clear hz hc h5 h6 h7 h1 ho
  go_enter Try.func67, Try.ntmps67
  go_wp2_with fail
  go_ret
  exact ⟨rfl, rfl⟩
theorem shape_5e (op : Nat) (ho : op < 256) (hc : op % 8 = 5) (h5 : op ≠ 5) (h6 : op ≠ 133) (h7 : op ≠ 149) (h1 : op / 16 = 8) (w : World) : Calls Try.prog 67 #[.int .i64 ((op : Nat) : Int)] w fun e w' => e = .returned (.string (str (shpO op))) ∧ w = w' := by
  have hz : shpO op = [45] := by
    have key : ∀ k : Fin 256, (k.1 % 8 = 5 ∧ k.1 ≠ 5 ∧ k.1 ≠ 133 ∧ k.1 ≠ 149 ∧ k.1 / 16 = 8) → shpO k.1 = [45] := by decide +kernel
    exact key ⟨op, ho⟩ ⟨hc, h5, h6, h7, h1⟩
  rw [hz]
  have m0 : (op : Int) % 8 = 5 := by omega
  have n5 : ((op : Int) == 5) = false := by rw [beq_eq_false_iff_ne]; omega
  have n133 : ((op : Int) == 133) = false := by rw [beq_eq_false_iff_ne]; omega
  have n149 : ((op : Int) == 149) = false := by rw [beq_eq_false_iff_ne]; omega
  have m1 : (op : Int) / 16 = 8 := by omega
  have b0 : (op : Int) < 256 := by omega
  have HO := Lib.hid ho
  clear hz hc h5 h6 h7 h1 ho
  go_enter Try.func67, Try.ntmps67
  go_wp2_with fail
  go_ret
  exact ⟨rfl, rfl⟩
theorem shape_5f (op : Nat) (ho : op < 256) (hc : op % 8 = 5) (h5 : op ≠ 5) (h6 : op ≠ 133) (h7 : op ≠ 149) (h1 : op / 16 = 9) (w : World) : Calls Try.prog 67 #[.int .i64 ((op : Nat) : Int)] w fun e w' => e = .returned (.string (str (shpO op))) ∧ w = w' := by
  have hz : shpO op = [45] := by
    have key : ∀ k : Fin 256, (k.1 % 8 = 5 ∧ k.1 ≠ 5 ∧ k.1 ≠ 133 ∧ k.1 ≠ 149 ∧ k.1 / 16 = 9) → shpO k.1 = [45] := by decide +kernel
    exact key ⟨op, ho⟩ ⟨hc, h5, h6, h7, h1⟩
  rw [hz]
  have m0 : (op : Int) % 8 = 5 := by omega
  have n5 : ((op : Int) == 5) = false := by rw [beq_eq_false_iff_ne]; omega
  have n133 : ((op : Int) == 133) = false := by rw [beq_eq_false_iff_ne]; omega
  have n149 : ((op : Int) == 149) = false := by rw [beq_eq_false_iff_ne]; omega
  have m1 : (op : Int) / 16 = 9 := by omega
  have b0 : (op : Int) < 256 := by omega
  have HO := Lib.hid ho
  clear hz hc h5 h6 h7 h1 ho
  go_enter Try.func67, Try.ntmps67
  go_wp2_with fail
  go_ret
  exact ⟨rfl, rfl⟩
theorem shape_6a (op : Nat) (ho : op < 256) (hc : op % 8 = 6) (h5 : op ≠ 5) (h6 : op ≠ 133) (h7 : op ≠ 149) (h1 : 1 ≤ op / 16) (h2 : op / 16 ≤ 13) (h3 : op / 16 ≠ 8) (h4 : op / 16 ≠ 9) (hr : op / 8 % 2 = 1) (w : World) : Calls Try.prog 67 #[.int .i64 ((op : Nat) : Int)] w fun e w' => e = .returned (.string (str (shpO op))) ∧ w = w' := by
  have hz : shpO op = [100, 115, 111] := by
    have key : ∀ k : Fin 256, (k.1 % 8 = 6 ∧ k.1 ≠ 5 ∧ k.1 ≠ 133 ∧ k.1 ≠ 149 ∧ 1 ≤ k.1 / 16 ∧ k.1 / 16 ≤ 13 ∧ k.1 / 16 ≠ 8 ∧ k.1 / 16 ≠ 9 ∧ k.1 / 8 % 2 = 1) → shpO k.1 = [100, 115, 111] := by decide +kernel
    exact key ⟨op, ho⟩ ⟨hc, h5, h6, h7, h1, h2, h3, h4, hr⟩
  rw [hz]
  have m0 : (op : Int) % 8 = 6 := by omega
  have n5 : ((op : Int) == 5) = false := by rw [beq_eq_false_iff_ne]; omega
  have n133 : ((op : Int) == 133) = false := by rw [beq_eq_false_iff_ne]; omega
  have n149 : ((op : Int) == 149) = false := by rw [beq_eq_false_iff_ne]; omega
  have m1 : (16 : Int) ≤ (op : Int) / 16 * 16 := by omega
  have m2 : (op : Int) / 16 * 16 ≤ 208 := by omega
  have m3 : ((op : Int) / 16 * 16 != 128) = true := by rw [bne_iff_ne]; omega
  have m4 : ((op : Int) / 16 * 16 != 144) = true := by rw [bne_iff_ne]; omega
  have m6 : (op : Int) / 8 % 2 = 1 := by omega
  have b0 : (op : Int) < 256 := by omega
  have HO := Lib.hid ho
  clear hz hc h5 h6 h7 h1 h2 h3 h4 hr ho
  go_enter Try.func67, Try.ntmps67
  go_wp2_with fail
  go_ret
  exact ⟨rfl, rfl⟩
theorem shape_6b (op : Nat) (ho : op < 256) (hc : op % 8 = 6) (h5 : op ≠ 5) (h6 : op ≠ 133) (h7 : op ≠ 149) (h1 : 1 ≤ op / 16) (h2 : op / 16 ≤ 13) (h3 : op / 16 ≠ 8) (h4 : op / 16 ≠ 9) (hr : op / 8 % 2 = 0) (w : World) : Calls Try.prog 67 #[.int .i64 ((op : Nat) : Int)] w fun e w' => e = .returned (.string (str (shpO op))) ∧ w = w' := by
  have hz : shpO op = [100, 111, 105] := by
    have key : ∀ k : Fin 256, (k.1 % 8 = 6 ∧ k.1 ≠ 5 ∧ k.1 ≠ 133 ∧ k.1 ≠ 149 ∧ 1 ≤ k.1 / 16 ∧ k.1 / 16 ≤ 13 ∧ k.1 / 16 ≠ 8 ∧ k.1 / 16 ≠ 9 ∧ k.1 / 8 % 2 = 0) → shpO k.1 = [100, 111, 105] := by decide +kernel
    exact key ⟨op, ho⟩ ⟨hc, h5, h6, h7, h1, h2, h3, h4, hr⟩
  rw [hz]
  have m0 : (op : Int) % 8 = 6 := by omega
  have n5 : ((op : Int) == 5) = false := by rw [beq_eq_false_iff_ne]; omega
  have n133 : ((op : Int) == 133) = false := by rw [beq_eq_false_iff_ne]; omega
  have n149 : ((op : Int) == 149) = false := by rw [beq_eq_false_iff_ne]; omega
  have m1 : (16 : Int) ≤ (op : Int) / 16 * 16 := by omega
  have m2 : (op : Int) / 16 * 16 ≤ 208 := by omega
  have m3 : ((op : Int) / 16 * 16 != 128) = true := by rw [bne_iff_ne]; omega
  have m4 : ((op : Int) / 16 * 16 != 144) = true := by rw [bne_iff_ne]; omega
  have m6 : (op : Int) / 8 % 2 = 0 := by omega
  have b0 : (op : Int) < 256 := by omega
  have HO := Lib.hid ho
  clear hz hc h5 h6 h7 h1 h2 h3 h4 hr ho
  go_enter Try.func67, Try.ntmps67
  go_wp2_with fail
  go_ret
  exact ⟨rfl, rfl⟩
theorem shape_6c (op : Nat) (ho : op < 256) (hc : op % 8 = 6) (h5 : op ≠ 5) (h6 : op ≠ 133) (h7 : op ≠ 149) (h1 : op / 16 = 0) (w : World) : Calls Try.prog 67 #[.int .i64 ((op : Nat) : Int)] w fun e w' => e = .returned (.string (str (shpO op))) ∧ w = w' := by
  have hz : shpO op = [45] := by
    have key : ∀ k : Fin 256, (k.1 % 8 = 6 ∧ k.1 ≠ 5 ∧ k.1 ≠ 133 ∧ k.1 ≠ 149 ∧ k.1 / 16 = 0) → shpO k.1 = [45] := by decide +kernel
    exact key ⟨op, ho⟩ ⟨hc, h5, h6, h7, h1⟩
  rw [hz]
  have m0 : (op : Int) % 8 = 6 := by omega
  have n5 : ((op : Int) == 5) = false := by rw [beq_eq_false_iff_ne]; omega
  have n133 : ((op : Int) == 133) = false := by rw [beq_eq_false_iff_ne]; omega
  have n149 : ((op : Int) == 149) = false := by rw [beq_eq_false_iff_ne]; omega
  have m1 : ¬ ((16 : Int) ≤ (op : Int) / 16 * 16) := by omega
  have b0 : (op : Int) < 256 := by omega
  have HO := Lib.hid ho
  clear hz hc h5 h6 h7 h1 ho
  go_enter Try.func67, Try.ntmps67
  go_wp2_with fail
  go_ret
  exact ⟨rfl, rfl⟩
theorem shape_6d (op : Nat) (ho : op < 256) (hc : op % 8 = 6) (h5 : op ≠ 5) (h6 : op ≠ 133) (h7 : op ≠ 149) (h1 : 13 < op / 16) (w : World) : Calls Try.prog 67 #[.int .i64 ((op : Nat) : Int)] w fun e w' => e = .returned (.string (str (shpO op))) ∧ w = w' := by
  have hz : shpO op = [45] := by
    have key : ∀ k : Fin 256, (k.1 % 8 = 6 ∧ k.1 ≠ 5 ∧ k.1 ≠ 133 ∧ k.1 ≠ 149 ∧ 13 < k.1 / 16) → shpO k.1 = [45] := by decide +kernel
    exact key ⟨op, ho⟩ ⟨hc, h5, h6, h7, h1⟩
  rw [hz]
  have m0 : (op : Int) % 8 = 6 := by omega
  have n5 : ((op : Int) == 5) = false := by rw [beq_eq_false_iff_ne]; omega
  have n133 : ((op : Int) == 133) = false := by rw [beq_eq_false_iff_ne]; omega
  have n149 : ((op : Int) == 149) = false := by rw [beq_eq_false_iff_ne]; omega
  have m1 : (16 : Int) ≤ (op : Int) / 16 * 16 := by omega
  have m2 : ¬ ((op : Int) / 16 * 16 ≤ 208) := by omega
  have b0 : (op : Int) < 256 := by omega
  have HO := Lib.hid ho
  clear hz hc h5 h6 h7 h1 ho
  go_enter Try.func67, Try.ntmps67
  go_wp2_with fail
  go_ret
  exact ⟨rfl, rfl⟩
theorem shape_6e (op : Nat) (ho : op < 256) (hc : op % 8 = 6) (h5 : op ≠ 5) (h6 : op ≠ 133) (h7 : op ≠ 149) (h1 : op / 16 = 8) (w : World) : Calls Try.prog 67 #[.int .i64 ((op : Nat) : Int)] w fun e w' => e = .returned (.string (str (shpO op))) ∧ w = w' := by
  have hz : shpO op = [45] := by
    have key : ∀ k : Fin 256, (k.1 % 8 = 6 ∧ k.1 ≠ 5 ∧ k.1 ≠ 133 ∧ k.1 ≠ 149 ∧ k.1 / 16 = 8) → shpO k.1 = [45] := by decide +kernel
    exact key ⟨op, ho⟩ ⟨hc, h5, h6, h7, h1⟩
  rw [hz]
  have m0 : (op : Int) % 8 = 6 := by omega
  have n5 : ((op : Int) == 5) = false := by rw [beq_eq_false_iff_ne]; omega
  have n133 : ((op : Int) == 133) = false := by rw [beq_eq_false_iff_ne]; omega
  have n149 : ((op : Int) == 149) = false := by rw [beq_eq_false_iff_ne]; omega
  have m1 : (op : Int) / 16 = 8 := by omega
  have b0 : (op : Int) < 256 := by omega
  have HO := Lib.hid ho
  clear hz hc h5 h6 h7 h1 ho
  go_enter Try.func67, Try.ntmps67
  go_wp2_with fail
  go_ret
  exact ⟨rfl, rfl⟩
theorem shape_6f (op : Nat) (ho : op < 256) (hc : op % 8 = 6) (h5 : op ≠ 5) (h6 : op ≠ 133) (h7 : op ≠ 149) (h1 : op / 16 = 9) (w : World) : Calls Try.prog 67 #[.int .i64 ((op : Nat) : Int)] w fun e w' => e = .returned (.string (str (shpO op))) ∧ w = w' := by
  have hz : shpO op = [45] := by
    have key : ∀ k : Fin 256, (k.1 % 8 = 6 ∧ k.1 ≠ 5 ∧ k.1 ≠ 133 ∧ k.1 ≠ 149 ∧ k.1 / 16 = 9) → shpO k.1 = [45] := by decide +kernel
    exact key ⟨op, ho⟩ ⟨hc, h5, h6, h7, h1⟩
  rw [hz]
  have m0 : (op : Int) % 8 = 6 := by omega
  have n5 : ((op : Int) == 5) = false := by rw [beq_eq_false_iff_ne]; omega
  have n133 : ((op : Int) == 133) = false := by rw [beq_eq_false_iff_ne]; omega
  have n149 : ((op : Int) == 149) = false := by rw [beq_eq_false_iff_ne]; omega
  have m1 : (op : Int) / 16 = 9 := by omega
  have b0 : (op : Int) < 256 := by omega
  have HO := Lib.hid ho
  clear hz hc h5 h6 h7 h1 ho
  go_enter Try.func67, Try.ntmps67
  go_wp2_with fail
  go_ret
  exact ⟨rfl, rfl⟩
end Go.Proofs.Ythmiiddojccafaa
