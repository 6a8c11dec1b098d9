/-
  Contracts of the reference of layer 5: has, shape.
-/
import Derived.Test.YthmiiddojccafaaR5D
namespace Go.Proofs.Ythmiiddojccafaa
open Go.RowKit
set_option linter.all false

theorem has_c (s : ByteArray) (c : UInt8) (w : World) (hm : s.size ≤ 1000) : Calls Try.prog 68 #[.string s, .int .u8 (c.toNat : Int)] w fun e w' => e = .returned (.bool (decide (c ∈ s.data.toList))) ∧ w = w' := by
  have i0 : (s.size : Int) ≤ 1000 := by omega
  go_enter Try.func68, Try.ntmps68
  go_wp2_with fail
  go_loopw [5] (fun i wr => ∃ j : Nat, j ≤ s.size ∧ i = .int .i64 j ∧ w = wr ∧ c ∉ s.data.toList.take j) (fun i _ => s.size - (intOf i).toNat)
  case atStart => exact ⟨0, by omega, rfl, rfl, by simp⟩
  case round =>
    obtain ⟨j, hj, rfl, rfl, hno⟩ := hrel
    have HNO := Lib.hid hno
    clear hno
    by_cases hlt : j < s.size
    · have hb : s.data.toList[j]? = some s[j] := by rw [List.getElem?_eq_getElem (by simpa using hlt)]; rfl
      have HB := Lib.hid hb
      have i1 : (j : Int) < (s.size : Int) := by omega
      clear hb
      by_cases he : s[j] = c
      · have e1 : ((s[j].toNat : Int) == (c.toNat : Int)) = true := by rw [he]; simp
        have HY : Hid (c ∈ s.data.toList) := Lib.hid (by rw [← he]; exact List.mem_of_getElem? HB.out)
        clear he
        go_wp2_with fail
        go_ret
        exact ⟨by rw [decide_eq_true HY.out]; rfl, rfl⟩
      · have e1 : ((s[j].toNat : Int) == (c.toNat : Int)) = false := by
          rw [beq_eq_false_iff_ne]
          intro h
          exact he (UInt8.toNat_inj.1 (by omega))
        have HE := Lib.hid he
        clear he
        go_wp2_with fail
        go_roundw
        case rel =>
          refine ⟨j + 1, by omega, by go_num, by first | rfl | trivial, ?_⟩
          rw [List.take_add_one, HB.out]
          intro h
          rcases List.mem_append.1 h with h | h
          · exact HNO.out h
          · simp at h; exact HE.out h.symm
        case measure => simp [intOf]; omega
    · obtain rfl : j = s.size := by omega
      have HN : Hid (c ∉ s.data.toList) := Lib.hid (by
        have := HNO.out
        rwa [List.take_of_length_le (by simp)] at this)
      go_wp2_with fail
      go_ret
      exact ⟨by rw [decide_eq_false HN.out]; rfl, rfl⟩
theorem shape_5 (w : World) : Calls Try.prog 67 #[.int .i64 ((5 : Nat) : Int)] w fun e w' => e = .returned (.string (str (shpO 5))) ∧ w = w' := by
  have hz : shpO 5 = [111] := by decide +kernel
  rw [hz]
  clear hz
  go_enter Try.func67, Try.ntmps67
  go_wp2_with fail
  go_ret
  exact ⟨rfl, rfl⟩
theorem shape_24 (w : World) : Calls Try.prog 67 #[.int .i64 ((24 : Nat) : Int)] w fun e w' => e = .returned (.string (str (shpO 24))) ∧ w = w' := by
  have hz : shpO 24 = [100, 115, 105] := by decide +kernel
  rw [hz]
  clear hz
  go_enter Try.func67, Try.ntmps67
  go_wp2_with fail
  go_ret
  exact ⟨rfl, rfl⟩
theorem shape_97 (w : World) : Calls Try.prog 67 #[.int .i64 ((97 : Nat) : Int)] w fun e w' => e = .returned (.string (str (shpO 97))) ∧ w = w' := by
  have hz : shpO 97 = [100, 115, 111] := by decide +kernel
  rw [hz]
  clear hz
  go_enter Try.func67, Try.ntmps67
  go_wp2_with fail
  go_ret
  exact ⟨rfl, rfl⟩
theorem shape_98 (w : World) : Calls Try.prog 67 #[.int .i64 ((98 : Nat) : Int)] w fun e w' => e = .returned (.string (str (shpO 98))) ∧ w = w' := by
  have hz : shpO 98 = [100, 111, 105] := by decide +kernel
  rw [hz]
  clear hz
  go_enter Try.func67, Try.ntmps67
  go_wp2_with fail
  go_ret
  exact ⟨rfl, rfl⟩
theorem shape_99 (w : World) : Calls Try.prog 67 #[.int .i64 ((99 : Nat) : Int)] w fun e w' => e = .returned (.string (str (shpO 99))) ∧ w = w' := by
  have hz : shpO 99 = [100, 115, 111] := by decide +kernel
  rw [hz]
  clear hz
  go_enter Try.func67, Try.ntmps67
  go_wp2_with fail
  go_ret
  exact ⟨rfl, rfl⟩
theorem shape_105 (w : World) : Calls Try.prog 67 #[.int .i64 ((105 : Nat) : Int)] w fun e w' => e = .returned (.string (str (shpO 105))) ∧ w = w' := by
  have hz : shpO 105 = [100, 115, 111] := by decide +kernel
  rw [hz]
  clear hz
  go_enter Try.func67, Try.ntmps67
  go_wp2_with fail
  go_ret
  exact ⟨rfl, rfl⟩
theorem shape_106 (w : World) : Calls Try.prog 67 #[.int .i64 ((106 : Nat) : Int)] w fun e w' => e = .returned (.string (str (shpO 106))) ∧ w = w' := by
  have hz : shpO 106 = [100, 111, 105] := by decide +kernel
  rw [hz]
  clear hz
  go_enter Try.func67, Try.ntmps67
  go_wp2_with fail
  go_ret
  exact ⟨rfl, rfl⟩
theorem shape_107 (w : World) : Calls Try.prog 67 #[.int .i64 ((107 : Nat) : Int)] w fun e w' => e = .returned (.string (str (shpO 107))) ∧ w = w' := by
  have hz : shpO 107 = [100, 115, 111] := by decide +kernel
  rw [hz]
  clear hz
  go_enter Try.func67, Try.ntmps67
  go_wp2_with fail
  go_ret
  exact ⟨rfl, rfl⟩
theorem shape_113 (w : World) : Calls Try.prog 67 #[.int .i64 ((113 : Nat) : Int)] w fun e w' => e = .returned (.string (str (shpO 113))) ∧ w = w' := by
  have hz : shpO 113 = [100, 115, 111] := by decide +kernel
  rw [hz]
  clear hz
  go_enter Try.func67, Try.ntmps67
  go_wp2_with fail
  go_ret
  exact ⟨rfl, rfl⟩
theorem shape_114 (w : World) : Calls Try.prog 67 #[.int .i64 ((114 : Nat) : Int)] w fun e w' => e = .returned (.string (str (shpO 114))) ∧ w = w' := by
  have hz : shpO 114 = [100, 111, 105] := by decide +kernel
  rw [hz]
  clear hz
  go_enter Try.func67, Try.ntmps67
  go_wp2_with fail
  go_ret
  exact ⟨rfl, rfl⟩
theorem shape_115 (w : World) : Calls Try.prog 67 #[.int .i64 ((115 : Nat) : Int)] w fun e w' => e = .returned (.string (str (shpO 115))) ∧ w = w' := by
  have hz : shpO 115 = [100, 115, 111] := by decide +kernel
  rw [hz]
  clear hz
  go_enter Try.func67, Try.ntmps67
  go_wp2_with fail
  go_ret
  exact ⟨rfl, rfl⟩
theorem shape_121 (w : World) : Calls Try.prog 67 #[.int .i64 ((121 : Nat) : Int)] w fun e w' => e = .returned (.string (str (shpO 121))) ∧ w = w' := by
  have hz : shpO 121 = [100, 115, 111] := by decide +kernel
  rw [hz]
  clear hz
  go_enter Try.func67, Try.ntmps67
  go_wp2_with fail
  go_ret
  exact ⟨rfl, rfl⟩
theorem shape_122 (w : World) : Calls Try.prog 67 #[.int .i64 ((122 : Nat) : Int)] w fun e w' => e = .returned (.string (str (shpO 122))) ∧ w = w' := by
  have hz : shpO 122 = [100, 111, 105] := by decide +kernel
  rw [hz]
  clear hz
  go_enter Try.func67, Try.ntmps67
  go_wp2_with fail
  go_ret
  exact ⟨rfl, rfl⟩
theorem shape_123 (w : World) : Calls Try.prog 67 #[.int .i64 ((123 : Nat) : Int)] w fun e w' => e = .returned (.string (str (shpO 123))) ∧ w = w' := by
  have hz : shpO 123 = [100, 115, 111] := by decide +kernel
  rw [hz]
  clear hz
  go_enter Try.func67, Try.ntmps67
  go_wp2_with fail
  go_ret
  exact ⟨rfl, rfl⟩
theorem shape_133 (w : World) : Calls Try.prog 67 #[.int .i64 ((133 : Nat) : Int)] w fun e w' => e = .returned (.string (str (shpO 133))) ∧ w = w' := by
  have hz : shpO 133 = [105] := by decide +kernel
  rw [hz]
  clear hz
  go_enter Try.func67, Try.ntmps67
  go_wp2_with fail
  go_ret
  exact ⟨rfl, rfl⟩
theorem shape_149 (w : World) : Calls Try.prog 67 #[.int .i64 ((149 : Nat) : Int)] w fun e w' => e = .returned (.string (str (shpO 149))) ∧ w = w' := by
  have hz : shpO 149 = [] := by decide +kernel
  rw [hz]
  clear hz
  go_enter Try.func67, Try.ntmps67
  go_wp2_with fail
  go_ret
  exact ⟨rfl, rfl⟩
theorem shape_0 (op : Nat) (ho : op < 256) (hc : op % 8 = 0) (h : op ≠ 24) (w : World) : Calls Try.prog 67 #[.int .i64 ((op : Nat) : Int)] w fun e w' => e = .returned (.string (str (shpO op))) ∧ w = w' := by
  have hz : shpO op = [45] := by
    have key : ∀ k : Fin 256, (k.1 % 8 = 0 ∧ k.1 ≠ 24) → shpO k.1 = [45] := by decide +kernel
    exact key ⟨op, ho⟩ ⟨hc, h⟩
  rw [hz]
  have m0 : (op : Int) % 8 = 0 := by omega
  have q1 : ((op : Int) == 24) = false := by rw [beq_eq_false_iff_ne]; omega
  have b0 : (op : Int) < 256 := by omega
  have HO := Lib.hid ho
  clear hz hc h ho
  go_enter Try.func67, Try.ntmps67
  go_wp2_with fail
  go_ret
  exact ⟨rfl, rfl⟩
theorem shape_1 (op : Nat) (ho : op < 256) (hc : op % 8 = 1) (h : op / 32 ≠ 3) (w : World) : Calls Try.prog 67 #[.int .i64 ((op : Nat) : Int)] w fun e w' => e = .returned (.string (str (shpO op))) ∧ w = w' := by
  have hz : shpO op = [45] := by
    have key : ∀ k : Fin 256, (k.1 % 8 = 1 ∧ k.1 / 32 ≠ 3) → shpO k.1 = [45] := by decide +kernel
    exact key ⟨op, ho⟩ ⟨hc, h⟩
  rw [hz]
  have m0 : (op : Int) % 8 = 1 := by omega
  have q0 : (((op : Int) - 1) == 96) = false := by rw [beq_eq_false_iff_ne]; omega
  have q1 : (((op : Int) - 1) == 104) = false := by rw [beq_eq_false_iff_ne]; omega
  have q2 : (((op : Int) - 1) == 112) = false := by rw [beq_eq_false_iff_ne]; omega
  have q3 : (((op : Int) - 1) == 120) = false := by rw [beq_eq_false_iff_ne]; omega
  have b0 : (op : Int) < 256 := by omega
  have HO := Lib.hid ho
  clear hz hc h ho
  go_enter Try.func67, Try.ntmps67
  go_wp2_with fail
  go_ret
  exact ⟨rfl, rfl⟩
theorem shape_2 (op : Nat) (ho : op < 256) (hc : op % 8 = 2) (h : op / 32 ≠ 3) (w : World) : Calls Try.prog 67 #[.int .i64 ((op : Nat) : Int)] w fun e w' => e = .returned (.string (str (shpO op))) ∧ w = w' := by
  have hz : shpO op = [45] := by
    have key : ∀ k : Fin 256, (k.1 % 8 = 2 ∧ k.1 / 32 ≠ 3) → shpO k.1 = [45] := by decide +kernel
    exact key ⟨op, ho⟩ ⟨hc, h⟩
  rw [hz]
  have m0 : (op : Int) % 8 = 2 := by omega
  have q0 : (((op : Int) - 2) == 96) = false := by rw [beq_eq_false_iff_ne]; omega
  have q1 : (((op : Int) - 2) == 104) = false := by rw [beq_eq_false_iff_ne]; omega
  have q2 : (((op : Int) - 2) == 112) = false := by rw [beq_eq_false_iff_ne]; omega
  have q3 : (((op : Int) - 2) == 120) = false := by rw [beq_eq_false_iff_ne]; omega
  have b0 : (op : Int) < 256 := by omega
  have HO := Lib.hid ho
  clear hz hc h ho
  go_enter Try.func67, Try.ntmps67
  go_wp2_with fail
  go_ret
  exact ⟨rfl, rfl⟩
theorem shape_3 (op : Nat) (ho : op < 256) (hc : op % 8 = 3) (h : op / 32 ≠ 3) (w : World) : Calls Try.prog 67 #[.int .i64 ((op : Nat) : Int)] w fun e w' => e = .returned (.string (str (shpO op))) ∧ w = w' := by
  have hz : shpO op = [45] := by
    have key : ∀ k : Fin 256, (k.1 % 8 = 3 ∧ k.1 / 32 ≠ 3) → shpO k.1 = [45] := by decide +kernel
    exact key ⟨op, ho⟩ ⟨hc, h⟩
  rw [hz]
  have m0 : (op : Int) % 8 = 3 := by omega
  have q0 : (((op : Int) - 3) == 96) = false := by rw [beq_eq_false_iff_ne]; omega
  have q1 : (((op : Int) - 3) == 104) = false := by rw [beq_eq_false_iff_ne]; omega
  have q2 : (((op : Int) - 3) == 112) = false := by rw [beq_eq_false_iff_ne]; omega
  have q3 : (((op : Int) - 3) == 120) = false := by rw [beq_eq_false_iff_ne]; omega
  have b0 : (op : Int) < 256 := by omega
  have HO := Lib.hid ho
  clear hz hc h ho
  go_enter Try.func67, Try.ntmps67
  go_wp2_with fail
  go_ret
  exact ⟨rfl, rfl⟩
theorem shape_4a (op : Nat) (ho : op < 256) (hc : op % 8 = 4) (h : op / 16 = 8) (hr : op / 8 % 2 = 0) (w : World) : Calls Try.prog 67 #[.int .i64 ((op : Nat) : Int)] w fun e w' => e = .returned (.string (str (shpO op))) ∧ w = w' := by
  have hz : shpO op = [100] := by
    have key : ∀ k : Fin 256, (k.1 % 8 = 4 ∧ k.1 / 16 = 8 ∧ k.1 / 8 % 2 = 0) → shpO k.1 = [100] := by decide +kernel
    exact key ⟨op, ho⟩ ⟨hc, h, hr⟩
  rw [hz]
  have m0 : (op : Int) % 8 = 4 := by omega
  have m1 : (op : Int) / 16 = 8 := by omega
  have m2 : (op : Int) / 8 % 2 = 0 := by omega
  have b0 : (op : Int) < 256 := by omega
  have HO := Lib.hid ho
  clear hz hc h hr ho
  go_enter Try.func67, Try.ntmps67
  go_wp2_with fail
  go_ret
  exact ⟨rfl, rfl⟩
theorem shape_4b (op : Nat) (ho : op < 256) (hc : op % 8 = 4) (h : op / 16 = 8) (hr : op / 8 % 2 = 1) (w : World) : Calls Try.prog 67 #[.int .i64 ((op : Nat) : Int)] w fun e w' => e = .returned (.string (str (shpO op))) ∧ w = w' := by
  have hz : shpO op = [45] := by
    have key : ∀ k : Fin 256, (k.1 % 8 = 4 ∧ k.1 / 16 = 8 ∧ k.1 / 8 % 2 = 1) → shpO k.1 = [45] := by decide +kernel
    exact key ⟨op, ho⟩ ⟨hc, h, hr⟩
  rw [hz]
  have m0 : (op : Int) % 8 = 4 := by omega
  have m1 : (op : Int) / 16 = 8 := by omega
  have m2 : (op : Int) / 8 % 2 = 1 := by omega
  have b0 : (op : Int) < 256 := by omega
  have HO := Lib.hid ho
  clear hz hc h hr ho
  go_enter Try.func67, Try.ntmps67
  go_wp2_with fail
  go_ret
  exact ⟨rfl, rfl⟩
theorem shape_4c (op : Nat) (ho : op < 256) (hc : op % 8 = 4) (h : op / 16 ≠ 8) (h2 : op / 16 ≤ 12) (hr : op / 8 % 2 = 1) (w : World) : Calls Try.prog 67 #[.int .i64 ((op : Nat) : Int)] w fun e w' => e = .returned (.string (str (shpO op))) ∧ w = w' := by
  have hz : shpO op = [100, 115] := by
    have key : ∀ k : Fin 256, (k.1 % 8 = 4 ∧ k.1 / 16 ≠ 8 ∧ k.1 / 16 ≤ 12 ∧ k.1 / 8 % 2 = 1) → shpO k.1 = [100, 115] := by decide +kernel
    exact key ⟨op, ho⟩ ⟨hc, h, h2, hr⟩
  rw [hz]
  have m0 : (op : Int) % 8 = 4 := by omega
  have m3 : ((op : Int) / 16 * 16 == 128) = false := by rw [beq_eq_false_iff_ne]; omega
  have m4 : ((op : Int) / 16 * 16 != 128) = true := by rw [bne_iff_ne]; omega
  have m5 : (op : Int) / 16 * 16 ≤ 192 := by omega
  have m2 : (op : Int) / 8 % 2 = 1 := by omega
  have b0 : (op : Int) < 256 := by omega
  have HO := Lib.hid ho
  clear hz hc h h2 hr ho
  go_enter Try.func67, Try.ntmps67
  go_wp2_with fail
  go_ret
  exact ⟨rfl, rfl⟩
theorem shape_4d (op : Nat) (ho : op < 256) (hc : op % 8 = 4) (h : op / 16 ≠ 8) (h2 : op / 16 ≤ 12) (hr : op / 8 % 2 = 0) (w : World) : Calls Try.prog 67 #[.int .i64 ((op : Nat) : Int)] w fun e w' => e = .returned (.string (str (shpO op))) ∧ w = w' := by
  have hz : shpO op = [100, 105] := by
    have key : ∀ k : Fin 256, (k.1 % 8 = 4 ∧ k.1 / 16 ≠ 8 ∧ k.1 / 16 ≤ 12 ∧ k.1 / 8 % 2 = 0) → shpO k.1 = [100, 105] := by decide +kernel
    exact key ⟨op, ho⟩ ⟨hc, h, h2, hr⟩
  rw [hz]
  have m0 : (op : Int) % 8 = 4 := by omega
  have m3 : ((op : Int) / 16 * 16 == 128) = false := by rw [beq_eq_false_iff_ne]; omega
  have m4 : ((op : Int) / 16 * 16 != 128) = true := by rw [bne_iff_ne]; omega
  have m5 : (op : Int) / 16 * 16 ≤ 192 := by omega
  have m2 : (op : Int) / 8 % 2 = 0 := by omega
  have b0 : (op : Int) < 256 := by omega
  have HO := Lib.hid ho
  clear hz hc h h2 hr ho
  go_enter Try.func67, Try.ntmps67
  go_wp2_with fail
  go_ret
  exact ⟨rfl, rfl⟩
theorem shape_4e (op : Nat) (ho : op < 256) (hc : op % 8 = 4) (h2 : 12 < op / 16) (w : World) : Calls Try.prog 67 #[.int .i64 ((op : Nat) : Int)] w fun e w' => e = .returned (.string (str (shpO op))) ∧ w = w' := by
  have hz : shpO op = [45] := by
    have key : ∀ k : Fin 256, (k.1 % 8 = 4 ∧ 12 < k.1 / 16) → shpO k.1 = [45] := by decide +kernel
    exact key ⟨op, ho⟩ ⟨hc, h2⟩
  rw [hz]
  have m0 : (op : Int) % 8 = 4 := by omega
  have m3 : ((op : Int) / 16 * 16 == 128) = false := by rw [beq_eq_false_iff_ne]; omega
  have m4 : ((op : Int) / 16 * 16 != 128) = true := by rw [bne_iff_ne]; omega
  have m5 : ¬ ((op : Int) / 16 * 16 ≤ 192) := by omega
  have b0 : (op : Int) < 256 := by omega
  have HO := Lib.hid ho
  clear hz hc h2 ho
  go_enter Try.func67, Try.ntmps67
  go_wp2_with fail
  go_ret
  exact ⟨rfl, rfl⟩
end Go.Proofs.Ythmiiddojccafaa
