/-
  Contracts of the reference of layer 4: Bytes, number.
-/
import Derived.Test.YtfigiofiakkbdaaDoorS12
import Derived.Test.YtfigiofiakkbdaaDoorJRef5
namespace Go.Proofs.YtfigiofiakkbdaaDoor
open Go.RowKit
set_option linter.all false

set_option maxHeartbeats 1600000 in
theorem r4bytes_c (n : Nat) (w : World) (hn : n < 18446744073709551616) :
    Calls Tryd.prog 17 #[.int .u64 (n : Int)] w fun e w' => e = .returned (.string (str (le 8 n))) ∧ Calm w w' := by
  have sa := str_app
  have ss := str_size
  go_enter Tryd.func17, Tryd.ntmps17
  go_wp2_with fail
  go_loopw [0, 3, 4] (fun v0 v3 v4 wr => ∃ j : Nat, j ≤ 8 ∧ v4 = .int .i64 (j : Int) ∧ v3 = .string (str (le j n)) ∧ v0 = .int .u64 ((n / 256 ^ j : Nat) : Int) ∧ Calm w wr) (fun _ _ v4 _ => 8 - (intOf v4).toNat)
  case atStart => exact ⟨0, by omega, rfl, rfl, by simp, Keep.refl _ _⟩
  case round =>
    obtain ⟨j, hj, rfl, rfl, rfl, hc⟩ := hrel
    by_cases hlt : j < 8
    · have hls := Lib.hid (le_succ j n)
      have hlen := le_len j n
      have hd : n / 256 ^ (j + 1) = n / 256 ^ j / 256 := by rw [Nat.pow_succ, Nat.div_div_eq_div_mul]
      have hN : n / 256 ^ j ≤ n := Nat.div_le_self _ _
      generalize hN' : n / 256 ^ (j + 1) = N' at hd
      have HN' := Lib.hid hN'
      generalize n / 256 ^ j = N at *
      generalize hX : le j n = X at *
      obtain ⟨b, hb⟩ : ∃ b : UInt8, b = UInt8.ofNat N := ⟨_, rfl⟩
      rw [← hb] at hls
      have hbn : (N : Int) % 256 = (b.toNat : Int) := by rw [hb, UInt8.toNat_ofNat']; omega
      have hb8 := u8_lt b
      have hbi : (b.toNat : Int) < 256 := by omega
      have q := conv_rd (Rd.made wr [b] 1 #[.int .u8 (b.toNat : Int)] rfl rfl (by omega))
      have HC : Hid (Calm w (wr.alloc (.cells #[.int .u8 (b.toNat : Int)] 5))) := Lib.hid (hc.alloc _)
      have hNi : (N : Int) < 18446744073709551616 := by omega
      have HD : Hid ((N : Int) / 256 = (N' : Int)) := Lib.hid (by omega)
      have i1 : (j : Int) < 8 := by omega
      clear hc hb hX hd hN hN'
      go_wp2_with fail
      go_roundw
      case rel => exact ⟨j + 1, by omega, by go_num, by rw [hls.out], by rw [HN'.out, HD.out], HC.out⟩
      case measure => simp [intOf]; omega
    · obtain rfl : j = 8 := by omega
      have HC := Lib.hid hc
      clear hc
      go_wp2_with fail
      go_ret
      exact ⟨rfl, HC.out⟩

set_option maxHeartbeats 1600000 in
theorem r4number_c (s : List UInt8) (w : World) (hl : 8 ≤ s.length) (hm : s.length ≤ 1000000) :
    Calls Tryd.prog 62 #[.string (str s)] w fun e w' => e = .returned (.int .u64 ((num (s.take 8) : Nat) : Int)) ∧ w = w' := by
  have ss := str_size s
  go_enter Tryd.func62, Tryd.ntmps62
  go_wp2_with fail
  go_loopw [3, 4] (fun v3 v4 wr => ∃ k : Nat, k ≤ 8 ∧ v4 = .int .i64 ((k : Int) - 1) ∧ v3 = .int .u64 ((num ((s.take 8).drop k) : Nat) : Int) ∧ w = wr) (fun _ v4 _ => (intOf v4 + 1).toNat)
  case atStart => exact ⟨8, by omega, rfl, by rw [List.drop_of_length_le (by simp; omega)]; rfl, rfl⟩
  case round =>
    obtain ⟨k, hk, rfl, rfl, rfl⟩ := hrel
    cases k with
    | zero =>
      rw [List.drop_zero]
      go_wp2_with fail
      go_ret
      exact ⟨rfl, rfl⟩
    | succ j =>
      rw [show (((j + 1 : Nat) : Int) - 1) = (j : Int) by omega]
      have i0 : (j : Int) < 8 := by omega
      have i1 : (j : Int) < (s.length : Int) := by omega
      have e : num ((s.take 8).drop j) = (s[j]'(by omega)).toNat + 256 * num ((s.take 8).drop (j + 1)) := by
        have hj8 : j < (s.take 8).length := by simp; omega
        rw [List.drop_eq_getElem_cons hj8, num, List.getElem_take]
      have hb := num_lt64 ((s.take 8).drop j) (by simp; omega)
      have hx8 := u8_lt (s[j]'(by omega))
      have E := Lib.hid (And.intro e (And.intro hb hx8))
      clear e hb hx8
      go_wp2_with fail
      go_roundw
      case rel =>
        refine ⟨j, by omega, rfl, ?_, trivial⟩
        have hx : ∀ h, (str s)[j]'h = s[j]'(by omega) := fun _ => rfl
        rw [hx]
        obtain ⟨e, hb, hx8⟩ := E.out
        rw [IntKind.wrap_u64, IntKind.wrap_u64, IntKind.wrap_u64]
        congr 1
        omega
      case measure => simp [intOf]
end Go.Proofs.YtfigiofiakkbdaaDoor
