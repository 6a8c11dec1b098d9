import Derived.Test.YtfigiofiakkbdaaDoorMem
import Derived.Test.YtfigiofiakkbdaaDoorJN2
import Derived.Test.YtfigiofiakkbdaaDoorProg
/-
  Contracts of the reference of layer 2.
-/
namespace Go.Proofs.YtfigiofiakkbdaaDoor
open Go.RowKit
set_option linter.all false

theorem st_run (c : Nat) (h : c < 2 ^ 32) : (c % 2 = 1 → bits .xor .u32 ((c : Int) / 2) 3988292384 = ((st c : Nat) : Int)) ∧ (¬ c % 2 = 1 → (c : Int) / 2 = ((st c : Nat) : Int)) := by
  refine ⟨fun e => ?_, fun e => ?_⟩
  · have := Go.u32_xor_nat (c / 2) poly (by omega) (by decide)
    unfold st
    rw [if_pos e, ← this]
    simp [poly]
  · unfold st
    rw [if_neg e, Nat.xor_zero]
    simp
theorem steps_snoc (k x : Nat) : steps (k + 1) x = st (steps k x) := steps_add k 1 x

set_option maxHeartbeats 800000 in
theorem rmore_c (sum : Nat) (hs : sum < 2 ^ 32) (s : ByteArray) (w : World) (hm : s.size ≤ maxLen) :
    Calls Tryd.prog 66 #[.int .u32 (sum : Int), .string s] w fun e w' => e = .returned (.int .u32 ((more sum s.data.toList : Nat) : Int)) ∧ w = w' := by
  unfold maxLen at hm
  have i0 : (sum : Int) ≤ 4294967295 := by omega
  go_enter Tryd.func66, Tryd.ntmps66
  go_wp2_with fail
  go_loopw [5, 6] (fun c i wr => ∃ j : Nat, j ≤ s.size ∧ i = .int .i64 j ∧ c = .int .u32 ((eat (ones - sum) (s.data.toList.take j) : Nat) : Int) ∧ w = wr) (fun _ i _ => s.size - (intOf i).toNat)
  case atStart => exact ⟨0, by omega, rfl, by simp [eat, ones]; omega, rfl⟩
  case round =>
    obtain ⟨j, hj, rfl, rfl, rfl⟩ := hrel
    have h0 : ones - sum < 2 ^ 32 := by unfold ones; omega
    by_cases hlt : j < s.size
    · have hb : s.data.toList[j]? = some s[j] := by
        rw [List.getElem?_eq_getElem (by simpa using hlt)]; rfl
      have hstep := eat_take (ones - sum) s.data.toList j s[j] hb
      have hl : eat (ones - sum) (s.data.toList.take j) < 2 ^ 32 := eat_lt _ _ h0
      have hx := bv_xor _ s[j] hl
      have hl1 := xor_lt32 _ s[j] hl
      have hcv := u8_conv s[j]
      rw [IntKind.wrap_u32] at hcv
      generalize hy : eat (ones - sum) (s.data.toList.take j) ^^^ s[j].toNat = y at *
      have Hs := Lib.hid hstep
      have Hl1 := Lib.hid hl1
      clear hstep hl1 hb hy
      go_wp2_with fail
      go_loopw [5, 7] (fun c i wr => ∃ k : Nat, k ≤ 8 ∧ i = .int .i64 k ∧ c = .int .u32 ((steps k y : Nat) : Int) ∧ w = wr) (fun _ i _ => 8 - (intOf i).toNat)
      case atStart => exact ⟨0, by omega, rfl, rfl, rfl⟩
      case round =>
        obtain ⟨k, hk, rfl, rfl, rfl⟩ := hrel
        by_cases hk8 : k < 8
        · have hlk : steps k y < 2 ^ 32 := steps_lt _ _ Hl1.out
          have hr := st_run (steps k y) hlk
          rw [← steps_snoc] at hr
          generalize hz : steps k y = z at *
          generalize hz1 : steps (k + 1) y = z1 at *
          have Hz1 := Lib.hid hz1
          have i1 : (k : Int) < 8 := by omega
          clear hz hz1 hx hl hcv
          by_cases hodd : z % 2 = 1
          · have e1 := hr.1 hodd
            have e2 : (z : Int) % 2 = 1 := by omega
            clear hr hodd
            go_wp2_with fail
            go_roundw
            case rel => exact ⟨k + 1, by omega, by go_num, by rw [Hz1.out], trivial⟩
            case measure => simp [intOf]; omega
          · have e1 := hr.2 hodd
            have e2 : (z : Int) % 2 = 0 := by omega
            clear hr hodd
            go_wp2_with fail
            go_roundw
            case rel => exact ⟨k + 1, by omega, by go_num, by rw [Hz1.out], trivial⟩
            case measure => simp [intOf]; omega
        · obtain rfl : k = 8 := by omega
          clear hx hl hcv
          go_wp2_with fail
          go_roundw
          case rel => exact ⟨j + 1, by omega, by go_num, by rw [Hs.out], trivial⟩
          case measure => simp [intOf]; omega
    · obtain rfl : j = s.size := by omega
      have e : s.data.toList.take s.size = s.data.toList := List.take_of_length_le (Nat.le_of_eq Array.length_toList)
      rw [e]
      have hl := eat_lt (ones - sum) s.data.toList h0
      generalize hc : eat (ones - sum) s.data.toList = c at *
      have i1 : (c : Int) ≤ 4294967295 := by omega
      have Hc := Lib.hid hc
      clear hc e
      go_wp2_with fail
      go_ret
      refine ⟨?_, rfl⟩
      show Ending.returned (Value.int .u32 (4294967295 - (c : Int))) = _
      unfold more
      rw [Hc.out]
      congr 2
      unfold ones
      omega
theorem rsum_c (s : ByteArray) (w : World) (hm : s.size ≤ maxLen) :
    Calls Tryd.prog 52 #[.string s] w fun e w' => e = .returned (.int .u32 ((more 0 s.data.toList : Nat) : Int)) ∧ w = w' := by
  go_enter Tryd.func52, Tryd.ntmps52
  go_wp2_with fail
  refine (rmore_c 0 (by decide) s w hm).mono ?_
  rintro e w1 ⟨rfl, rfl⟩
  go_wp2_with fail
  go_ret
  exact ⟨rfl, rfl⟩
end Go.Proofs.YtfigiofiakkbdaaDoor

