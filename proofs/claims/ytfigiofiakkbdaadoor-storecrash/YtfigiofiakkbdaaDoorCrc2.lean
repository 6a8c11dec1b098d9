import Derived.Test.YtfigiofiakkbdaaDoorCrc1
import Derived.Test.YtfigiofiakkbdaaDoorJN2
/-
  Contracts of package crc: More, Sum; and of the reference.
-/
namespace Go.Proofs.YtfigiofiakkbdaaDoor
open Go.RowKit
set_option linter.all false

set_option maxHeartbeats 800000 in
theorem more_core (sum : Int) (c0 : Nat) (h0 : c0 < 2 ^ 32) (hn : bits .xor .u32 IntKind.u32.max sum = (c0 : Int)) (A : Option Addr) (cap : Nat) (bs : List UInt8) (w : World) (hT : Tab w)
    (hcell : ∀ (i : Nat) b, bs[i]? = some b → ∃ ad, A = some ad ∧ w.cell? (ad.add i) = some (bv b)) (hm : bs.length ≤ maxLen) :
    Calls Tryd.prog 83 #[.int .u32 sum, .slice A bs.length cap] w fun e w' => e = .returned (.int .u32 ((ones - eat c0 bs : Nat) : Int)) ∧ w = w' := by
  unfold maxLen at hm
  have HT := Lib.hid hT
  have Hcell := Lib.hid hcell
  clear hT hcell
  go_enter Tryd.func83, Tryd.ntmps83
  go_wp2_with fail
  go_loopw [5, 12] (fun c i wr => ∃ j : Nat, j ≤ bs.length ∧ i = .int .i64 j ∧ c = .int .u32 ((eat c0 (bs.take j) : Nat) : Int) ∧ w = wr) (fun _ i _ => bs.length - (intOf i).toNat)
  case atStart => exact ⟨0, by omega, rfl, rfl, rfl⟩
  case round =>
    obtain ⟨j, hj, rfl, rfl, rfl⟩ := hrel
    by_cases hlt : j < bs.length
    · have hb : bs[j]? = some bs[j] := List.getElem?_eq_getElem hlt
      obtain ⟨ad, rfl, hc⟩ := Hcell.out j bs[j] hb
      have hstep := eat_take c0 bs j bs[j] hb
      have hl : eat c0 (bs.take j) < 2 ^ 32 := eat_lt _ _ h0
      generalize hb' : bs[j] = b at *
      generalize eat c0 (bs.take j) = c at *
      have hx := bv_xor c b hl
      have hcv := u8_conv b
      have hl1 := xor_lt32 c b hl
      unfold bv at hc
      generalize hy : c ^^^ b.toNat = y at *
      have Hs := Lib.hid hstep
      have Hl1 := Lib.hid hl1
      have Hl := Lib.hid hl
      have Hb := Lib.hid hb
      clear hstep hl1 hl hb hb' hy h0 hn
      go_wp2_with fail
      refine (four_c y Hl1.out _ HT.out).mono ?_
      rintro e w1 ⟨rfl, rfl⟩
      go_wp2_with fail
      refine (four_c (steps 4 y) (steps_lt _ _ Hl1.out) _ HT.out).mono ?_
      rintro e w1 ⟨rfl, rfl⟩
      go_wp2_with fail
      go_roundw
      case rel => exact ⟨j + 1, by omega, by go_num, by rw [Hs.out, show 8 = 4 + 4 from rfl, steps_add], trivial⟩
      case measure => simp [intOf]; omega
    · obtain rfl : j = bs.length := by omega
      rw [List.take_length]
      have hl := not_u32 (eat c0 bs) (eat_lt _ _ h0)
      generalize hc : eat c0 bs = c at *
      have Hc := Lib.hid hc
      clear h0 hn hc
      go_wp2_with fail
      go_ret
      exact ⟨by rw [Hc.out]; rfl, rfl⟩
theorem more_c (sum : Nat) (hs : sum < 2 ^ 32) (v : Value) (bs : List UInt8) (w : World) (hT : Tab w) (hb : Bytes w (fun _ => True) v bs) (hm : bs.length ≤ maxLen) :
    Calls Tryd.prog 83 #[.int .u32 (sum : Int), v] w fun e w' => e = .returned (.int .u32 ((more sum bs : Nat) : Int)) ∧ w = w' := by
  obtain ⟨A, cap, rfl, hcell⟩ := hb
  exact more_core sum (ones - sum) (by unfold ones; omega) (not_u32 sum hs) A cap bs w hT (fun i b hi => by obtain ⟨ad, e, _, _, h⟩ := hcell i b hi; exact ⟨ad, e, h⟩) hm
theorem sum_c (v : Value) (bs : List UInt8) (w : World) (hT : Tab w) (hb : Bytes w (fun _ => True) v bs) (hm : bs.length ≤ maxLen) :
    Calls Tryd.prog 84 #[v] w fun e w' => e = .returned (.int .u32 ((more 0 bs : Nat) : Int)) ∧ w = w' := by
  have HT := Lib.hid hT
  have Hb := Lib.hid hb
  clear hT hb
  go_enter Tryd.func84, Tryd.ntmps84
  go_wp2_with fail
  refine (more_c 0 (by decide) v bs w HT.out Hb.out hm).mono ?_
  rintro e w1 ⟨rfl, rfl⟩
  go_wp2_with fail
  go_ret
  exact ⟨rfl, rfl⟩
end Go.Proofs.YtfigiofiakkbdaaDoor

