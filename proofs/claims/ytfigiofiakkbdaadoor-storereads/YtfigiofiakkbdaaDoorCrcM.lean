/-
  Facts on the numbers of CRC-32, in the walk's forms.
-/
import Derived.Test.YtfigiofiakkbdaaDoorCrcN
import Derived.Laws.BitsAllLaws
namespace Go.Proofs.YtfigiofiakkbdaaDoor
open Go.RowKit
set_option linter.all false

theorem not_u32 (s : Nat) (h : s < 2 ^ 32) : bits .xor .u32 IntKind.u32.max (s : Int) = ((ones - s : Nat) : Int) := by
  have := Go.u32_xor_nat ones s (by decide) h
  rw [ones_xor s h] at this
  exact this
theorem bv_xor (c : Nat) (b : UInt8) (h : c < 2 ^ 32) : bits .xor .u32 (c : Int) (b.toNat : Int) = ((c ^^^ b.toNat : Nat) : Int) := Go.u32_xor_nat c b.toNat h (Nat.lt_of_lt_of_le (u8_lt b) (by decide))
theorem xor_lt32 (c : Nat) (b : UInt8) (h : c < 2 ^ 32) : c ^^^ b.toNat < 2 ^ 32 := Nat.xor_lt_two_pow h (Nat.lt_of_lt_of_le (u8_lt b) (by decide))
theorem eat_take (c : Nat) (bs : List UInt8) (j : Nat) (b : UInt8) (h : bs[j]? = some b) : eat c (bs.take (j + 1)) = steps 8 (eat c (bs.take j) ^^^ b.toNat) := by
  rw [List.take_add_one, h, Option.toList_some, eat_snoc]
theorem u8_conv (b : UInt8) : IntKind.u32.wrap (b.toNat : Int) = (b.toNat : Int) := by
  have := u8_lt b
  rw [IntKind.wrap_u32]; omega

end Go.Proofs.YtfigiofiakkbdaaDoor
