/-
  Package math/bits: Add64, Mul64, Len64.
-/
import Derived.Test.YtboiakahhkihiaaN1
import Derived.Laws.Externs
import Derived.Lib.Mul64
import Derived.Laws.MathBits
import Derived.Lib.BitFns
import Derived.Lib.Strings
import Derived.Lib.Small
import Derived.Lib.Walk
namespace Go.Proofs.Ytboiakahhkihiaa
open Go.RowKit
set_option linter.all false

theorem add64_run (a b : Nat) (w : World) : (callFunc 62 #[.int .u64 (a : Int), .int .u64 (b : Int), .int .u64 0]).run Try.prog w = .ok (.value (.tuple #[.int .u64 (((a : Int) + (b : Int)) % 18446744073709551616), .int .u64 (((a : Int) + (b : Int)) / 18446744073709551616)])) w := by
  rw [run_callFunc_extern Try.func62 (by kernel_rfl) (by kernel_rfl) (by kernel_rfl) (e := add64Entry) (by kernel_rfl), run_add64 (a : Int) (b : Int) 0 (by omega) (by omega) (by omega) (by omega)]
  simp only [Result.andThen, Int.add_zero]

theorem retII {k : IntKind} {x y x' y' : Int} (h1 : x = x') (h2 : y = y') : Ending.returned (.tuple #[.int k x, .int k y]) = Ending.returned (.tuple #[.int k x', .int k y']) := by rw [h1, h2]
theorem low_wrap (z : Int) : bits .and .u64 (IntKind.u64.wrap z) 4294967295 = IntKind.u64.wrap z % 4294967296 := by
  apply and_low32 <;> rw [IntKind.wrap_u64] <;> omega
set_option maxHeartbeats 1000000 in
theorem mul64_c {x y : Nat} (hx : x < 18446744073709551616) (hy : y < 18446744073709551616) (w : World) : Calls Try.prog 63 #[.int .u64 (x : Int), .int .u64 (y : Int)] w fun e w' => e = .returned (.tuple #[.int .u64 ((x * y / 18446744073709551616 : Nat) : Int), .int .u64 ((x * y % 18446744073709551616 : Nat) : Int)]) ∧ w' = w := by
  go_enter Try.func63, Try.ntmps63
  go_wp2_with fail
  go_returns
  refine ⟨retII ?_ ?_, rfl⟩
  · simp only [low_wrap, and_low32 (x : Int) (by omega) (by omega), and_low32 (y : Int) (by omega) (by omega)]
    simp only [IntKind.wrap_u64]
    rw [Int.natCast_ediv, Int.natCast_mul]
    exact mul64_arith (x : Int) (y : Int) (by omega) (by omega) (by omega) (by omega)
  · rw [IntKind.wrap_u64, Int.natCast_emod, Int.natCast_mul]
    rfl

theorem tab_bit (n : Nat) (h : n < Lib.len8tab.size) : (Lib.len8tab[n]'h).toNat = bitLen n := by
  have all : ∀ j : Fin 256, ((Lib.len8tab[j.1]?).getD 0).toNat = bitLen j.1 := by decide +kernel
  have e := all ⟨n, by rw [← Lib.len8tab_size]; exact h⟩
  simp only at e
  rw [← e, getElem?_pos Lib.len8tab n h]
  rfl
theorem len_fin {x : Int} (h0 : 0 ≤ x) (k : Nat) (y : Int) (hy : y = x / ((2 ^ k : Nat) : Int)) (h : 1 ≤ y ∨ k = 0) (hs : y.toNat < Lib.len8tab.size) (hk : k < 60) : wrap64 ((k : Int) + wrap64 ((Lib.len8tab[y.toNat]'hs).toNat : Int)) = ((bitLen x.toNat : Nat) : Int) := by
  rw [tab_bit]
  have h8 := bitLen_le8 y.toNat (by rw [← Lib.len8tab_size]; exact hs)
  have e : bitLen x.toNat = k + bitLen y.toNat := by
    obtain ⟨n, rfl⟩ := Int.eq_ofNat_of_zero_le h0
    have ey : y.toNat = n / 2 ^ k := by rw [hy, ← Int.natCast_ediv]; rfl
    rw [ey, Int.toNat_natCast]
    rcases h with h | rfl
    · exact bitLen_shift n k (by rw [← ey]; omega)
    · simp
  rw [e]
  unfold wrap64
  omega
theorem len_fin0 {x : Int} (h0 : 0 ≤ x) (hs : x.toNat < Lib.len8tab.size) : wrap64 (wrap64 ((Lib.len8tab[x.toNat]'hs).toNat : Int)) = ((bitLen x.toNat : Nat) : Int) := by
  have := len_fin h0 0 x (by simp) (.inr rfl) hs (by decide)
  rwa [Int.natCast_zero, Int.zero_add] at this
set_option maxRecDepth 100000 in
set_option maxHeartbeats 4000000 in
theorem len64I_c {x : Int} (h0 : 0 ≤ x) (h1 : x ≤ 18446744073709551615) (w : World) : Calls Try.prog 64 #[.int .u64 x] w fun e w' => e = .returned (.int .i64 ((bitLen x.toNat : Nat) : Int)) ∧ w' = w := by
  go_enter Try.func64, Try.ntmps64
  generalize hT : ByteArray.mk _ = T
  have hT' : T = Lib.len8tab := by rw [← hT]; kernel_rfl
  clear hT
  subst hT'
  go_wp2_with fail
  all_goals first
    | (exfalso
       rename_i hb
       rw [Lib.len8tab_size] at hb
       omega)
    | (go_returns
       refine ⟨ret_eq ?_, rfl⟩
       first
         | exact len_fin h0 56 _ (by omega) (by omega) _ (by decide)
         | exact len_fin h0 48 _ (by omega) (by omega) _ (by decide)
         | exact len_fin h0 40 _ (by omega) (by omega) _ (by decide)
         | exact len_fin h0 32 _ (by omega) (by omega) _ (by decide)
         | exact len_fin h0 24 _ (by omega) (by omega) _ (by decide)
         | exact len_fin h0 16 _ (by omega) (by omega) _ (by decide)
         | exact len_fin h0 8 _ (by omega) (by omega) _ (by decide)
         | exact len_fin0 h0 _)
theorem len64_c {x : Nat} (hx : x < 18446744073709551616) (w : World) : Calls Try.prog 64 #[.int .u64 (x : Int)] w fun e w' => e = .returned (.int .i64 ((bitLen x : Nat) : Int)) ∧ w' = w := by
  have h := len64I_c (x := (x : Int)) (by omega) (by omega) w
  rwa [Int.toNat_natCast] at h

end Go.Proofs.Ytboiakahhkihiaa
