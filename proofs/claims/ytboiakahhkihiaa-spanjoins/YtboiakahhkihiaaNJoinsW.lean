/-
  The walk of SpanJoins.
-/
import Derived.Test.YtboiakahhkihiaaN9
import Derived.Test.YtboiakahhkihiaaNJoinsA
import Derived.Test.YtboiakahhkihiaaNJoinsB
namespace Go.Proofs.Ytboiakahhkihiaa
open Go.RowKit
set_option linter.all false

theorem spanJoins_w {f0 f1 f2 f3 n : Nat} (hf0 : f0 < 18446744073709551616) (hf1 : f1 < 18446744073709551616) (hf2 : f2 < 18446744073709551616) (hf3 : f3 < 18446744073709551616) (hn : n < 18446744073709551616) (w : World) : Calls Try.prog 8 #[.agg #[.int .u64 (f0 : Int), .int .u64 (f1 : Int), .int .u64 (f2 : Int), .int .u64 (f3 : Int)], .int .u64 (n : Int)] w fun e w' => e = .returned (.bool true) ∧ Calm w w' := by
  have en : bits .and .u64 (n : Int) 4294967295 = ((n % 4294967296 : Nat) : Int) := by
    have k := u64_and_nat n 4294967295 hn (by decide)
    rw [show n &&& 4294967295 = n % 4294967296 from Nat.and_two_pow_sub_one_eq_mod n 32] at k
    exact k
  obtain ⟨a, ea⟩ : ∃ a, a = rS f0 f1 := ⟨_, rfl⟩
  obtain ⟨b, eb⟩ : ∃ b, b = rS f2 f3 := ⟨_, rfl⟩
  have oka : a.Ok := by rw [ea]; exact rS_ok hf0 hf1
  have hl : Sp.In n a → Sp.In (n % 4294967296) (lowS a) := fun h => mod_in false oka h
  by_cases hp : Sp.In n a
  · by_cases hq : Sp.In n b
    · exact spanJoins_ttt en ea eb hp hq (meet_in hp hq).1 (hl hp) w
    · cases hm : (meetS a b).2
      · exact spanJoins_tff en ea eb hp hq hm (hl hp) w
      · exact spanJoins_tft en ea eb hp hq hm (hl hp) w
  · by_cases hq : Sp.In n b
    · cases hm : (meetS a b).2
      · exact spanJoins_ftf en ea eb hp hq hm w
      · exact spanJoins_ftt en ea eb hp hq hm w
    · cases hm : (meetS a b).2
      · exact spanJoins_fff en ea eb hp hq hm w
      · exact spanJoins_fft en ea eb hp hq hm w

end Go.Proofs.Ytboiakahhkihiaa
