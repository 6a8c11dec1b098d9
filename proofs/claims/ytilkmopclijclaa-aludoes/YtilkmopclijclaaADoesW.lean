/-
  The walk of AluDoes.
-/
import Derived.Test.YtilkmopclijclaaA4
import Derived.Test.YtilkmopclijclaaAR2
import Derived.Test.YtilkmopclijclaaAR4
namespace Go.Proofs.Ytilkmopclijclaa
open Go.RowKit
set_option linter.all false

theorem aluDoes_in (op : Nat) : decide (op ∈ opsL.map UInt8.toNat) = isO op := rfl
set_option maxHeartbeats 3200000 in
set_option maxRecDepth 20000 in
theorem aluDoes_w {op a b : Nat} (wide : Bool) (ha : a < 18446744073709551616) (hb : b < 18446744073709551616) (w : World) : Calls Try.prog 3 #[.int .u8 (op : Int), .bool wide, .int .u64 (a : Int), .int .u64 (b : Int)] w fun e w' => e = .returned (.bool true) ∧ Calm w w' := by
  obtain ⟨t, et⟩ : ∃ z, z = D (bW wide) op a b := ⟨_, rfl⟩
  obtain ⟨k, ek⟩ : ∃ z, z = isO op := ⟨_, rfl⟩
  have K1 : Hid (∀ w, Calls Try.prog 12 #[.int .u8 (op : Int), .bool wide, .int .u64 (a : Int), .int .u64 (b : Int)] w fun ee w' => ee = .returned (.tuple #[.int .u64 (t : Int), .bool k]) ∧ Calm w w') := Lib.hid fun w => by
    rw [et, ek]
    exact do_c wide w ha hb
  have K2 : Hid (∀ w, Calls Try.prog 13 #[.int .u8 (op : Int), .bool wide, .int .u64 (a : Int), .int .u64 (b : Int)] w fun ee w' => ee = .returned (.tuple #[.int .u64 (t : Int), .bool k]) ∧ Calm w w') := Lib.hid fun w => by
    rw [et, ek]
    exact rdo_c wide w ha hb
  have K3 : Hid (∀ w v, Lit w v opsL → Calls Try.prog 14 #[v, .int .u8 (op : Int)] w fun ee w' => ee = .returned (.bool k) ∧ Calm w w') := Lib.hid fun w v h => by
    have := rin_c h (by decide) op
    rw [aluDoes_in, ← ek] at this
    exact this
  clear ha hb et ek
  go_enter Try.func3, Try.ntmps3
  go_wp2_with fail
  refine (shown7_c _).mono ?_
  rintro x w0 ⟨rfl, hc⟩
  have C0 := Lib.hid hc
  clear hc
  go_wp2_with fail
  refine (K1.out _).mono ?_
  rintro x w1 ⟨rfl, hc⟩
  have C1 := Lib.hid (C0.out.trans hc)
  clear hc
  go_wp2_with fail
  refine (K2.out _).mono ?_
  rintro x w2 ⟨rfl, hc⟩
  have C2 := Lib.hid (C1.out.trans hc)
  clear hc
  go_wp2_with fail
  refine (ops_c _).mono ?_
  rintro x w3 ⟨v3, rfl, hc, l3⟩
  have C3 := Lib.hid (C2.out.trans hc)
  have L3 := Lib.hid l3
  clear hc l3
  go_wp2_with fail
  refine (K3.out _ _ L3.out).mono ?_
  rintro x w4 ⟨rfl, hc⟩
  have C4 := Lib.hid (C3.out.trans hc)
  clear hc
  go_wp2_with fail
  refine (ops_c _).mono ?_
  rintro x w5 ⟨v5, rfl, hc, l5⟩
  have C5 := Lib.hid (C4.out.trans hc)
  have L5 := Lib.hid l5
  clear hc l5
  go_wp2_with fail
  refine (rops_c _).mono ?_
  rintro x w6 ⟨v6, rfl, hc, l6⟩
  have C6 := Lib.hid (C5.out.trans hc)
  have S6 := Lib.hid (same7_c (L5.out.calm hc) l6 (by decide))
  clear hc l6
  go_wp2_with fail
  refine S6.out.mono ?_
  rintro x w7 ⟨rfl, hc⟩
  have C7 := Lib.hid (C6.out.trans hc)
  clear hc
  go_wp2_with fail
  go_ret
  exact ⟨rfl, C7.out⟩
end Go.Proofs.Ytilkmopclijclaa