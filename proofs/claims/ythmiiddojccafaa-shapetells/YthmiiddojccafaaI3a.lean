/-
  Package isa: areAllOf.
-/
import Derived.Test.YthmiiddojccafaaI2
namespace Go.Proofs.Ythmiiddojccafaa
open Go.RowKit
set_option linter.all false

/-- Has it no parts but these, and registers that fit? -/
def allO (has op b c : Nat) (d e : Int) : Bool := decide (b < 16) && decide (c < 16) && (decide (has % 2 = 1) || decide (b = 0)) && (decide (has / 2 % 2 = 1) || decide (c = 0)) && (decide (has / 4 % 2 = 1) || decide (d = 0)) && (decide (has / 8 % 2 = 1) || decide (e = 0))
section
variable {op : Nat} (b c : Nat) (d e : Int) (w : World)
theorem has_bits : ∀ has : Fin 16, bits .and .u8 (has.1 : Int) 1 = ((has.1 % 2 : Nat) : Int) ∧ bits .and .u8 (has.1 : Int) 2 = ((has.1 / 2 % 2 * 2 : Nat) : Int) ∧ bits .and .u8 (has.1 : Int) 4 = ((has.1 / 4 % 2 * 4 : Nat) : Int) ∧ bits .and .u8 (has.1 : Int) 8 = ((has.1 / 8 % 2 * 8 : Nat) : Int) := by decide +kernel
set_option maxHeartbeats 3200000 in
theorem areAll_c (has : Nat) (hh : has < 16) : Calls Try.prog 66 #[.int .u8 (has : Int), .agg #[.int .u8 (op : Int), .int .u8 (b : Int), .int .u8 (c : Int), .int .i16 d, .int .i32 e]] w fun x w' => x = .returned (.bool (allO has op b c d e)) ∧ Calm w w' := by
  by_cases hb : b < 16
  · by_cases hc : c < 16
    · have i1 : decide ((16 : Int) ≤ (b : Int)) = false := decide_eq_false (by omega)
      have i2 : decide ((16 : Int) ≤ (c : Int)) = false := decide_eq_false (by omega)
      have hk : has = 0 ∨ has = 1 ∨ has = 2 ∨ has = 3 ∨ has = 4 ∨ has = 5 ∨ has = 6 ∨ has = 7 ∨ has = 8 ∨ has = 9 ∨ has = 10 ∨ has = 11 ∨ has = 12 ∨ has = 13 ∨ has = 14 ∨ has = 15 := by omega
      obtain ⟨R, hR⟩ : ∃ R, R = allO has op b c d e := ⟨_, rfl⟩
      rw [← hR]
      have HR := Lib.hid hR
      have HB := Lib.hid (And.intro hb hc)
      clear hR hb hc
      rcases hk with rfl | rfl | rfl | rfl | rfl | rfl | rfl | rfl | rfl | rfl | rfl | rfl | rfl | rfl | rfl | rfl
      all_goals
        as_aux_lemma =>
          have hq := has_bits ⟨_, hh⟩
          obtain ⟨q1, q2, q3, q4⟩ := hq
          simp only [Nat.reduceMod, Nat.reduceDiv, Nat.reduceMul] at q1 q2 q3 q4
          norm_cast at q1 q2 q3 q4
          clear hh
          go_enter Try.func66, Try.ntmps66
          go_wp2_with fail
          all_goals
            go_ret
            refine ⟨?_, ?_⟩
            · rw [HR.out]
              have hb := HB.out.1
              have hc := HB.out.2
              first
                | exact congrArg (fun z => Ending.returned (Value.bool z)) (show true = _ from by unfold allO; simp; omega)
                | exact congrArg (fun z => Ending.returned (Value.bool z)) (show false = _ from by unfold allO; simp; omega)
            · clear HR HB q1 q2 q3 q4 i1 i2
              repeat (first | exact Keep.refl _ w | refine Keep.alloc ?_ _ | refine Keep.store ?_ (fun e => by exfalso; revert e; simp) _)
    · have i1 : decide ((16 : Int) ≤ (b : Int)) = false := decide_eq_false (by omega)
      have i2 : (16 : Int) ≤ (c : Int) := by omega
      have hz : allO has op b c d e = false := by unfold allO; simp [hc]
      rw [hz]
      clear hz hb hc
      go_enter Try.func66, Try.ntmps66
      go_wp2_with fail
      go_ret
      exact ⟨rfl, (Keep.refl _ w).alloc _⟩
  · have i1 : (16 : Int) ≤ (b : Int) := by omega
    have hz : allO has op b c d e = false := by unfold allO; simp [hb]
    rw [hz]
    clear hz hb
    go_enter Try.func66, Try.ntmps66
    go_wp2_with fail
    go_ret
    exact ⟨rfl, (Keep.refl _ w).alloc _⟩
end
end Go.Proofs.Ythmiiddojccafaa
