import Derived.Test.YtfigiofiakkbdaaDoorMem
import Derived.Test.YtfigiofiakkbdaaDoorJN2
import Derived.Test.YtfigiofiakkbdaaDoorChecked
import Derived.Laws.BitsAllLaws
/-
  Contracts of package crc: four.
-/
namespace Go.Proofs.YtfigiofiakkbdaaDoor
open Go.RowKit
set_option linter.all false

/-- The table of half bytes, where the program lays it. -/
def Tab (w : World) : Prop := 0 < w.heap.size ∧ ∀ i : Nat, (h : i < tab4.length) → w.cell? ⟨0, i, none⟩ = some (.int .u32 ((tab4[i] : Nat) : Int))
theorem Tab.calm {w w' : World} (h : Tab w) (hc : Calm w w') : Tab w' :=
  ⟨Nat.lt_of_lt_of_le h.1 hc.size, fun i hi => (hc.cell (p := ⟨0, i, none⟩) h.1 (fun e => e)).trans (h.2 i hi)⟩

theorem four_core (c : Int) (r : Nat) (t x : Int) (w : World) (h1 : bits .and .u32 c 15 = (r : Int)) (hr : (r : Int) < 16) (hc : w.cell? ⟨0, r, none⟩ = some (.int .u32 t)) (hx : bits .xor .u32 (c / 16) t = x) :
    Calls Tryd.prog 87 #[.int .u32 c] w fun e w' => e = .returned (.int .u32 x) ∧ w = w' := by
  go_enter Tryd.func87, Tryd.ntmps87
  go_wp2
  go_ret
  exact ⟨rfl, rfl⟩
theorem tab_lt : ∀ i : Fin 16, tab4[i.1]'(by simpa [tab4] using i.2) < 4294967296 := by decide +kernel
theorem four_c (c : Nat) (h : c < 2 ^ 32) (w : World) (hT : Tab w) : Calls Tryd.prog 87 #[.int .u32 (c : Int)] w fun e w' => e = .returned (.int .u32 ((steps 4 c : Nat) : Int)) ∧ w = w' := by
  have hl : c % 16 < tab4.length := by simp [tab4]; omega
  have hlt := tab_lt ⟨c % 16, by omega⟩
  refine four_core c (c % 16) ((tab4[c % 16] : Nat) : Int) _ w ?_ (by omega) (hT.2 (c % 16) hl) ?_
  · have := Go.u32_and_nat c 15 h (by decide)
    rw [show (15 : Nat) = 2 ^ 4 - 1 from rfl, Nat.and_two_pow_sub_one_eq_mod] at this
    simpa using this
  · rw [← four_eq c]
    have := Go.u32_xor_nat (c / 16) (tab4[c % 16]) (by omega) hlt
    rw [← this]
    simp
end Go.Proofs.YtfigiofiakkbdaaDoor

