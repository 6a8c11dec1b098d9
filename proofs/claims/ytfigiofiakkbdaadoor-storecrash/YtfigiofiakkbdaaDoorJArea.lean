/-
  Sectors from a place on, as bytes; operations that are done.
-/
import Derived.Test.YtfigiofiakkbdaaDoorLRd
import Derived.Test.YtfigiofiakkbdaaDoorLSt
namespace Go.Proofs.YtfigiofiakkbdaaDoor
open Go.RowKit
set_option linter.all false

/-- Sectors from a place on, as bytes. -/
def areaB (S : DS) (from_ : Nat) : Nat → List UInt8
  | 0 => []
  | j + 1 => areaB S from_ j ++ S.now (from_ + j)
/-- So many operations more. -/
def DS.more (S : DS) (k : Nat) : DS := { S with ops := S.ops + k }
theorem areaB_more (S : DS) (k f n : Nat) : areaB (S.more k) f n = areaB S f n := by
  induction n with
  | zero => rfl
  | succ n ih => simp only [areaB, ih]; rfl
theorem DS.op_up {S : DS} (h1 : S.down = false) (h2 : S.arm = none) : S.op = (true, S.more 1) := by
  obtain ⟨secs, wait, arm, down, ops⟩ := S
  simp only at h1 h2
  subst h1 h2
  rfl
theorem DS.more_more (S : DS) (a b : Nat) : (S.more a).more b = S.more (a + b) := by simp [DS.more, Nat.add_assoc]
theorem areaB_len (S : DS) (f n : Nat) (h : ∀ i, i < n → (S.now (f + i)).length = 512) : (areaB S f n).length = 512 * n := by
  induction n with
  | zero => rfl
  | succ n ih =>
    simp only [areaB, List.length_append]
    rw [ih (fun i hi => h i (by omega)), h n (by omega)]
    omega

end Go.Proofs.YtfigiofiakkbdaaDoor
