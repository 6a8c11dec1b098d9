/-
  IsaWide, its arguments as they come.
-/
import Derived.Test.YtohnemcdldpgaaaIWideW
import Derived.Test.YtohnemcdldpgaaaIF
namespace Go.Proofs.Ytohnemcdldpgaaa
open Go.RowKit
set_option linter.all false
theorem isaWide_w (a b d : Int) (ha : (Lit.int .i32 a).wf = true) (hb : (Lit.int .i32 b).wf = true) (hd : (Lit.int .u8 d).wf = true) {v : Value} {o : In} (hv : v = o.v) (ho : o.Wf) (w : World) : Calls Try.prog 9 #[.int .i32 a, .int .i32 b, .int .u8 d, v] w fun e w' => e = .returned (.bool true) ∧ Calm w w' := by
  have h1 := bounds_i32 ha
  have h2 := bounds_i32 hb
  have h3 := bounds_u8 hd
  subst hv
  have h := isaWide_c a b d.toNat o (by omega) (by omega) (by omega) ho w
  rwa [Int.toNat_of_nonneg h3.1] at h
end Go.Proofs.Ytohnemcdldpgaaa
