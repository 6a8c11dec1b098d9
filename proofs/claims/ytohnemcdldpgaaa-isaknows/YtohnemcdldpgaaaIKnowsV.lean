/-
  IsaKnows, its argument as it comes.
-/
import Derived.Test.YtohnemcdldpgaaaIKnowsW
import Derived.Test.YtohnemcdldpgaaaIF
namespace Go.Proofs.Ytohnemcdldpgaaa
open Go.RowKit
set_option linter.all false
theorem isaKnows_w {v : Value} {o : In} (hv : v = o.v) (ho : o.Wf) (w : World) : Calls Try.prog 3 #[v] w fun e w' => e = .returned (.bool true) ∧ Calm w w' := by
  subst hv
  exact isaKnows_c o.op o.dst o.src o.off o.imm ho.op w
end Go.Proofs.Ytohnemcdldpgaaa
