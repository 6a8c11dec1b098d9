/-
  Contracts of the reference of layer 5: shape, has.
-/
import Derived.Test.YthmiiddojccafaaIP
namespace Go.Proofs.Ythmiiddojccafaa
open Go.RowKit
set_option linter.all false

/-- The letters of parts. -/
def lettersO (p : Nat) : List UInt8 := (if p % 2 = 1 then [100] else []) ++ ((if p / 2 % 2 = 1 then [115] else []) ++ ((if p / 4 % 2 = 1 then [111] else []) ++ (if p / 8 % 2 = 1 then [105] else [])))
def shpO (op : Nat) : List UInt8 := if okO op 0 then lettersO (partO op) else [45]

end Go.Proofs.Ythmiiddojccafaa
