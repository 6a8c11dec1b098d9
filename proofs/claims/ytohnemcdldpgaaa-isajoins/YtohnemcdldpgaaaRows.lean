/-
  No cell of these rows narrows 'for every input' (looked for: loops, veiled, ifaces, maps, wideKeys, modest, calm, conditions, laid).
  DERIVED. THE GIVEN ROWS OF THIS SEAT. 7 by the template 'for every input the law returns true; each argument reads behind the call as it read before'; 0 by the template 'total and deterministic' (their statements: YtohnemcdldpgaaaTotals.lean).
  GIVEN WITH THE SEED: the statements are not yours to turn. If you find one false, say at which input.
  Laid BY PROGRAM, IN A SANDBOX (cutbox-rows.mjs): the forced cells as the released guide's own fill.sh prints them over the translation 833074039e7d9ff8… (all of the seat's roots in one cut). By AI agents, Wed Nov 11 2026. No macro, syntax, notation, axiom, sorry.
-/
import Derived.Test.YtohnemcdldpgaaaChecked
import GoSem.Claim
import GoSem.ClaimJoined
import GoSem.ClaimMapViews
import Derived.JoinedTies
import Derived.KernelRfl
namespace Go.Proofs.Ytohnemcdldpgaaa
/- THE CELL 'sum', in the pinned program and in every row, IS THE sha256 OF THE DUMP (.gsa) THAT YtohnemcdldpgaaaProg.lean LOADS. Nothing in Lean hashes anything: it is a label: what it is worth is what the hold of that sum in a sandbox is worth. -/
noncomputable def Try.pinned : Pinned := { name := "ytohnemcdldpgaaa", sum := "833074039e7d9ff8ed8ae8275d404b40bc31d938748d37c702c81bf7f1f7831a", checked := Try.checked }
namespace Rows
def none {H : Type} : Left H := { results := [], args := [] }

/-- 'swingbridgelaw05.IsaKnows': WHATEVER THE INPUT: true; the input reads as it did. -/
def isaKnowsSpec : ChangeSpec := { name := "isaKnows", fn := fun _ => fun
  | [d] => { results := [.lit (.bool true)], args := [d] }
  | _ => none }
def isaKnowsRow : OpenClaim := { program := "ytohnemcdldpgaaa", sum := "833074039e7d9ff8ed8ae8275d404b40bc31d938748d37c702c81bf7f1f7831a", func := "swingbridge/swingbridgelaw05.IsaKnows", spec := "isaKnows", unfollowed := true, recurses := true, apart := false }
def IsaKnowsSaid : Prop := isaKnowsRow.holds Try.pinned (OpenSpec.ofChange isaKnowsSpec)

/-- ITS FALSE NEIGHBOUR: 'it returns false'. Refute it at one input. -/
def isaKnowsWrong : ChangeSpec := { name := "isaKnows", fn := fun _ => fun
  | [d] => { results := [.lit (.bool false)], args := [d] }
  | _ => none }
def IsaKnowsWrongFalsely : Prop := isaKnowsRow.holds Try.pinned (OpenSpec.ofChange isaKnowsWrong)

/-- 'swingbridgelaw05.IsaReads': WHATEVER THE INPUT: true; the input reads as it did. -/
def isaReadsSpec : ChangeSpec := { name := "isaReads", fn := fun _ => fun
  | [d] => { results := [.lit (.bool true)], args := [d] }
  | _ => none }
def isaReadsRow : OpenClaim := { program := "ytohnemcdldpgaaa", sum := "833074039e7d9ff8ed8ae8275d404b40bc31d938748d37c702c81bf7f1f7831a", func := "swingbridge/swingbridgelaw05.IsaReads", spec := "isaReads", unfollowed := true, recurses := true, apart := false }
def IsaReadsSaid : Prop := isaReadsRow.holds Try.pinned (OpenSpec.ofChange isaReadsSpec)

/-- ITS FALSE NEIGHBOUR: 'it returns false'. Refute it at one input. -/
def isaReadsWrong : ChangeSpec := { name := "isaReads", fn := fun _ => fun
  | [d] => { results := [.lit (.bool false)], args := [d] }
  | _ => none }
def IsaReadsWrongFalsely : Prop := isaReadsRow.holds Try.pinned (OpenSpec.ofChange isaReadsWrong)

/-- 'swingbridgelaw05.IsaWrites': WHATEVER THE INPUT: true; the input reads as it did. -/
def isaWritesSpec : ChangeSpec := { name := "isaWrites", fn := fun _ => fun
  | [d] => { results := [.lit (.bool true)], args := [d] }
  | _ => none }
def isaWritesRow : OpenClaim := { program := "ytohnemcdldpgaaa", sum := "833074039e7d9ff8ed8ae8275d404b40bc31d938748d37c702c81bf7f1f7831a", func := "swingbridge/swingbridgelaw05.IsaWrites", spec := "isaWrites", unfollowed := true, recurses := true, apart := false }
def IsaWritesSaid : Prop := isaWritesRow.holds Try.pinned (OpenSpec.ofChange isaWritesSpec)

/-- ITS FALSE NEIGHBOUR: 'it returns false'. Refute it at one input. -/
def isaWritesWrong : ChangeSpec := { name := "isaWrites", fn := fun _ => fun
  | [d] => { results := [.lit (.bool false)], args := [d] }
  | _ => none }
def IsaWritesWrongFalsely : Prop := isaWritesRow.holds Try.pinned (OpenSpec.ofChange isaWritesWrong)

/-- 'swingbridgelaw05.IsaBack': WHATEVER THE INPUT: true; the input reads as it did. -/
def isaBackSpec : ChangeSpec := { name := "isaBack", fn := fun _ => fun
  | [d1, d2] => { results := [.lit (.bool true)], args := [d1, d2] }
  | _ => none }
def isaBackRow : OpenClaim := { program := "ytohnemcdldpgaaa", sum := "833074039e7d9ff8ed8ae8275d404b40bc31d938748d37c702c81bf7f1f7831a", func := "swingbridge/swingbridgelaw05.IsaBack", spec := "isaBack", unfollowed := true, recurses := true, apart := false }
def IsaBackSaid : Prop := isaBackRow.holds Try.pinned (OpenSpec.ofChange isaBackSpec)

/-- ITS FALSE NEIGHBOUR: 'it returns false'. Refute it at one input. -/
def isaBackWrong : ChangeSpec := { name := "isaBack", fn := fun _ => fun
  | [d1, d2] => { results := [.lit (.bool false)], args := [d1, d2] }
  | _ => none }
def IsaBackWrongFalsely : Prop := isaBackRow.holds Try.pinned (OpenSpec.ofChange isaBackWrong)

/-- 'swingbridgelaw05.IsaJoins': WHATEVER THE INPUT: true; the input reads as it did. -/
def isaJoinsSpec : ChangeSpec := { name := "isaJoins", fn := fun _ => fun
  | [d1, d2, d3] => { results := [.lit (.bool true)], args := [d1, d2, d3] }
  | _ => none }
def isaJoinsRow : OpenClaim := { program := "ytohnemcdldpgaaa", sum := "833074039e7d9ff8ed8ae8275d404b40bc31d938748d37c702c81bf7f1f7831a", func := "swingbridge/swingbridgelaw05.IsaJoins", spec := "isaJoins", unfollowed := true, recurses := true, apart := false }
def IsaJoinsSaid : Prop := isaJoinsRow.holds Try.pinned (OpenSpec.ofChange isaJoinsSpec)

/-- ITS FALSE NEIGHBOUR: 'it returns false'. Refute it at one input. -/
def isaJoinsWrong : ChangeSpec := { name := "isaJoins", fn := fun _ => fun
  | [d1, d2, d3] => { results := [.lit (.bool false)], args := [d1, d2, d3] }
  | _ => none }
def IsaJoinsWrongFalsely : Prop := isaJoinsRow.holds Try.pinned (OpenSpec.ofChange isaJoinsWrong)

/-- 'swingbridgelaw05.IsaCounts': WHATEVER THE INPUT: true; the input reads as it did. -/
def isaCountsSpec : ChangeSpec := { name := "isaCounts", fn := fun _ => fun
  | [d1, d2] => { results := [.lit (.bool true)], args := [d1, d2] }
  | _ => none }
def isaCountsRow : OpenClaim := { program := "ytohnemcdldpgaaa", sum := "833074039e7d9ff8ed8ae8275d404b40bc31d938748d37c702c81bf7f1f7831a", func := "swingbridge/swingbridgelaw05.IsaCounts", spec := "isaCounts", unfollowed := true, recurses := true, apart := false }
def IsaCountsSaid : Prop := isaCountsRow.holds Try.pinned (OpenSpec.ofChange isaCountsSpec)

/-- ITS FALSE NEIGHBOUR: 'it returns false'. Refute it at one input. -/
def isaCountsWrong : ChangeSpec := { name := "isaCounts", fn := fun _ => fun
  | [d1, d2] => { results := [.lit (.bool false)], args := [d1, d2] }
  | _ => none }
def IsaCountsWrongFalsely : Prop := isaCountsRow.holds Try.pinned (OpenSpec.ofChange isaCountsWrong)

/-- 'swingbridgelaw05.IsaWide': WHATEVER THE INPUT: true; the input reads as it did. -/
def isaWideSpec : ChangeSpec := { name := "isaWide", fn := fun _ => fun
  | [d1, d2, d3, d4] => { results := [.lit (.bool true)], args := [d1, d2, d3, d4] }
  | _ => none }
def isaWideRow : OpenClaim := { program := "ytohnemcdldpgaaa", sum := "833074039e7d9ff8ed8ae8275d404b40bc31d938748d37c702c81bf7f1f7831a", func := "swingbridge/swingbridgelaw05.IsaWide", spec := "isaWide", unfollowed := true, recurses := true, apart := false }
def IsaWideSaid : Prop := isaWideRow.holds Try.pinned (OpenSpec.ofChange isaWideSpec)

/-- ITS FALSE NEIGHBOUR: 'it returns false'. Refute it at one input. -/
def isaWideWrong : ChangeSpec := { name := "isaWide", fn := fun _ => fun
  | [d1, d2, d3, d4] => { results := [.lit (.bool false)], args := [d1, d2, d3, d4] }
  | _ => none }
def IsaWideWrongFalsely : Prop := isaWideRow.holds Try.pinned (OpenSpec.ofChange isaWideWrong)

/- THE SECOND FORM. 'bulk': how many values and letters a reading holds, each counted each time it is reached (what is shared counts as often as it is met; a slice's spare places count too). A statement '..UptoSaid' is the law's where the arguments, and the package variables that the reading takes, are together of bulk at most 1048576: NARROWER than '..Said'. Prove '..Said' where nothing that the law and all that it calls make is longer than what came in: it says more and counts as full. Else prove '..UptoSaid'. A law counts once. -/
mutual
def uptoBulk {H : Type} : DataW H → Nat
  | .lit (.string bytes) => bytes.length + 1
  | .lit _ => 1
  | .nil => 1
  | .ptr d => uptoBulk d + 1
  | .slice elems spare => uptoBulkAll elems + uptoBulkAll spare + 1
  | .agg parts => uptoBulkAll parts + 1
  | .iface _ d => uptoBulk d + 1
  | .map entries => uptoBulkEntries entries + 1
  | .held _ => 1
def uptoBulkAll {H : Type} : List (DataW H) → Nat
  | [] => 0
  | d :: r => uptoBulk d + uptoBulkAll r
def uptoBulkEntries {H : Type} : List (Lit × DataW H) → Nat
  | [] => 0
  | x :: r => uptoBulkEntry x + uptoBulkEntries r
def uptoBulkEntry {H : Type} : Lit × DataW H → Nat
  | (.string bytes, d) => bytes.length + uptoBulk d + 1
  | (_, d) => uptoBulk d + 1
 end
def uptoSmall : (H : Type) → List (DataW H) → Bool := fun _ ds => decide (uptoBulkAll ds ≤ 1048576)
def OpenSpec.upto (s : _root_.Go.ChangeSpec) : _root_.Go.OpenSpec := { _root_.Go.OpenSpec.ofChange s with cond := some uptoSmall }

/-- 'swingbridgelaw05.IsaKnows', WHERE WHAT IT READS IS OF BULK AT MOST 1048576: true; the input reads as it did. -/
def isaKnowsUptoRow : OpenClaim := { program := "ytohnemcdldpgaaa", sum := "833074039e7d9ff8ed8ae8275d404b40bc31d938748d37c702c81bf7f1f7831a", func := "swingbridge/swingbridgelaw05.IsaKnows", spec := "isaKnows", unfollowed := true, recurses := true, apart := false, narrowed := true }
def IsaKnowsUptoSaid : Prop := isaKnowsUptoRow.holds Try.pinned (OpenSpec.upto isaKnowsSpec)

/-- 'swingbridgelaw05.IsaReads', WHERE WHAT IT READS IS OF BULK AT MOST 1048576: true; the input reads as it did. -/
def isaReadsUptoRow : OpenClaim := { program := "ytohnemcdldpgaaa", sum := "833074039e7d9ff8ed8ae8275d404b40bc31d938748d37c702c81bf7f1f7831a", func := "swingbridge/swingbridgelaw05.IsaReads", spec := "isaReads", unfollowed := true, recurses := true, apart := false, narrowed := true }
def IsaReadsUptoSaid : Prop := isaReadsUptoRow.holds Try.pinned (OpenSpec.upto isaReadsSpec)

/-- 'swingbridgelaw05.IsaWrites', WHERE WHAT IT READS IS OF BULK AT MOST 1048576: true; the input reads as it did. -/
def isaWritesUptoRow : OpenClaim := { program := "ytohnemcdldpgaaa", sum := "833074039e7d9ff8ed8ae8275d404b40bc31d938748d37c702c81bf7f1f7831a", func := "swingbridge/swingbridgelaw05.IsaWrites", spec := "isaWrites", unfollowed := true, recurses := true, apart := false, narrowed := true }
def IsaWritesUptoSaid : Prop := isaWritesUptoRow.holds Try.pinned (OpenSpec.upto isaWritesSpec)

/-- 'swingbridgelaw05.IsaBack', WHERE WHAT IT READS IS OF BULK AT MOST 1048576: true; the input reads as it did. -/
def isaBackUptoRow : OpenClaim := { program := "ytohnemcdldpgaaa", sum := "833074039e7d9ff8ed8ae8275d404b40bc31d938748d37c702c81bf7f1f7831a", func := "swingbridge/swingbridgelaw05.IsaBack", spec := "isaBack", unfollowed := true, recurses := true, apart := false, narrowed := true }
def IsaBackUptoSaid : Prop := isaBackUptoRow.holds Try.pinned (OpenSpec.upto isaBackSpec)

/-- 'swingbridgelaw05.IsaJoins', WHERE WHAT IT READS IS OF BULK AT MOST 1048576: true; the input reads as it did. -/
def isaJoinsUptoRow : OpenClaim := { program := "ytohnemcdldpgaaa", sum := "833074039e7d9ff8ed8ae8275d404b40bc31d938748d37c702c81bf7f1f7831a", func := "swingbridge/swingbridgelaw05.IsaJoins", spec := "isaJoins", unfollowed := true, recurses := true, apart := false, narrowed := true }
def IsaJoinsUptoSaid : Prop := isaJoinsUptoRow.holds Try.pinned (OpenSpec.upto isaJoinsSpec)

/-- 'swingbridgelaw05.IsaCounts', WHERE WHAT IT READS IS OF BULK AT MOST 1048576: true; the input reads as it did. -/
def isaCountsUptoRow : OpenClaim := { program := "ytohnemcdldpgaaa", sum := "833074039e7d9ff8ed8ae8275d404b40bc31d938748d37c702c81bf7f1f7831a", func := "swingbridge/swingbridgelaw05.IsaCounts", spec := "isaCounts", unfollowed := true, recurses := true, apart := false, narrowed := true }
def IsaCountsUptoSaid : Prop := isaCountsUptoRow.holds Try.pinned (OpenSpec.upto isaCountsSpec)

/-- 'swingbridgelaw05.IsaWide', WHERE WHAT IT READS IS OF BULK AT MOST 1048576: true; the input reads as it did. -/
def isaWideUptoRow : OpenClaim := { program := "ytohnemcdldpgaaa", sum := "833074039e7d9ff8ed8ae8275d404b40bc31d938748d37c702c81bf7f1f7831a", func := "swingbridge/swingbridgelaw05.IsaWide", spec := "isaWide", unfollowed := true, recurses := true, apart := false, narrowed := true }
def IsaWideUptoSaid : Prop := isaWideUptoRow.holds Try.pinned (OpenSpec.upto isaWideSpec)

end Rows
end Go.Proofs.Ytohnemcdldpgaaa
