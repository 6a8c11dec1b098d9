/-
  No cell of these rows narrows 'for every input' (looked for: loops, veiled, ifaces, maps, wideKeys, modest, calm, conditions, laid).
  DERIVED. THE GIVEN ROWS OF THIS SEAT. 8 by the template 'for every input the law returns true; each argument reads behind the call as it read before'; 0 by the template 'total and deterministic' (their statements: YtnlojohjhfpbgaaTotals.lean).
  GIVEN WITH THE SEED: the statements are not yours to turn. If you find one false, say at which input.
  Laid BY PROGRAM, IN A SANDBOX (cutbox-rows.mjs): the forced cells as the released guide's own fill.sh prints them over the translation 0e2429c2b26e5a1f… (all of the seat's roots in one cut). By AI agents, Wed Nov 11 2026. No macro, syntax, notation, axiom, sorry.
-/
import Derived.Test.YtnlojohjhfpbgaaChecked
import GoSem.Claim
import GoSem.ClaimJoined
import GoSem.ClaimMapViews
import Derived.JoinedTies
import Derived.KernelRfl
namespace Go.Proofs.Ytnlojohjhfpbgaa
/- THE CELL 'sum', in the pinned program and in every row, IS THE sha256 OF THE DUMP (.gsa) THAT YtnlojohjhfpbgaaProg.lean LOADS. Nothing in Lean hashes anything: it is a label: what it is worth is what the hold of that sum in a sandbox is worth. -/
noncomputable def Try.pinned : Pinned := { name := "ytnlojohjhfpbgaa", sum := "0e2429c2b26e5a1fdbfc061b672349b70c3cc17ac83cab464cf57b61a3d2053e", checked := Try.checked }
namespace Rows
def none {H : Type} : Left H := { results := [], args := [] }

/-- 'swingbridgelaw09.LruTypes': WHATEVER THE INPUT: true; the input reads as it did. -/
def lruTypesSpec : ChangeSpec := { name := "lruTypes", fn := fun _ => fun
  | [d1, d2] => { results := [.lit (.bool true)], args := [d1, d2] }
  | _ => none }
def lruTypesRow : OpenClaim := { program := "ytnlojohjhfpbgaa", sum := "0e2429c2b26e5a1fdbfc061b672349b70c3cc17ac83cab464cf57b61a3d2053e", func := "swingbridge/swingbridgelaw09.LruTypes", spec := "lruTypes", unfollowed := true, recurses := true, apart := false }
def LruTypesSaid : Prop := lruTypesRow.holds Try.pinned (OpenSpec.ofChange lruTypesSpec)

/-- ITS FALSE NEIGHBOUR: 'it returns false'. Refute it at one input. -/
def lruTypesWrong : ChangeSpec := { name := "lruTypes", fn := fun _ => fun
  | [d1, d2] => { results := [.lit (.bool false)], args := [d1, d2] }
  | _ => none }
def LruTypesWrongFalsely : Prop := lruTypesRow.holds Try.pinned (OpenSpec.ofChange lruTypesWrong)

/-- 'swingbridgelaw09.LruAlone': WHATEVER THE INPUT: true; the input reads as it did. -/
def lruAloneSpec : ChangeSpec := { name := "lruAlone", fn := fun _ => fun
  | [d1, d2] => { results := [.lit (.bool true)], args := [d1, d2] }
  | _ => none }
def lruAloneRow : OpenClaim := { program := "ytnlojohjhfpbgaa", sum := "0e2429c2b26e5a1fdbfc061b672349b70c3cc17ac83cab464cf57b61a3d2053e", func := "swingbridge/swingbridgelaw09.LruAlone", spec := "lruAlone", unfollowed := true, recurses := true, apart := false }
def LruAloneSaid : Prop := lruAloneRow.holds Try.pinned (OpenSpec.ofChange lruAloneSpec)

/-- ITS FALSE NEIGHBOUR: 'it returns false'. Refute it at one input. -/
def lruAloneWrong : ChangeSpec := { name := "lruAlone", fn := fun _ => fun
  | [d1, d2] => { results := [.lit (.bool false)], args := [d1, d2] }
  | _ => none }
def LruAloneWrongFalsely : Prop := lruAloneRow.holds Try.pinned (OpenSpec.ofChange lruAloneWrong)

/-- 'swingbridgelaw09.LruAgain': WHATEVER THE INPUT: true; the input reads as it did. -/
def lruAgainSpec : ChangeSpec := { name := "lruAgain", fn := fun _ => fun
  | [d1, d2, d3] => { results := [.lit (.bool true)], args := [d1, d2, d3] }
  | _ => none }
def lruAgainRow : OpenClaim := { program := "ytnlojohjhfpbgaa", sum := "0e2429c2b26e5a1fdbfc061b672349b70c3cc17ac83cab464cf57b61a3d2053e", func := "swingbridge/swingbridgelaw09.LruAgain", spec := "lruAgain", unfollowed := true, recurses := true, apart := false }
def LruAgainSaid : Prop := lruAgainRow.holds Try.pinned (OpenSpec.ofChange lruAgainSpec)

/-- ITS FALSE NEIGHBOUR: 'it returns false'. Refute it at one input. -/
def lruAgainWrong : ChangeSpec := { name := "lruAgain", fn := fun _ => fun
  | [d1, d2, d3] => { results := [.lit (.bool false)], args := [d1, d2, d3] }
  | _ => none }
def LruAgainWrongFalsely : Prop := lruAgainRow.holds Try.pinned (OpenSpec.ofChange lruAgainWrong)

/-- 'swingbridgelaw10.TablePlays': WHATEVER THE INPUT: true; the input reads as it did. -/
def tablePlaysSpec : ChangeSpec := { name := "tablePlays", fn := fun _ => fun
  | [d1, d2, d3, d4, d5] => { results := [.lit (.bool true)], args := [d1, d2, d3, d4, d5] }
  | _ => none }
def tablePlaysRow : OpenClaim := { program := "ytnlojohjhfpbgaa", sum := "0e2429c2b26e5a1fdbfc061b672349b70c3cc17ac83cab464cf57b61a3d2053e", func := "swingbridge/swingbridgelaw10.TablePlays", spec := "tablePlays", unfollowed := true, recurses := true, apart := false }
def TablePlaysSaid : Prop := tablePlaysRow.holds Try.pinned (OpenSpec.ofChange tablePlaysSpec)

/-- ITS FALSE NEIGHBOUR: 'it returns false'. Refute it at one input. -/
def tablePlaysWrong : ChangeSpec := { name := "tablePlays", fn := fun _ => fun
  | [d1, d2, d3, d4, d5] => { results := [.lit (.bool false)], args := [d1, d2, d3, d4, d5] }
  | _ => none }
def TablePlaysWrongFalsely : Prop := tablePlaysRow.holds Try.pinned (OpenSpec.ofChange tablePlaysWrong)

/-- 'swingbridgelaw10.TableOrder': WHATEVER THE INPUT: true; the input reads as it did. -/
def tableOrderSpec : ChangeSpec := { name := "tableOrder", fn := fun _ => fun
  | [d1, d2] => { results := [.lit (.bool true)], args := [d1, d2] }
  | _ => none }
def tableOrderRow : OpenClaim := { program := "ytnlojohjhfpbgaa", sum := "0e2429c2b26e5a1fdbfc061b672349b70c3cc17ac83cab464cf57b61a3d2053e", func := "swingbridge/swingbridgelaw10.TableOrder", spec := "tableOrder", unfollowed := true, recurses := true, apart := false }
def TableOrderSaid : Prop := tableOrderRow.holds Try.pinned (OpenSpec.ofChange tableOrderSpec)

/-- ITS FALSE NEIGHBOUR: 'it returns false'. Refute it at one input. -/
def tableOrderWrong : ChangeSpec := { name := "tableOrder", fn := fun _ => fun
  | [d1, d2] => { results := [.lit (.bool false)], args := [d1, d2] }
  | _ => none }
def TableOrderWrongFalsely : Prop := tableOrderRow.holds Try.pinned (OpenSpec.ofChange tableOrderWrong)

/-- 'swingbridgelaw10.TableKinds': WHATEVER THE INPUT: true; the input reads as it did. -/
def tableKindsSpec : ChangeSpec := { name := "tableKinds", fn := fun _ => fun
  | [d1, d2, d3] => { results := [.lit (.bool true)], args := [d1, d2, d3] }
  | _ => none }
def tableKindsRow : OpenClaim := { program := "ytnlojohjhfpbgaa", sum := "0e2429c2b26e5a1fdbfc061b672349b70c3cc17ac83cab464cf57b61a3d2053e", func := "swingbridge/swingbridgelaw10.TableKinds", spec := "tableKinds", unfollowed := true, recurses := true, apart := false }
def TableKindsSaid : Prop := tableKindsRow.holds Try.pinned (OpenSpec.ofChange tableKindsSpec)

/-- ITS FALSE NEIGHBOUR: 'it returns false'. Refute it at one input. -/
def tableKindsWrong : ChangeSpec := { name := "tableKinds", fn := fun _ => fun
  | [d1, d2, d3] => { results := [.lit (.bool false)], args := [d1, d2, d3] }
  | _ => none }
def TableKindsWrongFalsely : Prop := tableKindsRow.holds Try.pinned (OpenSpec.ofChange tableKindsWrong)

/-- 'swingbridgelaw10.TableStops': WHATEVER THE INPUT: true; the input reads as it did. -/
def tableStopsSpec : ChangeSpec := { name := "tableStops", fn := fun _ => fun
  | [d1, d2, d3, d4, d5, d6] => { results := [.lit (.bool true)], args := [d1, d2, d3, d4, d5, d6] }
  | _ => none }
def tableStopsRow : OpenClaim := { program := "ytnlojohjhfpbgaa", sum := "0e2429c2b26e5a1fdbfc061b672349b70c3cc17ac83cab464cf57b61a3d2053e", func := "swingbridge/swingbridgelaw10.TableStops", spec := "tableStops", unfollowed := true, recurses := true, apart := false }
def TableStopsSaid : Prop := tableStopsRow.holds Try.pinned (OpenSpec.ofChange tableStopsSpec)

/-- ITS FALSE NEIGHBOUR: 'it returns false'. Refute it at one input. -/
def tableStopsWrong : ChangeSpec := { name := "tableStops", fn := fun _ => fun
  | [d1, d2, d3, d4, d5, d6] => { results := [.lit (.bool false)], args := [d1, d2, d3, d4, d5, d6] }
  | _ => none }
def TableStopsWrongFalsely : Prop := tableStopsRow.holds Try.pinned (OpenSpec.ofChange tableStopsWrong)

/-- 'swingbridgelaw10.TableGone': WHATEVER THE INPUT: true; the input reads as it did. -/
def tableGoneSpec : ChangeSpec := { name := "tableGone", fn := fun _ => fun
  | [d1, d2, d3, d4, d5] => { results := [.lit (.bool true)], args := [d1, d2, d3, d4, d5] }
  | _ => none }
def tableGoneRow : OpenClaim := { program := "ytnlojohjhfpbgaa", sum := "0e2429c2b26e5a1fdbfc061b672349b70c3cc17ac83cab464cf57b61a3d2053e", func := "swingbridge/swingbridgelaw10.TableGone", spec := "tableGone", unfollowed := true, recurses := true, apart := false }
def TableGoneSaid : Prop := tableGoneRow.holds Try.pinned (OpenSpec.ofChange tableGoneSpec)

/-- ITS FALSE NEIGHBOUR: 'it returns false'. Refute it at one input. -/
def tableGoneWrong : ChangeSpec := { name := "tableGone", fn := fun _ => fun
  | [d1, d2, d3, d4, d5] => { results := [.lit (.bool false)], args := [d1, d2, d3, d4, d5] }
  | _ => none }
def TableGoneWrongFalsely : Prop := tableGoneRow.holds Try.pinned (OpenSpec.ofChange tableGoneWrong)

/- THE SECOND FORM. 'bulk': how many values and letters a reading holds, each counted each time it is reached (what is shared counts as often as it is met; a slice's spare places count too). A statement '..UptoSaid' is the law's where the arguments, and the package variables that the reading takes, are together of bulk at most 1048576: NARROWER than '..Said'. Prove '..Said' where nothing that the law and all that it calls make is longer than what came in: it says more and counts as full. Else prove '..UptoSaid'. A law counts once. -/
mutual
def uptoBulk {H : Type} : DataW H → Nat
  | .lit (.string bytes) => bytes.length + 1
  | .lit _ => 1
  | .nil => 1
  | .ptr d => uptoBulk d + 1
  | .slice elems spare => uptoBulkAll elems + uptoBulkAll spare + 1
  | .agg parts => uptoBulkAll parts + 1
  | .iface _ d => uptoBulk d + 1
  | .map entries => uptoBulkEntries entries + 1
  | .held _ => 1
def uptoBulkAll {H : Type} : List (DataW H) → Nat
  | [] => 0
  | d :: r => uptoBulk d + uptoBulkAll r
def uptoBulkEntries {H : Type} : List (Lit × DataW H) → Nat
  | [] => 0
  | x :: r => uptoBulkEntry x + uptoBulkEntries r
def uptoBulkEntry {H : Type} : Lit × DataW H → Nat
  | (.string bytes, d) => bytes.length + uptoBulk d + 1
  | (_, d) => uptoBulk d + 1
 end
def uptoSmall : (H : Type) → List (DataW H) → Bool := fun _ ds => decide (uptoBulkAll ds ≤ 1048576)
def OpenSpec.upto (s : _root_.Go.ChangeSpec) : _root_.Go.OpenSpec := { _root_.Go.OpenSpec.ofChange s with cond := some uptoSmall }

/-- 'swingbridgelaw09.LruTypes', WHERE WHAT IT READS IS OF BULK AT MOST 1048576: true; the input reads as it did. -/
def lruTypesUptoRow : OpenClaim := { program := "ytnlojohjhfpbgaa", sum := "0e2429c2b26e5a1fdbfc061b672349b70c3cc17ac83cab464cf57b61a3d2053e", func := "swingbridge/swingbridgelaw09.LruTypes", spec := "lruTypes", unfollowed := true, recurses := true, apart := false, narrowed := true }
def LruTypesUptoSaid : Prop := lruTypesUptoRow.holds Try.pinned (OpenSpec.upto lruTypesSpec)

/-- 'swingbridgelaw09.LruAlone', WHERE WHAT IT READS IS OF BULK AT MOST 1048576: true; the input reads as it did. -/
def lruAloneUptoRow : OpenClaim := { program := "ytnlojohjhfpbgaa", sum := "0e2429c2b26e5a1fdbfc061b672349b70c3cc17ac83cab464cf57b61a3d2053e", func := "swingbridge/swingbridgelaw09.LruAlone", spec := "lruAlone", unfollowed := true, recurses := true, apart := false, narrowed := true }
def LruAloneUptoSaid : Prop := lruAloneUptoRow.holds Try.pinned (OpenSpec.upto lruAloneSpec)

/-- 'swingbridgelaw09.LruAgain', WHERE WHAT IT READS IS OF BULK AT MOST 1048576: true; the input reads as it did. -/
def lruAgainUptoRow : OpenClaim := { program := "ytnlojohjhfpbgaa", sum := "0e2429c2b26e5a1fdbfc061b672349b70c3cc17ac83cab464cf57b61a3d2053e", func := "swingbridge/swingbridgelaw09.LruAgain", spec := "lruAgain", unfollowed := true, recurses := true, apart := false, narrowed := true }
def LruAgainUptoSaid : Prop := lruAgainUptoRow.holds Try.pinned (OpenSpec.upto lruAgainSpec)

/-- 'swingbridgelaw10.TablePlays', WHERE WHAT IT READS IS OF BULK AT MOST 1048576: true; the input reads as it did. -/
def tablePlaysUptoRow : OpenClaim := { program := "ytnlojohjhfpbgaa", sum := "0e2429c2b26e5a1fdbfc061b672349b70c3cc17ac83cab464cf57b61a3d2053e", func := "swingbridge/swingbridgelaw10.TablePlays", spec := "tablePlays", unfollowed := true, recurses := true, apart := false, narrowed := true }
def TablePlaysUptoSaid : Prop := tablePlaysUptoRow.holds Try.pinned (OpenSpec.upto tablePlaysSpec)

/-- 'swingbridgelaw10.TableOrder', WHERE WHAT IT READS IS OF BULK AT MOST 1048576: true; the input reads as it did. -/
def tableOrderUptoRow : OpenClaim := { program := "ytnlojohjhfpbgaa", sum := "0e2429c2b26e5a1fdbfc061b672349b70c3cc17ac83cab464cf57b61a3d2053e", func := "swingbridge/swingbridgelaw10.TableOrder", spec := "tableOrder", unfollowed := true, recurses := true, apart := false, narrowed := true }
def TableOrderUptoSaid : Prop := tableOrderUptoRow.holds Try.pinned (OpenSpec.upto tableOrderSpec)

/-- 'swingbridgelaw10.TableKinds', WHERE WHAT IT READS IS OF BULK AT MOST 1048576: true; the input reads as it did. -/
def tableKindsUptoRow : OpenClaim := { program := "ytnlojohjhfpbgaa", sum := "0e2429c2b26e5a1fdbfc061b672349b70c3cc17ac83cab464cf57b61a3d2053e", func := "swingbridge/swingbridgelaw10.TableKinds", spec := "tableKinds", unfollowed := true, recurses := true, apart := false, narrowed := true }
def TableKindsUptoSaid : Prop := tableKindsUptoRow.holds Try.pinned (OpenSpec.upto tableKindsSpec)

/-- 'swingbridgelaw10.TableStops', WHERE WHAT IT READS IS OF BULK AT MOST 1048576: true; the input reads as it did. -/
def tableStopsUptoRow : OpenClaim := { program := "ytnlojohjhfpbgaa", sum := "0e2429c2b26e5a1fdbfc061b672349b70c3cc17ac83cab464cf57b61a3d2053e", func := "swingbridge/swingbridgelaw10.TableStops", spec := "tableStops", unfollowed := true, recurses := true, apart := false, narrowed := true }
def TableStopsUptoSaid : Prop := tableStopsUptoRow.holds Try.pinned (OpenSpec.upto tableStopsSpec)

/-- 'swingbridgelaw10.TableGone', WHERE WHAT IT READS IS OF BULK AT MOST 1048576: true; the input reads as it did. -/
def tableGoneUptoRow : OpenClaim := { program := "ytnlojohjhfpbgaa", sum := "0e2429c2b26e5a1fdbfc061b672349b70c3cc17ac83cab464cf57b61a3d2053e", func := "swingbridge/swingbridgelaw10.TableGone", spec := "tableGone", unfollowed := true, recurses := true, apart := false, narrowed := true }
def TableGoneUptoSaid : Prop := tableGoneUptoRow.holds Try.pinned (OpenSpec.upto tableGoneSpec)

end Rows
end Go.Proofs.Ytnlojohjhfpbgaa
