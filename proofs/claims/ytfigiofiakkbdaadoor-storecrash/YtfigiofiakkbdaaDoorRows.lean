/-
  NARROWER THAN 'FOR EVERY INPUT', by the rows' own cells (each row's printed sentence says how): StorePlays: laid · StoreCrash: laid · StoreReads: laid · StoreSmall: laid · StoreHalves: laid · StoreOwn: laid · StoreAgain: laid.
  DERIVED. THE GIVEN ROWS OF THIS SEAT. 7 by the template 'for every input the law returns true; each argument reads behind the call as it read before'; 0 by the template 'total and deterministic' (their statements: YtfigiofiakkbdaaDoorTotals.lean).
  GIVEN WITH THE SEED: the statements are not yours to turn. If you find one false, say at which input.
  Laid BY PROGRAM, IN A SANDBOX (cutbox-rows.mjs): the forced cells as the released guide's own fill.sh prints them over the translation d9f5fe83b4afc4d6… (all of the seat's roots in one cut). By AI agents, Wed Nov 11 2026. No macro, syntax, notation, axiom, sorry.
-/
import Derived.Test.YtfigiofiakkbdaaDoorChecked
import GoSem.Claim
import GoSem.ClaimJoined
import GoSem.ClaimMapViews
import Derived.JoinedTies
import Derived.KernelRfl
namespace Go.Proofs.YtfigiofiakkbdaaDoor
/- THE CELL 'sum', in the pinned program and in every row, IS THE sha256 OF THE DUMP (.gsa) THAT YtfigiofiakkbdaaDoorProg.lean LOADS. Nothing in Lean hashes anything: it is a label: what it is worth is what the hold of that sum in a sandbox is worth. -/
noncomputable def Tryd.pinned : Pinned := { name := "ytfigiofiakkbdaadoor", sum := "d9f5fe83b4afc4d6e46e69e2a9a3fe76ea11ea03e01a40b87294d9df5e4ac979", checked := Tryd.checked }
namespace Rows
def none {H : Type} : Left H := { results := [], args := [] }

/- WHAT THE LISTED PACKAGE-LEVEL VARIABLES READ AS WHEN THE CALL BEGINS. Each datum BY PROGRAM (the guide's laid-datum.mjs) off the statement by which the dump's own 'gosem.cut.vars' lays the variable. In a bare row this is a premise. The card (YtfigiofiakkbdaaDoorCards.lean) ties it to the program's text. -/
def laid_swingbridge_crc_fours {H : Type} : DataW H := .agg [.lit (.int .u32 0), .lit (.int .u32 498536548), .lit (.int .u32 997073096), .lit (.int .u32 651767980), .lit (.int .u32 1994146192), .lit (.int .u32 1802195444), .lit (.int .u32 1303535960), .lit (.int .u32 1342533948), .lit (.int .u32 3988292384), .lit (.int .u32 4027552580), .lit (.int .u32 3604390888), .lit (.int .u32 3412177804), .lit (.int .u32 2607071920), .lit (.int .u32 2262029012), .lit (.int .u32 2685067896), .lit (.int .u32 3183342108)]

/-- 'swingbridgelaw04.StorePlays': WHATEVER THE INPUT: true; the input reads as it did. -/
def storePlaysSpec : ChangeSpec := { name := "storePlays", fn := fun _ => fun
  | [d1, d2] => { results := [.lit (.bool true)], args := [d1, d2] }
  | _ => none }
def storePlaysRow : OpenClaim := { program := "ytfigiofiakkbdaadoor", sum := "d9f5fe83b4afc4d6e46e69e2a9a3fe76ea11ea03e01a40b87294d9df5e4ac979", func := "swingbridge/swingbridgelaw04.StorePlays", spec := "storePlays", unfollowed := true, recurses := true, named := ["swingbridge/crc.fours"], apart := false, laid := [("swingbridge/crc.fours", laid_swingbridge_crc_fours)] }
def StorePlaysSaid : Prop := storePlaysRow.holds Tryd.pinned (OpenSpec.ofChange storePlaysSpec)

/-- ITS FALSE NEIGHBOUR: 'it returns false'. Refute it at one input. -/
def storePlaysWrong : ChangeSpec := { name := "storePlays", fn := fun _ => fun
  | [d1, d2] => { results := [.lit (.bool false)], args := [d1, d2] }
  | _ => none }
def StorePlaysWrongFalsely : Prop := storePlaysRow.holds Tryd.pinned (OpenSpec.ofChange storePlaysWrong)

/-- 'swingbridgelaw04.StoreCrash': WHATEVER THE INPUT: true; the input reads as it did. -/
def storeCrashSpec : ChangeSpec := { name := "storeCrash", fn := fun _ => fun
  | [d1, d2, d3] => { results := [.lit (.bool true)], args := [d1, d2, d3] }
  | _ => none }
def storeCrashRow : OpenClaim := { program := "ytfigiofiakkbdaadoor", sum := "d9f5fe83b4afc4d6e46e69e2a9a3fe76ea11ea03e01a40b87294d9df5e4ac979", func := "swingbridge/swingbridgelaw04.StoreCrash", spec := "storeCrash", unfollowed := true, recurses := true, named := ["swingbridge/crc.fours"], apart := false, laid := [("swingbridge/crc.fours", laid_swingbridge_crc_fours)] }
def StoreCrashSaid : Prop := storeCrashRow.holds Tryd.pinned (OpenSpec.ofChange storeCrashSpec)

/-- ITS FALSE NEIGHBOUR: 'it returns false'. Refute it at one input. -/
def storeCrashWrong : ChangeSpec := { name := "storeCrash", fn := fun _ => fun
  | [d1, d2, d3] => { results := [.lit (.bool false)], args := [d1, d2, d3] }
  | _ => none }
def StoreCrashWrongFalsely : Prop := storeCrashRow.holds Tryd.pinned (OpenSpec.ofChange storeCrashWrong)

/-- 'swingbridgelaw04.StoreReads': WHATEVER THE INPUT: true; the input reads as it did. -/
def storeReadsSpec : ChangeSpec := { name := "storeReads", fn := fun _ => fun
  | [d1, d2, d3, d4, d5, d6] => { results := [.lit (.bool true)], args := [d1, d2, d3, d4, d5, d6] }
  | _ => none }
def storeReadsRow : OpenClaim := { program := "ytfigiofiakkbdaadoor", sum := "d9f5fe83b4afc4d6e46e69e2a9a3fe76ea11ea03e01a40b87294d9df5e4ac979", func := "swingbridge/swingbridgelaw04.StoreReads", spec := "storeReads", unfollowed := true, recurses := true, named := ["swingbridge/crc.fours"], apart := false, laid := [("swingbridge/crc.fours", laid_swingbridge_crc_fours)] }
def StoreReadsSaid : Prop := storeReadsRow.holds Tryd.pinned (OpenSpec.ofChange storeReadsSpec)

/-- ITS FALSE NEIGHBOUR: 'it returns false'. Refute it at one input. -/
def storeReadsWrong : ChangeSpec := { name := "storeReads", fn := fun _ => fun
  | [d1, d2, d3, d4, d5, d6] => { results := [.lit (.bool false)], args := [d1, d2, d3, d4, d5, d6] }
  | _ => none }
def StoreReadsWrongFalsely : Prop := storeReadsRow.holds Tryd.pinned (OpenSpec.ofChange storeReadsWrong)

/-- 'swingbridgelaw04.StoreSmall': WHATEVER THE INPUT: true; the input reads as it did. -/
def storeSmallSpec : ChangeSpec := { name := "storeSmall", fn := fun _ => fun
  | [d] => { results := [.lit (.bool true)], args := [d] }
  | _ => none }
def storeSmallRow : OpenClaim := { program := "ytfigiofiakkbdaadoor", sum := "d9f5fe83b4afc4d6e46e69e2a9a3fe76ea11ea03e01a40b87294d9df5e4ac979", func := "swingbridge/swingbridgelaw04.StoreSmall", spec := "storeSmall", unfollowed := true, recurses := true, named := ["swingbridge/crc.fours"], apart := false, laid := [("swingbridge/crc.fours", laid_swingbridge_crc_fours)] }
def StoreSmallSaid : Prop := storeSmallRow.holds Tryd.pinned (OpenSpec.ofChange storeSmallSpec)

/-- ITS FALSE NEIGHBOUR: 'it returns false'. Refute it at one input. -/
def storeSmallWrong : ChangeSpec := { name := "storeSmall", fn := fun _ => fun
  | [d] => { results := [.lit (.bool false)], args := [d] }
  | _ => none }
def StoreSmallWrongFalsely : Prop := storeSmallRow.holds Tryd.pinned (OpenSpec.ofChange storeSmallWrong)

/-- 'swingbridgelaw04.StoreHalves': WHATEVER THE INPUT: true; the input reads as it did. -/
def storeHalvesSpec : ChangeSpec := { name := "storeHalves", fn := fun _ => fun
  | [d1, d2] => { results := [.lit (.bool true)], args := [d1, d2] }
  | _ => none }
def storeHalvesRow : OpenClaim := { program := "ytfigiofiakkbdaadoor", sum := "d9f5fe83b4afc4d6e46e69e2a9a3fe76ea11ea03e01a40b87294d9df5e4ac979", func := "swingbridge/swingbridgelaw04.StoreHalves", spec := "storeHalves", unfollowed := true, recurses := true, named := ["swingbridge/crc.fours"], apart := false, laid := [("swingbridge/crc.fours", laid_swingbridge_crc_fours)] }
def StoreHalvesSaid : Prop := storeHalvesRow.holds Tryd.pinned (OpenSpec.ofChange storeHalvesSpec)

/-- ITS FALSE NEIGHBOUR: 'it returns false'. Refute it at one input. -/
def storeHalvesWrong : ChangeSpec := { name := "storeHalves", fn := fun _ => fun
  | [d1, d2] => { results := [.lit (.bool false)], args := [d1, d2] }
  | _ => none }
def StoreHalvesWrongFalsely : Prop := storeHalvesRow.holds Tryd.pinned (OpenSpec.ofChange storeHalvesWrong)

/-- 'swingbridgelaw04.StoreOwn': WHATEVER THE INPUT: true; the input reads as it did. -/
def storeOwnSpec : ChangeSpec := { name := "storeOwn", fn := fun _ => fun
  | [d] => { results := [.lit (.bool true)], args := [d] }
  | _ => none }
def storeOwnRow : OpenClaim := { program := "ytfigiofiakkbdaadoor", sum := "d9f5fe83b4afc4d6e46e69e2a9a3fe76ea11ea03e01a40b87294d9df5e4ac979", func := "swingbridge/swingbridgelaw04.StoreOwn", spec := "storeOwn", unfollowed := true, recurses := true, named := ["swingbridge/crc.fours"], apart := false, laid := [("swingbridge/crc.fours", laid_swingbridge_crc_fours)] }
def StoreOwnSaid : Prop := storeOwnRow.holds Tryd.pinned (OpenSpec.ofChange storeOwnSpec)

/-- ITS FALSE NEIGHBOUR: 'it returns false'. Refute it at one input. -/
def storeOwnWrong : ChangeSpec := { name := "storeOwn", fn := fun _ => fun
  | [d] => { results := [.lit (.bool false)], args := [d] }
  | _ => none }
def StoreOwnWrongFalsely : Prop := storeOwnRow.holds Tryd.pinned (OpenSpec.ofChange storeOwnWrong)

/-- 'swingbridgelaw04.StoreAgain': WHATEVER THE INPUT: true; the input reads as it did. -/
def storeAgainSpec : ChangeSpec := { name := "storeAgain", fn := fun _ => fun
  | [d1, d2] => { results := [.lit (.bool true)], args := [d1, d2] }
  | _ => none }
def storeAgainRow : OpenClaim := { program := "ytfigiofiakkbdaadoor", sum := "d9f5fe83b4afc4d6e46e69e2a9a3fe76ea11ea03e01a40b87294d9df5e4ac979", func := "swingbridge/swingbridgelaw04.StoreAgain", spec := "storeAgain", unfollowed := true, recurses := true, named := ["swingbridge/crc.fours"], apart := false, laid := [("swingbridge/crc.fours", laid_swingbridge_crc_fours)] }
def StoreAgainSaid : Prop := storeAgainRow.holds Tryd.pinned (OpenSpec.ofChange storeAgainSpec)

/-- ITS FALSE NEIGHBOUR: 'it returns false'. Refute it at one input. -/
def storeAgainWrong : ChangeSpec := { name := "storeAgain", fn := fun _ => fun
  | [d1, d2] => { results := [.lit (.bool false)], args := [d1, d2] }
  | _ => none }
def StoreAgainWrongFalsely : Prop := storeAgainRow.holds Tryd.pinned (OpenSpec.ofChange storeAgainWrong)

/- THE SECOND FORM. 'bulk': how many values and letters a reading holds, each counted each time it is reached (what is shared counts as often as it is met; a slice's spare places count too). A statement '..UptoSaid' is the law's where the arguments, and the package variables that the reading takes, are together of bulk at most 1048576: NARROWER than '..Said'. Prove '..Said' where nothing that the law and all that it calls make is longer than what came in: it says more and counts as full. Else prove '..UptoSaid'. A law counts once. -/
mutual
def uptoBulk {H : Type} : DataW H → Nat
  | .lit (.string bytes) => bytes.length + 1
  | .lit _ => 1
  | .nil => 1
  | .ptr d => uptoBulk d + 1
  | .slice elems spare => uptoBulkAll elems + uptoBulkAll spare + 1
  | .agg parts => uptoBulkAll parts + 1
  | .iface _ d => uptoBulk d + 1
  | .map entries => uptoBulkEntries entries + 1
  | .held _ => 1
def uptoBulkAll {H : Type} : List (DataW H) → Nat
  | [] => 0
  | d :: r => uptoBulk d + uptoBulkAll r
def uptoBulkEntries {H : Type} : List (Lit × DataW H) → Nat
  | [] => 0
  | x :: r => uptoBulkEntry x + uptoBulkEntries r
def uptoBulkEntry {H : Type} : Lit × DataW H → Nat
  | (.string bytes, d) => bytes.length + uptoBulk d + 1
  | (_, d) => uptoBulk d + 1
 end
def uptoSmall : (H : Type) → List (DataW H) → Bool := fun _ ds => decide (uptoBulkAll ds ≤ 1048576)
def OpenSpec.upto (s : _root_.Go.ChangeSpec) : _root_.Go.OpenSpec := { _root_.Go.OpenSpec.ofChange s with cond := some uptoSmall }

/-- 'swingbridgelaw04.StorePlays', WHERE WHAT IT READS IS OF BULK AT MOST 1048576: true; the input reads as it did. -/
def storePlaysUptoRow : OpenClaim := { program := "ytfigiofiakkbdaadoor", sum := "d9f5fe83b4afc4d6e46e69e2a9a3fe76ea11ea03e01a40b87294d9df5e4ac979", func := "swingbridge/swingbridgelaw04.StorePlays", spec := "storePlays", unfollowed := true, recurses := true, named := ["swingbridge/crc.fours"], apart := false, laid := [("swingbridge/crc.fours", laid_swingbridge_crc_fours)], narrowed := true }
def StorePlaysUptoSaid : Prop := storePlaysUptoRow.holds Tryd.pinned (OpenSpec.upto storePlaysSpec)

/-- 'swingbridgelaw04.StoreCrash', WHERE WHAT IT READS IS OF BULK AT MOST 1048576: true; the input reads as it did. -/
def storeCrashUptoRow : OpenClaim := { program := "ytfigiofiakkbdaadoor", sum := "d9f5fe83b4afc4d6e46e69e2a9a3fe76ea11ea03e01a40b87294d9df5e4ac979", func := "swingbridge/swingbridgelaw04.StoreCrash", spec := "storeCrash", unfollowed := true, recurses := true, named := ["swingbridge/crc.fours"], apart := false, laid := [("swingbridge/crc.fours", laid_swingbridge_crc_fours)], narrowed := true }
def StoreCrashUptoSaid : Prop := storeCrashUptoRow.holds Tryd.pinned (OpenSpec.upto storeCrashSpec)

/-- 'swingbridgelaw04.StoreReads', WHERE WHAT IT READS IS OF BULK AT MOST 1048576: true; the input reads as it did. -/
def storeReadsUptoRow : OpenClaim := { program := "ytfigiofiakkbdaadoor", sum := "d9f5fe83b4afc4d6e46e69e2a9a3fe76ea11ea03e01a40b87294d9df5e4ac979", func := "swingbridge/swingbridgelaw04.StoreReads", spec := "storeReads", unfollowed := true, recurses := true, named := ["swingbridge/crc.fours"], apart := false, laid := [("swingbridge/crc.fours", laid_swingbridge_crc_fours)], narrowed := true }
def StoreReadsUptoSaid : Prop := storeReadsUptoRow.holds Tryd.pinned (OpenSpec.upto storeReadsSpec)

/-- 'swingbridgelaw04.StoreSmall', WHERE WHAT IT READS IS OF BULK AT MOST 1048576: true; the input reads as it did. -/
def storeSmallUptoRow : OpenClaim := { program := "ytfigiofiakkbdaadoor", sum := "d9f5fe83b4afc4d6e46e69e2a9a3fe76ea11ea03e01a40b87294d9df5e4ac979", func := "swingbridge/swingbridgelaw04.StoreSmall", spec := "storeSmall", unfollowed := true, recurses := true, named := ["swingbridge/crc.fours"], apart := false, laid := [("swingbridge/crc.fours", laid_swingbridge_crc_fours)], narrowed := true }
def StoreSmallUptoSaid : Prop := storeSmallUptoRow.holds Tryd.pinned (OpenSpec.upto storeSmallSpec)

/-- 'swingbridgelaw04.StoreHalves', WHERE WHAT IT READS IS OF BULK AT MOST 1048576: true; the input reads as it did. -/
def storeHalvesUptoRow : OpenClaim := { program := "ytfigiofiakkbdaadoor", sum := "d9f5fe83b4afc4d6e46e69e2a9a3fe76ea11ea03e01a40b87294d9df5e4ac979", func := "swingbridge/swingbridgelaw04.StoreHalves", spec := "storeHalves", unfollowed := true, recurses := true, named := ["swingbridge/crc.fours"], apart := false, laid := [("swingbridge/crc.fours", laid_swingbridge_crc_fours)], narrowed := true }
def StoreHalvesUptoSaid : Prop := storeHalvesUptoRow.holds Tryd.pinned (OpenSpec.upto storeHalvesSpec)

/-- 'swingbridgelaw04.StoreOwn', WHERE WHAT IT READS IS OF BULK AT MOST 1048576: true; the input reads as it did. -/
def storeOwnUptoRow : OpenClaim := { program := "ytfigiofiakkbdaadoor", sum := "d9f5fe83b4afc4d6e46e69e2a9a3fe76ea11ea03e01a40b87294d9df5e4ac979", func := "swingbridge/swingbridgelaw04.StoreOwn", spec := "storeOwn", unfollowed := true, recurses := true, named := ["swingbridge/crc.fours"], apart := false, laid := [("swingbridge/crc.fours", laid_swingbridge_crc_fours)], narrowed := true }
def StoreOwnUptoSaid : Prop := storeOwnUptoRow.holds Tryd.pinned (OpenSpec.upto storeOwnSpec)

/-- 'swingbridgelaw04.StoreAgain', WHERE WHAT IT READS IS OF BULK AT MOST 1048576: true; the input reads as it did. -/
def storeAgainUptoRow : OpenClaim := { program := "ytfigiofiakkbdaadoor", sum := "d9f5fe83b4afc4d6e46e69e2a9a3fe76ea11ea03e01a40b87294d9df5e4ac979", func := "swingbridge/swingbridgelaw04.StoreAgain", spec := "storeAgain", unfollowed := true, recurses := true, named := ["swingbridge/crc.fours"], apart := false, laid := [("swingbridge/crc.fours", laid_swingbridge_crc_fours)], narrowed := true }
def StoreAgainUptoSaid : Prop := storeAgainUptoRow.holds Tryd.pinned (OpenSpec.upto storeAgainSpec)

end Rows
end Go.Proofs.YtfigiofiakkbdaaDoor
