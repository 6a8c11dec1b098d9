/-
  NARROWER THAN 'FOR EVERY INPUT', by the rows' own cells (each row's printed sentence says how): JournalPlays: laid · JournalReads: laid · JournalDown: laid · JournalPlaces: laid · JournalRooms: laid · JournalResets: laid · JournalApart: laid.
  DERIVED. THE GIVEN ROWS OF THIS SEAT. 7 by the template 'for every input the law returns true; each argument reads behind the call as it read before'; 0 by the template 'total and deterministic' (their statements: YtglfmhheepgneaaDoorTotals.lean).
  GIVEN WITH THE SEED: the statements are not yours to turn. If you find one false, say at which input.
  Laid BY PROGRAM, IN A SANDBOX (cutbox-rows.mjs): the forced cells as the released guide's own fill.sh prints them over the translation 34729389031d5c15… (all of the seat's roots in one cut). By AI agents, Wed Nov 11 2026. No macro, syntax, notation, axiom, sorry.
-/
import Derived.Test.YtglfmhheepgneaaDoorChecked
import GoSem.Claim
import GoSem.ClaimJoined
import GoSem.ClaimMapViews
import Derived.JoinedTies
import Derived.KernelRfl
namespace Go.Proofs.YtglfmhheepgneaaDoor
/- THE CELL 'sum', in the pinned program and in every row, IS THE sha256 OF THE DUMP (.gsa) THAT YtglfmhheepgneaaDoorProg.lean LOADS. Nothing in Lean hashes anything: it is a label: what it is worth is what the hold of that sum in a sandbox is worth. -/
noncomputable def Tryd.pinned : Pinned := { name := "ytglfmhheepgneaadoor", sum := "34729389031d5c15d4efbc9d4beedfde9818eb84537eac458e27fc3441bfa367", checked := Tryd.checked }
namespace Rows
def none {H : Type} : Left H := { results := [], args := [] }

/- WHAT THE LISTED PACKAGE-LEVEL VARIABLES READ AS WHEN THE CALL BEGINS. Each datum BY PROGRAM (the guide's laid-datum.mjs) off the statement by which the dump's own 'gosem.cut.vars' lays the variable. In a bare row this is a premise. The card (YtglfmhheepgneaaDoorCards.lean) ties it to the program's text. -/
def laid_swingbridge_crc_fours {H : Type} : DataW H := .agg [.lit (.int .u32 0), .lit (.int .u32 498536548), .lit (.int .u32 997073096), .lit (.int .u32 651767980), .lit (.int .u32 1994146192), .lit (.int .u32 1802195444), .lit (.int .u32 1303535960), .lit (.int .u32 1342533948), .lit (.int .u32 3988292384), .lit (.int .u32 4027552580), .lit (.int .u32 3604390888), .lit (.int .u32 3412177804), .lit (.int .u32 2607071920), .lit (.int .u32 2262029012), .lit (.int .u32 2685067896), .lit (.int .u32 3183342108)]

/-- 'swingbridgelaw03.JournalPlays': WHATEVER THE INPUT: true; the input reads as it did. -/
def journalPlaysSpec : ChangeSpec := { name := "journalPlays", fn := fun _ => fun
  | [d1, d2, d3] => { results := [.lit (.bool true)], args := [d1, d2, d3] }
  | _ => none }
def journalPlaysRow : OpenClaim := { program := "ytglfmhheepgneaadoor", sum := "34729389031d5c15d4efbc9d4beedfde9818eb84537eac458e27fc3441bfa367", func := "swingbridge/swingbridgelaw03.JournalPlays", spec := "journalPlays", unfollowed := true, recurses := true, named := ["swingbridge/crc.fours"], apart := false, laid := [("swingbridge/crc.fours", laid_swingbridge_crc_fours)] }
def JournalPlaysSaid : Prop := journalPlaysRow.holds Tryd.pinned (OpenSpec.ofChange journalPlaysSpec)

/-- ITS FALSE NEIGHBOUR: 'it returns false'. Refute it at one input. -/
def journalPlaysWrong : ChangeSpec := { name := "journalPlays", fn := fun _ => fun
  | [d1, d2, d3] => { results := [.lit (.bool false)], args := [d1, d2, d3] }
  | _ => none }
def JournalPlaysWrongFalsely : Prop := journalPlaysRow.holds Tryd.pinned (OpenSpec.ofChange journalPlaysWrong)

/-- 'swingbridgelaw03.JournalReads': WHATEVER THE INPUT: true; the input reads as it did. -/
def journalReadsSpec : ChangeSpec := { name := "journalReads", fn := fun _ => fun
  | [d1, d2, d3, d4] => { results := [.lit (.bool true)], args := [d1, d2, d3, d4] }
  | _ => none }
def journalReadsRow : OpenClaim := { program := "ytglfmhheepgneaadoor", sum := "34729389031d5c15d4efbc9d4beedfde9818eb84537eac458e27fc3441bfa367", func := "swingbridge/swingbridgelaw03.JournalReads", spec := "journalReads", unfollowed := true, recurses := true, named := ["swingbridge/crc.fours"], apart := false, laid := [("swingbridge/crc.fours", laid_swingbridge_crc_fours)] }
def JournalReadsSaid : Prop := journalReadsRow.holds Tryd.pinned (OpenSpec.ofChange journalReadsSpec)

/-- ITS FALSE NEIGHBOUR: 'it returns false'. Refute it at one input. -/
def journalReadsWrong : ChangeSpec := { name := "journalReads", fn := fun _ => fun
  | [d1, d2, d3, d4] => { results := [.lit (.bool false)], args := [d1, d2, d3, d4] }
  | _ => none }
def JournalReadsWrongFalsely : Prop := journalReadsRow.holds Tryd.pinned (OpenSpec.ofChange journalReadsWrong)

/-- 'swingbridgelaw03.JournalDown': WHATEVER THE INPUT: true; the input reads as it did. -/
def journalDownSpec : ChangeSpec := { name := "journalDown", fn := fun _ => fun
  | [d1, d2] => { results := [.lit (.bool true)], args := [d1, d2] }
  | _ => none }
def journalDownRow : OpenClaim := { program := "ytglfmhheepgneaadoor", sum := "34729389031d5c15d4efbc9d4beedfde9818eb84537eac458e27fc3441bfa367", func := "swingbridge/swingbridgelaw03.JournalDown", spec := "journalDown", unfollowed := true, recurses := true, named := ["swingbridge/crc.fours"], apart := false, laid := [("swingbridge/crc.fours", laid_swingbridge_crc_fours)] }
def JournalDownSaid : Prop := journalDownRow.holds Tryd.pinned (OpenSpec.ofChange journalDownSpec)

/-- ITS FALSE NEIGHBOUR: 'it returns false'. Refute it at one input. -/
def journalDownWrong : ChangeSpec := { name := "journalDown", fn := fun _ => fun
  | [d1, d2] => { results := [.lit (.bool false)], args := [d1, d2] }
  | _ => none }
def JournalDownWrongFalsely : Prop := journalDownRow.holds Tryd.pinned (OpenSpec.ofChange journalDownWrong)

/-- 'swingbridgelaw03.JournalPlaces': WHATEVER THE INPUT: true; the input reads as it did. -/
def journalPlacesSpec : ChangeSpec := { name := "journalPlaces", fn := fun _ => fun
  | [d1, d2, d3, d4] => { results := [.lit (.bool true)], args := [d1, d2, d3, d4] }
  | _ => none }
def journalPlacesRow : OpenClaim := { program := "ytglfmhheepgneaadoor", sum := "34729389031d5c15d4efbc9d4beedfde9818eb84537eac458e27fc3441bfa367", func := "swingbridge/swingbridgelaw03.JournalPlaces", spec := "journalPlaces", unfollowed := true, recurses := true, named := ["swingbridge/crc.fours"], apart := false, laid := [("swingbridge/crc.fours", laid_swingbridge_crc_fours)] }
def JournalPlacesSaid : Prop := journalPlacesRow.holds Tryd.pinned (OpenSpec.ofChange journalPlacesSpec)

/-- ITS FALSE NEIGHBOUR: 'it returns false'. Refute it at one input. -/
def journalPlacesWrong : ChangeSpec := { name := "journalPlaces", fn := fun _ => fun
  | [d1, d2, d3, d4] => { results := [.lit (.bool false)], args := [d1, d2, d3, d4] }
  | _ => none }
def JournalPlacesWrongFalsely : Prop := journalPlacesRow.holds Tryd.pinned (OpenSpec.ofChange journalPlacesWrong)

/-- 'swingbridgelaw03.JournalRooms': WHATEVER THE INPUT: true; the input reads as it did. -/
def journalRoomsSpec : ChangeSpec := { name := "journalRooms", fn := fun _ => fun
  | [d1, d2] => { results := [.lit (.bool true)], args := [d1, d2] }
  | _ => none }
def journalRoomsRow : OpenClaim := { program := "ytglfmhheepgneaadoor", sum := "34729389031d5c15d4efbc9d4beedfde9818eb84537eac458e27fc3441bfa367", func := "swingbridge/swingbridgelaw03.JournalRooms", spec := "journalRooms", unfollowed := true, recurses := true, named := ["swingbridge/crc.fours"], apart := false, laid := [("swingbridge/crc.fours", laid_swingbridge_crc_fours)] }
def JournalRoomsSaid : Prop := journalRoomsRow.holds Tryd.pinned (OpenSpec.ofChange journalRoomsSpec)

/-- ITS FALSE NEIGHBOUR: 'it returns false'. Refute it at one input. -/
def journalRoomsWrong : ChangeSpec := { name := "journalRooms", fn := fun _ => fun
  | [d1, d2] => { results := [.lit (.bool false)], args := [d1, d2] }
  | _ => none }
def JournalRoomsWrongFalsely : Prop := journalRoomsRow.holds Tryd.pinned (OpenSpec.ofChange journalRoomsWrong)

/-- 'swingbridgelaw03.JournalResets': WHATEVER THE INPUT: true; the input reads as it did. -/
def journalResetsSpec : ChangeSpec := { name := "journalResets", fn := fun _ => fun
  | [d1, d2] => { results := [.lit (.bool true)], args := [d1, d2] }
  | _ => none }
def journalResetsRow : OpenClaim := { program := "ytglfmhheepgneaadoor", sum := "34729389031d5c15d4efbc9d4beedfde9818eb84537eac458e27fc3441bfa367", func := "swingbridge/swingbridgelaw03.JournalResets", spec := "journalResets", unfollowed := true, recurses := true, named := ["swingbridge/crc.fours"], apart := false, laid := [("swingbridge/crc.fours", laid_swingbridge_crc_fours)] }
def JournalResetsSaid : Prop := journalResetsRow.holds Tryd.pinned (OpenSpec.ofChange journalResetsSpec)

/-- ITS FALSE NEIGHBOUR: 'it returns false'. Refute it at one input. -/
def journalResetsWrong : ChangeSpec := { name := "journalResets", fn := fun _ => fun
  | [d1, d2] => { results := [.lit (.bool false)], args := [d1, d2] }
  | _ => none }
def JournalResetsWrongFalsely : Prop := journalResetsRow.holds Tryd.pinned (OpenSpec.ofChange journalResetsWrong)

/-- 'swingbridgelaw03.JournalApart': WHATEVER THE INPUT: true; the input reads as it did. -/
def journalApartSpec : ChangeSpec := { name := "journalApart", fn := fun _ => fun
  | [d1, d2, d3] => { results := [.lit (.bool true)], args := [d1, d2, d3] }
  | _ => none }
def journalApartRow : OpenClaim := { program := "ytglfmhheepgneaadoor", sum := "34729389031d5c15d4efbc9d4beedfde9818eb84537eac458e27fc3441bfa367", func := "swingbridge/swingbridgelaw03.JournalApart", spec := "journalApart", unfollowed := true, recurses := true, named := ["swingbridge/crc.fours"], apart := false, laid := [("swingbridge/crc.fours", laid_swingbridge_crc_fours)] }
def JournalApartSaid : Prop := journalApartRow.holds Tryd.pinned (OpenSpec.ofChange journalApartSpec)

/-- ITS FALSE NEIGHBOUR: 'it returns false'. Refute it at one input. -/
def journalApartWrong : ChangeSpec := { name := "journalApart", fn := fun _ => fun
  | [d1, d2, d3] => { results := [.lit (.bool false)], args := [d1, d2, d3] }
  | _ => none }
def JournalApartWrongFalsely : Prop := journalApartRow.holds Tryd.pinned (OpenSpec.ofChange journalApartWrong)

/- THE SECOND FORM. 'bulk': how many values and letters a reading holds, each counted each time it is reached (what is shared counts as often as it is met; a slice's spare places count too). A statement '..UptoSaid' is the law's where the arguments, and the package variables that the reading takes, are together of bulk at most 1048576: NARROWER than '..Said'. Prove '..Said' where nothing that the law and all that it calls make is longer than what came in: it says more and counts as full. Else prove '..UptoSaid'. A law counts once. -/
mutual
def uptoBulk {H : Type} : DataW H → Nat
  | .lit (.string bytes) => bytes.length + 1
  | .lit _ => 1
  | .nil => 1
  | .ptr d => uptoBulk d + 1
  | .slice elems spare => uptoBulkAll elems + uptoBulkAll spare + 1
  | .agg parts => uptoBulkAll parts + 1
  | .iface _ d => uptoBulk d + 1
  | .map entries => uptoBulkEntries entries + 1
  | .held _ => 1
def uptoBulkAll {H : Type} : List (DataW H) → Nat
  | [] => 0
  | d :: r => uptoBulk d + uptoBulkAll r
def uptoBulkEntries {H : Type} : List (Lit × DataW H) → Nat
  | [] => 0
  | x :: r => uptoBulkEntry x + uptoBulkEntries r
def uptoBulkEntry {H : Type} : Lit × DataW H → Nat
  | (.string bytes, d) => bytes.length + uptoBulk d + 1
  | (_, d) => uptoBulk d + 1
 end
def uptoSmall : (H : Type) → List (DataW H) → Bool := fun _ ds => decide (uptoBulkAll ds ≤ 1048576)
def OpenSpec.upto (s : _root_.Go.ChangeSpec) : _root_.Go.OpenSpec := { _root_.Go.OpenSpec.ofChange s with cond := some uptoSmall }

/-- 'swingbridgelaw03.JournalPlays', WHERE WHAT IT READS IS OF BULK AT MOST 1048576: true; the input reads as it did. -/
def journalPlaysUptoRow : OpenClaim := { program := "ytglfmhheepgneaadoor", sum := "34729389031d5c15d4efbc9d4beedfde9818eb84537eac458e27fc3441bfa367", func := "swingbridge/swingbridgelaw03.JournalPlays", spec := "journalPlays", unfollowed := true, recurses := true, named := ["swingbridge/crc.fours"], apart := false, laid := [("swingbridge/crc.fours", laid_swingbridge_crc_fours)], narrowed := true }
def JournalPlaysUptoSaid : Prop := journalPlaysUptoRow.holds Tryd.pinned (OpenSpec.upto journalPlaysSpec)

/-- 'swingbridgelaw03.JournalReads', WHERE WHAT IT READS IS OF BULK AT MOST 1048576: true; the input reads as it did. -/
def journalReadsUptoRow : OpenClaim := { program := "ytglfmhheepgneaadoor", sum := "34729389031d5c15d4efbc9d4beedfde9818eb84537eac458e27fc3441bfa367", func := "swingbridge/swingbridgelaw03.JournalReads", spec := "journalReads", unfollowed := true, recurses := true, named := ["swingbridge/crc.fours"], apart := false, laid := [("swingbridge/crc.fours", laid_swingbridge_crc_fours)], narrowed := true }
def JournalReadsUptoSaid : Prop := journalReadsUptoRow.holds Tryd.pinned (OpenSpec.upto journalReadsSpec)

/-- 'swingbridgelaw03.JournalDown', WHERE WHAT IT READS IS OF BULK AT MOST 1048576: true; the input reads as it did. -/
def journalDownUptoRow : OpenClaim := { program := "ytglfmhheepgneaadoor", sum := "34729389031d5c15d4efbc9d4beedfde9818eb84537eac458e27fc3441bfa367", func := "swingbridge/swingbridgelaw03.JournalDown", spec := "journalDown", unfollowed := true, recurses := true, named := ["swingbridge/crc.fours"], apart := false, laid := [("swingbridge/crc.fours", laid_swingbridge_crc_fours)], narrowed := true }
def JournalDownUptoSaid : Prop := journalDownUptoRow.holds Tryd.pinned (OpenSpec.upto journalDownSpec)

/-- 'swingbridgelaw03.JournalPlaces', WHERE WHAT IT READS IS OF BULK AT MOST 1048576: true; the input reads as it did. -/
def journalPlacesUptoRow : OpenClaim := { program := "ytglfmhheepgneaadoor", sum := "34729389031d5c15d4efbc9d4beedfde9818eb84537eac458e27fc3441bfa367", func := "swingbridge/swingbridgelaw03.JournalPlaces", spec := "journalPlaces", unfollowed := true, recurses := true, named := ["swingbridge/crc.fours"], apart := false, laid := [("swingbridge/crc.fours", laid_swingbridge_crc_fours)], narrowed := true }
def JournalPlacesUptoSaid : Prop := journalPlacesUptoRow.holds Tryd.pinned (OpenSpec.upto journalPlacesSpec)

/-- 'swingbridgelaw03.JournalRooms', WHERE WHAT IT READS IS OF BULK AT MOST 1048576: true; the input reads as it did. -/
def journalRoomsUptoRow : OpenClaim := { program := "ytglfmhheepgneaadoor", sum := "34729389031d5c15d4efbc9d4beedfde9818eb84537eac458e27fc3441bfa367", func := "swingbridge/swingbridgelaw03.JournalRooms", spec := "journalRooms", unfollowed := true, recurses := true, named := ["swingbridge/crc.fours"], apart := false, laid := [("swingbridge/crc.fours", laid_swingbridge_crc_fours)], narrowed := true }
def JournalRoomsUptoSaid : Prop := journalRoomsUptoRow.holds Tryd.pinned (OpenSpec.upto journalRoomsSpec)

/-- 'swingbridgelaw03.JournalResets', WHERE WHAT IT READS IS OF BULK AT MOST 1048576: true; the input reads as it did. -/
def journalResetsUptoRow : OpenClaim := { program := "ytglfmhheepgneaadoor", sum := "34729389031d5c15d4efbc9d4beedfde9818eb84537eac458e27fc3441bfa367", func := "swingbridge/swingbridgelaw03.JournalResets", spec := "journalResets", unfollowed := true, recurses := true, named := ["swingbridge/crc.fours"], apart := false, laid := [("swingbridge/crc.fours", laid_swingbridge_crc_fours)], narrowed := true }
def JournalResetsUptoSaid : Prop := journalResetsUptoRow.holds Tryd.pinned (OpenSpec.upto journalResetsSpec)

/-- 'swingbridgelaw03.JournalApart', WHERE WHAT IT READS IS OF BULK AT MOST 1048576: true; the input reads as it did. -/
def journalApartUptoRow : OpenClaim := { program := "ytglfmhheepgneaadoor", sum := "34729389031d5c15d4efbc9d4beedfde9818eb84537eac458e27fc3441bfa367", func := "swingbridge/swingbridgelaw03.JournalApart", spec := "journalApart", unfollowed := true, recurses := true, named := ["swingbridge/crc.fours"], apart := false, laid := [("swingbridge/crc.fours", laid_swingbridge_crc_fours)], narrowed := true }
def JournalApartUptoSaid : Prop := journalApartUptoRow.holds Tryd.pinned (OpenSpec.upto journalApartSpec)

end Rows
end Go.Proofs.YtglfmhheepgneaaDoor
