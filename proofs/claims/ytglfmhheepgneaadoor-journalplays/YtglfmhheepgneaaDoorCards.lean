/-
  DERIVED. GIVEN WITH THE SEED: THE CARDS: each row of YtglfmhheepgneaaDoorRows.lean that lists a variable, with what it lists TIED to the program's text (the seventh form; the later family's looks); each row that meets fmt, with fmt's text TOLD by the authors' own Lean function (tested against real Go, not proved from fmt's source: count such statements apart). THE CARD IS WHAT COUNTS. Prove the row's statement (the work); the ties are given (YtglfmhheepgneaaDoorTie.lean); close each card by the builder's one call (the guide's Derived/Test/ToyasCard.lean, 'card_holds'). Laid BY PROGRAM, IN A SANDBOX (cutbox-door.mjs). By AI agents, Wed Nov 11 2026. No macro, syntax, notation, axiom, sorry.
-/
import Derived.Test.YtglfmhheepgneaaDoorRows
import GoSem.ClaimSeven
namespace Go.Proofs.YtglfmhheepgneaaDoor
namespace Rows

/-- THE TIED CARD OF 'swingbridgelaw03.JournalPlays'. -/
def journalPlaysCard : Claim7 := { stood := { row := journalPlaysRow, standIns := [], harness := (true, "9166a985c967e0110dcb3403f7f215518c2b357c15fe62d8545897f66b40c310"), looks := false }, kinds := [], alts := [], laidByText := true, laidKinds := [.data], laidTests := true, laidLooks := .later }
def JournalPlaysCardSaid : Prop := Claim7.holds Tryd.pinned (.plain (OpenSpec.ofChange journalPlaysSpec)) journalPlaysCard

/-- THE TIED CARD OF 'swingbridgelaw03.JournalReads'. -/
def journalReadsCard : Claim7 := { stood := { row := journalReadsRow, standIns := [], harness := (true, "9166a985c967e0110dcb3403f7f215518c2b357c15fe62d8545897f66b40c310"), looks := false }, kinds := [], alts := [], laidByText := true, laidKinds := [.data], laidTests := true, laidLooks := .later }
def JournalReadsCardSaid : Prop := Claim7.holds Tryd.pinned (.plain (OpenSpec.ofChange journalReadsSpec)) journalReadsCard

/-- THE TIED CARD OF 'swingbridgelaw03.JournalDown'. -/
def journalDownCard : Claim7 := { stood := { row := journalDownRow, standIns := [], harness := (true, "9166a985c967e0110dcb3403f7f215518c2b357c15fe62d8545897f66b40c310"), looks := false }, kinds := [], alts := [], laidByText := true, laidKinds := [.data], laidTests := true, laidLooks := .later }
def JournalDownCardSaid : Prop := Claim7.holds Tryd.pinned (.plain (OpenSpec.ofChange journalDownSpec)) journalDownCard

/-- THE TIED CARD OF 'swingbridgelaw03.JournalPlaces'. -/
def journalPlacesCard : Claim7 := { stood := { row := journalPlacesRow, standIns := [], harness := (true, "9166a985c967e0110dcb3403f7f215518c2b357c15fe62d8545897f66b40c310"), looks := false }, kinds := [], alts := [], laidByText := true, laidKinds := [.data], laidTests := true, laidLooks := .later }
def JournalPlacesCardSaid : Prop := Claim7.holds Tryd.pinned (.plain (OpenSpec.ofChange journalPlacesSpec)) journalPlacesCard

/-- THE TIED CARD OF 'swingbridgelaw03.JournalRooms'. -/
def journalRoomsCard : Claim7 := { stood := { row := journalRoomsRow, standIns := [], harness := (true, "9166a985c967e0110dcb3403f7f215518c2b357c15fe62d8545897f66b40c310"), looks := false }, kinds := [], alts := [], laidByText := true, laidKinds := [.data], laidTests := true, laidLooks := .later }
def JournalRoomsCardSaid : Prop := Claim7.holds Tryd.pinned (.plain (OpenSpec.ofChange journalRoomsSpec)) journalRoomsCard

/-- THE TIED CARD OF 'swingbridgelaw03.JournalResets'. -/
def journalResetsCard : Claim7 := { stood := { row := journalResetsRow, standIns := [], harness := (true, "9166a985c967e0110dcb3403f7f215518c2b357c15fe62d8545897f66b40c310"), looks := false }, kinds := [], alts := [], laidByText := true, laidKinds := [.data], laidTests := true, laidLooks := .later }
def JournalResetsCardSaid : Prop := Claim7.holds Tryd.pinned (.plain (OpenSpec.ofChange journalResetsSpec)) journalResetsCard

/-- THE TIED CARD OF 'swingbridgelaw03.JournalApart'. -/
def journalApartCard : Claim7 := { stood := { row := journalApartRow, standIns := [], harness := (true, "9166a985c967e0110dcb3403f7f215518c2b357c15fe62d8545897f66b40c310"), looks := false }, kinds := [], alts := [], laidByText := true, laidKinds := [.data], laidTests := true, laidLooks := .later }
def JournalApartCardSaid : Prop := Claim7.holds Tryd.pinned (.plain (OpenSpec.ofChange journalApartSpec)) journalApartCard

/-- THE SECOND FORM's CARD OF 'swingbridgelaw03.JournalPlays'. -/
def journalPlaysUptoCard : Claim7 := { stood := { row := journalPlaysUptoRow, standIns := [], harness := (true, "9166a985c967e0110dcb3403f7f215518c2b357c15fe62d8545897f66b40c310"), looks := false }, kinds := [], alts := [], laidByText := true, laidKinds := [.data], laidTests := true, laidLooks := .later }
def JournalPlaysUptoCardSaid : Prop := Claim7.holds Tryd.pinned (.plain (OpenSpec.upto journalPlaysSpec)) journalPlaysUptoCard

/-- THE SECOND FORM's CARD OF 'swingbridgelaw03.JournalReads'. -/
def journalReadsUptoCard : Claim7 := { stood := { row := journalReadsUptoRow, standIns := [], harness := (true, "9166a985c967e0110dcb3403f7f215518c2b357c15fe62d8545897f66b40c310"), looks := false }, kinds := [], alts := [], laidByText := true, laidKinds := [.data], laidTests := true, laidLooks := .later }
def JournalReadsUptoCardSaid : Prop := Claim7.holds Tryd.pinned (.plain (OpenSpec.upto journalReadsSpec)) journalReadsUptoCard

/-- THE SECOND FORM's CARD OF 'swingbridgelaw03.JournalDown'. -/
def journalDownUptoCard : Claim7 := { stood := { row := journalDownUptoRow, standIns := [], harness := (true, "9166a985c967e0110dcb3403f7f215518c2b357c15fe62d8545897f66b40c310"), looks := false }, kinds := [], alts := [], laidByText := true, laidKinds := [.data], laidTests := true, laidLooks := .later }
def JournalDownUptoCardSaid : Prop := Claim7.holds Tryd.pinned (.plain (OpenSpec.upto journalDownSpec)) journalDownUptoCard

/-- THE SECOND FORM's CARD OF 'swingbridgelaw03.JournalPlaces'. -/
def journalPlacesUptoCard : Claim7 := { stood := { row := journalPlacesUptoRow, standIns := [], harness := (true, "9166a985c967e0110dcb3403f7f215518c2b357c15fe62d8545897f66b40c310"), looks := false }, kinds := [], alts := [], laidByText := true, laidKinds := [.data], laidTests := true, laidLooks := .later }
def JournalPlacesUptoCardSaid : Prop := Claim7.holds Tryd.pinned (.plain (OpenSpec.upto journalPlacesSpec)) journalPlacesUptoCard

/-- THE SECOND FORM's CARD OF 'swingbridgelaw03.JournalRooms'. -/
def journalRoomsUptoCard : Claim7 := { stood := { row := journalRoomsUptoRow, standIns := [], harness := (true, "9166a985c967e0110dcb3403f7f215518c2b357c15fe62d8545897f66b40c310"), looks := false }, kinds := [], alts := [], laidByText := true, laidKinds := [.data], laidTests := true, laidLooks := .later }
def JournalRoomsUptoCardSaid : Prop := Claim7.holds Tryd.pinned (.plain (OpenSpec.upto journalRoomsSpec)) journalRoomsUptoCard

/-- THE SECOND FORM's CARD OF 'swingbridgelaw03.JournalResets'. -/
def journalResetsUptoCard : Claim7 := { stood := { row := journalResetsUptoRow, standIns := [], harness := (true, "9166a985c967e0110dcb3403f7f215518c2b357c15fe62d8545897f66b40c310"), looks := false }, kinds := [], alts := [], laidByText := true, laidKinds := [.data], laidTests := true, laidLooks := .later }
def JournalResetsUptoCardSaid : Prop := Claim7.holds Tryd.pinned (.plain (OpenSpec.upto journalResetsSpec)) journalResetsUptoCard

/-- THE SECOND FORM's CARD OF 'swingbridgelaw03.JournalApart'. -/
def journalApartUptoCard : Claim7 := { stood := { row := journalApartUptoRow, standIns := [], harness := (true, "9166a985c967e0110dcb3403f7f215518c2b357c15fe62d8545897f66b40c310"), looks := false }, kinds := [], alts := [], laidByText := true, laidKinds := [.data], laidTests := true, laidLooks := .later }
def JournalApartUptoCardSaid : Prop := Claim7.holds Tryd.pinned (.plain (OpenSpec.upto journalApartSpec)) journalApartUptoCard
end Rows
end Go.Proofs.YtglfmhheepgneaaDoor
