/-
  DERIVED. GIVEN WITH THE SEED: THE CARDS: each row of YtfigiofiakkbdaaDoorRows.lean that lists a variable, with what it lists TIED to the program's text (the seventh form; the later family's looks); each row that meets fmt, with fmt's text TOLD by the authors' own Lean function (tested against real Go, not proved from fmt's source: count such statements apart). THE CARD IS WHAT COUNTS. Prove the row's statement (the work); the ties are given (YtfigiofiakkbdaaDoorTie.lean); close each card by the builder's one call (the guide's Derived/Test/ToyasCard.lean, 'card_holds'). Laid BY PROGRAM, IN A SANDBOX (cutbox-door.mjs). By AI agents, Wed Nov 11 2026. No macro, syntax, notation, axiom, sorry.
-/
import Derived.Test.YtfigiofiakkbdaaDoorRows
import GoSem.ClaimSeven
namespace Go.Proofs.YtfigiofiakkbdaaDoor
namespace Rows

/-- THE TIED CARD OF 'swingbridgelaw04.StorePlays'. -/
def storePlaysCard : Claim7 := { stood := { row := storePlaysRow, standIns := [], harness := (true, "6a22854b7493b49bbf35a642a5c8b809e9ec0ec1da16965935833cc863308553"), looks := false }, kinds := [], alts := [], laidByText := true, laidKinds := [.data], laidTests := true, laidLooks := .later }
def StorePlaysCardSaid : Prop := Claim7.holds Tryd.pinned (.plain (OpenSpec.ofChange storePlaysSpec)) storePlaysCard

/-- THE TIED CARD OF 'swingbridgelaw04.StoreCrash'. -/
def storeCrashCard : Claim7 := { stood := { row := storeCrashRow, standIns := [], harness := (true, "6a22854b7493b49bbf35a642a5c8b809e9ec0ec1da16965935833cc863308553"), looks := false }, kinds := [], alts := [], laidByText := true, laidKinds := [.data], laidTests := true, laidLooks := .later }
def StoreCrashCardSaid : Prop := Claim7.holds Tryd.pinned (.plain (OpenSpec.ofChange storeCrashSpec)) storeCrashCard

/-- THE TIED CARD OF 'swingbridgelaw04.StoreReads'. -/
def storeReadsCard : Claim7 := { stood := { row := storeReadsRow, standIns := [], harness := (true, "6a22854b7493b49bbf35a642a5c8b809e9ec0ec1da16965935833cc863308553"), looks := false }, kinds := [], alts := [], laidByText := true, laidKinds := [.data], laidTests := true, laidLooks := .later }
def StoreReadsCardSaid : Prop := Claim7.holds Tryd.pinned (.plain (OpenSpec.ofChange storeReadsSpec)) storeReadsCard

/-- THE TIED CARD OF 'swingbridgelaw04.StoreSmall'. -/
def storeSmallCard : Claim7 := { stood := { row := storeSmallRow, standIns := [], harness := (true, "6a22854b7493b49bbf35a642a5c8b809e9ec0ec1da16965935833cc863308553"), looks := false }, kinds := [], alts := [], laidByText := true, laidKinds := [.data], laidTests := true, laidLooks := .later }
def StoreSmallCardSaid : Prop := Claim7.holds Tryd.pinned (.plain (OpenSpec.ofChange storeSmallSpec)) storeSmallCard

/-- THE TIED CARD OF 'swingbridgelaw04.StoreHalves'. -/
def storeHalvesCard : Claim7 := { stood := { row := storeHalvesRow, standIns := [], harness := (true, "6a22854b7493b49bbf35a642a5c8b809e9ec0ec1da16965935833cc863308553"), looks := false }, kinds := [], alts := [], laidByText := true, laidKinds := [.data], laidTests := true, laidLooks := .later }
def StoreHalvesCardSaid : Prop := Claim7.holds Tryd.pinned (.plain (OpenSpec.ofChange storeHalvesSpec)) storeHalvesCard

/-- THE TIED CARD OF 'swingbridgelaw04.StoreOwn'. -/
def storeOwnCard : Claim7 := { stood := { row := storeOwnRow, standIns := [], harness := (true, "6a22854b7493b49bbf35a642a5c8b809e9ec0ec1da16965935833cc863308553"), looks := false }, kinds := [], alts := [], laidByText := true, laidKinds := [.data], laidTests := true, laidLooks := .later }
def StoreOwnCardSaid : Prop := Claim7.holds Tryd.pinned (.plain (OpenSpec.ofChange storeOwnSpec)) storeOwnCard

/-- THE TIED CARD OF 'swingbridgelaw04.StoreAgain'. -/
def storeAgainCard : Claim7 := { stood := { row := storeAgainRow, standIns := [], harness := (true, "6a22854b7493b49bbf35a642a5c8b809e9ec0ec1da16965935833cc863308553"), looks := false }, kinds := [], alts := [], laidByText := true, laidKinds := [.data], laidTests := true, laidLooks := .later }
def StoreAgainCardSaid : Prop := Claim7.holds Tryd.pinned (.plain (OpenSpec.ofChange storeAgainSpec)) storeAgainCard

/-- THE SECOND FORM's CARD OF 'swingbridgelaw04.StorePlays'. -/
def storePlaysUptoCard : Claim7 := { stood := { row := storePlaysUptoRow, standIns := [], harness := (true, "6a22854b7493b49bbf35a642a5c8b809e9ec0ec1da16965935833cc863308553"), looks := false }, kinds := [], alts := [], laidByText := true, laidKinds := [.data], laidTests := true, laidLooks := .later }
def StorePlaysUptoCardSaid : Prop := Claim7.holds Tryd.pinned (.plain (OpenSpec.upto storePlaysSpec)) storePlaysUptoCard

/-- THE SECOND FORM's CARD OF 'swingbridgelaw04.StoreCrash'. -/
def storeCrashUptoCard : Claim7 := { stood := { row := storeCrashUptoRow, standIns := [], harness := (true, "6a22854b7493b49bbf35a642a5c8b809e9ec0ec1da16965935833cc863308553"), looks := false }, kinds := [], alts := [], laidByText := true, laidKinds := [.data], laidTests := true, laidLooks := .later }
def StoreCrashUptoCardSaid : Prop := Claim7.holds Tryd.pinned (.plain (OpenSpec.upto storeCrashSpec)) storeCrashUptoCard

/-- THE SECOND FORM's CARD OF 'swingbridgelaw04.StoreReads'. -/
def storeReadsUptoCard : Claim7 := { stood := { row := storeReadsUptoRow, standIns := [], harness := (true, "6a22854b7493b49bbf35a642a5c8b809e9ec0ec1da16965935833cc863308553"), looks := false }, kinds := [], alts := [], laidByText := true, laidKinds := [.data], laidTests := true, laidLooks := .later }
def StoreReadsUptoCardSaid : Prop := Claim7.holds Tryd.pinned (.plain (OpenSpec.upto storeReadsSpec)) storeReadsUptoCard

/-- THE SECOND FORM's CARD OF 'swingbridgelaw04.StoreSmall'. -/
def storeSmallUptoCard : Claim7 := { stood := { row := storeSmallUptoRow, standIns := [], harness := (true, "6a22854b7493b49bbf35a642a5c8b809e9ec0ec1da16965935833cc863308553"), looks := false }, kinds := [], alts := [], laidByText := true, laidKinds := [.data], laidTests := true, laidLooks := .later }
def StoreSmallUptoCardSaid : Prop := Claim7.holds Tryd.pinned (.plain (OpenSpec.upto storeSmallSpec)) storeSmallUptoCard

/-- THE SECOND FORM's CARD OF 'swingbridgelaw04.StoreHalves'. -/
def storeHalvesUptoCard : Claim7 := { stood := { row := storeHalvesUptoRow, standIns := [], harness := (true, "6a22854b7493b49bbf35a642a5c8b809e9ec0ec1da16965935833cc863308553"), looks := false }, kinds := [], alts := [], laidByText := true, laidKinds := [.data], laidTests := true, laidLooks := .later }
def StoreHalvesUptoCardSaid : Prop := Claim7.holds Tryd.pinned (.plain (OpenSpec.upto storeHalvesSpec)) storeHalvesUptoCard

/-- THE SECOND FORM's CARD OF 'swingbridgelaw04.StoreOwn'. -/
def storeOwnUptoCard : Claim7 := { stood := { row := storeOwnUptoRow, standIns := [], harness := (true, "6a22854b7493b49bbf35a642a5c8b809e9ec0ec1da16965935833cc863308553"), looks := false }, kinds := [], alts := [], laidByText := true, laidKinds := [.data], laidTests := true, laidLooks := .later }
def StoreOwnUptoCardSaid : Prop := Claim7.holds Tryd.pinned (.plain (OpenSpec.upto storeOwnSpec)) storeOwnUptoCard

/-- THE SECOND FORM's CARD OF 'swingbridgelaw04.StoreAgain'. -/
def storeAgainUptoCard : Claim7 := { stood := { row := storeAgainUptoRow, standIns := [], harness := (true, "6a22854b7493b49bbf35a642a5c8b809e9ec0ec1da16965935833cc863308553"), looks := false }, kinds := [], alts := [], laidByText := true, laidKinds := [.data], laidTests := true, laidLooks := .later }
def StoreAgainUptoCardSaid : Prop := Claim7.holds Tryd.pinned (.plain (OpenSpec.upto storeAgainSpec)) storeAgainUptoCard
end Rows
end Go.Proofs.YtfigiofiakkbdaaDoor
