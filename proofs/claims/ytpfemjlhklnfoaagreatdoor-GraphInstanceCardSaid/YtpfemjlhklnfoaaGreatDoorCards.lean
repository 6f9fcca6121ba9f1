/-
  DERIVED. GIVEN WITH THE SEED: THE CARDS: each row of YtpfemjlhklnfoaaGreatDoorRows.lean that lists a variable, with what it lists TIED to the program's text (the seventh form; the later family's looks); each row that meets fmt, with fmt's text TOLD by the authors' own Lean function (tested against real Go, not proved from fmt's source: count such statements apart). THE CARD IS WHAT COUNTS. Prove the row's statement (the work); the ties are given (YtpfemjlhklnfoaaGreatDoorTie.lean); close each card by the builder's one call (the guide's Derived/Test/ToyasCard.lean, 'card_holds'). Laid BY PROGRAM, IN A SANDBOX (cutbox-door.mjs). By AI agents, Wed Nov 11 2026. No macro, syntax, notation, axiom, sorry.
-/
import Derived.Test.YtpfemjlhklnfoaaGreatDoorRows
import GoSem.ClaimSeven
namespace Go.Proofs.YtpfemjlhklnfoaaGreatDoor
namespace Rows

/-- THE TIED CARD OF 'halyardlaw08.CatalogScript'. -/
def catalogScriptCard : Claim7 := { stood := { row := catalogScriptRow, standIns := [], harness := (true, "694936fc6188a38efa96e42b0ee9fbac31a41b9e45bea63ef8a18d347bc6915c"), looks := false }, kinds := [], alts := [], laidByText := true, laidKinds := [.data, .data, .data, .data, .data], laidTests := true, laidLooks := .later }
def CatalogScriptCardSaid : Prop := Claim7.holds Tryz.pinned (.plain (OpenSpec.ofChange catalogScriptSpec)) catalogScriptCard

/-- THE TIED CARD OF 'halyardlaw10.GraphChecks'. -/
def graphChecksCard : Claim7 := { stood := { row := graphChecksRow, standIns := [], harness := (true, "694936fc6188a38efa96e42b0ee9fbac31a41b9e45bea63ef8a18d347bc6915c"), looks := false }, kinds := [], alts := [], laidByText := true, laidKinds := [.data, .data, .data, .data, .data], laidTests := true, laidLooks := .later }
def GraphChecksCardSaid : Prop := Claim7.holds Tryz.pinned (.plain (OpenSpec.ofChange graphChecksSpec)) graphChecksCard

/-- THE TIED CARD OF 'halyardlaw10.GraphParts'. -/
def graphPartsCard : Claim7 := { stood := { row := graphPartsRow, standIns := [], harness := (true, "694936fc6188a38efa96e42b0ee9fbac31a41b9e45bea63ef8a18d347bc6915c"), looks := false }, kinds := [], alts := [], laidByText := true, laidKinds := [.data, .data, .data, .data, .data], laidTests := true, laidLooks := .later }
def GraphPartsCardSaid : Prop := Claim7.holds Tryz.pinned (.plain (OpenSpec.ofChange graphPartsSpec)) graphPartsCard

/-- THE TIED CARD OF 'halyardlaw10.GraphSame'. -/
def graphSameCard : Claim7 := { stood := { row := graphSameRow, standIns := [], harness := (true, "694936fc6188a38efa96e42b0ee9fbac31a41b9e45bea63ef8a18d347bc6915c"), looks := false }, kinds := [], alts := [], laidByText := true, laidKinds := [.data, .data, .data, .data, .data], laidTests := true, laidLooks := .later }
def GraphSameCardSaid : Prop := Claim7.holds Tryz.pinned (.plain (OpenSpec.ofChange graphSameSpec)) graphSameCard

/-- THE TIED CARD OF 'halyardlaw10.GraphInstance'. -/
def graphInstanceCard : Claim7 := { stood := { row := graphInstanceRow, standIns := [], harness := (true, "694936fc6188a38efa96e42b0ee9fbac31a41b9e45bea63ef8a18d347bc6915c"), looks := false }, kinds := [], alts := [], laidByText := true, laidKinds := [.data, .data, .data, .data, .data], laidTests := true, laidLooks := .later }
def GraphInstanceCardSaid : Prop := Claim7.holds Tryz.pinned (.plain (OpenSpec.ofChange graphInstanceSpec)) graphInstanceCard

/-- THE TIED CARD OF 'halyardlaw10.GraphOwn'. -/
def graphOwnCard : Claim7 := { stood := { row := graphOwnRow, standIns := [], harness := (true, "694936fc6188a38efa96e42b0ee9fbac31a41b9e45bea63ef8a18d347bc6915c"), looks := false }, kinds := [], alts := [], laidByText := true, laidKinds := [.data, .data, .data, .data, .data], laidTests := true, laidLooks := .later }
def GraphOwnCardSaid : Prop := Claim7.holds Tryz.pinned (.plain (OpenSpec.ofChange graphOwnSpec)) graphOwnCard

/-- THE SECOND FORM's CARD OF 'halyardlaw08.CatalogScript'. -/
def catalogScriptUptoCard : Claim7 := { stood := { row := catalogScriptUptoRow, standIns := [], harness := (true, "694936fc6188a38efa96e42b0ee9fbac31a41b9e45bea63ef8a18d347bc6915c"), looks := false }, kinds := [], alts := [], laidByText := true, laidKinds := [.data, .data, .data, .data, .data], laidTests := true, laidLooks := .later }
def CatalogScriptUptoCardSaid : Prop := Claim7.holds Tryz.pinned (.plain (OpenSpec.upto catalogScriptSpec)) catalogScriptUptoCard

/-- THE SECOND FORM's CARD OF 'halyardlaw10.GraphChecks'. -/
def graphChecksUptoCard : Claim7 := { stood := { row := graphChecksUptoRow, standIns := [], harness := (true, "694936fc6188a38efa96e42b0ee9fbac31a41b9e45bea63ef8a18d347bc6915c"), looks := false }, kinds := [], alts := [], laidByText := true, laidKinds := [.data, .data, .data, .data, .data], laidTests := true, laidLooks := .later }
def GraphChecksUptoCardSaid : Prop := Claim7.holds Tryz.pinned (.plain (OpenSpec.upto graphChecksSpec)) graphChecksUptoCard

/-- THE SECOND FORM's CARD OF 'halyardlaw10.GraphParts'. -/
def graphPartsUptoCard : Claim7 := { stood := { row := graphPartsUptoRow, standIns := [], harness := (true, "694936fc6188a38efa96e42b0ee9fbac31a41b9e45bea63ef8a18d347bc6915c"), looks := false }, kinds := [], alts := [], laidByText := true, laidKinds := [.data, .data, .data, .data, .data], laidTests := true, laidLooks := .later }
def GraphPartsUptoCardSaid : Prop := Claim7.holds Tryz.pinned (.plain (OpenSpec.upto graphPartsSpec)) graphPartsUptoCard

/-- THE SECOND FORM's CARD OF 'halyardlaw10.GraphSame'. -/
def graphSameUptoCard : Claim7 := { stood := { row := graphSameUptoRow, standIns := [], harness := (true, "694936fc6188a38efa96e42b0ee9fbac31a41b9e45bea63ef8a18d347bc6915c"), looks := false }, kinds := [], alts := [], laidByText := true, laidKinds := [.data, .data, .data, .data, .data], laidTests := true, laidLooks := .later }
def GraphSameUptoCardSaid : Prop := Claim7.holds Tryz.pinned (.plain (OpenSpec.upto graphSameSpec)) graphSameUptoCard

/-- THE SECOND FORM's CARD OF 'halyardlaw10.GraphInstance'. -/
def graphInstanceUptoCard : Claim7 := { stood := { row := graphInstanceUptoRow, standIns := [], harness := (true, "694936fc6188a38efa96e42b0ee9fbac31a41b9e45bea63ef8a18d347bc6915c"), looks := false }, kinds := [], alts := [], laidByText := true, laidKinds := [.data, .data, .data, .data, .data], laidTests := true, laidLooks := .later }
def GraphInstanceUptoCardSaid : Prop := Claim7.holds Tryz.pinned (.plain (OpenSpec.upto graphInstanceSpec)) graphInstanceUptoCard

/-- THE SECOND FORM's CARD OF 'halyardlaw10.GraphOwn'. -/
def graphOwnUptoCard : Claim7 := { stood := { row := graphOwnUptoRow, standIns := [], harness := (true, "694936fc6188a38efa96e42b0ee9fbac31a41b9e45bea63ef8a18d347bc6915c"), looks := false }, kinds := [], alts := [], laidByText := true, laidKinds := [.data, .data, .data, .data, .data], laidTests := true, laidLooks := .later }
def GraphOwnUptoCardSaid : Prop := Claim7.holds Tryz.pinned (.plain (OpenSpec.upto graphOwnSpec)) graphOwnUptoCard
end Rows
end Go.Proofs.YtpfemjlhklnfoaaGreatDoor
