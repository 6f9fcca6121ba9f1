/-
  DERIVED. GIVEN WITH THE SEED: THE CARDS: each row of YtcclfaioicklaaaGreatDoorRows.lean that lists a variable, with what it lists TIED to the program's text (the seventh form; the later family's looks); each row that meets fmt, with fmt's text TOLD by the authors' own Lean function (tested against real Go, not proved from fmt's source: count such statements apart). THE CARD IS WHAT COUNTS. Prove the row's statement (the work); the ties are given (YtcclfaioicklaaaGreatDoorTie.lean); close each card by the builder's one call (the guide's Derived/Test/ToyasCard.lean, 'card_holds'). Laid BY PROGRAM, IN A SANDBOX (cutbox-door.mjs). By AI agents, Wed Nov 11 2026. No macro, syntax, notation, axiom, sorry.
-/
import Derived.Test.YtcclfaioicklaaaGreatDoorRows
import GoSem.ClaimSeven
namespace Go.Proofs.YtcclfaioicklaaaGreatDoor
namespace Rows

/-- THE TIED CARD OF 'halyardlaw12.TreeChecks'. -/
def treeChecksCard : Claim7 := { stood := { row := treeChecksRow, standIns := [], harness := (true, "1db34ba40ef1fdb8197129ef3527b6edccbd201dc83d08fd162637ee7ac81bfe"), looks := false }, kinds := [], alts := [], laidByText := true, laidKinds := [.data, .data, .data, .data, .data], laidTests := true, laidLooks := .later }
def TreeChecksCardSaid : Prop := Claim7.holds Tryz.pinned (.plain (OpenSpec.ofChange treeChecksSpec)) treeChecksCard

/-- THE TIED CARD OF 'halyardlaw12.TreePaths'. -/
def treePathsCard : Claim7 := { stood := { row := treePathsRow, standIns := [], harness := (true, "1db34ba40ef1fdb8197129ef3527b6edccbd201dc83d08fd162637ee7ac81bfe"), looks := false }, kinds := [], alts := [], laidByText := true, laidKinds := [.data, .data, .data, .data, .data], laidTests := true, laidLooks := .later }
def TreePathsCardSaid : Prop := Claim7.holds Tryz.pinned (.plain (OpenSpec.ofChange treePathsSpec)) treePathsCard

/-- THE TIED CARD OF 'halyardlaw12.TreeFinds'. -/
def treeFindsCard : Claim7 := { stood := { row := treeFindsRow, standIns := [], harness := (true, "1db34ba40ef1fdb8197129ef3527b6edccbd201dc83d08fd162637ee7ac81bfe"), looks := false }, kinds := [], alts := [], laidByText := true, laidKinds := [.data, .data, .data, .data, .data], laidTests := true, laidLooks := .later }
def TreeFindsCardSaid : Prop := Claim7.holds Tryz.pinned (.plain (OpenSpec.ofChange treeFindsSpec)) treeFindsCard

/-- THE TIED CARD OF 'halyardlaw12.TreeSame'. -/
def treeSameCard : Claim7 := { stood := { row := treeSameRow, standIns := [], harness := (true, "1db34ba40ef1fdb8197129ef3527b6edccbd201dc83d08fd162637ee7ac81bfe"), looks := false }, kinds := [], alts := [], laidByText := true, laidKinds := [.data, .data, .data, .data, .data], laidTests := true, laidLooks := .later }
def TreeSameCardSaid : Prop := Claim7.holds Tryz.pinned (.plain (OpenSpec.ofChange treeSameSpec)) treeSameCard

/-- THE TIED CARD OF 'halyardlaw12.TreeAbove'. -/
def treeAboveCard : Claim7 := { stood := { row := treeAboveRow, standIns := [], harness := (true, "1db34ba40ef1fdb8197129ef3527b6edccbd201dc83d08fd162637ee7ac81bfe"), looks := false }, kinds := [], alts := [], laidByText := true, laidKinds := [.data, .data, .data, .data, .data], laidTests := true, laidLooks := .later }
def TreeAboveCardSaid : Prop := Claim7.holds Tryz.pinned (.plain (OpenSpec.ofChange treeAboveSpec)) treeAboveCard

/-- THE TIED CARD OF 'halyardlaw13.WalkupMaps'. -/
def walkupMapsCard : Claim7 := { stood := { row := walkupMapsRow, standIns := [], harness := (true, "1db34ba40ef1fdb8197129ef3527b6edccbd201dc83d08fd162637ee7ac81bfe"), looks := false }, kinds := [], alts := [], laidByText := true, laidKinds := [.data, .data, .data, .data, .data], laidTests := true, laidLooks := .later }
def WalkupMapsCardSaid : Prop := Claim7.holds Tryz.pinned (.plain (OpenSpec.ofChange walkupMapsSpec)) walkupMapsCard

/-- THE SECOND FORM's CARD OF 'halyardlaw12.TreeChecks'. -/
def treeChecksUptoCard : Claim7 := { stood := { row := treeChecksUptoRow, standIns := [], harness := (true, "1db34ba40ef1fdb8197129ef3527b6edccbd201dc83d08fd162637ee7ac81bfe"), looks := false }, kinds := [], alts := [], laidByText := true, laidKinds := [.data, .data, .data, .data, .data], laidTests := true, laidLooks := .later }
def TreeChecksUptoCardSaid : Prop := Claim7.holds Tryz.pinned (.plain (OpenSpec.upto treeChecksSpec)) treeChecksUptoCard

/-- THE SECOND FORM's CARD OF 'halyardlaw12.TreePaths'. -/
def treePathsUptoCard : Claim7 := { stood := { row := treePathsUptoRow, standIns := [], harness := (true, "1db34ba40ef1fdb8197129ef3527b6edccbd201dc83d08fd162637ee7ac81bfe"), looks := false }, kinds := [], alts := [], laidByText := true, laidKinds := [.data, .data, .data, .data, .data], laidTests := true, laidLooks := .later }
def TreePathsUptoCardSaid : Prop := Claim7.holds Tryz.pinned (.plain (OpenSpec.upto treePathsSpec)) treePathsUptoCard

/-- THE SECOND FORM's CARD OF 'halyardlaw12.TreeFinds'. -/
def treeFindsUptoCard : Claim7 := { stood := { row := treeFindsUptoRow, standIns := [], harness := (true, "1db34ba40ef1fdb8197129ef3527b6edccbd201dc83d08fd162637ee7ac81bfe"), looks := false }, kinds := [], alts := [], laidByText := true, laidKinds := [.data, .data, .data, .data, .data], laidTests := true, laidLooks := .later }
def TreeFindsUptoCardSaid : Prop := Claim7.holds Tryz.pinned (.plain (OpenSpec.upto treeFindsSpec)) treeFindsUptoCard

/-- THE SECOND FORM's CARD OF 'halyardlaw12.TreeSame'. -/
def treeSameUptoCard : Claim7 := { stood := { row := treeSameUptoRow, standIns := [], harness := (true, "1db34ba40ef1fdb8197129ef3527b6edccbd201dc83d08fd162637ee7ac81bfe"), looks := false }, kinds := [], alts := [], laidByText := true, laidKinds := [.data, .data, .data, .data, .data], laidTests := true, laidLooks := .later }
def TreeSameUptoCardSaid : Prop := Claim7.holds Tryz.pinned (.plain (OpenSpec.upto treeSameSpec)) treeSameUptoCard

/-- THE SECOND FORM's CARD OF 'halyardlaw12.TreeAbove'. -/
def treeAboveUptoCard : Claim7 := { stood := { row := treeAboveUptoRow, standIns := [], harness := (true, "1db34ba40ef1fdb8197129ef3527b6edccbd201dc83d08fd162637ee7ac81bfe"), looks := false }, kinds := [], alts := [], laidByText := true, laidKinds := [.data, .data, .data, .data, .data], laidTests := true, laidLooks := .later }
def TreeAboveUptoCardSaid : Prop := Claim7.holds Tryz.pinned (.plain (OpenSpec.upto treeAboveSpec)) treeAboveUptoCard

/-- THE SECOND FORM's CARD OF 'halyardlaw13.WalkupMaps'. -/
def walkupMapsUptoCard : Claim7 := { stood := { row := walkupMapsUptoRow, standIns := [], harness := (true, "1db34ba40ef1fdb8197129ef3527b6edccbd201dc83d08fd162637ee7ac81bfe"), looks := false }, kinds := [], alts := [], laidByText := true, laidKinds := [.data, .data, .data, .data, .data], laidTests := true, laidLooks := .later }
def WalkupMapsUptoCardSaid : Prop := Claim7.holds Tryz.pinned (.plain (OpenSpec.upto walkupMapsSpec)) walkupMapsUptoCard
end Rows
end Go.Proofs.YtcclfaioicklaaaGreatDoor
