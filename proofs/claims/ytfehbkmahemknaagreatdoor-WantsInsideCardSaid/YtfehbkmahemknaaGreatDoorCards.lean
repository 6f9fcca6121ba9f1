/-
  DERIVED. GIVEN WITH THE SEED: THE CARDS: each row of YtfehbkmahemknaaGreatDoorRows.lean that lists a variable, with what it lists TIED to the program's text (the seventh form; the later family's looks); each row that meets fmt, with fmt's text TOLD by the authors' own Lean function (tested against real Go, not proved from fmt's source: count such statements apart). THE CARD IS WHAT COUNTS. Prove the row's statement (the work); the ties are given (YtfehbkmahemknaaGreatDoorTie.lean); close each card by the builder's one call (the guide's Derived/Test/ToyasCard.lean, 'card_holds'). Laid BY PROGRAM, IN A SANDBOX (cutbox-door.mjs). By AI agents, Wed Nov 11 2026. No macro, syntax, notation, axiom, sorry.
-/
import Derived.Test.YtfehbkmahemknaaGreatDoorRows
import GoSem.ClaimSeven
namespace Go.Proofs.YtfehbkmahemknaaGreatDoor
namespace Rows

/-- THE TIED CARD OF 'halyardlaw08.CatalogScript'. -/
def catalogScriptCard : Claim7 := { stood := { row := catalogScriptRow, standIns := [], harness := (true, "081e55527349c48675cb60da75b537aec3d09fabc259f5feb7a032ff6e54cfd1"), looks := false }, kinds := [], alts := [], laidByText := true, laidKinds := [.data, .data, .data, .data, .data], laidTests := true, laidLooks := .later }
def CatalogScriptCardSaid : Prop := Claim7.holds Tryz.pinned (.plain (OpenSpec.ofChange catalogScriptSpec)) catalogScriptCard

/-- THE TIED CARD OF 'halyardlaw09.WantsInside'. -/
def wantsInsideCard : Claim7 := { stood := { row := wantsInsideRow, standIns := [], harness := (true, "081e55527349c48675cb60da75b537aec3d09fabc259f5feb7a032ff6e54cfd1"), looks := false }, kinds := [], alts := [], laidByText := true, laidKinds := [.data, .data, .data, .data, .data], laidTests := true, laidLooks := .later }
def WantsInsideCardSaid : Prop := Claim7.holds Tryz.pinned (.plain (OpenSpec.ofChange wantsInsideSpec)) wantsInsideCard

/-- THE TIED CARD OF 'halyardlaw09.WantsPeers'. -/
def wantsPeersCard : Claim7 := { stood := { row := wantsPeersRow, standIns := [], harness := (true, "081e55527349c48675cb60da75b537aec3d09fabc259f5feb7a032ff6e54cfd1"), looks := false }, kinds := [], alts := [], laidByText := true, laidKinds := [.data, .data, .data, .data, .data], laidTests := true, laidLooks := .later }
def WantsPeersCardSaid : Prop := Claim7.holds Tryz.pinned (.plain (OpenSpec.ofChange wantsPeersSpec)) wantsPeersCard

/-- THE TIED CARD OF 'halyardlaw10.GraphSame'. -/
def graphSameCard : Claim7 := { stood := { row := graphSameRow, standIns := [], harness := (true, "081e55527349c48675cb60da75b537aec3d09fabc259f5feb7a032ff6e54cfd1"), looks := false }, kinds := [], alts := [], laidByText := true, laidKinds := [.data, .data, .data, .data, .data], laidTests := true, laidLooks := .later }
def GraphSameCardSaid : Prop := Claim7.holds Tryz.pinned (.plain (OpenSpec.ofChange graphSameSpec)) graphSameCard

/-- THE SECOND FORM's CARD OF 'halyardlaw08.CatalogScript'. -/
def catalogScriptUptoCard : Claim7 := { stood := { row := catalogScriptUptoRow, standIns := [], harness := (true, "081e55527349c48675cb60da75b537aec3d09fabc259f5feb7a032ff6e54cfd1"), looks := false }, kinds := [], alts := [], laidByText := true, laidKinds := [.data, .data, .data, .data, .data], laidTests := true, laidLooks := .later }
def CatalogScriptUptoCardSaid : Prop := Claim7.holds Tryz.pinned (.plain (OpenSpec.upto catalogScriptSpec)) catalogScriptUptoCard

/-- THE SECOND FORM's CARD OF 'halyardlaw09.WantsInside'. -/
def wantsInsideUptoCard : Claim7 := { stood := { row := wantsInsideUptoRow, standIns := [], harness := (true, "081e55527349c48675cb60da75b537aec3d09fabc259f5feb7a032ff6e54cfd1"), looks := false }, kinds := [], alts := [], laidByText := true, laidKinds := [.data, .data, .data, .data, .data], laidTests := true, laidLooks := .later }
def WantsInsideUptoCardSaid : Prop := Claim7.holds Tryz.pinned (.plain (OpenSpec.upto wantsInsideSpec)) wantsInsideUptoCard

/-- THE SECOND FORM's CARD OF 'halyardlaw09.WantsPeers'. -/
def wantsPeersUptoCard : Claim7 := { stood := { row := wantsPeersUptoRow, standIns := [], harness := (true, "081e55527349c48675cb60da75b537aec3d09fabc259f5feb7a032ff6e54cfd1"), looks := false }, kinds := [], alts := [], laidByText := true, laidKinds := [.data, .data, .data, .data, .data], laidTests := true, laidLooks := .later }
def WantsPeersUptoCardSaid : Prop := Claim7.holds Tryz.pinned (.plain (OpenSpec.upto wantsPeersSpec)) wantsPeersUptoCard

/-- THE SECOND FORM's CARD OF 'halyardlaw10.GraphSame'. -/
def graphSameUptoCard : Claim7 := { stood := { row := graphSameUptoRow, standIns := [], harness := (true, "081e55527349c48675cb60da75b537aec3d09fabc259f5feb7a032ff6e54cfd1"), looks := false }, kinds := [], alts := [], laidByText := true, laidKinds := [.data, .data, .data, .data, .data], laidTests := true, laidLooks := .later }
def GraphSameUptoCardSaid : Prop := Claim7.holds Tryz.pinned (.plain (OpenSpec.upto graphSameSpec)) graphSameUptoCard
end Rows
end Go.Proofs.YtfehbkmahemknaaGreatDoor
