/-
  DERIVED. GIVEN WITH THE SEED: THE CARDS: each row of YtjpmlagofcgheaaGreatDoorRows.lean that lists a variable, with what it lists TIED to the program's text (the seventh form; the later family's looks); each row that meets fmt, with fmt's text TOLD by the authors' own Lean function (tested against real Go, not proved from fmt's source: count such statements apart). THE CARD IS WHAT COUNTS. Prove the row's statement (the work); the ties are given (YtjpmlagofcgheaaGreatDoorTie.lean); close each card by the builder's one call (the guide's Derived/Test/ToyasCard.lean, 'card_holds'). Laid BY PROGRAM, IN A SANDBOX (cutbox-door.mjs). By AI agents, Wed Nov 11 2026. No macro, syntax, notation, axiom, sorry.
-/
import Derived.Test.YtjpmlagofcgheaaGreatDoorRows
import GoSem.ClaimSeven
namespace Go.Proofs.YtjpmlagofcgheaaGreatDoor
namespace Rows

/-- THE TIED CARD OF 'halyardlaw08.CatalogScript'. -/
def catalogScriptCard : Claim7 := { stood := { row := catalogScriptRow, standIns := [], harness := (true, "a4184e6f39560943d3c58baa08c5cb75054c48888673c7f9490043f0daf2dc4b"), looks := false }, kinds := [], alts := [], laidByText := true, laidKinds := [.data, .data, .data, .data, .data], laidTests := true, laidLooks := .later }
def CatalogScriptCardSaid : Prop := Claim7.holds Tryz.pinned (.plain (OpenSpec.ofChange catalogScriptSpec)) catalogScriptCard

/-- THE TIED CARD OF 'halyardlaw09.WantsContext'. -/
def wantsContextCard : Claim7 := { stood := { row := wantsContextRow, standIns := [], harness := (true, "a4184e6f39560943d3c58baa08c5cb75054c48888673c7f9490043f0daf2dc4b"), looks := false }, kinds := [], alts := [], laidByText := true, laidKinds := [.data, .data, .data, .data, .data], laidTests := true, laidLooks := .later }
def WantsContextCardSaid : Prop := Claim7.holds Tryz.pinned (.plain (OpenSpec.ofChange wantsContextSpec)) wantsContextCard

/-- THE TIED CARD OF 'halyardlaw09.WantsInside'. -/
def wantsInsideCard : Claim7 := { stood := { row := wantsInsideRow, standIns := [], harness := (true, "a4184e6f39560943d3c58baa08c5cb75054c48888673c7f9490043f0daf2dc4b"), looks := false }, kinds := [], alts := [], laidByText := true, laidKinds := [.data, .data, .data, .data, .data], laidTests := true, laidLooks := .later }
def WantsInsideCardSaid : Prop := Claim7.holds Tryz.pinned (.plain (OpenSpec.ofChange wantsInsideSpec)) wantsInsideCard

/-- THE TIED CARD OF 'halyardlaw09.WantsPeers'. -/
def wantsPeersCard : Claim7 := { stood := { row := wantsPeersRow, standIns := [], harness := (true, "a4184e6f39560943d3c58baa08c5cb75054c48888673c7f9490043f0daf2dc4b"), looks := false }, kinds := [], alts := [], laidByText := true, laidKinds := [.data, .data, .data, .data, .data], laidTests := true, laidLooks := .later }
def WantsPeersCardSaid : Prop := Claim7.holds Tryz.pinned (.plain (OpenSpec.ofChange wantsPeersSpec)) wantsPeersCard

/-- THE SECOND FORM's CARD OF 'halyardlaw08.CatalogScript'. -/
def catalogScriptUptoCard : Claim7 := { stood := { row := catalogScriptUptoRow, standIns := [], harness := (true, "a4184e6f39560943d3c58baa08c5cb75054c48888673c7f9490043f0daf2dc4b"), looks := false }, kinds := [], alts := [], laidByText := true, laidKinds := [.data, .data, .data, .data, .data], laidTests := true, laidLooks := .later }
def CatalogScriptUptoCardSaid : Prop := Claim7.holds Tryz.pinned (.plain (OpenSpec.upto catalogScriptSpec)) catalogScriptUptoCard

/-- THE SECOND FORM's CARD OF 'halyardlaw09.WantsContext'. -/
def wantsContextUptoCard : Claim7 := { stood := { row := wantsContextUptoRow, standIns := [], harness := (true, "a4184e6f39560943d3c58baa08c5cb75054c48888673c7f9490043f0daf2dc4b"), looks := false }, kinds := [], alts := [], laidByText := true, laidKinds := [.data, .data, .data, .data, .data], laidTests := true, laidLooks := .later }
def WantsContextUptoCardSaid : Prop := Claim7.holds Tryz.pinned (.plain (OpenSpec.upto wantsContextSpec)) wantsContextUptoCard

/-- THE SECOND FORM's CARD OF 'halyardlaw09.WantsInside'. -/
def wantsInsideUptoCard : Claim7 := { stood := { row := wantsInsideUptoRow, standIns := [], harness := (true, "a4184e6f39560943d3c58baa08c5cb75054c48888673c7f9490043f0daf2dc4b"), looks := false }, kinds := [], alts := [], laidByText := true, laidKinds := [.data, .data, .data, .data, .data], laidTests := true, laidLooks := .later }
def WantsInsideUptoCardSaid : Prop := Claim7.holds Tryz.pinned (.plain (OpenSpec.upto wantsInsideSpec)) wantsInsideUptoCard

/-- THE SECOND FORM's CARD OF 'halyardlaw09.WantsPeers'. -/
def wantsPeersUptoCard : Claim7 := { stood := { row := wantsPeersUptoRow, standIns := [], harness := (true, "a4184e6f39560943d3c58baa08c5cb75054c48888673c7f9490043f0daf2dc4b"), looks := false }, kinds := [], alts := [], laidByText := true, laidKinds := [.data, .data, .data, .data, .data], laidTests := true, laidLooks := .later }
def WantsPeersUptoCardSaid : Prop := Claim7.holds Tryz.pinned (.plain (OpenSpec.upto wantsPeersSpec)) wantsPeersUptoCard
end Rows
end Go.Proofs.YtjpmlagofcgheaaGreatDoor
