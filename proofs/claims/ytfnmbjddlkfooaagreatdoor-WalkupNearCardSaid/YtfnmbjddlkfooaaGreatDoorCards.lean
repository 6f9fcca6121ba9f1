/-
  DERIVED. GIVEN WITH THE SEED: THE CARDS: each row of YtfnmbjddlkfooaaGreatDoorRows.lean that lists a variable, with what it lists TIED to the program's text (the seventh form; the later family's looks); each row that meets fmt, with fmt's text TOLD by the authors' own Lean function (tested against real Go, not proved from fmt's source: count such statements apart). THE CARD IS WHAT COUNTS. Prove the row's statement (the work); the ties are given (YtfnmbjddlkfooaaGreatDoorTie.lean); close each card by the builder's one call (the guide's Derived/Test/ToyasCard.lean, 'card_holds'). Laid BY PROGRAM, IN A SANDBOX (cutbox-door.mjs). By AI agents, Wed Nov 11 2026. No macro, syntax, notation, axiom, sorry.
-/
import Derived.Test.YtfnmbjddlkfooaaGreatDoorRows
import GoSem.ClaimSeven
namespace Go.Proofs.YtfnmbjddlkfooaaGreatDoor
namespace Rows

/-- THE TIED CARD OF 'halyardlaw13.WalkupMaps'. -/
def walkupMapsCard : Claim7 := { stood := { row := walkupMapsRow, standIns := [], harness := (true, "21114ea69ad59f81005aabbf3851490c88379e03fe77e7dfd1d8e191b9de4d2e"), looks := false }, kinds := [], alts := [], laidByText := true, laidKinds := [.data, .data, .data, .data, .data], laidTests := true, laidLooks := .later }
def WalkupMapsCardSaid : Prop := Claim7.holds Tryz.pinned (.plain (OpenSpec.ofChange walkupMapsSpec)) walkupMapsCard

/-- THE TIED CARD OF 'halyardlaw13.WalkupNear'. -/
def walkupNearCard : Claim7 := { stood := { row := walkupNearRow, standIns := [], harness := (true, "21114ea69ad59f81005aabbf3851490c88379e03fe77e7dfd1d8e191b9de4d2e"), looks := false }, kinds := [], alts := [], laidByText := true, laidKinds := [.data, .data, .data, .data, .data], laidTests := true, laidLooks := .later }
def WalkupNearCardSaid : Prop := Claim7.holds Tryz.pinned (.plain (OpenSpec.ofChange walkupNearSpec)) walkupNearCard

/-- THE TIED CARD OF 'halyardlaw13.WalkupSelf'. -/
def walkupSelfCard : Claim7 := { stood := { row := walkupSelfRow, standIns := [], harness := (true, "21114ea69ad59f81005aabbf3851490c88379e03fe77e7dfd1d8e191b9de4d2e"), looks := false }, kinds := [], alts := [], laidByText := true, laidKinds := [.data, .data, .data, .data, .data], laidTests := true, laidLooks := .later }
def WalkupSelfCardSaid : Prop := Claim7.holds Tryz.pinned (.plain (OpenSpec.ofChange walkupSelfSpec)) walkupSelfCard

/-- THE SECOND FORM's CARD OF 'halyardlaw13.WalkupMaps'. -/
def walkupMapsUptoCard : Claim7 := { stood := { row := walkupMapsUptoRow, standIns := [], harness := (true, "21114ea69ad59f81005aabbf3851490c88379e03fe77e7dfd1d8e191b9de4d2e"), looks := false }, kinds := [], alts := [], laidByText := true, laidKinds := [.data, .data, .data, .data, .data], laidTests := true, laidLooks := .later }
def WalkupMapsUptoCardSaid : Prop := Claim7.holds Tryz.pinned (.plain (OpenSpec.upto walkupMapsSpec)) walkupMapsUptoCard

/-- THE SECOND FORM's CARD OF 'halyardlaw13.WalkupNear'. -/
def walkupNearUptoCard : Claim7 := { stood := { row := walkupNearUptoRow, standIns := [], harness := (true, "21114ea69ad59f81005aabbf3851490c88379e03fe77e7dfd1d8e191b9de4d2e"), looks := false }, kinds := [], alts := [], laidByText := true, laidKinds := [.data, .data, .data, .data, .data], laidTests := true, laidLooks := .later }
def WalkupNearUptoCardSaid : Prop := Claim7.holds Tryz.pinned (.plain (OpenSpec.upto walkupNearSpec)) walkupNearUptoCard

/-- THE SECOND FORM's CARD OF 'halyardlaw13.WalkupSelf'. -/
def walkupSelfUptoCard : Claim7 := { stood := { row := walkupSelfUptoRow, standIns := [], harness := (true, "21114ea69ad59f81005aabbf3851490c88379e03fe77e7dfd1d8e191b9de4d2e"), looks := false }, kinds := [], alts := [], laidByText := true, laidKinds := [.data, .data, .data, .data, .data], laidTests := true, laidLooks := .later }
def WalkupSelfUptoCardSaid : Prop := Claim7.holds Tryz.pinned (.plain (OpenSpec.upto walkupSelfSpec)) walkupSelfUptoCard
end Rows
end Go.Proofs.YtfnmbjddlkfooaaGreatDoor
