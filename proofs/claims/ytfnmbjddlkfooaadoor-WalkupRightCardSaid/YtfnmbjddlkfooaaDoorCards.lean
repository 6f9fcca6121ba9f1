/-
  DERIVED. GIVEN WITH THE SEED: THE CARDS: each row of YtfnmbjddlkfooaaDoorRows.lean that lists a variable, with what it lists TIED to the program's text (the seventh form; the later family's looks); each row that meets fmt, with fmt's text TOLD by the authors' own Lean function (tested against real Go, not proved from fmt's source: count such statements apart). THE CARD IS WHAT COUNTS. Prove the row's statement (the work); the ties are given (YtfnmbjddlkfooaaDoorTie.lean); close each card by the builder's one call (the guide's Derived/Test/ToyasCard.lean, 'card_holds'). Laid BY PROGRAM, IN A SANDBOX (cutbox-door.mjs). By AI agents, Wed Nov 11 2026. No macro, syntax, notation, axiom, sorry.
-/
import Derived.Test.YtfnmbjddlkfooaaDoorRows
import GoSem.ClaimSeven
namespace Go.Proofs.YtfnmbjddlkfooaaDoor
namespace Rows

/-- THE TIED CARD OF 'halyardlaw13.WalkupLooks'. -/
def walkupLooksCard : Claim7 := { stood := { row := walkupLooksRow, standIns := [], harness := (true, "9ff5d808caac5ec77ab4dc35dafb43ef67b65890c9a54cb424d471184f4b2963"), looks := false }, kinds := [], alts := [], laidByText := true, laidKinds := [.data, .data, .data, .data, .data], laidTests := true, laidLooks := .later }
def WalkupLooksCardSaid : Prop := Claim7.holds Tryd.pinned (.plain (OpenSpec.ofChange walkupLooksSpec)) walkupLooksCard

/-- THE TIED CARD OF 'halyardlaw13.WalkupRight'. -/
def walkupRightCard : Claim7 := { stood := { row := walkupRightRow, standIns := [], harness := (true, "9ff5d808caac5ec77ab4dc35dafb43ef67b65890c9a54cb424d471184f4b2963"), looks := false }, kinds := [], alts := [], laidByText := true, laidKinds := [.data, .data, .data, .data, .data], laidTests := true, laidLooks := .later }
def WalkupRightCardSaid : Prop := Claim7.holds Tryd.pinned (.plain (OpenSpec.ofChange walkupRightSpec)) walkupRightCard

/-- THE SECOND FORM's CARD OF 'halyardlaw13.WalkupLooks'. -/
def walkupLooksUptoCard : Claim7 := { stood := { row := walkupLooksUptoRow, standIns := [], harness := (true, "9ff5d808caac5ec77ab4dc35dafb43ef67b65890c9a54cb424d471184f4b2963"), looks := false }, kinds := [], alts := [], laidByText := true, laidKinds := [.data, .data, .data, .data, .data], laidTests := true, laidLooks := .later }
def WalkupLooksUptoCardSaid : Prop := Claim7.holds Tryd.pinned (.plain (OpenSpec.upto walkupLooksSpec)) walkupLooksUptoCard

/-- THE SECOND FORM's CARD OF 'halyardlaw13.WalkupRight'. -/
def walkupRightUptoCard : Claim7 := { stood := { row := walkupRightUptoRow, standIns := [], harness := (true, "9ff5d808caac5ec77ab4dc35dafb43ef67b65890c9a54cb424d471184f4b2963"), looks := false }, kinds := [], alts := [], laidByText := true, laidKinds := [.data, .data, .data, .data, .data], laidTests := true, laidLooks := .later }
def WalkupRightUptoCardSaid : Prop := Claim7.holds Tryd.pinned (.plain (OpenSpec.upto walkupRightSpec)) walkupRightUptoCard
end Rows
end Go.Proofs.YtfnmbjddlkfooaaDoor
