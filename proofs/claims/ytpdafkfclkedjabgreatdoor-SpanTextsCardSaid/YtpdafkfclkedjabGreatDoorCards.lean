/-
  DERIVED. GIVEN WITH THE SEED: THE CARDS: each row of YtpdafkfclkedjabGreatDoorRows.lean that lists a variable, with what it lists TIED to the program's text (the seventh form; the later family's looks); each row that meets fmt, with fmt's text TOLD by the authors' own Lean function (tested against real Go, not proved from fmt's source: count such statements apart). THE CARD IS WHAT COUNTS. Prove the row's statement (the work); the ties are given (YtpdafkfclkedjabGreatDoorTie.lean); close each card by the builder's one call (the guide's Derived/Test/ToyasCard.lean, 'card_holds'). Laid BY PROGRAM, IN A SANDBOX (cutbox-door.mjs). By AI agents, Wed Nov 11 2026. No macro, syntax, notation, axiom, sorry.
-/
import Derived.Test.YtpdafkfclkedjabGreatDoorRows
import GoSem.ClaimSeven
namespace Go.Proofs.YtpdafkfclkedjabGreatDoor
namespace Rows

/-- THE TIED CARD OF 'halyardlaw03.SpanSigns'. -/
def spanSignsCard : Claim7 := { stood := { row := spanSignsRow, standIns := [], harness := (true, "05651655b849f65d63e4c39747993abf524bd68f13dd126fe8bf2b8a0a172c38"), looks := true }, kinds := [], alts := [], laidByText := true, laidKinds := [.data, .data, .data, .data, .sentinel, .sentinel, .data, .data, .pinned], laidTests := true, laidLooks := .later }
def SpanSignsCardSaid : Prop := Claim7.holds Tryz.pinned (.plain (OpenSpec.ofChange spanSignsSpec)) spanSignsCard

/-- THE TIED CARD OF 'halyardlaw03.SpanThree'. -/
def spanThreeCard : Claim7 := { stood := { row := spanThreeRow, standIns := [], harness := (true, "05651655b849f65d63e4c39747993abf524bd68f13dd126fe8bf2b8a0a172c38"), looks := true }, kinds := [], alts := [], laidByText := true, laidKinds := [.data, .data, .data, .data, .sentinel, .sentinel, .data, .data, .pinned], laidTests := true, laidLooks := .later }
def SpanThreeCardSaid : Prop := Claim7.holds Tryz.pinned (.plain (OpenSpec.ofChange spanThreeSpec)) spanThreeCard

/-- THE TIED CARD OF 'halyardlaw03.SpanTexts'. -/
def spanTextsCard : Claim7 := { stood := { row := spanTextsRow, standIns := [], harness := (true, "05651655b849f65d63e4c39747993abf524bd68f13dd126fe8bf2b8a0a172c38"), looks := true }, kinds := [], alts := [], laidByText := true, laidKinds := [.data, .data, .data, .data, .sentinel, .sentinel, .data, .data, .pinned], laidTests := true, laidLooks := .later }
def SpanTextsCardSaid : Prop := Claim7.holds Tryz.pinned (.plain (OpenSpec.ofChange spanTextsSpec)) spanTextsCard

/-- THE SECOND FORM's CARD OF 'halyardlaw03.SpanSigns'. -/
def spanSignsUptoCard : Claim7 := { stood := { row := spanSignsUptoRow, standIns := [], harness := (true, "05651655b849f65d63e4c39747993abf524bd68f13dd126fe8bf2b8a0a172c38"), looks := true }, kinds := [], alts := [], laidByText := true, laidKinds := [.data, .data, .data, .data, .sentinel, .sentinel, .data, .data, .pinned], laidTests := true, laidLooks := .later }
def SpanSignsUptoCardSaid : Prop := Claim7.holds Tryz.pinned (.plain (OpenSpec.upto spanSignsSpec)) spanSignsUptoCard

/-- THE SECOND FORM's CARD OF 'halyardlaw03.SpanThree'. -/
def spanThreeUptoCard : Claim7 := { stood := { row := spanThreeUptoRow, standIns := [], harness := (true, "05651655b849f65d63e4c39747993abf524bd68f13dd126fe8bf2b8a0a172c38"), looks := true }, kinds := [], alts := [], laidByText := true, laidKinds := [.data, .data, .data, .data, .sentinel, .sentinel, .data, .data, .pinned], laidTests := true, laidLooks := .later }
def SpanThreeUptoCardSaid : Prop := Claim7.holds Tryz.pinned (.plain (OpenSpec.upto spanThreeSpec)) spanThreeUptoCard

/-- THE SECOND FORM's CARD OF 'halyardlaw03.SpanTexts'. -/
def spanTextsUptoCard : Claim7 := { stood := { row := spanTextsUptoRow, standIns := [], harness := (true, "05651655b849f65d63e4c39747993abf524bd68f13dd126fe8bf2b8a0a172c38"), looks := true }, kinds := [], alts := [], laidByText := true, laidKinds := [.data, .data, .data, .data, .sentinel, .sentinel, .data, .data, .pinned], laidTests := true, laidLooks := .later }
def SpanTextsUptoCardSaid : Prop := Claim7.holds Tryz.pinned (.plain (OpenSpec.upto spanTextsSpec)) spanTextsUptoCard
end Rows
end Go.Proofs.YtpdafkfclkedjabGreatDoor
