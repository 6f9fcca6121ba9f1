/-
  DERIVED. GIVEN WITH THE SEED: THE CARDS: each row of YtabocemcbekioaaGreatDoorRows.lean that lists a variable, with what it lists TIED to the program's text (the seventh form; the later family's looks); each row that meets fmt, with fmt's text TOLD by the authors' own Lean function (tested against real Go, not proved from fmt's source: count such statements apart). THE CARD IS WHAT COUNTS. Prove the row's statement (the work); the ties are given (YtabocemcbekioaaGreatDoorTie.lean); close each card by the builder's one call (the guide's Derived/Test/ToyasCard.lean, 'card_holds'). Laid BY PROGRAM, IN A SANDBOX (cutbox-door.mjs). By AI agents, Wed Nov 11 2026. No macro, syntax, notation, axiom, sorry.
-/
import Derived.Test.YtabocemcbekioaaGreatDoorRows
import GoSem.ClaimSeven
namespace Go.Proofs.YtabocemcbekioaaGreatDoor
namespace Rows

/-- THE TIED CARD OF 'halyardlaw05.PackMay'. -/
def packMayCard : Claim7 := { stood := { row := packMayRow, standIns := [], harness := (true, "87b576a205ddaca1f4b423e102ebbfbdc4663cdb68336c8a3f989864a8a4a4ad"), looks := true }, kinds := [], alts := [], laidByText := true, laidKinds := [.data, .data, .data, .data, .sentinel, .sentinel, .data, .data, .pinned], laidTests := true, laidLooks := .later }
def PackMayCardSaid : Prop := Claim7.holds Tryz.pinned (.plain (OpenSpec.ofChange packMaySpec)) packMayCard

/-- THE TIED CARD OF 'halyardlaw05.PackWrites'. -/
def packWritesCard : Claim7 := { stood := { row := packWritesRow, standIns := [], harness := (true, "87b576a205ddaca1f4b423e102ebbfbdc4663cdb68336c8a3f989864a8a4a4ad"), looks := true }, kinds := [], alts := [], laidByText := true, laidKinds := [.data, .data, .data, .data, .sentinel, .sentinel, .data, .data, .pinned], laidTests := true, laidLooks := .later }
def PackWritesCardSaid : Prop := Claim7.holds Tryz.pinned (.plain (OpenSpec.ofChange packWritesSpec)) packWritesCard

/-- THE TIED CARD OF 'halyardlaw05.PackReads'. -/
def packReadsCard : Claim7 := { stood := { row := packReadsRow, standIns := [], harness := (true, "87b576a205ddaca1f4b423e102ebbfbdc4663cdb68336c8a3f989864a8a4a4ad"), looks := true }, kinds := [], alts := [], laidByText := true, laidKinds := [.data, .data, .data, .data, .sentinel, .sentinel, .data, .data, .pinned], laidTests := true, laidLooks := .later }
def PackReadsCardSaid : Prop := Claim7.holds Tryz.pinned (.plain (OpenSpec.ofChange packReadsSpec)) packReadsCard

/-- THE TIED CARD OF 'halyardlaw05.PackAgain'. -/
def packAgainCard : Claim7 := { stood := { row := packAgainRow, standIns := [], harness := (true, "87b576a205ddaca1f4b423e102ebbfbdc4663cdb68336c8a3f989864a8a4a4ad"), looks := true }, kinds := [], alts := [], laidByText := true, laidKinds := [.data, .data, .data, .data, .sentinel, .sentinel, .data, .data, .pinned], laidTests := true, laidLooks := .later }
def PackAgainCardSaid : Prop := Claim7.holds Tryz.pinned (.plain (OpenSpec.ofChange packAgainSpec)) packAgainCard

/-- THE TIED CARD OF 'halyardlaw05.PackRanges'. -/
def packRangesCard : Claim7 := { stood := { row := packRangesRow, standIns := [], harness := (true, "87b576a205ddaca1f4b423e102ebbfbdc4663cdb68336c8a3f989864a8a4a4ad"), looks := true }, kinds := [], alts := [], laidByText := true, laidKinds := [.data, .data, .data, .data, .sentinel, .sentinel, .data, .data, .pinned], laidTests := true, laidLooks := .later }
def PackRangesCardSaid : Prop := Claim7.holds Tryz.pinned (.plain (OpenSpec.ofChange packRangesSpec)) packRangesCard

/-- THE TIED CARD OF 'halyardlaw05.PackTexts'. -/
def packTextsCard : Claim7 := { stood := { row := packTextsRow, standIns := [], harness := (true, "87b576a205ddaca1f4b423e102ebbfbdc4663cdb68336c8a3f989864a8a4a4ad"), looks := true }, kinds := [], alts := [], laidByText := true, laidKinds := [.data, .data, .data, .data, .sentinel, .sentinel, .data, .data, .pinned], laidTests := true, laidLooks := .later }
def PackTextsCardSaid : Prop := Claim7.holds Tryz.pinned (.plain (OpenSpec.ofChange packTextsSpec)) packTextsCard

/-- THE SECOND FORM's CARD OF 'halyardlaw05.PackMay'. -/
def packMayUptoCard : Claim7 := { stood := { row := packMayUptoRow, standIns := [], harness := (true, "87b576a205ddaca1f4b423e102ebbfbdc4663cdb68336c8a3f989864a8a4a4ad"), looks := true }, kinds := [], alts := [], laidByText := true, laidKinds := [.data, .data, .data, .data, .sentinel, .sentinel, .data, .data, .pinned], laidTests := true, laidLooks := .later }
def PackMayUptoCardSaid : Prop := Claim7.holds Tryz.pinned (.plain (OpenSpec.upto packMaySpec)) packMayUptoCard

/-- THE SECOND FORM's CARD OF 'halyardlaw05.PackWrites'. -/
def packWritesUptoCard : Claim7 := { stood := { row := packWritesUptoRow, standIns := [], harness := (true, "87b576a205ddaca1f4b423e102ebbfbdc4663cdb68336c8a3f989864a8a4a4ad"), looks := true }, kinds := [], alts := [], laidByText := true, laidKinds := [.data, .data, .data, .data, .sentinel, .sentinel, .data, .data, .pinned], laidTests := true, laidLooks := .later }
def PackWritesUptoCardSaid : Prop := Claim7.holds Tryz.pinned (.plain (OpenSpec.upto packWritesSpec)) packWritesUptoCard

/-- THE SECOND FORM's CARD OF 'halyardlaw05.PackReads'. -/
def packReadsUptoCard : Claim7 := { stood := { row := packReadsUptoRow, standIns := [], harness := (true, "87b576a205ddaca1f4b423e102ebbfbdc4663cdb68336c8a3f989864a8a4a4ad"), looks := true }, kinds := [], alts := [], laidByText := true, laidKinds := [.data, .data, .data, .data, .sentinel, .sentinel, .data, .data, .pinned], laidTests := true, laidLooks := .later }
def PackReadsUptoCardSaid : Prop := Claim7.holds Tryz.pinned (.plain (OpenSpec.upto packReadsSpec)) packReadsUptoCard

/-- THE SECOND FORM's CARD OF 'halyardlaw05.PackAgain'. -/
def packAgainUptoCard : Claim7 := { stood := { row := packAgainUptoRow, standIns := [], harness := (true, "87b576a205ddaca1f4b423e102ebbfbdc4663cdb68336c8a3f989864a8a4a4ad"), looks := true }, kinds := [], alts := [], laidByText := true, laidKinds := [.data, .data, .data, .data, .sentinel, .sentinel, .data, .data, .pinned], laidTests := true, laidLooks := .later }
def PackAgainUptoCardSaid : Prop := Claim7.holds Tryz.pinned (.plain (OpenSpec.upto packAgainSpec)) packAgainUptoCard

/-- THE SECOND FORM's CARD OF 'halyardlaw05.PackRanges'. -/
def packRangesUptoCard : Claim7 := { stood := { row := packRangesUptoRow, standIns := [], harness := (true, "87b576a205ddaca1f4b423e102ebbfbdc4663cdb68336c8a3f989864a8a4a4ad"), looks := true }, kinds := [], alts := [], laidByText := true, laidKinds := [.data, .data, .data, .data, .sentinel, .sentinel, .data, .data, .pinned], laidTests := true, laidLooks := .later }
def PackRangesUptoCardSaid : Prop := Claim7.holds Tryz.pinned (.plain (OpenSpec.upto packRangesSpec)) packRangesUptoCard

/-- THE SECOND FORM's CARD OF 'halyardlaw05.PackTexts'. -/
def packTextsUptoCard : Claim7 := { stood := { row := packTextsUptoRow, standIns := [], harness := (true, "87b576a205ddaca1f4b423e102ebbfbdc4663cdb68336c8a3f989864a8a4a4ad"), looks := true }, kinds := [], alts := [], laidByText := true, laidKinds := [.data, .data, .data, .data, .sentinel, .sentinel, .data, .data, .pinned], laidTests := true, laidLooks := .later }
def PackTextsUptoCardSaid : Prop := Claim7.holds Tryz.pinned (.plain (OpenSpec.upto packTextsSpec)) packTextsUptoCard
end Rows
end Go.Proofs.YtabocemcbekioaaGreatDoor
