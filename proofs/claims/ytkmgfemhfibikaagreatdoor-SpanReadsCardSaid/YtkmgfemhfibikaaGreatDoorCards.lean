/-
  DERIVED. GIVEN WITH THE SEED: THE CARDS: each row of YtkmgfemhfibikaaGreatDoorRows.lean that lists a variable, with what it lists TIED to the program's text (the seventh form; the later family's looks); each row that meets fmt, with fmt's text TOLD by the authors' own Lean function (tested against real Go, not proved from fmt's source: count such statements apart). THE CARD IS WHAT COUNTS. Prove the row's statement (the work); the ties are given (YtkmgfemhfibikaaGreatDoorTie.lean); close each card by the builder's one call (the guide's Derived/Test/ToyasCard.lean, 'card_holds'). Laid BY PROGRAM, IN A SANDBOX (cutbox-door.mjs). By AI agents, Wed Nov 11 2026. No macro, syntax, notation, axiom, sorry.
-/
import Derived.Test.YtkmgfemhfibikaaGreatDoorRows
import GoSem.ClaimSeven
namespace Go.Proofs.YtkmgfemhfibikaaGreatDoor
namespace Rows

/-- THE TIED CARD OF 'halyardlaw03.SpanFolds'. -/
def spanFoldsCard : Claim7 := { stood := { row := spanFoldsRow, standIns := [], harness := (true, "6eec37778c761a499032a0c1b69cf5d815d372c60783aa0ddb90e6f69a5e5727"), looks := true }, kinds := [], alts := [], laidByText := true, laidKinds := [.data, .data, .data, .data, .sentinel, .sentinel, .data, .data, .pinned], laidTests := true, laidLooks := .later }
def SpanFoldsCardSaid : Prop := Claim7.holds Tryz.pinned (.plain (OpenSpec.ofChange spanFoldsSpec)) spanFoldsCard

/-- THE TIED CARD OF 'halyardlaw03.SpanReads'. -/
def spanReadsCard : Claim7 := { stood := { row := spanReadsRow, standIns := [], harness := (true, "6eec37778c761a499032a0c1b69cf5d815d372c60783aa0ddb90e6f69a5e5727"), looks := true }, kinds := [], alts := [], laidByText := true, laidKinds := [.data, .data, .data, .data, .sentinel, .sentinel, .data, .data, .pinned], laidTests := true, laidLooks := .later }
def SpanReadsCardSaid : Prop := Claim7.holds Tryz.pinned (.plain (OpenSpec.ofChange spanReadsSpec)) spanReadsCard

/-- THE SECOND FORM's CARD OF 'halyardlaw03.SpanFolds'. -/
def spanFoldsUptoCard : Claim7 := { stood := { row := spanFoldsUptoRow, standIns := [], harness := (true, "6eec37778c761a499032a0c1b69cf5d815d372c60783aa0ddb90e6f69a5e5727"), looks := true }, kinds := [], alts := [], laidByText := true, laidKinds := [.data, .data, .data, .data, .sentinel, .sentinel, .data, .data, .pinned], laidTests := true, laidLooks := .later }
def SpanFoldsUptoCardSaid : Prop := Claim7.holds Tryz.pinned (.plain (OpenSpec.upto spanFoldsSpec)) spanFoldsUptoCard

/-- THE SECOND FORM's CARD OF 'halyardlaw03.SpanReads'. -/
def spanReadsUptoCard : Claim7 := { stood := { row := spanReadsUptoRow, standIns := [], harness := (true, "6eec37778c761a499032a0c1b69cf5d815d372c60783aa0ddb90e6f69a5e5727"), looks := true }, kinds := [], alts := [], laidByText := true, laidKinds := [.data, .data, .data, .data, .sentinel, .sentinel, .data, .data, .pinned], laidTests := true, laidLooks := .later }
def SpanReadsUptoCardSaid : Prop := Claim7.holds Tryz.pinned (.plain (OpenSpec.upto spanReadsSpec)) spanReadsUptoCard
end Rows
end Go.Proofs.YtkmgfemhfibikaaGreatDoor
