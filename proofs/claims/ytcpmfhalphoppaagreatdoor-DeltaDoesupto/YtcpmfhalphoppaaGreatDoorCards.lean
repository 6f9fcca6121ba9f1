/-
  DERIVED. GIVEN WITH THE SEED: THE CARDS: each row of YtcpmfhalphoppaaGreatDoorRows.lean that lists a variable, with what it lists TIED to the program's text (the seventh form; the later family's looks); each row that meets fmt, with fmt's text TOLD by the authors' own Lean function (tested against real Go, not proved from fmt's source: count such statements apart). THE CARD IS WHAT COUNTS. Prove the row's statement (the work); the ties are given (YtcpmfhalphoppaaGreatDoorTie.lean); close each card by the builder's one call (the guide's Derived/Test/ToyasCard.lean, 'card_holds'). Laid BY PROGRAM, IN A SANDBOX (cutbox-door.mjs). By AI agents, Wed Nov 11 2026. No macro, syntax, notation, axiom, sorry.
-/
import Derived.Test.YtcpmfhalphoppaaGreatDoorRows
import GoSem.ClaimSeven
namespace Go.Proofs.YtcpmfhalphoppaaGreatDoor
namespace Rows

/-- THE TIED CARD OF 'halyardlaw16.DeltaDoes'. -/
def deltaDoesCard : Claim7 := { stood := { row := deltaDoesRow, standIns := [], harness := (true, "8a3a0061899c55c00f4d58ecb70342a475d59f2e8ebceebee4abdaa0ade3ded9"), looks := false }, kinds := [], alts := [], laidByText := true, laidKinds := [.data, .pinned], laidTests := true, laidLooks := .later }
def DeltaDoesCardSaid : Prop := Claim7.holds Tryz.pinned (.plain (OpenSpec.ofChange deltaDoesSpec)) deltaDoesCard

/-- THE SECOND FORM's CARD OF 'halyardlaw16.DeltaDoes'. -/
def deltaDoesUptoCard : Claim7 := { stood := { row := deltaDoesUptoRow, standIns := [], harness := (true, "8a3a0061899c55c00f4d58ecb70342a475d59f2e8ebceebee4abdaa0ade3ded9"), looks := false }, kinds := [], alts := [], laidByText := true, laidKinds := [.data, .pinned], laidTests := true, laidLooks := .later }
def DeltaDoesUptoCardSaid : Prop := Claim7.holds Tryz.pinned (.plain (OpenSpec.upto deltaDoesSpec)) deltaDoesUptoCard
end Rows
end Go.Proofs.YtcpmfhalphoppaaGreatDoor
