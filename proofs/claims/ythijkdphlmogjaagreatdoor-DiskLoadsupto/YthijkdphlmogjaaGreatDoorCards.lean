/-
  DERIVED. GIVEN WITH THE SEED: THE CARDS: each row of YthijkdphlmogjaaGreatDoorRows.lean that lists a variable, with what it lists TIED to the program's text (the seventh form; the later family's looks); each row that meets fmt, with fmt's text TOLD by the authors' own Lean function (tested against real Go, not proved from fmt's source: count such statements apart). THE CARD IS WHAT COUNTS. Prove the row's statement (the work); the ties are given (YthijkdphlmogjaaGreatDoorTie.lean); close each card by the builder's one call (the guide's Derived/Test/ToyasCard.lean, 'card_holds'). Laid BY PROGRAM, IN A SANDBOX (cutbox-door.mjs). By AI agents, Wed Nov 11 2026. No macro, syntax, notation, axiom, sorry.
-/
import Derived.Test.YthijkdphlmogjaaGreatDoorRows
import GoSem.ClaimSeven
namespace Go.Proofs.YthijkdphlmogjaaGreatDoor
namespace Rows

/-- THE TIED CARD OF 'halyardlaw01.DiskLoads'. -/
def diskLoadsCard : Claim7 := { stood := { row := diskLoadsRow, standIns := [], harness := (true, "fdc2bc458f0b867ee0902d6e31da69f509d29aed9ff5d4db27ad6d1d14863d4a"), looks := false }, kinds := [], alts := [], laidByText := true, laidKinds := [.data, .pinned], laidTests := true, laidLooks := .later }
def DiskLoadsCardSaid : Prop := Claim7.holds Tryz.pinned (.plain (OpenSpec.ofChange diskLoadsSpec)) diskLoadsCard

/-- THE TIED CARD OF 'halyardlaw01.DiskSound'. -/
def diskSoundCard : Claim7 := { stood := { row := diskSoundRow, standIns := [], harness := (true, "fdc2bc458f0b867ee0902d6e31da69f509d29aed9ff5d4db27ad6d1d14863d4a"), looks := false }, kinds := [], alts := [], laidByText := true, laidKinds := [.data, .pinned], laidTests := true, laidLooks := .later }
def DiskSoundCardSaid : Prop := Claim7.holds Tryz.pinned (.plain (OpenSpec.ofChange diskSoundSpec)) diskSoundCard

/-- THE TIED CARD OF 'halyardlaw01.DiskAgain'. -/
def diskAgainCard : Claim7 := { stood := { row := diskAgainRow, standIns := [], harness := (true, "fdc2bc458f0b867ee0902d6e31da69f509d29aed9ff5d4db27ad6d1d14863d4a"), looks := false }, kinds := [], alts := [], laidByText := true, laidKinds := [.data, .pinned], laidTests := true, laidLooks := .later }
def DiskAgainCardSaid : Prop := Claim7.holds Tryz.pinned (.plain (OpenSpec.ofChange diskAgainSpec)) diskAgainCard

/-- THE SECOND FORM's CARD OF 'halyardlaw01.DiskLoads'. -/
def diskLoadsUptoCard : Claim7 := { stood := { row := diskLoadsUptoRow, standIns := [], harness := (true, "fdc2bc458f0b867ee0902d6e31da69f509d29aed9ff5d4db27ad6d1d14863d4a"), looks := false }, kinds := [], alts := [], laidByText := true, laidKinds := [.data, .pinned], laidTests := true, laidLooks := .later }
def DiskLoadsUptoCardSaid : Prop := Claim7.holds Tryz.pinned (.plain (OpenSpec.upto diskLoadsSpec)) diskLoadsUptoCard

/-- THE SECOND FORM's CARD OF 'halyardlaw01.DiskSound'. -/
def diskSoundUptoCard : Claim7 := { stood := { row := diskSoundUptoRow, standIns := [], harness := (true, "fdc2bc458f0b867ee0902d6e31da69f509d29aed9ff5d4db27ad6d1d14863d4a"), looks := false }, kinds := [], alts := [], laidByText := true, laidKinds := [.data, .pinned], laidTests := true, laidLooks := .later }
def DiskSoundUptoCardSaid : Prop := Claim7.holds Tryz.pinned (.plain (OpenSpec.upto diskSoundSpec)) diskSoundUptoCard

/-- THE SECOND FORM's CARD OF 'halyardlaw01.DiskAgain'. -/
def diskAgainUptoCard : Claim7 := { stood := { row := diskAgainUptoRow, standIns := [], harness := (true, "fdc2bc458f0b867ee0902d6e31da69f509d29aed9ff5d4db27ad6d1d14863d4a"), looks := false }, kinds := [], alts := [], laidByText := true, laidKinds := [.data, .pinned], laidTests := true, laidLooks := .later }
def DiskAgainUptoCardSaid : Prop := Claim7.holds Tryz.pinned (.plain (OpenSpec.upto diskAgainSpec)) diskAgainUptoCard
end Rows
end Go.Proofs.YthijkdphlmogjaaGreatDoor
