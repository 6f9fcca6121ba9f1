/-
  DERIVED. GIVEN WITH THE SEED: THE CARDS: each row of YtpkllhgohkgcmaaGreatDoorRows.lean that lists a variable, with what it lists TIED to the program's text (the seventh form; the later family's looks); each row that meets fmt, with fmt's text TOLD by the authors' own Lean function (tested against real Go, not proved from fmt's source: count such statements apart). THE CARD IS WHAT COUNTS. Prove the row's statement (the work); the ties are given (YtpkllhgohkgcmaaGreatDoorTie.lean); close each card by the builder's one call (the guide's Derived/Test/ToyasCard.lean, 'card_holds'). Laid BY PROGRAM, IN A SANDBOX (cutbox-door.mjs). By AI agents, Wed Nov 11 2026. No macro, syntax, notation, axiom, sorry.
-/
import Derived.Test.YtpkllhgohkgcmaaGreatDoorRows
import GoSem.ClaimSeven
namespace Go.Proofs.YtpkllhgohkgcmaaGreatDoor
namespace Rows

/-- THE TIED CARD OF 'halyardlaw01.DiskPlays'. -/
def diskPlaysCard : Claim7 := { stood := { row := diskPlaysRow, standIns := [], harness := (true, "2ca97c369a5167659b50b8c8b903df629792d0444e00b5d2e0197b95708c577c"), looks := false }, kinds := [], alts := [], laidByText := true, laidKinds := [.data, .pinned], laidTests := true, laidLooks := .later }
def DiskPlaysCardSaid : Prop := Claim7.holds Tryz.pinned (.plain (OpenSpec.ofChange diskPlaysSpec)) diskPlaysCard

/-- THE TIED CARD OF 'halyardlaw01.DiskLoads'. -/
def diskLoadsCard : Claim7 := { stood := { row := diskLoadsRow, standIns := [], harness := (true, "2ca97c369a5167659b50b8c8b903df629792d0444e00b5d2e0197b95708c577c"), looks := false }, kinds := [], alts := [], laidByText := true, laidKinds := [.data, .pinned], laidTests := true, laidLooks := .later }
def DiskLoadsCardSaid : Prop := Claim7.holds Tryz.pinned (.plain (OpenSpec.ofChange diskLoadsSpec)) diskLoadsCard

/-- THE TIED CARD OF 'halyardlaw01.DiskSound'. -/
def diskSoundCard : Claim7 := { stood := { row := diskSoundRow, standIns := [], harness := (true, "2ca97c369a5167659b50b8c8b903df629792d0444e00b5d2e0197b95708c577c"), looks := false }, kinds := [], alts := [], laidByText := true, laidKinds := [.data, .pinned], laidTests := true, laidLooks := .later }
def DiskSoundCardSaid : Prop := Claim7.holds Tryz.pinned (.plain (OpenSpec.ofChange diskSoundSpec)) diskSoundCard

/-- THE TIED CARD OF 'halyardlaw01.DiskWhole'. -/
def diskWholeCard : Claim7 := { stood := { row := diskWholeRow, standIns := [], harness := (true, "2ca97c369a5167659b50b8c8b903df629792d0444e00b5d2e0197b95708c577c"), looks := false }, kinds := [], alts := [], laidByText := true, laidKinds := [.data, .pinned], laidTests := true, laidLooks := .later }
def DiskWholeCardSaid : Prop := Claim7.holds Tryz.pinned (.plain (OpenSpec.ofChange diskWholeSpec)) diskWholeCard

/-- THE TIED CARD OF 'halyardlaw01.DiskOwns'. -/
def diskOwnsCard : Claim7 := { stood := { row := diskOwnsRow, standIns := [], harness := (true, "2ca97c369a5167659b50b8c8b903df629792d0444e00b5d2e0197b95708c577c"), looks := false }, kinds := [], alts := [], laidByText := true, laidKinds := [.data, .pinned], laidTests := true, laidLooks := .later }
def DiskOwnsCardSaid : Prop := Claim7.holds Tryz.pinned (.plain (OpenSpec.ofChange diskOwnsSpec)) diskOwnsCard

/-- THE SECOND FORM's CARD OF 'halyardlaw01.DiskPlays'. -/
def diskPlaysUptoCard : Claim7 := { stood := { row := diskPlaysUptoRow, standIns := [], harness := (true, "2ca97c369a5167659b50b8c8b903df629792d0444e00b5d2e0197b95708c577c"), looks := false }, kinds := [], alts := [], laidByText := true, laidKinds := [.data, .pinned], laidTests := true, laidLooks := .later }
def DiskPlaysUptoCardSaid : Prop := Claim7.holds Tryz.pinned (.plain (OpenSpec.upto diskPlaysSpec)) diskPlaysUptoCard

/-- THE SECOND FORM's CARD OF 'halyardlaw01.DiskLoads'. -/
def diskLoadsUptoCard : Claim7 := { stood := { row := diskLoadsUptoRow, standIns := [], harness := (true, "2ca97c369a5167659b50b8c8b903df629792d0444e00b5d2e0197b95708c577c"), looks := false }, kinds := [], alts := [], laidByText := true, laidKinds := [.data, .pinned], laidTests := true, laidLooks := .later }
def DiskLoadsUptoCardSaid : Prop := Claim7.holds Tryz.pinned (.plain (OpenSpec.upto diskLoadsSpec)) diskLoadsUptoCard

/-- THE SECOND FORM's CARD OF 'halyardlaw01.DiskSound'. -/
def diskSoundUptoCard : Claim7 := { stood := { row := diskSoundUptoRow, standIns := [], harness := (true, "2ca97c369a5167659b50b8c8b903df629792d0444e00b5d2e0197b95708c577c"), looks := false }, kinds := [], alts := [], laidByText := true, laidKinds := [.data, .pinned], laidTests := true, laidLooks := .later }
def DiskSoundUptoCardSaid : Prop := Claim7.holds Tryz.pinned (.plain (OpenSpec.upto diskSoundSpec)) diskSoundUptoCard

/-- THE SECOND FORM's CARD OF 'halyardlaw01.DiskWhole'. -/
def diskWholeUptoCard : Claim7 := { stood := { row := diskWholeUptoRow, standIns := [], harness := (true, "2ca97c369a5167659b50b8c8b903df629792d0444e00b5d2e0197b95708c577c"), looks := false }, kinds := [], alts := [], laidByText := true, laidKinds := [.data, .pinned], laidTests := true, laidLooks := .later }
def DiskWholeUptoCardSaid : Prop := Claim7.holds Tryz.pinned (.plain (OpenSpec.upto diskWholeSpec)) diskWholeUptoCard

/-- THE SECOND FORM's CARD OF 'halyardlaw01.DiskOwns'. -/
def diskOwnsUptoCard : Claim7 := { stood := { row := diskOwnsUptoRow, standIns := [], harness := (true, "2ca97c369a5167659b50b8c8b903df629792d0444e00b5d2e0197b95708c577c"), looks := false }, kinds := [], alts := [], laidByText := true, laidKinds := [.data, .pinned], laidTests := true, laidLooks := .later }
def DiskOwnsUptoCardSaid : Prop := Claim7.holds Tryz.pinned (.plain (OpenSpec.upto diskOwnsSpec)) diskOwnsUptoCard
end Rows
end Go.Proofs.YtpkllhgohkgcmaaGreatDoor
