/-
  DERIVED. GIVEN WITH THE SEED: THE CARDS: each row of YtlhoikmgeafgbaaDoorRows.lean that lists a variable, with what it lists TIED to the program's text (the seventh form; the later family's looks); each row that meets fmt, with fmt's text TOLD by the authors' own Lean function (tested against real Go, not proved from fmt's source: count such statements apart). THE CARD IS WHAT COUNTS. Prove the row's statement (the work); the ties are given (YtlhoikmgeafgbaaDoorTie.lean); close each card by the builder's one call (the guide's Derived/Test/ToyasCard.lean, 'card_holds'). Laid BY PROGRAM, IN A SANDBOX (cutbox-door.mjs). By AI agents, Wed Nov 11 2026. No macro, syntax, notation, axiom, sorry.
-/
import Derived.Test.YtlhoikmgeafgbaaDoorRows
import GoSem.ClaimSeven
namespace Go.Proofs.YtlhoikmgeafgbaaDoor
namespace Rows

/-- THE TIED CARD OF 'halyardlaw01.DiskCut'. -/
def diskCutCard : Claim7 := { stood := { row := diskCutRow, standIns := [], harness := (true, "d61657db7d442c33648e0d43c53e45da2ce0e34e277047b57bdc2e57d91b2ba8"), looks := false }, kinds := [], alts := [], laidByText := true, laidKinds := [.data, .pinned], laidTests := true, laidLooks := .later }
def DiskCutCardSaid : Prop := Claim7.holds Tryd.pinned (.plain (OpenSpec.ofChange diskCutSpec)) diskCutCard

/-- THE SECOND FORM's CARD OF 'halyardlaw01.DiskCut'. -/
def diskCutUptoCard : Claim7 := { stood := { row := diskCutUptoRow, standIns := [], harness := (true, "d61657db7d442c33648e0d43c53e45da2ce0e34e277047b57bdc2e57d91b2ba8"), looks := false }, kinds := [], alts := [], laidByText := true, laidKinds := [.data, .pinned], laidTests := true, laidLooks := .later }
def DiskCutUptoCardSaid : Prop := Claim7.holds Tryd.pinned (.plain (OpenSpec.upto diskCutSpec)) diskCutUptoCard
end Rows
end Go.Proofs.YtlhoikmgeafgbaaDoor
