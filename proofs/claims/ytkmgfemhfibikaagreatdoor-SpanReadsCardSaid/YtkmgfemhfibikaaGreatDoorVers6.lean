/- The walk of known: it answers true. No condition. -/
import Derived.Test.YtkmgfemhfibikaaGreatDoorVers5
namespace Go.Proofs.YtkmgfemhfibikaaGreatDoor
open Go.RowKit
set_option maxRecDepth 100000

theorem spells_small (w : World) (i : Nat) (hi : i < 100) : Spells w (i : Int) ⟨(Lib.itoa (i : Int)).toArray⟩ := by
  intro w1 _
  refine (Tryz.strconv_Itoa_small i hi w1).mono ?_
  rintro e w' ⟨rfl, rfl⟩
  exact ⟨by rw [Lib.itoa_nonneg], Below.refl _ _⟩

theorem text123 : textV 1 2 3 = ⟨#[49, 46, 50, 46, 51]⟩ := by
  have e1 : Lib.itoa 1 = [49] := by rw [show (1 : Int) = ((1 : Nat) : Int) from rfl, Lib.itoa_nonneg, Lib.decDigits_one (by decide)]; rfl
  have e2 : Lib.itoa 2 = [50] := by rw [show (2 : Int) = ((2 : Nat) : Int) from rfl, Lib.itoa_nonneg, Lib.decDigits_one (by decide)]; rfl
  have e3 : Lib.itoa 3 = [51] := by rw [show (3 : Int) = ((3 : Nat) : Int) from rfl, Lib.itoa_nonneg, Lib.decDigits_one (by decide)]; rfl
  unfold textV
  rw [e1, e2, e3, if_pos (by decide)]
  decide +kernel

end Go.Proofs.YtkmgfemhfibikaaGreatDoor
