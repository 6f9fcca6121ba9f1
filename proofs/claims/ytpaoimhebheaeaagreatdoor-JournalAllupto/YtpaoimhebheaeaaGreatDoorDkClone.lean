/- The library's contract of a function of package slices, laid over this program: each is one application of a theorem of the library. No condition of our own. -/
import Derived.Shelf.SlGeneric
import Derived.Ground.SlgnProg
import Derived.Shelf.SlicesE.Clone
import Derived.Test.YtpaoimhebheaeaaGreatDoorProg
namespace Go.Proofs
open Go.Shelf
def Tryz.cloneRaw_ren : Go.Shelf.Ren := ⟨fun | 41 => 56 | n => n, fun | 22 => 43 | 23 => 52 | 4 => 4 | n => n, fun | n => n⟩
theorem Tryz.cloneRaw : Go.Proofs.SlLaysE0.n41 Tryz.prog Tryz.cloneRaw_ren := {
  mixed := by kernel_rfl
  f41 := ⟨Tryz.f56.name, by decide, Tryz.func56.trans (congrArg some (by kernel_rfl))⟩
  t4 := Tryz.underlying4
  a4 := Tryz.isAgg4
  z4 := Tryz.sizeOf4
  v4 := Tryz.zeroValue4
  t22 := Tryz.underlying43
  a22 := Tryz.isAgg43
  z22 := Tryz.sizeOf43
  v22 := Tryz.zeroValue43 }
end Go.Proofs
