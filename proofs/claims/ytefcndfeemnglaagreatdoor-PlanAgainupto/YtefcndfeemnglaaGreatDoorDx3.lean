/- Maps of files in memory; what is looked up; a file's kind; a text cloned. Conditions: sizes. -/
import Derived.Test.YtefcndfeemnglaaGreatDoorDx2
import Derived.Test.YtefcndfeemnglaaGreatDoorIm0
import Derived.Test.YtefcndfeemnglaaGreatDoorScA
import Derived.Deep.RegionHeld3
namespace Go.Proofs.YtefcndfeemnglaaGreatDoor
open Go.RowKit Go.Maps Go.WideMaps Go.WideElems Dk
set_option maxRecDepth 100000

theorem strClone_any (s : ByteArray) (hs : s.size ≤ 281474976710656) (w : World) : Calls Tryz.prog 52 #[.string s] w fun e w' => e = .returned (.string s) ∧ Below w.heap.size w w' := by
  have HC := hide3 (Tryz.stringslite_Clone s w hs)
  go_enter Tryz.func52, Tryz.ntmps52
  go_wp2_with (go_at_call 75; refine HC.out.mono ?_; rintro e w1 ⟨rfl, hb⟩; have HB := hide3 hb; clear hb)
  go_ret
  exact ⟨rfl, HB.out⟩

/-- The cells of a deed. -/
def encE (x : De) : List Value := [.int .i64 x.kd, .string x.pa, .string x.da]

def OwnDe (w : World) (B : Nat) (v : Value) (ds : List De) : Prop := w.ownsRow B 32 3 v ds.length (ds.flatMap encE)
theorem encE_len (ds : List De) : (ds.flatMap encE).length = ds.length * 3 := by
  induction ds with
  | nil => rfl
  | cons x ds ih => rw [List.flatMap_cons, List.length_append, ih, List.length_cons]; simp [encE]; omega
theorem infoDe : (Tryz.prog.info? 32).map (fun i => (i.zero, i.size, i.bytes)) = some (some (.agg #[.int .i64 0, .string ⟨#[]⟩, .string ⟨#[]⟩]), 3, 40) := by kernel_rfl
theorem OwnDe.nil (w : World) (B : Nat) : OwnDe w B (.slice none 0 0) [] := ⟨rfl, Or.inl ⟨rfl, rfl⟩⟩

theorem lG_snoc (M l : List Fl) (x : Fl) : lG M (l ++ [x]) = lG M l ++ (if wG M x = true then [dG x] else []) := by
  unfold lG
  rw [List.filter_append, List.map_append]
  congr 1
  cases h : wG M x <;> simp [h]
theorem lC_snoc (M l : List Fl) (x : Fl) : lC M (l ++ [x]) = lC M l ++ (if wC M x = true then [dC x] else []) := by
  unfold lC
  rw [List.filter_append, List.map_append]
  congr 1
  cases h : wC M x <;> simp [h]

end Go.Proofs.YtefcndfeemnglaaGreatDoor
