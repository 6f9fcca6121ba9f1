/- The library's variables as a row's condition and the world's shape tell them. -/
import Derived.Test.YtiimlfocgdfbfaaDoorParse1
namespace Go.Proofs.YtiimlfocgdfbfaaDoor
open Go.ChangeShapes Go.WideShapes Go.ChangeAt Go.RowKit
set_option maxRecDepth 100000

theorem star : "*" ++ "errors.errorString" = "*errors.errorString" := by decide

theorem row_err (u : TypeId) (h : Tryd.prog.typeName? 3 u = some "*errors.errorString") : u = 83 :=
  typeName_ptr_named (nm := "errors.errorString") (by rw [star]; kernel_rfl) (by kernel_rfl) (by decide) u (by rw [star]; exact h)

theorem max_cell {W : World} (h : W.ShapedOpen Tryd.prog) : ∃ m, W.cell? ⟨0, 0, none⟩ = some (.int .i64 m) :=
  cell_of_shapedOpen_int (t := 3) (zero := #[.int .i64 0]) h (by decide +kernel) (by kernel_rfl) rfl (by kernel_rfl) (by kernel_rfl) Tryd.underlying3

theorem env_of {W : World} (hsh : W.ShapedOpen Tryd.prog) (h : laidMet Tryd.prog [("math/bits.deBruijn32tab", Rows.laid_math_bits_deBruijn32tab), ("math/bits.deBruijn64tab", Rows.laid_math_bits_deBruijn64tab), ("internal/strconv.uint64pow10", Rows.laid_internal_strconv_uint64pow10), ("strconv.ErrRange", Rows.laid_strconv_ErrRange), ("strconv.ErrSyntax", Rows.laid_strconv_ErrSyntax)] W) : Env W := by
  have hT := tab_is h
  have h3 := laidMet.tail (laidMet.tail (laidMet.tail h))
  have h4 := laidMet.tail h3
  obtain ⟨a1, s1, hv1, _⟩ := laid_sentinel h3 (g := 2) (ti := 46) (te := 85) (ts := 9) (by kernel_rfl) (by kernel_rfl) Tryd.underlying46 row_err Tryd.underlying83 Tryd.underlying85 rfl rfl Tryd.underlying9 (by kernel_rfl) (by kernel_rfl)
  obtain ⟨a2, s2, hv2, _⟩ := laid_sentinel h4 (g := 1) (ti := 46) (te := 85) (ts := 9) (by kernel_rfl) (by kernel_rfl) Tryd.underlying46 row_err Tryd.underlying83 Tryd.underlying85 rfl rfl Tryd.underlying9 (by kernel_rfl) (by kernel_rfl)
  have c1 := World.var?_cell (g := 2) (by kernel_rfl) hv1 0
  have c2 := World.var?_cell (g := 1) (by kernel_rfl) hv2 0
  exact { max := max_cell hsh, tab := hT, syn := ⟨_, _, by simpa using c2⟩, rng := ⟨_, _, by simpa using c1⟩ }
end Go.Proofs.YtiimlfocgdfbfaaDoor
