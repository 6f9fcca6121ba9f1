/- RwJ, laid in one text. -/
import Derived.ChangeSlices
import Derived.Test.YtpaoimhebheaeaaGreatDoorMg30
namespace Go.Proofs.YtpaoimhebheaeaaGreatDoor
open Go.ChangeShapes Go.WideShapes Go.ChangeAt Go.RowKit Go.ChangeMaps Dk
set_option maxRecDepth 100000

theorem open_intsU {H : Type} {enc : TypeId × Value → H} {W : World} {base fuel : Nat} {held : Bool} {a : Option Addr} {len cap : Nat} {x : DataW H × List MemPlace} (h : DataW.trod enc Tryz.prog W base (fun _ => true) held fuel 24 [.slice a len cap] = some x) :
    ∃ cs : List Int, cs.length = len ∧ IsInts W a cs ∧ (∀ z ∈ cs, z ≤ 9223372036854775807) ∧ len ≤ Rows.uptoBulk x.1 := by
  rcases Go.ChangeShapes.open_ints Tryz.underlying24 Tryz.underlying3 cellsIntP h with ⟨hcs, _⟩ | ⟨ad, l, c, zs, hcs, _, hl, _, hzl, hx, hcell, hwf⟩
  · simp only [List.cons.injEq, Value.slice.injEq, and_true] at hcs
    exact ⟨[], hcs.2.1.symm, Or.inl rfl, fun f hf => (by cases hf), by rw [hcs.2.1]; exact Nat.zero_le _⟩
  · simp only [List.cons.injEq, Value.slice.injEq, and_true] at hcs
    obtain ⟨rfl, rfl, rfl⟩ := hcs
    rw [if_pos rfl] at hzl
    have hlz : len ≤ zs.length := by omega
    refine ⟨zs.take len, by rw [List.length_take]; omega, ?_, fun z hz => (bounds_i64 (hwf z (List.mem_of_mem_take hz))).2, ?_⟩
    · rcases Nat.eq_zero_or_pos len with h0 | h0
      · exact Or.inl (by rw [h0]; rfl)
      · obtain ⟨g, off, spot⟩ := ad
        have hc0 := hcell 0 (by omega)
        have hspot : spot = none := by simpa [Addr.add] using World.cell?_spot hc0
        subst hspot
        have ad2 : ∀ o i, (⟨g, o, none⟩ : Addr).add i = ⟨g, o + i, none⟩ := fun o i => by unfold Addr.add; split <;> simp_all
        refine Or.inr ⟨g, off, rfl, cell_lt hc0, fun i hi => ?_⟩
        have hi2 : i < zs.length := by rw [List.length_take] at hi; omega
        have := hcell i hi2
        rw [ad2] at this
        rw [this, List.getElem_take, List.getD_eq_getElem?_getD, List.getElem?_eq_getElem hi2]
        rfl
    · exact deeds_bulk (Or.inr ⟨_, _, by rw [hx], by simp [Go.ChangeShapes.lits]; omega⟩)
end Go.Proofs.YtpaoimhebheaeaaGreatDoor
