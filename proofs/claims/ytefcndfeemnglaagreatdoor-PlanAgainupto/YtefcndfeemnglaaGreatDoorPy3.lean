/- The document's Check of package halyardref17: which deeds are a plan. Conditions: sizes. -/
import Derived.Test.YtefcndfeemnglaaGreatDoorPy2
import Derived.BigQuiet
namespace Go.Proofs.YtefcndfeemnglaaGreatDoor
open Go.RowKit Dk
set_option maxRecDepth 100000

/-- A list of deeds in memory. -/
def DesIn (w : World) (g off : Nat) (l : List De) : Prop := ∀ k (hk : k < l.length), w.cell? ⟨g, off + k * 3, none⟩ = some (.int .i64 l[k].kd) ∧ w.cell? ⟨g, off + k * 3 + 1, none⟩ = some (.string l[k].pa) ∧ w.cell? ⟨g, off + k * 3 + 1 + 1, none⟩ = some (.string l[k].da)
def IsDes (w : World) (a : Option Addr) (l : List De) : Prop := l = [] ∨ ∃ g off, a = some ⟨g, off, none⟩ ∧ g < w.heap.size ∧ DesIn w g off l
theorem IsDes.below {w w' : World} {a : Option Addr} {l : List De} (h : IsDes w a l) (hb : Below w.heap.size w w') : IsDes w' a l := by
  rcases h with h | ⟨g, off, rfl, hg, hc⟩
  · exact Or.inl h
  · refine Or.inr ⟨g, off, rfl, Nat.lt_of_lt_of_le hg hb.size, fun k hk => ?_⟩
    obtain ⟨a0, a1, a2⟩ := hc k hk
    exact ⟨(hb.cell (p := ⟨g, off + k * 3, none⟩) hg).trans a0, (hb.cell (p := ⟨g, off + k * 3 + 1, none⟩) hg).trans a1, (hb.cell (p := ⟨g, off + k * 3 + 1 + 1, none⟩) hg).trans a2⟩

/-- Does a deed stand at that path? -/
def atP (p : ByteArray) (a : De) : Bool := a.pa.toList == p.toList
/-- May a deed stand behind others? -/
def okDe (pre : List De) (d : De) : Bool := (decide (1 ≤ d.kd) && decide (d.kd ≤ 4)) && (pre.getLast?.all fun q => decide (q.kd ≤ d.kd)) && (d.kd == 4 || d.da.toList == []) && (okPath d.pa && !jB d.pa) && ((pre.all fun a => !atP d.pa a || pairB a.kd d.kd) && decide (pre.countP (atP d.pa) ≤ 1))
/-- Deeds that are a plan. -/
def Plan (l : List De) : Prop := ∀ i (hi : i < l.length), okDe (l.take i) l[i] = true
theorem jB_beg (s : ByteArray) : jB s = (s.toList == [47, 106, 111, 117, 114, 110, 97, 108] || begB s ⟨#[47, 106, 111, 117, 114, 110, 97, 108, 47]⟩) := by
  have h1 : jn.toList = [47, 106, 111, 117, 114, 110, 97, 108] := by decide +kernel
  unfold jB begB
  rw [h1]
  rfl
theorem last_take {l : List De} {j : Nat} (hj : j < l.length) : (l.take (j + 1)).getLast? = some l[j] := by
  rw [List.take_succ_eq_append_getElem hj, List.getLast?_append]
  rfl

end Go.Proofs.YtefcndfeemnglaaGreatDoor
