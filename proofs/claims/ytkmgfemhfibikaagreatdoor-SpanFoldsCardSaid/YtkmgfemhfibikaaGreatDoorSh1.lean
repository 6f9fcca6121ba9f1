/- What the walks of the statements of layer 3 share. -/
import Derived.Test.YtkmgfemhfibikaaGreatDoorKn2
namespace Go.Proofs.YtkmgfemhfibikaaGreatDoor
open Go.RowKit
set_option maxRecDepth 100000

theorem keepSpR (v : Value) (A : Rg) : KeepP fun w1 => SpansR w1 v A := fun _ _ h hb => h.below hb
/-- A call that answers with a pair, of which the first is a new list. -/
def NewSp (f : Nat) (va vb : Value) (w : World) (er : Int) (X : Rg) : Prop := Calls Tryz.prog f #[va, vb] w fun e w' => ∃ v, e = .returned (.tuple #[v, .int .i64 er]) ∧ SpansR w' v X ∧ Below w.heap.size w w'
def Says (f : Nat) (args : Array Value) (w : World) (b : Bool) : Prop := Calls Tryz.prog f args w fun e w' => e = .returned (.bool b) ∧ Below w.heap.size w w'

/-- A call that answers with an empty list and no error. -/
def NilSp (f : Nat) (va vb : Value) (w : World) : Prop := Calls Tryz.prog f #[va, vb] w fun e w' => ∃ ad cap, e = .returned (.tuple #[.slice ad 0 cap, .int .i64 0]) ∧ SpansR w' (.slice ad 0 cap) [] ∧ Below w.heap.size w w'
def OneSp (f : Nat) (args : Array Value) (w : World) (X : Rg) : Prop := Calls Tryz.prog f args w fun e w' => ∃ v, e = .returned v ∧ SpansR w' v X ∧ Below w.heap.size w w'

theorem Says.of {f : Nat} {args : Array Value} {w : World} {b c : Bool} (h : Says f args w b) (e : b = c) : Says f args w c := e ▸ h

/-- A range that came in, or a list that is none. -/
theorem rg_or {w : World} {v : Value} {L : List Sp} (h : SpansC w v L) : mayL L = false ∨ ∃ A, L = A.map spR ∧ RangeR A ∧ A.length ≤ 64 ∧ SpansR w v A := by
  cases hm : mayL L
  · exact Or.inl rfl
  · obtain ⟨A, rfl, hA, hl⟩ := may_iff.1 hm
    exact Or.inr ⟨A, rfl, hA, hl, h.rg⟩

theorem sMay_rg {A : Rg} (hA : RangeR A) (hl : A.length ≤ 64) {w : World} {v : Value} (h : SpansR w v A) : Says 32 #[v] w true := by
  have := sMay_any h.at; rw [may_rg hA hl] at this; exact this

theorem full_0 {n : Nat} (h : n ≤ 64) : fullE n = 0 := by unfold fullE; rw [if_pos h]
theorem full_26 {n : Nat} (h : ¬ n ≤ 64) : fullE n = 26 := by unfold fullE; rw [if_neg h]

/-- The folds as the walks of the statements take them. -/
theorem Meet_new {A B : Rg} (hA : RangeR A) (hB : RangeR B) (la : A.length ≤ 64) (lb : B.length ≤ 64) {va vb : Value} {w : World} (ha : SpansR w va A) (hb : SpansR w vb B) : NewSp 5 va vb w (fullE (meetR A B).length) (fitR (meetR A B)) := by
  refine (Meet_rg hA hB la lb ha hb).mono ?_
  rintro e w' ⟨v, rfl, ho, hbw⟩
  exact ⟨v, rfl, ho.spans, hbw⟩
theorem Join_new {A B : Rg} (hA : RangeR A) (hB : RangeR B) (la : A.length ≤ 64) (lb : B.length ≤ 64) {va vb : Value} {w : World} (hf : FL w) (ha : SpansR w va A) (hb : SpansR w vb B) : NewSp 8 va vb w (fullE (joinR A B).length) (fitR (joinR A B)) := by
  refine (Join_rg hA hB la lb hf ha hb).mono ?_
  rintro e w' ⟨v, rfl, ho, hbw⟩
  exact ⟨v, rfl, ho.spans, hbw⟩
theorem Cut_new {A B : Rg} (hA : RangeR A) (hB : RangeR B) (la : A.length ≤ 64) (lb : B.length ≤ 64) {va vb : Value} {w : World} (ha : SpansR w va A) (hb : SpansR w vb B) : NewSp 10 va vb w (fullE (cutR A B).length) (fitR (cutR A B)) := by
  refine (Cut_rg hA hB la lb ha hb).mono ?_
  rintro e w' ⟨v, rfl, ho, hbw⟩
  exact ⟨v, rfl, ho.spans, hbw⟩
theorem NewSp.of {f : Nat} {va vb : Value} {w : World} {e e' : Int} {X X' : Rg} (h : NewSp f va vb w e X) (h1 : e = e') (h2 : X = X') : NewSp f va vb w e' X' := h1 ▸ h2 ▸ h
theorem NewSp.nil {f : Nat} {va vb : Value} {w : World} (h : NewSp f va vb w 0 []) : NilSp f va vb w := by
  refine h.mono ?_
  rintro e w' ⟨v, rfl, hs, hb⟩
  obtain ⟨ad, cap, rfl, r⟩ := hs
  exact ⟨ad, cap, rfl, ⟨ad, cap, rfl, r⟩, hb⟩
theorem same_rg {w : World} {x y : Value} {R : Rg} (hl : R.length ≤ 64) (h1 : SpansR w x R) (h2 : SpansR w y R) : Says 7 #[x, y] w true := same_yes h1.at h2.at (by simp; omega)
end Go.Proofs.YtkmgfemhfibikaaGreatDoor
