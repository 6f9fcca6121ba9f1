/- What the rows of the statements share: the wrap that hands on the world's shape, a version that came in. -/
import Derived.Test.YtkmgfemhfibikaaGreatDoorRows
import Derived.Test.YtkmgfemhfibikaaGreatDoorTie
import Derived.Test.YtkmgfemhfibikaaGreatDoorCards
import Derived.Test.YtkmgfemhfibikaaGreatDoorVers6
import Derived.ProofKit
import Derived.OpenShut
import Derived.ChangeOld
import Derived.LaidMore
import Derived.Lay
import Derived.SevenTiedAt
import Derived.Stop.Joined
import Derived.Shelf.Vars
import Derived.Deep.Slices
namespace Go.Proofs.YtkmgfemhfibikaaGreatDoor
open Go.ChangeShapes Go.WideShapes Go.ChangeAt Go.RowKit
set_option maxRecDepth 100000

/-- The wrap that hands on what is listed, the reach and the world's shape. -/
theorem wrap_shaped {H : Type} {enc : TypeId × Value → H} {a : Assume} {C : Checked} {os : Os} {f : FuncId} {fn : Func} {s : ChangeSpec} {conds : List PathCond} {apart fresh handsOn again : Bool} {X : World → Array Value → Prop}
    (own : ownKnob C.prog.godebug = none) (started : os.Started) (noInit : C.prog.inits.idxOf? f = none) (hfn : C.prog.funcs[f]? = some fn)
    (witness : ∃ (w : World) (tape : Tape) (i : Input), w.os = os ∧ (w.forCall tape i).Shaped C.prog ∧ i.vars = [] ∧ Input.okWide C.prog (w.forCall tape i) .any w.heap.size f i ∧
      ((s.pre enc C.prog fn conds apart (w.forCall tape i).memory i.args ∧ X (w.forCall tape i).memory i.args) ∧ sizedMet enc C.prog fn (OpenSpec.ofChange s) apart (w.forCall tape i).memory i.args) ∧ a.holds C.prog (lone (Frame.enter C.prog f i.args .normal) [] (w.forCall tape i)))
    (contract : ∀ (W : World) (base : Nat) (args : Array Value) (ds gs : List (DataW H)) (before : List MemPlace),
      (∀ (j : Nat) t v, fn.params[j]? = some t → args[j]? = some v → Value.okWide C.prog W .any base t v) →
      DataW.Whole enc C.prog fn.params.toList s.vars apart W args.toList ds gs before →
      (DataW.weightsEach C.prog (fn.params.toList ++ s.plain.varTypes C.prog) (ds ++ gs)).all (· ≤ reachBytes) = true → W.ShapedOpen C.prog →
      Calls C.prog f args W fun e W' => ∃ v, e = .returned v ∧ s.post enc C.prog fn apart fresh handsOn again W args v W') :
    ReturnsInHanded a C os f .any (fun w args => (s.pre enc C.prog fn conds apart w args ∧ X w args) ∧ sizedMet enc C.prog fn (OpenSpec.ofChange s) apart w args) (s.post enc C.prog fn apart fresh handsOn again) := by
  refine returnsInHanded_of_calls own started noInit witness ?_
  intro w tape i _ hsh _ hok hpre _
  obtain ⟨_, _, _, fn', hfn', _, _, _, _, hval⟩ := hok
  have e : fn' = fn := Option.some.inj (hfn'.symm.trans hfn)
  subst e
  obtain ⟨⟨⟨ds, gs, before, hw, _⟩, _⟩, hz⟩ := hpre
  have hw' := DataW.Whole.of_heap (w' := w.forCall tape i) (by rfl) hw
  refine (contract (w.forCall tape i) w.heap.size i.args ds gs before hval hw' (hz.weights hw) hsh).mono fun e W' ⟨v, he, hp⟩ => ?_
  subst he
  exact ChangeSpec.post_blind hp

theorem own : ownKnob Tryz.prog.godebug = none := by kernel_rfl
theorem laidOut : laidOutB Tryz.prog = true := by kernel_rfl
theorem cellsInt : Tryz.prog.cellsOf 3 = 1 := by kernel_rfl
theorem cellsVer : Tryz.prog.cellsOf 35 = 3 := by kernel_rfl

theorem take_one {cs : List Value} {o : Nat} {v : Value} (h : (cs.drop o).take 1 = [v]) : cs[o]? = some v := by
  have h0 : ((cs.drop o).take 1)[0]? = some v := by rw [h]; rfl
  simpa using h0

theorem field_at {fs : Array Field} {i ty off : Nat} (h : (fs[i]?).map (fun f => (f.type, f.offset)) = some (ty, off)) : ∃ f, fs[i]? = some f ∧ f.type = ty ∧ f.offset = off := by
  cases hf : fs[i]? with
  | none => rw [hf] at h; cases h
  | some f =>
    rw [hf] at h
    simp only [Option.map_some, Option.some.injEq, Prod.mk.injEq] at h
    exact ⟨f, rfl, h.1, h.2⟩

theorem list3 {α : Type} {l : List α} (h : l.length = 3) : ∃ a b c, l = [a, b, c] := by
  match l, h with
  | [a, b, c], _ => exact ⟨a, b, c, rfl⟩

/-- A version that came in: three ints. -/
theorem open_ver {H : Type} {enc : TypeId × Value → H} {W : World} {base b0 : Nat} {spare : Nat → Bool} {held : Bool} {v : Value} {d : DataW H} {p : List MemPlace} (hv : Value.okWide Tryz.prog W .any b0 35 v)
    (h : DataW.Trod enc Tryz.prog W base spare held 35 v d p) : ∃ a b c, v = .agg #[.int .i64 a, .int .i64 b, .int .i64 c] ∧ isI a ∧ isI b ∧ isI c := by
  have hs : Tryz.prog.underlying 35 = some (.struct (Tryz.prog.fieldsOf 35)) := by kernel_rfl
  obtain ⟨cs, rfl, hsz⟩ := okWide_struct hs hv
  obtain ⟨n, h⟩ := h
  obtain ⟨xs, n', _, _, _, hxl, hf⟩ := DataW.trod_struct hs h
  have hfz : (Tryz.prog.fieldsOf 35).size = 3 := by kernel_rfl
  rw [cellsVer] at hsz
  have ints : ∀ i off, ((Tryz.prog.fieldsOf 35)[i]?).map (fun f => (f.type, f.offset)) = some (3, off) → i < 3 → ∃ k, cs.toList[off]? = some (.int .i64 k) ∧ (Lit.int .i64 k).wf = true := by
    intro i off hfd hi
    obtain ⟨f, h1, h2, h3⟩ := field_at hfd
    have hr := hf i f h1
    rw [h2, h3, cellsInt, List.getElem?_eq_getElem (by omega : i < xs.length)] at hr
    obtain ⟨k, e1, _, wk⟩ := DataW.trod_int Tryz.underlying3 hr
    exact ⟨k, take_one e1, wk⟩
  obtain ⟨a, a0, wa⟩ := ints 0 0 (by kernel_rfl) (by decide)
  obtain ⟨b, a1, wb⟩ := ints 1 1 (by kernel_rfl) (by decide)
  obtain ⟨c, a2, wc⟩ := ints 2 2 (by kernel_rfl) (by decide)
  obtain ⟨l⟩ := cs
  obtain ⟨x, y, z, rfl⟩ := list3 (l := l) (by simpa using hsz)
  simp at a0 a1 a2
  subst a0 a1 a2
  exact ⟨a, b, c, rfl, bounds_i64 wa, bounds_i64 wb, bounds_i64 wc⟩

end Go.Proofs.YtkmgfemhfibikaaGreatDoor
