/- Fo3, Tx1, Row1, Tab1, Facts2, Ref1, Next1, Next2, Next3, Parse1, Boxes2, Parse2, Parse3, Tx2, Tx3, Tx4, Tx5, laid in one text. -/
import Derived.Deep.RegionHeld3
import Derived.Test.YthlipnnlgkmhcaaGreatDoorRows
import Derived.Test.YthlipnnlgkmhcaaGreatDoorTie
import Derived.Test.YthlipnnlgkmhcaaGreatDoorCards
import Derived.ProofKit
import Derived.OpenShut
import Derived.ChangeOld
import Derived.LaidMore
import Derived.Lay
import Derived.SevenTiedAt
import Derived.Stop.Joined
import Derived.Shelf.Vars
import Derived.Deep.Slices
import Derived.Test.YthlipnnlgkmhcaaGreatDoorShelfB
import Derived.Lib.LaidTab
import Derived.Lib.AppendIntMem
import Derived.Stop.LaidErr
import Derived.Laws.IdiomStrings
import Derived.Deep.RegionWith
import Derived.Shelf.Strconv.AtoiAll
import Derived.Shelf.Strings.Cut
import Derived.Shelf.Strings.Split
import Derived.Shelf.Strings.IndexAnyAll
import Derived.Test.YthlipnnlgkmhcaaGreatDoorShelfC
import Derived.Lib.SplitLaws
import Derived.Test.YthlipnnlgkmhcaaGreatDoorMg03
namespace Go.Proofs.YthlipnnlgkmhcaaGreatDoor
open Go.RowKit
set_option maxRecDepth 100000

/-- A range, unless it has too many spans. -/
def fitR (A : Rg) : Rg := if A.length ≤ 64 then A else []
theorem fit_ok {A : Rg} (h : RangeR A) : RangeR (fitR A) := by unfold fitR; split; exact h; trivial
theorem fit_len (A : Rg) : (fitR A).length ≤ 64 := by unfold fitR; split; assumption; simp
theorem fit_of {A : Rg} (h : A.length ≤ 64) : fitR A = A := by unfold fitR; rw [if_pos h]

theorem notFull_own {w : World} {B : Nat} {v : Value} {L : Rg} (h : OwnS w B v (L.map spR)) :
    Calls Tryz.prog 79 #[v] w fun e w' => ∃ v', e = .returned (.tuple #[v', .int .i64 (fullE L.length)]) ∧ OwnS w' B v' ((fitR L).map spR) ∧ Below w.heap.size w w' := by
  have ho := h
  obtain ⟨ad, cap, hv, hc, hl⟩ := h.spans
  subst hv
  refine (notFull_any ad L.length cap w).mono ?_
  rintro e w' ⟨rfl, hb⟩
  refine ⟨_, rfl, ?_, hb⟩
  unfold fullV fitR
  by_cases hn : L.length ≤ 64
  · rw [if_pos hn, if_pos hn]; exact ho.below hb
  · rw [if_neg hn, if_neg hn]; exact OwnS.nil _ _

theorem Meet_rg {A B : Rg} (hA : RangeR A) (hB : RangeR B) (la : A.length ≤ 64) (lb : B.length ≤ 64) {va vb : Value} {w : World} (ha : SpansR w va A) (hb : SpansR w vb B) :
    Calls Tryz.prog 28 #[va, vb] w fun e w' => ∃ v, e = .returned (.tuple #[v, .int .i64 (fullE (meetR A B).length)]) ∧ OwnS w' w.heap.size v ((fitR (meetR A B)).map spR) ∧ Below w.heap.size w w' := by
  have HA : Hid (∀ w1, Below w.heap.size w w1 → Calls Tryz.prog 66 #[va] w1 fun e w' => e = .returned (.bool true) ∧ Below w1.heap.size w1 w') := fun w1 hbl => by have := sMay_any (ha.below hbl).at; rw [may_rg hA la] at this; exact this
  have HB : Hid (∀ w1, Below w.heap.size w w1 → Calls Tryz.prog 66 #[vb] w1 fun e w' => e = .returned (.bool true) ∧ Below w1.heap.size w1 w') := fun w1 hbl => by have := sMay_any (hb.below hbl).at; rw [may_rg hB lb] at this; exact this
  have HM : Hid (∀ w1, Below w.heap.size w w1 → Calls Tryz.prog 55 #[va, vb] w1 fun e w' => ∃ v, e = .returned v ∧ OwnS w' w1.heap.size v ((meetR A B).map spR) ∧ Below w1.heap.size w1 w') := fun w1 hbl => meet_rg hA hB (ha.below hbl) (hb.below hbl)
  have HN : Hid (∀ w1 v1, OwnS w1 w.heap.size v1 ((meetR A B).map spR) → Calls Tryz.prog 79 #[v1] w1 fun e w' => ∃ v', e = .returned (.tuple #[v', .int .i64 (fullE (meetR A B).length)]) ∧ OwnS w' w.heap.size v' ((fitR (meetR A B)).map spR) ∧ Below w1.heap.size w1 w') := fun w1 v1 h => notFull_own h
  have HB0 : Hid (Below w.heap.size w w) := Below.refl _ _
  have t1 : True := trivial
  clear ha hb
  go_enter Tryz.func28, Tryz.ntmps28
  go_wp2_with (first
    | (have _t := t1; go_at_call 66; refine (HA.out _ HB0.out).mono ?_; rintro e w1 ⟨rfl, ok1⟩; clear t1; have HO1 := hide3 ok1; clear ok1)
    | (go_at_call 66; refine (HB.out _ HO1.out).mono ?_; rintro e w2 ⟨rfl, ok2⟩; have HO2 := hide3 (below_then HO1.out ok2); clear ok2)
    | (go_at_call 55; refine (HM.out _ HO2.out).mono ?_; rintro e w3 ⟨v3, rfl, ok3⟩; have HO3 : Hid (OwnS w3 w.heap.size v3 ((meetR A B).map spR) ∧ Below w.heap.size w w3) := ⟨ok3.1.base HO2.out.size, below_then HO2.out ok3.2⟩; clear ok3)
    | (go_at_call 79; refine (HN.out _ _ HO3.out.1).mono ?_; rintro e w4 ⟨v4, rfl, ok4⟩; have HO4 := hide3 ok4; clear ok4)
    | go_in)
  go_ret2
  exact ⟨v4, rfl, HO4.out.1, below_then HO3.out.2 HO4.out.2⟩

theorem Meet_no {La Lb : List Sp} {va vb : Value} {w : World} (ha : SpansAt w va La) (hb : SpansAt w vb Lb) (h : (mayL La && mayL Lb) = false) :
    Calls Tryz.prog 28 #[va, vb] w fun e w' => e = .returned (.tuple #[.slice none 0 0, .int .i64 21]) ∧ Below w.heap.size w w' := by
  have HA : Hid (∀ w1, Below w.heap.size w w1 → Calls Tryz.prog 66 #[va] w1 fun e w' => e = .returned (.bool (mayL La)) ∧ Below w1.heap.size w1 w') := fun w1 hbl => sMay_any (ha.below hbl)
  have HB : Hid (∀ w1, Below w.heap.size w w1 → Calls Tryz.prog 66 #[vb] w1 fun e w' => e = .returned (.bool (mayL Lb)) ∧ Below w1.heap.size w1 w') := fun w1 hbl => sMay_any (hb.below hbl)
  have HB0 : Hid (Below w.heap.size w w) := Below.refl _ _
  have t1 : True := trivial
  clear ha hb
  cases h1 : mayL La
  · rw [h1] at HA
    clear h
    go_enter Tryz.func28, Tryz.ntmps28
    go_wp2_with (first
      | (go_at_call 66; refine (HA.out _ HB0.out).mono ?_; rintro e w1 ⟨rfl, ok1⟩; have HO1 := hide3 ok1; clear ok1)
      | go_in)
    go_ret2
    exact ⟨rfl, HO1.out⟩
  · rw [h1] at HA
    have h2 : mayL Lb = false := by rw [h1] at h; simpa using h
    rw [h2] at HB
    clear h
    go_enter Tryz.func28, Tryz.ntmps28
    go_wp2_with (first
      | (have _t := t1; go_at_call 66; refine (HA.out _ HB0.out).mono ?_; rintro e w1 ⟨rfl, ok1⟩; clear t1; have HO1 := hide3 ok1; clear ok1)
      | (go_at_call 66; refine (HB.out _ HO1.out).mono ?_; rintro e w2 ⟨rfl, ok2⟩; have HO2 := hide3 (below_then HO1.out ok2); clear ok2)
      | go_in)
    go_ret2
    exact ⟨rfl, HO2.out⟩

theorem Join_rg {A B : Rg} (hA : RangeR A) (hB : RangeR B) (la : A.length ≤ 64) (lb : B.length ≤ 64) {va vb : Value} {w : World} (hf : FL w) (ha : SpansR w va A) (hb : SpansR w vb B) :
    Calls Tryz.prog 29 #[va, vb] w fun e w' => ∃ v, e = .returned (.tuple #[v, .int .i64 (fullE (joinR A B).length)]) ∧ OwnS w' w.heap.size v ((fitR (joinR A B)).map spR) ∧ Below w.heap.size w w' := by
  have HA : Hid (∀ w1, Below w.heap.size w w1 → Calls Tryz.prog 66 #[va] w1 fun e w' => e = .returned (.bool true) ∧ Below w1.heap.size w1 w') := fun w1 hbl => by have := sMay_any (ha.below hbl).at; rw [may_rg hA la] at this; exact this
  have HB : Hid (∀ w1, Below w.heap.size w w1 → Calls Tryz.prog 66 #[vb] w1 fun e w' => e = .returned (.bool true) ∧ Below w1.heap.size w1 w') := fun w1 hbl => by have := sMay_any (hb.below hbl).at; rw [may_rg hB lb] at this; exact this
  have HM : Hid (∀ w1, Below w.heap.size w w1 → Calls Tryz.prog 56 #[va, vb] w1 fun e w' => ∃ v, e = .returned v ∧ OwnS w' w1.heap.size v ((joinR A B).map spR) ∧ Below w1.heap.size w1 w') := fun w1 hbl => join_rg hA hB (hf.below hbl) (ha.below hbl) (hb.below hbl)
  have HN : Hid (∀ w1 v1, OwnS w1 w.heap.size v1 ((joinR A B).map spR) → Calls Tryz.prog 79 #[v1] w1 fun e w' => ∃ v', e = .returned (.tuple #[v', .int .i64 (fullE (joinR A B).length)]) ∧ OwnS w' w.heap.size v' ((fitR (joinR A B)).map spR) ∧ Below w1.heap.size w1 w') := fun w1 v1 h => notFull_own h
  have HB0 : Hid (Below w.heap.size w w) := Below.refl _ _
  have t1 : True := trivial
  clear ha hb
  go_enter Tryz.func29, Tryz.ntmps29
  go_wp2_with (first
    | (have _t := t1; go_at_call 66; refine (HA.out _ HB0.out).mono ?_; rintro e w1 ⟨rfl, ok1⟩; clear t1; have HO1 := hide3 ok1; clear ok1)
    | (go_at_call 66; refine (HB.out _ HO1.out).mono ?_; rintro e w2 ⟨rfl, ok2⟩; have HO2 := hide3 (below_then HO1.out ok2); clear ok2)
    | (go_at_call 56; refine (HM.out _ HO2.out).mono ?_; rintro e w3 ⟨v3, rfl, ok3⟩; have HO3 : Hid (OwnS w3 w.heap.size v3 ((joinR A B).map spR) ∧ Below w.heap.size w w3) := ⟨ok3.1.base HO2.out.size, below_then HO2.out ok3.2⟩; clear ok3)
    | (go_at_call 79; refine (HN.out _ _ HO3.out.1).mono ?_; rintro e w4 ⟨v4, rfl, ok4⟩; have HO4 := hide3 ok4; clear ok4)
    | go_in)
  go_ret2
  exact ⟨v4, rfl, HO4.out.1, below_then HO3.out.2 HO4.out.2⟩

theorem Join_no {La Lb : List Sp} {va vb : Value} {w : World} (ha : SpansAt w va La) (hb : SpansAt w vb Lb) (h : (mayL La && mayL Lb) = false) :
    Calls Tryz.prog 29 #[va, vb] w fun e w' => e = .returned (.tuple #[.slice none 0 0, .int .i64 21]) ∧ Below w.heap.size w w' := by
  have HA : Hid (∀ w1, Below w.heap.size w w1 → Calls Tryz.prog 66 #[va] w1 fun e w' => e = .returned (.bool (mayL La)) ∧ Below w1.heap.size w1 w') := fun w1 hbl => sMay_any (ha.below hbl)
  have HB : Hid (∀ w1, Below w.heap.size w w1 → Calls Tryz.prog 66 #[vb] w1 fun e w' => e = .returned (.bool (mayL Lb)) ∧ Below w1.heap.size w1 w') := fun w1 hbl => sMay_any (hb.below hbl)
  have HB0 : Hid (Below w.heap.size w w) := Below.refl _ _
  have t1 : True := trivial
  clear ha hb
  cases h1 : mayL La
  · rw [h1] at HA
    clear h
    go_enter Tryz.func29, Tryz.ntmps29
    go_wp2_with (first
      | (go_at_call 66; refine (HA.out _ HB0.out).mono ?_; rintro e w1 ⟨rfl, ok1⟩; have HO1 := hide3 ok1; clear ok1)
      | go_in)
    go_ret2
    exact ⟨rfl, HO1.out⟩
  · rw [h1] at HA
    have h2 : mayL Lb = false := by rw [h1] at h; simpa using h
    rw [h2] at HB
    clear h
    go_enter Tryz.func29, Tryz.ntmps29
    go_wp2_with (first
      | (have _t := t1; go_at_call 66; refine (HA.out _ HB0.out).mono ?_; rintro e w1 ⟨rfl, ok1⟩; clear t1; have HO1 := hide3 ok1; clear ok1)
      | (go_at_call 66; refine (HB.out _ HO1.out).mono ?_; rintro e w2 ⟨rfl, ok2⟩; have HO2 := hide3 (below_then HO1.out ok2); clear ok2)
      | go_in)
    go_ret2
    exact ⟨rfl, HO2.out⟩

end Go.Proofs.YthlipnnlgkmhcaaGreatDoor
namespace Go.Proofs.YthlipnnlgkmhcaaGreatDoor
open Go.RowKit
set_option maxRecDepth 100000

def minorR (n : Int) : Int := n / 1000 * 1000 + 999
def majorR (n : Int) : Int := n / 1000000 * 1000000 + 999999
def alikeR (n : Int) : Int := if atA n ≠ 0 then majorR n else if atB n ≠ 0 then minorR n else n

theorem at_of {n : Int} (h : okR n) : atA n = n / 1000000 ∧ atB n = n / 1000 % 1000 ∧ atC n = n % 1000 := by
  unfold atA atB atC; rw [h.has]; simp
theorem minor_ok {n : Int} (h : okR n) : okR (minorR n) ∧ n ≤ minorR n := by unfold okR minorR at *; omega
theorem major_ok {n : Int} (h : okR n) : okR (majorR n) ∧ n ≤ majorR n := by unfold okR majorR at *; omega
theorem alike_ok {n : Int} (h : okR n) : okR (alikeR n) ∧ n ≤ alikeR n := by
  unfold alikeR
  split
  · exact major_ok h
  · split
    · exact minor_ok h
    · exact ⟨h, Int.le_refl _⟩
theorem minor_at {n : Int} (h : okR n) : atA (minorR n) = atA n ∧ atB (minorR n) = atB n ∧ atC (minorR n) = 999 := by
  obtain ⟨a, b, c⟩ := at_of h
  obtain ⟨a', b', c'⟩ := at_of (minor_ok h).1
  unfold okR at h
  rw [a, b, a', b', c']
  unfold minorR
  omega
theorem major_at {n : Int} (h : okR n) : atA (majorR n) = atA n ∧ atB (majorR n) = 999 ∧ atC (majorR n) = 999 := by
  obtain ⟨a, b, c⟩ := at_of h
  obtain ⟨a', b', c'⟩ := at_of (major_ok h).1
  unfold okR at h
  rw [a, a', b', c']
  unfold majorR
  omega

/-- What a sign makes of the version at a place. -/
def signR (s : List UInt8) (n : Int) : Option Rg :=
  if s = [] ∨ s = [61] then some [(n, n)] else if s = [60] then some (cutR allR [(n, 999999999)]) else if s = [60, 61] then some [(0, n)] else if s = [62] then some (cutR allR [(0, n)]) else
  if s = [62, 61] then some [(n, 999999999)] else if s = [94] then some [(n, alikeR n)] else if s = [126] then some [(n, minorR n)] else none

theorem one_ok {g h : Int} (hg : okR g) (hh : okR h) (h1 : g ≤ h) : RangeR [(g, h)] := ⟨hg.1, h1, hh.2, trivial⟩
theorem okL : okR 999999999 := by unfold okR; omega
theorem okF : okR 0 := by unfold okR; omega
theorem sign_ok {s : List UInt8} {n : Int} (hn : okR n) {R : Rg} (h : signR s n = some R) : RangeR R := by
  unfold signR at h
  have h1 := one_ok hn okL hn.2
  have h2 := one_ok okF hn hn.1
  repeat' split at h
  all_goals first | (cases h; done) | (injection h with h; subst h)
  · exact one_ok hn hn (Int.le_refl _)
  · exact allR_ok.cut h1
  · exact h2
  · exact allR_ok.cut h2
  · exact h1
  · exact one_ok hn (alike_ok hn).1 (alike_ok hn).2
  · exact one_ok hn (minor_ok hn).1 (minor_ok hn).2

end Go.Proofs.YthlipnnlgkmhcaaGreatDoor
namespace Go.Proofs.YthlipnnlgkmhcaaGreatDoor
open Go.ChangeShapes Go.WideShapes Go.ChangeAt Go.RowKit
set_option maxRecDepth 100000

/-- The wrap that hands on what is listed, the reach and the world's shape. -/
theorem wrap_shaped {H : Type} {enc : TypeId × Value → H} {a : Assume} {C : Checked} {os : Os} {f : FuncId} {fn : Func} {s : ChangeSpec} {conds : List PathCond} {apart fresh handsOn again : Bool} {X : World → Array Value → Prop}
    (own : ownKnob C.prog.godebug = none) (started : os.Started) (noInit : C.prog.inits.idxOf? f = none) (hfn : C.prog.funcs[f]? = some fn)
    (witness : ∃ (w : World) (tape : Tape) (i : Input), w.os = os ∧ (w.forCall tape i).Shaped C.prog ∧ i.vars = [] ∧ Input.okWide C.prog (w.forCall tape i) .any w.heap.size f i ∧
      ((s.pre enc C.prog fn conds apart (w.forCall tape i).memory i.args ∧ X (w.forCall tape i).memory i.args) ∧ sizedMet enc C.prog fn (OpenSpec.ofChange s) apart (w.forCall tape i).memory i.args) ∧ a.holds C.prog (lone (Frame.enter C.prog f i.args .normal) [] (w.forCall tape i)))
    (contract : ∀ (W : World) (base : Nat) (args : Array Value) (ds gs : List (DataW H)) (before : List MemPlace),
      (∀ (j : Nat) t v, fn.params[j]? = some t → args[j]? = some v → Value.okWide C.prog W .any base t v) →
      DataW.Whole enc C.prog fn.params.toList s.vars apart W args.toList ds gs before →
      (DataW.weightsEach C.prog (fn.params.toList ++ s.plain.varTypes C.prog) (ds ++ gs)).all (· ≤ reachBytes) = true → W.ShapedOpen C.prog →
      Calls C.prog f args W fun e W' => ∃ v, e = .returned v ∧ s.post enc C.prog fn apart fresh handsOn again W args v W') :
    ReturnsInHanded a C os f .any (fun w args => (s.pre enc C.prog fn conds apart w args ∧ X w args) ∧ sizedMet enc C.prog fn (OpenSpec.ofChange s) apart w args) (s.post enc C.prog fn apart fresh handsOn again) := by
  refine returnsInHanded_of_calls own started noInit witness ?_
  intro w tape i _ hsh _ hok hpre _
  obtain ⟨_, _, _, fn', hfn', _, _, _, _, hval⟩ := hok
  have e : fn' = fn := Option.some.inj (hfn'.symm.trans hfn)
  subst e
  obtain ⟨⟨⟨ds, gs, before, hw, _⟩, _⟩, hz⟩ := hpre
  have hw' := DataW.Whole.of_heap (w' := w.forCall tape i) (by rfl) hw
  refine (contract (w.forCall tape i) w.heap.size i.args ds gs before hval hw' (hz.weights hw) hsh).mono fun e W' ⟨v, he, hp⟩ => ?_
  subst he
  exact ChangeSpec.post_blind hp

theorem own : ownKnob Tryz.prog.godebug = none := by kernel_rfl
theorem laidOut : laidOutB Tryz.prog = true := by kernel_rfl
theorem cellsInt : Tryz.prog.cellsOf 3 = 1 := by kernel_rfl
theorem cellsVer : Tryz.prog.cellsOf 31 = 3 := by kernel_rfl

theorem take_one {cs : List Value} {o : Nat} {v : Value} (h : (cs.drop o).take 1 = [v]) : cs[o]? = some v := by
  have h0 : ((cs.drop o).take 1)[0]? = some v := by rw [h]; rfl
  simpa using h0

theorem field_at {fs : Array Field} {i ty off : Nat} (h : (fs[i]?).map (fun f => (f.type, f.offset)) = some (ty, off)) : ∃ f, fs[i]? = some f ∧ f.type = ty ∧ f.offset = off := by
  cases hf : fs[i]? with
  | none => rw [hf] at h; cases h
  | some f =>
    rw [hf] at h
    simp only [Option.map_some, Option.some.injEq, Prod.mk.injEq] at h
    exact ⟨f, rfl, h.1, h.2⟩

theorem list3 {α : Type} {l : List α} (h : l.length = 3) : ∃ a b c, l = [a, b, c] := by
  match l, h with
  | [a, b, c], _ => exact ⟨a, b, c, rfl⟩

/-- A version that came in: three ints. -/
theorem open_ver {H : Type} {enc : TypeId × Value → H} {W : World} {base b0 : Nat} {spare : Nat → Bool} {held : Bool} {v : Value} {d : DataW H} {p : List MemPlace} (hv : Value.okWide Tryz.prog W .any b0 31 v)
    (h : DataW.Trod enc Tryz.prog W base spare held 31 v d p) : ∃ a b c, v = .agg #[.int .i64 a, .int .i64 b, .int .i64 c] ∧ isI a ∧ isI b ∧ isI c := by
  have hs : Tryz.prog.underlying 31 = some (.struct (Tryz.prog.fieldsOf 31)) := by kernel_rfl
  obtain ⟨cs, rfl, hsz⟩ := okWide_struct hs hv
  obtain ⟨n, h⟩ := h
  obtain ⟨xs, n', _, _, _, hxl, hf⟩ := DataW.trod_struct hs h
  have hfz : (Tryz.prog.fieldsOf 31).size = 3 := by kernel_rfl
  rw [cellsVer] at hsz
  have ints : ∀ i off, ((Tryz.prog.fieldsOf 31)[i]?).map (fun f => (f.type, f.offset)) = some (3, off) → i < 3 → ∃ k, cs.toList[off]? = some (.int .i64 k) ∧ (Lit.int .i64 k).wf = true := by
    intro i off hfd hi
    obtain ⟨f, h1, h2, h3⟩ := field_at hfd
    have hr := hf i f h1
    rw [h2, h3, cellsInt, List.getElem?_eq_getElem (by omega : i < xs.length)] at hr
    obtain ⟨k, e1, _, wk⟩ := DataW.trod_int Tryz.underlying3 hr
    exact ⟨k, take_one e1, wk⟩
  obtain ⟨a, a0, wa⟩ := ints 0 0 (by kernel_rfl) (by decide)
  obtain ⟨b, a1, wb⟩ := ints 1 1 (by kernel_rfl) (by decide)
  obtain ⟨c, a2, wc⟩ := ints 2 2 (by kernel_rfl) (by decide)
  obtain ⟨l⟩ := cs
  obtain ⟨x, y, z, rfl⟩ := list3 (l := l) (by simpa using hsz)
  simp at a0 a1 a2
  subst a0 a1 a2
  exact ⟨a, b, c, rfl, bounds_i64 wa, bounds_i64 wb, bounds_i64 wc⟩

end Go.Proofs.YthlipnnlgkmhcaaGreatDoor
namespace Go.Proofs.YthlipnnlgkmhcaaGreatDoor
open Go.ChangeShapes Go.WideShapes Go.ChangeAt Go.RowKit
set_option maxRecDepth 100000

/-- The wrap that hands on what is listed, the reach and the world's shape, with what the listed variables hold. -/
theorem wrap_laid {H : Type} {enc : TypeId × Value → H} {a : Assume} {C : Checked} {os : Os} {f : FuncId} {fn : Func} {s : ChangeSpec} {conds : List PathCond} {apart fresh handsOn again : Bool} {l : List (String × DataW Unit)}
    (own : ownKnob C.prog.godebug = none) (started : os.Started) (noInit : C.prog.inits.idxOf? f = none) (hfn : C.prog.funcs[f]? = some fn)
    (witness : ∃ (w : World) (tape : Tape) (i : Input), w.os = os ∧ (w.forCall tape i).Shaped C.prog ∧ i.vars = [] ∧ Input.okWide C.prog (w.forCall tape i) .any w.heap.size f i ∧
      ((s.pre enc C.prog fn conds apart (w.forCall tape i).memory i.args ∧ laidMetH C.prog l (w.forCall tape i).memory) ∧ sizedMet enc C.prog fn (OpenSpec.ofChange s) apart (w.forCall tape i).memory i.args) ∧ a.holds C.prog (lone (Frame.enter C.prog f i.args .normal) [] (w.forCall tape i)))
    (contract : ∀ (W : World) (base : Nat) (args : Array Value) (ds gs : List (DataW H)) (before : List MemPlace),
      (∀ (j : Nat) t v, fn.params[j]? = some t → args[j]? = some v → Value.okWide C.prog W .any base t v) →
      DataW.Whole enc C.prog fn.params.toList s.vars apart W args.toList ds gs before →
      (DataW.weightsEach C.prog (fn.params.toList ++ s.plain.varTypes C.prog) (ds ++ gs)).all (· ≤ reachBytes) = true → W.ShapedOpen C.prog → laidMetH C.prog l W →
      Calls C.prog f args W fun e W' => ∃ v, e = .returned v ∧ s.post enc C.prog fn apart fresh handsOn again W args v W') :
    ReturnsInHanded a C os f .any (fun w args => (s.pre enc C.prog fn conds apart w args ∧ laidMetH C.prog l w) ∧ sizedMet enc C.prog fn (OpenSpec.ofChange s) apart w args) (s.post enc C.prog fn apart fresh handsOn again) := by
  refine returnsInHanded_of_calls own started noInit witness ?_
  intro w tape i _ hsh _ hok hpre _
  obtain ⟨_, _, _, fn', hfn', _, _, _, _, hval⟩ := hok
  have e : fn' = fn := Option.some.inj (hfn'.symm.trans hfn)
  subst e
  obtain ⟨⟨⟨ds, gs, before, hw, _⟩, hX⟩, hz⟩ := hpre
  have hw' := DataW.Whole.of_heap (w' := w.forCall tape i) (by rfl) hw
  have hX' := laidMetH.of_heap (w' := w.forCall tape i) (by rfl) hX
  refine (contract (w.forCall tape i) w.heap.size i.args ds gs before hval hw' (hz.weights hw) hsh hX').mono fun e W' ⟨v, he, hp⟩ => ?_
  subst he
  exact ChangeSpec.post_blind hp

theorem tab_is {W : World} {r : List (String × DataW Unit)} (h : laidMet Tryz.prog (("math/bits.deBruijn32tab", Rows.laid_math_bits_deBruijn32tab) :: ("math/bits.deBruijn64tab", Rows.laid_math_bits_deBruijn64tab) :: ("internal/strconv.uint64pow10", Rows.laid_internal_strconv_uint64pow10) :: r) W) :
    Lib.TabIs Tryz.prog W "internal/strconv.uint64pow10" .u64 Lib.pow10Tab := by
  have h2 : laidMet Tryz.prog (("internal/strconv.uint64pow10", Lib.tabData .u64 Lib.pow10Tab) :: r) W := (laidMet.tail (laidMet.tail h))
  exact Lib.tabIs_of_head (g := 3) (t := 191) (e := 145) (n := 20) (by kernel_rfl) (by kernel_rfl) (by kernel_rfl) Tryz.underlying145 (by kernel_rfl) (by kernel_rfl) h2

/-- Itoa answers with the numeral, in whatever world stands on one with the table. -/
theorem spells_tab {W : World} (h : Lib.TabIs Tryz.prog W "internal/strconv.uint64pow10" .u64 Lib.pow10Tab) (w : World) (hw : Below W.heap.size W w) (n : Int) (h0 : 0 ≤ n) (h1 : n ≤ 999) : Spells w n ⟨(Lib.itoa n).toArray⟩ := by
  intro w1 hb
  have ht := Lib.tabBelow_of_tabIs h w1 (below_then hw hb)
  refine (Tryz.strconv_Itoa n (by omega) (by omega) w1 ht).mono ?_
  rintro e w' ⟨rfl, k, os, rfl⟩
  exact ⟨rfl, Lib.below_grow _ _ (Nat.le_refl _) k os⟩
end Go.Proofs.YthlipnnlgkmhcaaGreatDoor
namespace Go.Proofs.YthlipnnlgkmhcaaGreatDoor
set_option maxRecDepth 100000

/-- The number that a row of digits spells. -/
def valOf (l : List UInt8) : Nat := l.foldl (fun n d => n * 10 + (d.toNat - 48)) 0

theorem val_snoc (l : List UInt8) (d : UInt8) : valOf (l ++ [d]) = valOf l * 10 + (d.toNat - 48) := by simp [valOf]

theorem digit_nat {k : Nat} (h : k < 10) : (UInt8.ofNat (48 + k)).toNat = 48 + k := by
  rw [UInt8.toNat_ofNat']; omega

theorem val_dec (u : Nat) : valOf (Lib.decDigits u) = u := by
  induction u using Nat.strongRecOn with
  | _ u ih =>
    rw [Lib.decDigits]
    split
    · rename_i h
      have := digit_nat h
      simp [valOf]; omega
    · rename_i h
      rw [val_snoc, ih (u / 10) (by omega)]
      have := digit_nat (k := u % 10) (by omega)
      omega

theorem dec_digits (u : Nat) : ∀ d ∈ Lib.decDigits u, 48 ≤ d.toNat ∧ d.toNat ≤ 57 := by
  induction u using Nat.strongRecOn with
  | _ u ih =>
    rw [Lib.decDigits]
    split
    · rename_i h
      intro d hd
      have := digit_nat h
      rw [List.mem_singleton] at hd; subst hd; omega
    · rename_i h
      intro d hd
      rcases List.mem_append.1 hd with h1 | h1
      · exact ih (u / 10) (by omega) d h1
      · have := digit_nat (k := u % 10) (by omega)
        rw [List.mem_singleton] at h1; subst h1; omega

theorem dec_ne (u : Nat) : Lib.decDigits u ≠ [] := by
  rw [Lib.decDigits]; split <;> simp

theorem itoa_of {n : Int} (h : 0 ≤ n) : Lib.itoa n = Lib.decDigits n.toNat := by
  obtain ⟨u, rfl⟩ : ∃ u : Nat, n = u := ⟨n.toNat, by omega⟩
  rw [Lib.itoa_nonneg]; rfl

theorem no_dot {n : Int} (h : 0 ≤ n) : (46 : UInt8) ∉ Lib.itoa n := by
  rw [itoa_of h]
  intro hd
  have := (dec_digits _ _ hd).1
  revert this; decide

theorem itoa_inj {m n : Int} (hm : 0 ≤ m) (hn : 0 ≤ n) (h : Lib.itoa m = Lib.itoa n) : m = n := by
  rw [itoa_of hm, itoa_of hn] at h
  have := congrArg valOf h
  rw [val_dec, val_dec] at this
  omega

theorem split_dot {l1 l2 r1 r2 : List UInt8} (h1 : (46 : UInt8) ∉ l1) (h2 : (46 : UInt8) ∉ l2) (h : l1 ++ 46 :: r1 = l2 ++ 46 :: r2) : l1 = l2 ∧ r1 = r2 := by
  induction l1 generalizing l2 with
  | nil =>
    cases l2 with
    | nil => simp at h; exact ⟨rfl, h⟩
    | cons x l2 => simp at h; exact absurd (by rw [h.1]; simp) h2
  | cons y l1 ih =>
    cases l2 with
    | nil => simp at h; exact absurd (by rw [h.1]; simp) h1
    | cons x l2 =>
      simp at h
      obtain ⟨e1, e2⟩ := ih (fun m => h1 (List.mem_cons_of_mem _ m)) (fun m => h2 (List.mem_cons_of_mem _ m)) h.2
      exact ⟨by rw [h.1, e1], e2⟩

theorem text_list {a b c : Int} (h : mayV a b c = true) : (textV a b c).data.toList = Lib.itoa a ++ 46 :: (Lib.itoa b ++ 46 :: Lib.itoa c) := by
  unfold textV; rw [if_pos h]
  simp [ByteArray.data_append]

theorem text_inj {a b c x y z : Int} (h : mayV a b c = true) (k : mayV x y z = true) : textV a b c = textV x y z ↔ a = x ∧ b = y ∧ c = z := by
  constructor
  · intro e
    have e1 := congrArg (fun s : ByteArray => s.data.toList) e
    simp only [text_list h, text_list k] at e1
    obtain ⟨a0, _, b0, _, c0, _⟩ := may_all h
    obtain ⟨x0, _, y0, _, z0, _⟩ := may_all k
    obtain ⟨f1, f2⟩ := split_dot (no_dot a0) (no_dot x0) e1
    obtain ⟨f3, f4⟩ := split_dot (no_dot b0) (no_dot y0) f2
    exact ⟨itoa_inj a0 x0 f1, itoa_inj b0 y0 f3, itoa_inj c0 z0 f4⟩
  · rintro ⟨rfl, rfl, rfl⟩; rfl
end Go.Proofs.YthlipnnlgkmhcaaGreatDoor
namespace Go.Proofs.YthlipnnlgkmhcaaGreatDoor
open Go.RowKit
set_option maxRecDepth 100000

/-- A byte wherever it lies, as a string. -/
theorem byte_at (d : Int) (h0 : 0 ≤ d) (h1 : d < 10) (W : World) (N : Nat) (hN : W.cell? ⟨N, 0, none⟩ = some (.int .u8 (48 + d))) :
    (convert 120 9 (.slice (some ⟨N, 0, none⟩) 1 1)).run Tryz.prog W = .ok (.string ⟨#[UInt8.ofNat (48 + d.toNat)]⟩) W := by
  have e := digit_nat (k := d.toNat) (by omega)
  exact run_convert_bytes_back (P := Tryz.prog) W 120 9 5 ⟨N, 0, none⟩ 1 [UInt8.ofNat (48 + d.toNat)] Tryz.underlying120 Tryz.underlying5 Tryz.underlying9 (fun j hj => by
    have hj0 : j = 0 := by simp at hj; exact hj
    subst hj0
    rw [show (⟨N, 0, none⟩ : Addr).add 0 = ⟨N, 0, none⟩ from rfl, hN]
    simp only [List.getElem_cons_zero]
    rw [e]
    congr 2
    omega)

theorem byte_back (d : Int) (h0 : 0 ≤ d) (h1 : d < 10) (W : World) :
    (convert 120 9 (.slice (some ⟨W.heap.size, 0, none⟩) 1 1)).run Tryz.prog (W.alloc (.cells #[.int .u8 (48 + d)] 5)) = .ok (.string ⟨#[UInt8.ofNat (48 + d.toNat)]⟩) (W.alloc (.cells #[.int .u8 (48 + d)] 5)) :=
  byte_at d h0 h1 _ _ (by rw [World.cell?_alloc_new]; rfl)

theorem itoa_small {n : Int} (h0 : 0 ≤ n) (h1 : n < 10) : Lib.itoa n = [UInt8.ofNat (48 + n.toNat)] := by
  rw [itoa_of h0, Lib.decDigits_one (by omega)]
theorem itoa_more {n : Int} (h0 : 10 ≤ n) : Lib.itoa n = Lib.itoa (n / 10) ++ [UInt8.ofNat (48 + (n % 10).toNat)] := by
  rw [itoa_of (by omega), itoa_of (by omega), Lib.decDigits, dif_neg (by omega)]
  have e1 : n.toNat / 10 = (n / 10).toNat := by omega
  have e2 : n.toNat % 10 = (n % 10).toNat := by omega
  rw [e1, e2]

set_option maxHeartbeats 1600000 in
theorem Number_small (n : Int) (h0 : 0 ≤ n) (h1 : n < 10) (w : World) :
    Calls Tryz.prog 109 #[.int .i64 n] w fun e w' => e = .returned (.string ⟨(Lib.itoa n).toArray⟩) ∧ Below w.heap.size w w' := by
  have hc := byte_back n h0 h1
  go_enter Tryz.func109, Tryz.ntmps109
  go_wp2
  go_returns
  exact ⟨ret_str (by simp [itoa_small h0 h1]), boxB _ _⟩

set_option maxHeartbeats 1600000 in
theorem Number_more (n : Int) (h0 : 10 ≤ n) (h1 : n ≤ 999) (w : World) (A : ByteArray) (hA : A.size ≤ 100) (D : UInt8) (hD : UInt8.ofNat (48 + (n % 10).toNat) = D)
    (HN : Hid (∀ w1, Calls Tryz.prog 109 #[.int .i64 (n / 10)] w1 fun e w' => e = .returned (.string A) ∧ Below w1.heap.size w1 w')) :
    Calls Tryz.prog 109 #[.int .i64 n] w fun e w' => e = .returned (.string (A ++ ⟨#[D]⟩)) ∧ Below w.heap.size w w' := by
  have HA : Hid (∀ (W : World) (N : Nat), W.cell? ⟨N, 0, none⟩ = some (.int .u8 (48 + n % 10)) → (convert 120 9 (.slice (some ⟨N, 0, none⟩) 1 1)).run Tryz.prog W = .ok (.string ⟨#[D]⟩) W) := by
    intro W N hN
    have := byte_at (n % 10) (by omega) (by omega) W N hN
    rw [hD] at this
    exact this
  have hc : ∀ W : World, (convert 120 9 (.slice (some ⟨W.heap.size, 0, none⟩) 1 1)).run Tryz.prog (W.alloc (.cells #[.int .u8 (48 + n % 10)] 5)) = .ok (.string ⟨#[D]⟩) (W.alloc (.cells #[.int .u8 (48 + n % 10)] 5)) := fun W => HA.out _ _ (by rw [World.cell?_alloc_new]; rfl)
  have hc2 : ∀ W : World, (convert 120 9 (.slice (some ⟨W.heap.size, 0, none⟩) 1 1)).run Tryz.prog (W.alloc (.cells #[.int .u8 (48 + n % 10)] 5)).drew = .ok (.string ⟨#[D]⟩) (W.alloc (.cells #[.int .u8 (48 + n % 10)] 5)).drew := fun W => HA.out _ _ (by rw [World.cell?_drew, World.cell?_alloc_new]; rfl)
  have e1 := fun W : World => run_string_add_sum (P := Tryz.prog) (w := W) A ⟨#[D]⟩ (by have : (⟨#[D]⟩ : ByteArray).size = 1 := rfl; omega)
  have hq : IntKind.i64.wrap (n.tdiv 10) = n / 10 := by rw [Int.tdiv_eq_ediv_of_nonneg (by omega), IntKind.wrap_i64]; omega
  have hr : n.tmod 10 = n % 10 := Int.tmod_eq_emod_of_nonneg (by omega)
  have hs : IntKind.i64.wrap (48 + n % 10) = 48 + n % 10 := by rw [IntKind.wrap_i64]; omega
  have hu : IntKind.u8.wrap (48 + n % 10) = 48 + n % 10 := by rw [IntKind.wrap_u8]; omega
  clear hD
  go_enter Tryz.func109, Tryz.ntmps109
  go_wp2_with fail
  go_region_with (go_at_call 109; refine (HN.out _).mono ?_; rintro e w1 ⟨rfl, hb⟩; have hcc := hb.cell (p := ⟨w.heap.size, 0, none⟩); have hcd := HA.out w1 w.heap.size; have HB : Hid (Below w.heap.size w w1) := below_then (by go_grown) hb; clear hb)
  all_goals go_wp2
  all_goals
    go_returns
    have hb := HB.out
    have hbs := hb.size
    exact ⟨rfl, by go_grown⟩

theorem Number_any (n : Int) (h0 : 0 ≤ n) (h1 : n ≤ 999) (w : World) :
    Calls Tryz.prog 109 #[.int .i64 n] w fun e w' => e = .returned (.string ⟨(Lib.itoa n).toArray⟩) ∧ Below w.heap.size w w' := by
  obtain ⟨k, hk⟩ : ∃ k : Nat, n.toNat = k := ⟨_, rfl⟩
  induction k using Nat.strongRecOn generalizing n w with
  | _ k ih =>
    by_cases h : n < 10
    · exact Number_small n h0 h w
    · have := Number_more n (by omega) h1 w ⟨(Lib.itoa (n / 10)).toArray⟩ (Nat.le_trans (itoa_three (by omega) (by omega)) (by decide)) _ rfl (fun w1 => ih (n / 10).toNat (by omega) (n / 10) (by omega) (by omega) w1 rfl)
      refine this.mono ?_
      rintro e w' ⟨rfl, hb⟩
      refine ⟨ret_str ?_, hb⟩
      have e := itoa_more (n := n) (by omega)
      rw [e]
      simp [ByteArray.ext_iff, ByteArray.data_append]

/-- What Print asks of Number. -/
def SpellsR (w : World) (n : Int) (S : ByteArray) : Prop := ∀ w1, Below w.heap.size w w1 → Calls Tryz.prog 109 #[.int .i64 n] w1 fun e w' => e = .returned (.string S) ∧ Below w1.heap.size w1 w'

theorem SpellsR.next {w : World} {n : Int} {S : ByteArray} (h : SpellsR w n S) {N : Nat} {x y z : Value} (w1 : World) (hb : Below w.heap.size w w1) (hl : N < w1.heap.size) (c0 : w1.cell? ⟨N, 0, none⟩ = some x) (c1 : w1.cell? ⟨N, 1, none⟩ = some y) (c2 : w1.cell? ⟨N, 2, none⟩ = some z) :
    Calls Tryz.prog 109 #[.int .i64 n] w1 fun e w' => e = .returned (.string S) ∧ w'.cell? ⟨N, 0, none⟩ = some x ∧ w'.cell? ⟨N, 1, none⟩ = some y ∧ w'.cell? ⟨N, 2, none⟩ = some z ∧ N < w'.heap.size ∧ Below w.heap.size w w' := by
  refine (h w1 hb).mono ?_
  rintro e w' ⟨rfl, hb1⟩
  exact ⟨rfl, (hb1.cell (p := ⟨N, 0, none⟩) hl).trans c0, (hb1.cell (p := ⟨N, 1, none⟩) hl).trans c1, (hb1.cell (p := ⟨N, 2, none⟩) hl).trans c2, Nat.lt_of_lt_of_le hl hb1.size, hb.trans (hb1.mono hb.size)⟩

set_option maxHeartbeats 1600000 in
theorem rPrint_all (a b c : Int) (w : World) (ha : mayV a b c = true → SpellsR w a ⟨(Lib.itoa a).toArray⟩) (hb : mayV a b c = true → SpellsR w b ⟨(Lib.itoa b).toArray⟩) (hc : mayV a b c = true → SpellsR w c ⟨(Lib.itoa c).toArray⟩) :
    Calls Tryz.prog 77 #[.agg #[.int .i64 a, .int .i64 b, .int .i64 c]] w fun e w' => e = .returned (.string (textV a b c)) ∧ Below w.heap.size w w' := by
  have HM : Hid (∀ w1, Calls Tryz.prog 47 #[.agg #[.int .i64 a, .int .i64 b, .int .i64 c]] w1 fun e w' => e = .returned (.bool (mayV a b c)) ∧ Below w1.heap.size w1 w') := rMay_any a b c
  cases hm : mayV a b c
  · have HR : Hid (textV a b c = ByteArray.empty) := by unfold Hid textV; rw [hm]; rfl
    rw [hm] at HM
    clear ha hb hc
    go_enter Tryz.func77, Tryz.ntmps77
    go_wp2_with (go_at_call 47; refine (HM.out _).mono ?_; rintro e w' ⟨rfl, hb⟩)
    go_returns
    exact ⟨ret_str HR.out.symm, below_then (boxB _ _) hb⟩
  · have HR : Hid (textV a b c = (((⟨(Lib.itoa a).toArray⟩ ++ ⟨#[46]⟩) ++ ⟨(Lib.itoa b).toArray⟩) ++ ⟨#[46]⟩) ++ ⟨(Lib.itoa c).toArray⟩) := by unfold Hid textV; rw [hm]; rfl
    have HA : Hid (SpellsR w a ⟨(Lib.itoa a).toArray⟩) := ha hm
    have HB : Hid (SpellsR w b ⟨(Lib.itoa b).toArray⟩) := hb hm
    have HC : Hid (SpellsR w c ⟨(Lib.itoa c).toArray⟩) := hc hm
    obtain ⟨a0, a1, b0, b1, c0, c1⟩ := may_all hm
    have za := itoa_three a0 a1
    have zb := itoa_three b0 b1
    have zc := itoa_three c0 c1
    rw [hm] at HM
    clear ha hb hc a0 a1 b0 b1 c0 c1
    generalize (⟨(Lib.itoa a).toArray⟩ : ByteArray) = A at *
    generalize (⟨(Lib.itoa b).toArray⟩ : ByteArray) = B at *
    generalize (⟨(Lib.itoa c).toArray⟩ : ByteArray) = C at *
    have zd : (⟨#[46]⟩ : ByteArray).size = 1 := rfl
    have e1 := fun W : World => run_string_add_sum (P := Tryz.prog) (w := W) A ⟨#[46]⟩ (by omega)
    have e2 := fun W : World => run_string_add_sum (P := Tryz.prog) (w := W) (A ++ ⟨#[46]⟩) B (by rw [size_cat]; omega)
    have e3 := fun W : World => run_string_add_sum (P := Tryz.prog) (w := W) ((A ++ ⟨#[46]⟩) ++ B) ⟨#[46]⟩ (by rw [size_cat, size_cat]; omega)
    have e4 := fun W : World => run_string_add_sum (P := Tryz.prog) (w := W) (((A ++ ⟨#[46]⟩) ++ B) ++ ⟨#[46]⟩) C (by rw [size_cat, size_cat, size_cat]; omega)
    clear za zb zc zd
    go_enter Tryz.func77, Tryz.ntmps77
    go_wp2_with (go_at_call 47; refine (HM.out _).mono ?_; rintro e w0 ⟨rfl, hb0⟩; obtain ⟨k0, k1, k2, k3, k4⟩ := boxV hb0)
    have HB0 : Hid (Below w.heap.size w w0) := k4
    have HK0 : Hid (w.heap.size < w0.heap.size ∧ w0.cell? ⟨w.heap.size, 0, none⟩ = some (.int .i64 a) ∧ w0.cell? ⟨w.heap.size, 1, none⟩ = some (.int .i64 b) ∧ w0.cell? ⟨w.heap.size, 2, none⟩ = some (.int .i64 c)) := ⟨k3, k0, k1, k2⟩
    have t1 : True := trivial
    have t2 : True := trivial
    have t3 : True := trivial
    clear k4 hb0
    go_region_held3 (fun w' => w'.cell? ⟨w.heap.size, 0, none⟩ = some (.int .i64 a) ∧ w'.cell? ⟨w.heap.size, 1, none⟩ = some (.int .i64 b) ∧ w'.cell? ⟨w.heap.size, 2, none⟩ = some (.int .i64 c)) (go_keep)
      (first
        | (go_at_call 109; clear t1; refine (HA.out.next (N := w.heap.size) (x := .int .i64 a) (y := .int .i64 b) (z := .int .i64 c) _ ?_ ?_ ?_ ?_ ?_).mono ?_; (first | exact HB0.out | exact HB0.out.drew); exact HK0.out.1; exact HK0.out.2.1; exact HK0.out.2.2.1; exact HK0.out.2.2.2; rintro e w1 ⟨rfl, q0, q1, q2, l1, b1⟩; have HB1 : Hid (Below w.heap.size w w1) := b1; have HK1 : Hid (w.heap.size < w1.heap.size ∧ w1.cell? ⟨w.heap.size, 0, none⟩ = some (.int .i64 a) ∧ w1.cell? ⟨w.heap.size, 1, none⟩ = some (.int .i64 b) ∧ w1.cell? ⟨w.heap.size, 2, none⟩ = some (.int .i64 c)) := ⟨l1, q0, q1, q2⟩; clear b1)
        | (go_at_call 109; clear t2; refine (HB.out.next (N := w.heap.size) (x := .int .i64 a) (y := .int .i64 b) (z := .int .i64 c) _ ?_ ?_ ?_ ?_ ?_).mono ?_; (first | exact HB1.out | exact HB1.out.drew); exact HK1.out.1; exact HK1.out.2.1; exact HK1.out.2.2.1; exact HK1.out.2.2.2; rintro e w2 ⟨rfl, r0, r1, r2, l2, b2⟩; have HB2 : Hid (Below w.heap.size w w2) := b2; have HK2 : Hid (w.heap.size < w2.heap.size ∧ w2.cell? ⟨w.heap.size, 0, none⟩ = some (.int .i64 a) ∧ w2.cell? ⟨w.heap.size, 1, none⟩ = some (.int .i64 b) ∧ w2.cell? ⟨w.heap.size, 2, none⟩ = some (.int .i64 c)) := ⟨l2, r0, r1, r2⟩; clear b2)
        | (go_at_call 109; clear t3; refine (HC.out.next (N := w.heap.size) (x := .int .i64 a) (y := .int .i64 b) (z := .int .i64 c) _ ?_ ?_ ?_ ?_ ?_).mono ?_; (first | exact HB2.out | exact HB2.out.drew); exact HK2.out.1; exact HK2.out.2.1; exact HK2.out.2.2.1; exact HK2.out.2.2.2; rintro e w3 ⟨rfl, u0, u1, u2, l3, b3⟩; have HB3 : Hid (Below w.heap.size w w3) := b3; clear b3))
    all_goals go_wp2
    all_goals
      go_returns
      refine ⟨ret_str (by rw [HR.out]), ?_⟩
      exact HB3.out

theorem rPrint_any (a b c : Int) (w : World) :
    Calls Tryz.prog 77 #[.agg #[.int .i64 a, .int .i64 b, .int .i64 c]] w fun e w' => e = .returned (.string (textV a b c)) ∧ Below w.heap.size w w' := by
  refine rPrint_all a b c w (fun m => ?_) (fun m => ?_) (fun m => ?_) <;> (obtain ⟨a0, a1, b0, b1, c0, c1⟩ := may_all m)
  · exact fun w1 _ => Number_any a a0 a1 w1
  · exact fun w1 _ => Number_any b b0 b1 w1
  · exact fun w1 _ => Number_any c c0 c1 w1
end Go.Proofs.YthlipnnlgkmhcaaGreatDoor
namespace Go.Proofs.YthlipnnlgkmhcaaGreatDoor
open Go.RowKit
set_option maxRecDepth 100000

/-- A call whose contract asks that nothing old has turned. -/
theorem lift_on {P : Program} {f : Nat} {args : Array Value} {R : Ending} {w : World} (h : ∀ w1, Below w.heap.size w w1 → Calls P f args w1 fun e w' => e = R ∧ Below w1.heap.size w1 w') {bs : List Bx} (w1 : World) (ok : OKs w bs w1) :
    Calls P f args w1 fun e w' => e = R ∧ OKs w bs w' := by
  refine (h w1 ok.1).mono ?_
  rintro e w' ⟨rfl, hb⟩
  exact ⟨rfl, ok.below hb⟩

end Go.Proofs.YthlipnnlgkmhcaaGreatDoor
namespace Go.Proofs.YthlipnnlgkmhcaaGreatDoor
open Go.RowKit
set_option maxRecDepth 100000

end Go.Proofs.YthlipnnlgkmhcaaGreatDoor
namespace Go.Proofs.YthlipnnlgkmhcaaGreatDoor
open Go.RowKit
set_option maxRecDepth 100000

theorem cmp_le {a b c x y z r s t : Int} (h1 : mayV a b c = true) (h2 : mayV x y z = true) (h3 : mayV r s t = true) (hk : 0 ≤ cmpV x y z a b c) (hj : cmpV x y z r s t ≤ 0) : cmpV a b c r s t ≤ 0 := by
  have e1 := cmp_rank h2 h1
  have e2 := cmp_rank h3 h2
  have e3 := cmp_rank h3 h1
  have n1 := cmp_neg a b c r s t
  have n2 := cmp_neg x y z r s t
  have r1 := cmp_rank_eq h1 h3
  rcases cmp_range a b c r s t with e | e | e
  · omega
  · omega
  · have : rankV r s t < rankV a b c := e3.1 (by omega)
    omega

theorem print_on {W : World} (h : Lib.TabIs Tryz.prog W "internal/strconv.uint64pow10" .u64 Lib.pow10Tab) (a b c : Int) (w1 : World) (hb : Below W.heap.size W w1) :
    Calls Tryz.prog 84 #[.agg #[.int .i64 a, .int .i64 b, .int .i64 c]] w1 fun e w' => e = .returned (.string (textV a b c)) ∧ Below w1.heap.size w1 w' := by
  refine Print_any a b c w1 (fun m => ?_) (fun m => ?_) (fun m => ?_) <;> (obtain ⟨a0, a1, b0, b1, c0, c1⟩ := may_all m)
  · exact spells_tab h w1 hb a a0 a1
  · exact spells_tab h w1 hb b b0 b1
  · exact spells_tab h w1 hb c c0 c1

end Go.Proofs.YthlipnnlgkmhcaaGreatDoor
namespace Go.Proofs.YthlipnnlgkmhcaaGreatDoor
open Go.RowKit
set_option maxRecDepth 100000

/-- What the library's variables hold. -/
structure Env (W : World) : Prop where
  tab : Lib.TabIs Tryz.prog W "internal/strconv.uint64pow10" .u64 Lib.pow10Tab

theorem cell_in {W : World} {a : Addr} {v : Value} (h : W.cell? a = some v) : a.block < W.heap.size := by
  rcases Nat.lt_or_ge a.block W.heap.size with h' | h'
  · exact h'
  · simp [World.cell?, Array.getElem?_eq_none h'] at h

theorem Env.below {W w : World} (h : Env W) (hb : Below W.heap.size W w) : Env w := { tab := Lib.tabBelow_of_tabIs h.tab w hb }

/-- What a part is read as. -/
def numV (l : List UInt8) : Int := match Lib.atoiAll l with
  | .ok v => v
  | _ => -1

theorem numV_i64 (l : List UInt8) : -9223372036854775808 ≤ numV l ∧ numV l ≤ 9223372036854775807 := by
  unfold numV
  cases h : Lib.atoiAll l with
  | ok v => exact Lib.atoiAll_bounds h
  | _ => simp

theorem below_bytes {w w' : World} {t : TypeId} (h : w' = w ∨ ∃ b, w' = Lib.bytesWorld w t b) : Below w.heap.size w w' := by
  rcases h with rfl | ⟨b, rfl⟩
  · exact Below.refl _ _
  · exact Lib.bytesWorld_below _ _ _

end Go.Proofs.YthlipnnlgkmhcaaGreatDoor
namespace Go.Proofs.YthlipnnlgkmhcaaGreatDoor
open Go.RowKit
set_option maxRecDepth 100000

def OKr (w : World) (N : Nat) (bs : List Bx) (w1 : World) : Prop := OKs w bs w1 ∧ w1.frozen? ⟨N, 0, none⟩ = false ∧ w1.frozen? ⟨N, 1, none⟩ = false ∧ w1.frozen? ⟨N, 2, none⟩ = false ∧ N < w1.heap.size

theorem OKr.below {w : World} {N : Nat} {bs : List Bx} {w1 w' : World} (h : OKr w N bs w1) (hb : Below w1.heap.size w1 w') : OKr w N bs w' :=
  ⟨h.1.below hb, (hb.frozen (p := ⟨N, 0, none⟩) h.2.2.2.2).trans h.2.1, (hb.frozen (p := ⟨N, 1, none⟩) h.2.2.2.2).trans h.2.2.1, (hb.frozen (p := ⟨N, 2, none⟩) h.2.2.2.2).trans h.2.2.2.1, Nat.lt_of_lt_of_le h.2.2.2.2 hb.size⟩
theorem OKr.drew {w : World} {N : Nat} {bs : List Bx} {w1 : World} (h : OKr w N bs w1) : OKr w N bs w1.drew := ⟨h.1.drew, h.2⟩
theorem OKr.box {w : World} {N : Nat} {bs : List Bx} {w1 : World} (h : OKr w N bs w1) {M : Nat} (hM : w1.heap.size = M) (x y z : Value) : OKr w N (⟨M, x, y, z⟩ :: bs) (w1.alloc (.cells #[x, y, z] 31)) := by
  have := h.below (boxB w1 (.cells #[x, y, z] 31))
  exact ⟨h.1.box hM x y z, this.2⟩
theorem OKr.start {w : World} {bs : List Bx} {w1 : World} (h : OKs w bs w1) {M : Nat} (hM : w1.heap.size = M) (x y z : Value) : OKr w M (⟨M, x, y, z⟩ :: bs) (w1.alloc (.cells #[x, y, z] 31)) := by
  refine ⟨h.box hM x y z, ?_⟩
  subst hM
  refine ⟨?_, ?_, ?_, ?_⟩
  · simp
  · simp
  · simp
  · show w1.heap.size < (w1.alloc _).heap.size
    simp

theorem liftr {P : Program} {f : Nat} {args : Array Value} {R : Ending} {w : World} (h : ∀ w1, Below w.heap.size w w1 → Calls P f args w1 fun e w' => e = R ∧ Below w1.heap.size w1 w') {N : Nat} {bs : List Bx} (w1 : World) (ok : OKr w N bs w1) :
    Calls P f args w1 fun e w' => e = R ∧ OKr w N bs w' := by
  refine (h w1 ok.1.1).mono ?_
  rintro e w' ⟨rfl, hb⟩
  exact ⟨rfl, ok.below hb⟩
end Go.Proofs.YthlipnnlgkmhcaaGreatDoor
namespace Go.Proofs.YthlipnnlgkmhcaaGreatDoor
open Go.RowKit
set_option maxRecDepth 100000

end Go.Proofs.YthlipnnlgkmhcaaGreatDoor
namespace Go.Proofs.YthlipnnlgkmhcaaGreatDoor
open Go.RowKit
set_option maxRecDepth 100000

def pA (l : List UInt8) : Int := numV (Lib.cut l [46]).1
def pB (l : List UInt8) : Int := numV (Lib.cut (Lib.cut l [46]).2.1 [46]).1
def pC (l : List UInt8) : Int := numV (Lib.cut (Lib.cut l [46]).2.1 [46]).2.1
/-- Is a text a version's? -/
def okP (s : ByteArray) : Bool := mayV (pA s.data.toList) (pB s.data.toList) (pC s.data.toList) && decide (textV (pA s.data.toList) (pB s.data.toList) (pC s.data.toList) = s)
def resA (s : ByteArray) : Int := if okP s then pA s.data.toList else 0
def resB (s : ByteArray) : Int := if okP s then pB s.data.toList else 0
def resC (s : ByteArray) : Int := if okP s then pC s.data.toList else 0

theorem cut_le (l sep : List UInt8) : (Lib.cut l sep).1.length ≤ l.length ∧ (Lib.cut l sep).2.1.length ≤ l.length := by
  unfold Lib.cut
  split
  · simp; omega
  · simp

theorem bytes_list (l : List UInt8) : (⟨l.toArray⟩ : ByteArray).data.toList = l := by simp
theorem bytes_size (l : List UInt8) : (⟨l.toArray⟩ : ByteArray).size = l.length := by show l.toArray.size = _; simp
theorem list_size (s : ByteArray) : s.data.toList.length = s.size := rfl

theorem bytes_same {s t : ByteArray} (h : s.toList = t.toList) : s = t := by
  rw [ByteArray.toList_eq, ByteArray.toList_eq] at h
  cases s; cases t
  simp only [ByteArray.mk.injEq]
  exact Array.toList_inj.1 h

/-- What is told is a version's text. -/
theorem okP_text {s : ByteArray} (h : okP s = true) : mayV (resA s) (resB s) (resC s) = true ∧ s = textV (resA s) (resB s) (resC s) := by
  unfold resA resB resC
  rw [h]
  unfold okP at h
  simp only [Bool.and_eq_true, decide_eq_true_eq] at h
  exact ⟨h.1, h.2.symm⟩

theorem cut_dot (l r : List UInt8) (h : (46 : UInt8) ∉ l) : Lib.cut (l ++ 46 :: r) [46] = (l, r, true) := by
  have hi : Lib.index (l ++ 46 :: r) [46] = l.length := by
    refine Lib.index_first (by simp) (by simp [Lib.occAt]) ?_
    intro j hj
    unfold Lib.occAt
    rw [List.drop_append_of_le_length (by omega)]
    have hd : l.drop j = l[j] :: l.drop (j + 1) := List.drop_eq_getElem_cons hj
    rw [hd]
    simp only [List.cons_append, List.isPrefixOf, Bool.and_true]
    rw [beq_eq_false_iff_ne]
    intro e
    exact h (by rw [e]; exact List.getElem_mem hj)
  unfold Lib.cut
  rw [hi, if_pos (by omega)]
  simp

theorem dec_from (l : List UInt8) (h : ∀ d ∈ l, 48 ≤ d.toNat ∧ d.toNat ≤ 57) (acc : Nat) : Lib.decFrom acc l = some (l.foldl (fun n d => n * 10 + (d.toNat - 48)) acc) := by
  induction l generalizing acc with
  | nil => rfl
  | cons d l ih =>
    have hd := h d (List.mem_cons_self)
    unfold Lib.decFrom
    have : Lib.digitVal d = some (d.toNat - 48) := by
      unfold Lib.digitVal; simp; omega
    rw [this]
    simp only [List.foldl_cons]
    exact ih (fun x hx => h x (List.mem_cons_of_mem _ hx)) _

/-- The numeral of a part is read as that part. -/
theorem num_itoa {n : Int} (h0 : 0 ≤ n) (h1 : n ≤ 999) : numV (Lib.itoa n) = n := by
  have e := itoa_of h0
  have hl : (Lib.itoa n).length ≤ 3 := by have := itoa_three h0 h1; rw [bytes_size] at this; exact this
  have hd := dec_digits n.toNat
  have hv := val_dec n.toNat
  have ha : Lib.atoi (Lib.itoa n) = some n := by
    rw [e]
    cases hc : Lib.decDigits n.toNat with
    | nil => exact absurd hc (dec_ne _)
    | cons b r =>
      rw [hc] at hd hv
      have hb := hd b (List.mem_cons_self)
      have n45 : (b == 45) = false := by rw [beq_eq_false_iff_ne]; rintro rfl; revert hb; decide
      have n43 : (b == 43) = false := by rw [beq_eq_false_iff_ne]; rintro rfl; revert hb; decide
      unfold Lib.atoi
      simp only [n45, n43, Bool.false_eq_true, if_false]
      unfold Lib.decNat
      simp only [List.isEmpty_cons, Bool.false_eq_true, if_false]
      rw [dec_from _ hd]
      unfold valOf at hv
      rw [hv]
      simp
      omega
  unfold numV
  rw [Lib.atoiAll_short _ (by omega), ha]
  rfl

theorem parts_text {a b c : Int} (h : mayV a b c = true) : pA (textV a b c).data.toList = a ∧ pB (textV a b c).data.toList = b ∧ pC (textV a b c).data.toList = c := by
  obtain ⟨a0, a1, b0, b1, c0, c1⟩ := may_all h
  unfold pA pB pC
  rw [text_list h, cut_dot _ _ (no_dot a0)]
  simp only
  rw [cut_dot _ _ (no_dot b0)]
  exact ⟨num_itoa a0 a1, num_itoa b0 b1, num_itoa c0 c1⟩

/-- A version's text is told, as that version. -/
theorem okP_of {a b c : Int} (h : mayV a b c = true) : okP (textV a b c) = true ∧ resA (textV a b c) = a ∧ resB (textV a b c) = b ∧ resC (textV a b c) = c := by
  obtain ⟨e1, e2, e3⟩ := parts_text h
  have ho : okP (textV a b c) = true := by
    unfold okP
    rw [e1, e2, e3, h]
    simp
  unfold resA resB resC
  rw [ho]
  exact ⟨rfl, e1, e2, e3⟩

theorem okP_empty : okP ByteArray.empty = false := by
  rw [Bool.eq_false_iff]
  intro h
  obtain ⟨hm, he⟩ := okP_text h
  have := congrArg (fun s : ByteArray => s.data.toList) he
  simp only [text_list hm] at this
  have h2 := congrArg List.length this
  simp at h2
end Go.Proofs.YthlipnnlgkmhcaaGreatDoor
namespace Go.Proofs.YthlipnnlgkmhcaaGreatDoor
open Go.RowKit
set_option maxRecDepth 100000

theorem of_list {s : ByteArray} {l : List UInt8} (h : s.data.toList = l) : s = ⟨l.toArray⟩ := by
  cases s with
  | mk d => simp only at h; subst h; simp
theorem beq_no {s : ByteArray} {l : List UInt8} (h : ¬ s.data.toList = l) : (s.toList == l) = false := by
  rw [ByteArray.toList_eq]; simpa using h

/-- The place of the version that a text is. -/
def plP (t : ByteArray) : Int := rankV (resA t) (resB t) (resC t)
theorem plP_ok {t : ByteArray} (h : okP t = true) : okR (plP t) ∧ atA (plP t) = resA t ∧ atB (plP t) = resB t ∧ atC (plP t) = resC t := by
  have m := (okP_text h).1
  have l := rank_low m
  exact ⟨by unfold okR plP; omega, at_rank m⟩

end Go.Proofs.YthlipnnlgkmhcaaGreatDoor
namespace Go.Proofs.YthlipnnlgkmhcaaGreatDoor
open Go.RowKit
set_option maxRecDepth 100000

/-- Where a word's version begins. -/
def idxK (s : ByteArray) : Nat := (max (Lib.indexAny s.data.toList [48, 49, 50, 51, 52, 53, 54, 55, 56, 57]) 0).toNat
theorem indexAny_lt (c : List UInt8) : ∀ l : List UInt8, Lib.indexAny l c < l.length ∨ Lib.indexAny l c = -1
  | [] => Or.inr rfl
  | b :: l => by
    have ih := indexAny_lt c l
    unfold Lib.indexAny
    simp only [List.length_cons]
    split
    · left; omega
    · split
      · exact Or.inr rfl
      · left
        rename_i h
        simp at h
        omega
theorem idxK_le (s : ByteArray) : idxK s ≤ s.size := by
  unfold idxK
  have h1 := indexAny_lt [48, 49, 50, 51, 52, 53, 54, 55, 56, 57] s.data.toList
  have h2 := list_size s
  have h3 := Lib.indexAny_ge [48, 49, 50, 51, 52, 53, 54, 55, 56, 57] s.data.toList
  omega

/-- A word's versions. -/
def wordR (s : ByteArray) : Option Rg := if s.data.toList = [42] then some allR else if okP (s.extract (idxK s) s.size) = true then signR (s.extract 0 (idxK s)).data.toList (plP (s.extract (idxK s) s.size)) else none
theorem word_rg {s : ByteArray} {R : Rg} (h : wordR s = some R) : RangeR R := by
  unfold wordR at h
  split at h
  · injection h with h; subst h; exact allR_ok
  · split at h
    · rename_i ho
      exact sign_ok (plP_ok ho).1 h
    · cases h

/-- A text whose bytes are all ASCII, or that is long. -/
def Plain8 (s : ByteArray) : Prop := 8 < s.size ∨ ∀ (j : Nat) b, s.data.toList[j]? = some b → b.toNat < 128

end Go.Proofs.YthlipnnlgkmhcaaGreatDoor
namespace Go.Proofs.YthlipnnlgkmhcaaGreatDoor
open Go.RowKit
set_option maxRecDepth 100000

/-- Texts lie in a row in memory. -/
def Pieces (w : World) (v : Value) (ps : List ByteArray) : Prop := ∃ N, v = .slice (some ⟨N, 0, none⟩) ps.length ps.length ∧ N < w.heap.size ∧ ∀ i (h : i < ps.length), w.cell? ⟨N, i, none⟩ = some (.string ps[i])
theorem Pieces.below {w w' : World} {v : Value} {ps : List ByteArray} (h : Pieces w v ps) (hb : Below w.heap.size w w') : Pieces w' v ps := by
  obtain ⟨N, hv, hN, hc⟩ := h
  exact ⟨N, hv, Nat.lt_of_lt_of_le hN hb.size, fun i hi => (hb.cell (p := ⟨N, i, none⟩) hN).trans (hc i hi)⟩

/-- What stands between separators. -/
def piecesB (s sep : ByteArray) : List ByteArray := Lib.splitB sep 0 (Lib.countB s sep) s
theorem pieces_len (s sep : ByteArray) (h1 : 1 ≤ sep.size) : (piecesB s sep).length = Lib.countB s sep + 1 := Lib.splitB_all sep h1 0 _ s rfl
theorem pieces_size (sep : ByteArray) : ∀ (k : Nat) (s : ByteArray), ∀ p ∈ Lib.splitB sep 0 k s, p.size ≤ s.size
  | 0, s, p, hp => by rw [Lib.splitB_zero] at hp; simp at hp; subst hp; exact Nat.le_refl _
  | k + 1, s, p, hp => by
    unfold Lib.splitB at hp
    split at hp
    · simp at hp; subst hp; exact Nat.le_refl _
    · rcases List.mem_cons.1 hp with rfl | hp
      · rw [ByteArray.size_extract]; omega
      · have := pieces_size sep k _ p hp
        rw [ByteArray.size_extract] at this
        omega

/-- What words have in common, from a range on; whether there was one. -/
def wordsF : Rg → Bool → List ByteArray → Option (Rg × Bool)
  | R, f, [] => some (R, f)
  | R, f, p :: ps => if p.size = 0 then wordsF R f ps else match wordR p with
    | none => none
    | some X => wordsF (meetR R X) true ps
def wordsB (ps : List ByteArray) : Bool := match wordsF allR false ps with
  | some (_, f) => f
  | none => false
def wordsL (ps : List ByteArray) : Rg := match wordsF allR false ps with
  | some (R, _) => R
  | none => []
theorem wordsF_rg : ∀ {ps : List ByteArray} {R R' : Rg} {f f' : Bool}, RangeR R → wordsF R f ps = some (R', f') → RangeR R'
  | [], _, _, _, _, h, e => by simp only [wordsF, Option.some.injEq, Prod.mk.injEq] at e; rw [← e.1]; exact h
  | p :: ps, R, _, f, _, h, e => by
    unfold wordsF at e
    split at e
    · exact wordsF_rg h e
    · split at e
      · cases e
      · rename_i X hX
        exact wordsF_rg (h.meet (word_rg hX)) e
theorem wordsL_rg (ps : List ByteArray) : RangeR (wordsL ps) := by
  unfold wordsL
  split
  · rename_i h; exact wordsF_rg allR_ok h
  · trivial

theorem empty_size {p : ByteArray} : p.toList.isEmpty = decide (p.size = 0) := by
  rw [ByteArray.toList_eq]
  have := list_size p
  cases h : p.data.toList with
  | nil => rw [h, List.length_nil] at this; exact (decide_eq_true this.symm).symm
  | cons _ _ => rw [h, List.length_cons] at this; exact (decide_eq_false (by omega)).symm

end Go.Proofs.YthlipnnlgkmhcaaGreatDoor
namespace Go.Proofs.YthlipnnlgkmhcaaGreatDoor
open Go.RowKit
set_option maxRecDepth 100000

/-- What alternatives have, from a range on. -/
def altF : Rg → List ByteArray → Option Rg
  | R, [] => some R
  | R, a :: l => if wordsB (piecesB a ⟨#[32]⟩) = true then altF (joinR R (wordsL (piecesB a ⟨#[32]⟩))) l else none
/-- What a text of at most 4096 bytes says. -/
def altR (s : ByteArray) : Option Rg := altF [] (piecesB s ⟨#[124, 124]⟩)
theorem altF_rg : ∀ {l : List ByteArray} {R R' : Rg}, RangeR R → altF R l = some R' → RangeR R'
  | [], _, _, h, e => by simp only [altF, Option.some.injEq] at e; rw [← e]; exact h
  | a :: l, R, _, h, e => by
    unfold altF at e
    split at e
    · exact altF_rg (h.join (wordsL_rg _)) e
    · cases e
theorem altR_rg {s : ByteArray} {R : Rg} (h : altR s = some R) : RangeR R := altF_rg (R := []) trivial h

/-- What Parse makes of what a text says. -/
def parL : Option Rg → Rg
  | none => []
  | some R => fitR R
def parE : Option Rg → Int
  | none => 21
  | some R => fullE R.length

/-- Every word of a text is plain enough. -/
def PlainT (s : ByteArray) : Prop := ∀ a ∈ piecesB s ⟨#[124, 124]⟩, ∀ p ∈ piecesB a ⟨#[32]⟩, p.size ≠ 0 → Plain8 p

end Go.Proofs.YthlipnnlgkmhcaaGreatDoor
