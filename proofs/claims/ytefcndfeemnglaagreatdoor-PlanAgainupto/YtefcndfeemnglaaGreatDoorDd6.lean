/- Dd: pieces of Ld3, Row1, DkU, DkF. -/
import Derived.Test.YtefcndfeemnglaaGreatDoorTie
import Derived.Test.YtefcndfeemnglaaGreatDoorCards
import Derived.ProofKit
import Derived.OpenShut
import Derived.ChangeOld
import Derived.LaidMore
import Derived.Lay
import Derived.SevenTiedAt
import Derived.Stop.Joined
import Derived.Shelf.Vars
import Derived.Deep.Slices
import Derived.Deep.DeepHandedRow
import Derived.Deep.DeepWitnessRowRef
import Derived.Test.YtefcndfeemnglaaGreatDoorDd5
namespace Go.Proofs.YtefcndfeemnglaaGreatDoor.Dk
open Go.RowKit Go.Maps Go.WideMaps Go.WideElems Go.Sort Go.Shelf
set_option maxRecDepth 100000
open Go.ChangeShapes Go.WideShapes Go.ChangeAt Go.RowKit
open Go.ChangeShapes Go.WideShapes Go.ChangeAt Go.RowKit Go.ChangeMaps

/-- The wrap that hands on what is listed, the reach and the world's shape. -/
theorem wrap_shaped {H : Type} {enc : TypeId × Value → H} {a : Assume} {C : Checked} {os : Os} {f : FuncId} {fn : Func} {s : ChangeSpec} {conds : List PathCond} {apart fresh handsOn again : Bool} {X : World → Array Value → Prop}
    (own : ownKnob C.prog.godebug = none) (started : os.Started) (noInit : C.prog.inits.idxOf? f = none) (hfn : C.prog.funcs[f]? = some fn)
    (witness : ∃ (w : World) (tape : Tape) (i : Input), w.os = os ∧ (w.forCall tape i).Shaped C.prog ∧ i.vars = [] ∧ Input.okWide C.prog (w.forCall tape i) .any w.heap.size f i ∧
      ((s.pre enc C.prog fn conds apart (w.forCall tape i).memory i.args ∧ X (w.forCall tape i).memory i.args) ∧ sizedMet enc C.prog fn (OpenSpec.ofChange s) apart (w.forCall tape i).memory i.args) ∧ a.holds C.prog (lone (Frame.enter C.prog f i.args .normal) [] (w.forCall tape i)))
    (contract : ∀ (W : World) (base : Nat) (args : Array Value) (ds gs : List (DataW H)) (before : List MemPlace),
      (∀ (j : Nat) t v, fn.params[j]? = some t → args[j]? = some v → Value.okWide C.prog W .any base t v) →
      DataW.Whole enc C.prog fn.params.toList s.vars apart W args.toList ds gs before →
      (DataW.weightsEach C.prog (fn.params.toList ++ s.plain.varTypes C.prog) (ds ++ gs)).all (· ≤ reachBytes) = true → W.ShapedOpen C.prog →
      Calls C.prog f args W fun e W' => ∃ v, e = .returned v ∧ s.post enc C.prog fn apart fresh handsOn again W args v W') :
    ReturnsInHanded a C os f .any (fun w args => (s.pre enc C.prog fn conds apart w args ∧ X w args) ∧ sizedMet enc C.prog fn (OpenSpec.ofChange s) apart w args) (s.post enc C.prog fn apart fresh handsOn again) := by
  refine returnsInHanded_of_calls own started noInit witness ?_
  intro w tape i _ hsh _ hok hpre _
  obtain ⟨_, _, _, fn', hfn', _, _, _, _, hval⟩ := hok
  have e : fn' = fn := Option.some.inj (hfn'.symm.trans hfn)
  subst e
  obtain ⟨⟨⟨ds, gs, before, hw, _⟩, _⟩, hz⟩ := hpre
  have hw' := DataW.Whole.of_heap (w' := w.forCall tape i) (by rfl) hw
  refine (contract (w.forCall tape i) w.heap.size i.args ds gs before hval hw' (hz.weights hw) hsh).mono fun e W' ⟨v, he, hp⟩ => ?_
  subst he
  exact ChangeSpec.post_blind hp

-- the first variable, 0
theorem max_cell {W : World} (h : W.ShapedOpen Tryz.prog) : ∃ m, W.cell? ⟨0, 0, none⟩ = some (.int .i64 m) :=
  cell_of_shapedOpen_int (t := 3) (zero := #[.int .i64 0]) h (by decide +kernel) (by kernel_rfl) rfl (by kernel_rfl) (by kernel_rfl) Tryz.underlying3

theorem cellsInt : Tryz.prog.cellsOf 3 = 1 := by kernel_rfl
theorem cellsString : Tryz.prog.cellsOf 9 = 1 := by kernel_rfl

theorem take_one {cs : List Value} {o : Nat} {v : Value} (h : (cs.drop o).take 1 = [v]) : cs[o]? = some v := by
  have h0 : ((cs.drop o).take 1)[0]? = some v := by rw [h]; rfl
  simpa using h0

theorem field_at {fs : Array Field} {i ty off : Nat} (h : (fs[i]?).map (fun f => (f.type, f.offset)) = some (ty, off)) : ∃ f, fs[i]? = some f ∧ f.type = ty ∧ f.offset = off := by
  cases hf : fs[i]? with
  | none => rw [hf] at h; cases h
  | some f =>
    rw [hf] at h
    simp only [Option.map_some, Option.some.injEq, Prod.mk.injEq] at h
    exact ⟨f, rfl, h.1, h.2⟩

theorem bulk_pos {H : Type} (d : DataW H) : 1 ≤ Rows.uptoBulk d := by
  cases d with
  | lit l => cases l <;> simp [Rows.uptoBulk]
  | _ => simp [Rows.uptoBulk]
theorem bulk_len {H : Type} : ∀ l : List (DataW H), l.length ≤ Rows.uptoBulkAll l
  | [] => by simp [Rows.uptoBulkAll]
  | d :: r => by
    have h1 := bulk_pos d
    have h2 := bulk_len r
    simp only [Rows.uptoBulkAll, List.length_cons]
    omega
theorem deeds_bulk {H : Type} {d : DataW H} {len : Nat} (h : len = 0 ∨ ∃ el sp, d = .slice el sp ∧ len ≤ el.length + sp.length) : len ≤ Rows.uptoBulk d := by
  rcases h with rfl | ⟨el, sp, rfl, h⟩
  · exact Nat.zero_le _
  · have h1 := bulk_len el
    have h2 := bulk_len sp
    simp only [Rows.uptoBulk]
    omega

theorem cellsFile : Tryz.prog.cellsOf 45 = 3 := by kernel_rfl
theorem cellsBool : Tryz.prog.cellsOf 4 = 1 := by kernel_rfl
theorem file_read {H : Type} {enc : TypeId × Value → H} {W : World} {base : Nat} {spare : Nat → Bool} {held : Bool} {n : Nat} {g o : Nat} {cs : List Value} {x : DataW H × List MemPlace} (hc : W.cells? base ⟨g, o, none⟩ 3 = some cs) (h : DataW.trod enc Tryz.prog W base spare held n 45 cs = some x) :
    ∃ f : Fl, W.cell? ⟨g, o, none⟩ = some (.string f.1) ∧ W.cell? ⟨g, o + 1, none⟩ = some (.bool f.2.1) ∧ W.cell? ⟨g, o + 1 + 1, none⟩ = some (.string f.2.2) ∧ f.1.size ≤ maxLen ∧ f.2.2.size ≤ maxLen := by
  have hs : Tryz.prog.underlying 45 = some (.struct (Tryz.prog.fieldsOf 45)) := by kernel_rfl
  obtain ⟨xs, n', _, _, _, hxl, hf⟩ := DataW.trod_struct hs h
  have hsz : (Tryz.prog.fieldsOf 45).size = 3 := by kernel_rfl
  obtain ⟨_, _, hq⟩ := World.cells?_some hc
  have bools : ∀ i off, ((Tryz.prog.fieldsOf 45)[i]?).map (fun f => (f.type, f.offset)) = some (4, off) → i < 3 → ∃ k, cs[off]? = some (.bool k) := by
    intro i off hfd hi
    obtain ⟨f, h1, h2, h3⟩ := field_at hfd
    have hr := hf i f h1
    rw [h2, h3, cellsBool, List.getElem?_eq_getElem (by omega : i < xs.length)] at hr
    obtain ⟨k, e1, _⟩ := DataW.trod_bool Tryz.underlying4 hr
    exact ⟨k, take_one e1⟩
  have strs : ∀ i off, ((Tryz.prog.fieldsOf 45)[i]?).map (fun f => (f.type, f.offset)) = some (9, off) → i < 3 → ∃ s, cs[off]? = some (.string s) ∧ s.size ≤ maxLen := by
    intro i off hfd hi
    obtain ⟨f, h1, h2, h3⟩ := field_at hfd
    have hr := hf i f h1
    rw [h2, h3, cellsString, List.getElem?_eq_getElem (by omega : i < xs.length)] at hr
    obtain ⟨s, e1, _, ws⟩ := DataW.trod_string Tryz.underlying9 hr
    exact ⟨s, take_one e1, ws⟩
  obtain ⟨p, a0, wp⟩ := strs 0 0 (by kernel_rfl) (by decide)
  obtain ⟨c, a1⟩ := bools 1 1 (by kernel_rfl) (by decide)
  obtain ⟨t, a2, wt⟩ := strs 2 2 (by kernel_rfl) (by decide)
  have ad : ∀ i, (⟨g, o, none⟩ : Addr).add i = ⟨g, o + i, none⟩ := fun i => by unfold Addr.add; split <;> simp_all
  have q0 := hq 0 (by decide)
  have q1 := hq 1 (by decide)
  have q2 := hq 2 (by decide)
  rw [ad] at q0 q1 q2
  exact ⟨(p, c, t), by rw [← a0, ← q0]; rfl, by rw [← a1, ← q1], by rw [← a2, ← q2], wp, wt⟩

/-- A list is made of what lies at each place. -/
theorem list_of {P : Nat → Fl → Prop} : ∀ n, (∀ i, i < n → ∃ f, P i f) → ∃ fs : List Fl, fs.length = n ∧ ∀ i (hi : i < fs.length), P i fs[i]
  | 0, _ => ⟨[], rfl, fun i hi => absurd hi (Nat.not_lt_zero _)⟩
  | n + 1, h => by
    obtain ⟨fs, hl, hp⟩ := list_of n (fun i hi => h i (by omega))
    obtain ⟨f, hf⟩ := h n (by omega)
    refine ⟨fs ++ [f], by simp [hl], fun i hi => ?_⟩
    by_cases e : i < fs.length
    · rw [List.getElem_append_left e]; exact hp i e
    · have : i = fs.length := by simp at hi; omega
      subst this
      rw [List.getElem_append_right (Nat.le_refl _)]
      simp only [Nat.sub_self, List.getElem_cons_zero]
      rw [hl]
      exact hf

theorem open_files {H : Type} {enc : TypeId × Value → H} {W : World} {base fuel : Nat} {held : Bool} {a : Option Addr} {len cap : Nat} {x : DataW H × List MemPlace} (h : DataW.trod enc Tryz.prog W base (fun _ => true) held fuel 23 [.slice a len cap] = some x) :
    ∃ fs : List Fl, fs.length = len ∧ IsFiles W a fs ∧ (∀ f ∈ fs, f.1.size ≤ maxLen ∧ f.2.2.size ≤ maxLen) ∧ (len = 0 ∨ ∃ el sp, x.1 = .slice el sp ∧ len ≤ el.length + sp.length) := by
  rcases Go.Deep.open_slice Tryz.underlying23 h with ⟨hcs, _⟩ | ⟨ad, l, c, m, n, D, Pl, hcs, _, hl, _, hm, hx, hel⟩
  · simp only [List.cons.injEq, Value.slice.injEq, and_true] at hcs
    exact ⟨[], hcs.2.1.symm, Or.inl rfl, fun f hf => (by cases hf), Or.inl hcs.2.1⟩
  · simp only [List.cons.injEq, Value.slice.injEq, and_true] at hcs
    obtain ⟨rfl, rfl, rfl⟩ := hcs
    rcases Nat.eq_zero_or_pos len with h0 | h0
    · exact ⟨[], h0.symm, Or.inl rfl, fun f hf => (by cases hf), Or.inl h0⟩
    · have hmm : len ≤ m := by rw [hm]; simp; exact hl
      rw [cellsFile] at hel
      obtain ⟨g, off, spot⟩ := ad
      obtain ⟨cs0, hc0, _⟩ := hel 0 (by omega)
      obtain ⟨_, hln, hq⟩ := World.cells?_some hc0
      have hcell := hq 0 (by decide)
      rw [List.getElem?_eq_getElem (by omega : 0 < cs0.length)] at hcell
      have hspot : spot = none := by simpa [Addr.add] using World.cell?_spot hcell
      subst hspot
      have ad2 : ∀ o i, (⟨g, o, none⟩ : Addr).add i = ⟨g, o + i, none⟩ := fun o i => by unfold Addr.add; split <;> simp_all
      obtain ⟨fs, hfl, hfs⟩ := list_of (P := fun i f => W.cell? ⟨g, off + i * 3, none⟩ = some (.string f.1) ∧ W.cell? ⟨g, off + i * 3 + 1, none⟩ = some (.bool f.2.1) ∧ W.cell? ⟨g, off + i * 3 + 1 + 1, none⟩ = some (.string f.2.2) ∧ f.1.size ≤ maxLen ∧ f.2.2.size ≤ maxLen) len (fun i hi => by
        obtain ⟨cs, hc, ht⟩ := hel i (by omega)
        rw [ad2] at hc
        exact file_read hc ht)
      refine ⟨fs, hfl, Or.inr ⟨g, off, rfl, ?_, fun k hk => ?_⟩, fun f hf => ?_, Or.inr ⟨_, _, by rw [hx], by simp⟩⟩
      · have := cell_lt hcell
        rw [ad2, ad2] at this; exact this
      · obtain ⟨q0, q1, q2, _, _⟩ := hfs k hk
        exact ⟨q0, q1, q2⟩
      · obtain ⟨i, hi, rfl⟩ := List.getElem_of_mem hf
        exact ⟨(hfs i hi).2.2.2.1, (hfs i hi).2.2.2.2⟩
end Go.Proofs.YtefcndfeemnglaaGreatDoor.Dk
