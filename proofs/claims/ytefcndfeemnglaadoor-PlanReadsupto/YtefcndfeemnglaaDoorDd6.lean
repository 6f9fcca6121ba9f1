/- Dd: pieces of Ld2, Plays1, Ld3, Row1, DkU, DkF. -/
import Derived.Test.YtefcndfeemnglaaDoorTie
import Derived.Test.YtefcndfeemnglaaDoorCards
import Derived.ProofKit
import Derived.OpenShut
import Derived.ChangeOld
import Derived.LaidMore
import Derived.Lay
import Derived.SevenTiedAt
import Derived.Stop.Joined
import Derived.Shelf.Vars
import Derived.Deep.Slices
import Derived.Deep.DeepHandedRow
import Derived.Deep.DeepWitnessRowRef
import Derived.Test.YtefcndfeemnglaaDoorDd5
namespace Go.Proofs.YtefcndfeemnglaaDoor.Dk
open Go.RowKit Go.Maps Go.WideMaps Go.WideElems Go.Sort Go.Shelf
set_option maxRecDepth 100000
open Go.ChangeShapes Go.WideShapes Go.ChangeAt Go.RowKit
open Go.ChangeShapes Go.WideShapes Go.ChangeAt Go.RowKit Go.ChangeMaps

/-- What Load answers. -/
def LoadQ (w : World) (fs : List Fl) (e : Ending) (w' : World) : Prop := Below w.heap.size w w' ∧
  ((Loads fs ∧ e = .returned (.tuple #[.pointer (some ⟨w.heap.size + 1, 0, none⟩), .int .i64 0]) ∧ ∃ n, n ≤ fs.length ∧ IsDisk w.heap.size w' (w.heap.size + 1) w.heap.size n (.slice none 0 0) ⟨loadD fs, [], -1⟩) ∨
   (¬ Loads fs ∧ e = .returned (.tuple #[.pointer none, .int .i64 1])))

/-- A list of files in memory. -/
def FilesAt (w : World) (g off : Nat) (fs : List Fl) : Prop := ∀ k (hk : k < fs.length), w.cell? ⟨g, off + k * 3, none⟩ = some (.string fs[k].1) ∧ w.cell? ⟨g, off + k * 3 + 1, none⟩ = some (.bool fs[k].2.1) ∧ w.cell? ⟨g, off + k * 3 + 1 + 1, none⟩ = some (.string fs[k].2.2)

theorem okF_path {p : ByteArray} {c : Bool} {t : ByteArray} (h : okF (p, c, t) = true) : okPath p = true := by
  unfold okF at h
  simp only [Bool.and_eq_true] at h
  exact h.1

/-- A list of files that lies in memory, or is empty. -/
def IsFiles (w : World) (a : Option Addr) (fs : List Fl) : Prop := fs = [] ∨ ∃ g off, a = some ⟨g, off, none⟩ ∧ g < w.heap.size ∧ FilesAt w g off fs

theorem IsFiles.below {w w' : World} {a : Option Addr} {fs : List Fl} (h : IsFiles w a fs) (hb : Below w.heap.size w w') : IsFiles w' a fs := by
  rcases h with h | ⟨g, off, rfl, hg, hc⟩
  · exact Or.inl h
  · refine Or.inr ⟨g, off, rfl, Nat.lt_of_lt_of_le hg hb.size, fun k hk => ?_⟩
    obtain ⟨a0, a1, a2⟩ := hc k hk
    exact ⟨cell_below a0 hb, cell_below a1 hb, cell_below a2 hb⟩

theorem row_form {w : World} {B t sz n : Nat} {v : Value} {xs : List Value} (h : w.ownsRow B t sz v n xs) : ∃ ao cap, v = .slice ao n cap := by
  rcases h.2 with ⟨rfl, h0⟩ | ⟨g, cap, cur, rfl, _⟩
  · exact ⟨none, 0, by rw [h0]⟩
  · exact ⟨some ⟨g, 0, none⟩, cap, rfl⟩

theorem Plain.put {D : DataW Unit} (h : Plain D) {s : ByteArray} (c : Bool) (t : ByteArray) (hok : okPath s = true) : Plain (D.put (keyD s) (itemD c t)) := by
  obtain ⟨es, rfl, hr, hf⟩ := h
  have hsub : ∀ p ∈ es.filter (fun p => !p.1.sameKey (keyD s)), ∃ s' c' t', p = (keyD s', itemD c' t') ∧ okPath s' = true ∧ s' ≠ s := by
    intro p hp
    obtain ⟨h1, h2⟩ := List.mem_filter.1 hp
    obtain ⟨s', c', t', rfl, ho⟩ := hf p h1
    refine ⟨s', c', t', rfl, ho, fun e => ?_⟩
    subst e
    rw [Bool.not_eq_true'] at h2
    exact absurd ((sameKey_keyD s' s').2 rfl) (by rw [h2]; decide)
  refine ⟨DataW.insert (keyD s, itemD c t) (es.filter (fun p => !p.1.sameKey (keyD s))), rfl, ?_, fun p hp => ?_⟩
  · refine Go.ChangeMaps.insert_sorted ⟨_, rfl⟩ _ (hr.filter _) (fun p hp => ?_) (fun p hp e => ?_)
    · obtain ⟨s', c', t', rfl, _, _⟩ := hsub p hp
      exact ⟨_, rfl⟩
    · obtain ⟨s', c', t', rfl, _, hne⟩ := hsub p hp
      exact hne (keyD_inj e)
  · rcases Go.ChangeMaps.mem_insert_iff.1 hp with rfl | hp
    · exact ⟨s, c, t, rfl, hok⟩
    · obtain ⟨s', c', t', rfl, ho, _⟩ := hsub p hp
      exact ⟨s', c', t', rfl, ho⟩
theorem plain_new : Plain (loadD []) := ⟨[], rfl, List.Pairwise.nil, fun p hp => by cases hp⟩
theorem plain_load (fs : List Fl) (h : ∀ f ∈ fs, okPath f.1 = true) : Plain (loadD fs) := by
  revert h
  refine snoc_ind (P := fun l => (∀ f ∈ l, okPath f.1 = true) → Plain (loadD l)) (fun _ => plain_new) (fun l f ih h => ?_) fs
  rw [loadD_snoc]
  exact (ih fun g hg => h g (by simp [hg])).put _ _ (h f (by simp))
theorem take_ok {fs : List Fl} {k : Nat} (h : ∀ j (hj : j < fs.length), j < k → okF fs[j] = true ∧ kindD (loadD (fs.take j)) fs[j].1 = 0) : ∀ f ∈ fs.take k, okPath f.1 = true := by
  intro f hf
  obtain ⟨j, hj, rfl⟩ := List.getElem_of_mem hf
  rw [List.length_take] at hj
  rw [List.getElem_take]
  exact okF_path (p := fs[j].1) (c := fs[j].2.1) (t := fs[j].2.2) (h j (by omega) (by omega)).1
theorem len_load (fs : List Fl) (hP : Plain (loadD fs)) (hd : fs.Pairwise fun x y => x.1 ≠ y.1) : (filesD (loadD fs)).length = fs.length := by
  refine List.Perm.length_eq ((List.perm_ext_iff_of_nodup (distinct hP.good.rise) ?_).2 fun f => mem_files_load hd hP.good f)
  exact hd.imp fun {x y} h e => h (by rw [e])
theorem take_apart {fs : List Fl} {k : Nat} (h : ∀ j (hj : j < fs.length), j < k → okF fs[j] = true ∧ kindD (loadD (fs.take j)) fs[j].1 = 0) : (fs.take k).Pairwise fun x y => x.1 ≠ y.1 := by
  refine loads_apart fun i hi => ?_
  have hi' := hi
  rw [List.length_take] at hi'
  rw [List.getElem_take, List.take_take, Nat.min_eq_left (by omega)]
  exact h i (by omega) (by omega)

/-- The wrap that hands on what is listed, the reach and the world's shape. -/
theorem wrap_shaped {H : Type} {enc : TypeId × Value → H} {a : Assume} {C : Checked} {os : Os} {f : FuncId} {fn : Func} {s : ChangeSpec} {conds : List PathCond} {apart fresh handsOn again : Bool} {X : World → Array Value → Prop}
    (own : ownKnob C.prog.godebug = none) (started : os.Started) (noInit : C.prog.inits.idxOf? f = none) (hfn : C.prog.funcs[f]? = some fn)
    (witness : ∃ (w : World) (tape : Tape) (i : Input), w.os = os ∧ (w.forCall tape i).Shaped C.prog ∧ i.vars = [] ∧ Input.okWide C.prog (w.forCall tape i) .any w.heap.size f i ∧
      ((s.pre enc C.prog fn conds apart (w.forCall tape i).memory i.args ∧ X (w.forCall tape i).memory i.args) ∧ sizedMet enc C.prog fn (OpenSpec.ofChange s) apart (w.forCall tape i).memory i.args) ∧ a.holds C.prog (lone (Frame.enter C.prog f i.args .normal) [] (w.forCall tape i)))
    (contract : ∀ (W : World) (base : Nat) (args : Array Value) (ds gs : List (DataW H)) (before : List MemPlace),
      (∀ (j : Nat) t v, fn.params[j]? = some t → args[j]? = some v → Value.okWide C.prog W .any base t v) →
      DataW.Whole enc C.prog fn.params.toList s.vars apart W args.toList ds gs before →
      (DataW.weightsEach C.prog (fn.params.toList ++ s.plain.varTypes C.prog) (ds ++ gs)).all (· ≤ reachBytes) = true → W.ShapedOpen C.prog →
      Calls C.prog f args W fun e W' => ∃ v, e = .returned v ∧ s.post enc C.prog fn apart fresh handsOn again W args v W') :
    ReturnsInHanded a C os f .any (fun w args => (s.pre enc C.prog fn conds apart w args ∧ X w args) ∧ sizedMet enc C.prog fn (OpenSpec.ofChange s) apart w args) (s.post enc C.prog fn apart fresh handsOn again) := by
  refine returnsInHanded_of_calls own started noInit witness ?_
  intro w tape i _ hsh _ hok hpre _
  obtain ⟨_, _, _, fn', hfn', _, _, _, _, hval⟩ := hok
  have e : fn' = fn := Option.some.inj (hfn'.symm.trans hfn)
  subst e
  obtain ⟨⟨⟨ds, gs, before, hw, _⟩, _⟩, hz⟩ := hpre
  have hw' := DataW.Whole.of_heap (w' := w.forCall tape i) (by rfl) hw
  refine (contract (w.forCall tape i) w.heap.size i.args ds gs before hval hw' (hz.weights hw) hsh).mono fun e W' ⟨v, he, hp⟩ => ?_
  subst he
  exact ChangeSpec.post_blind hp

-- the first variable, 0
theorem max_cell {W : World} (h : W.ShapedOpen Tryd.prog) : ∃ m, W.cell? ⟨0, 0, none⟩ = some (.int .i64 m) :=
  cell_of_shapedOpen_int (t := 3) (zero := #[.int .i64 0]) h (by decide +kernel) (by kernel_rfl) rfl (by kernel_rfl) (by kernel_rfl) Tryd.underlying3

theorem cellsInt : Tryd.prog.cellsOf 3 = 1 := by kernel_rfl
theorem cellsString : Tryd.prog.cellsOf 9 = 1 := by kernel_rfl

theorem take_one {cs : List Value} {o : Nat} {v : Value} (h : (cs.drop o).take 1 = [v]) : cs[o]? = some v := by
  have h0 : ((cs.drop o).take 1)[0]? = some v := by rw [h]; rfl
  simpa using h0

theorem field_at {fs : Array Field} {i ty off : Nat} (h : (fs[i]?).map (fun f => (f.type, f.offset)) = some (ty, off)) : ∃ f, fs[i]? = some f ∧ f.type = ty ∧ f.offset = off := by
  cases hf : fs[i]? with
  | none => rw [hf] at h; cases h
  | some f =>
    rw [hf] at h
    simp only [Option.map_some, Option.some.injEq, Prod.mk.injEq] at h
    exact ⟨f, rfl, h.1, h.2⟩

theorem bulk_pos {H : Type} (d : DataW H) : 1 ≤ Rows.uptoBulk d := by
  cases d with
  | lit l => cases l <;> simp [Rows.uptoBulk]
  | _ => simp [Rows.uptoBulk]
theorem bulk_len {H : Type} : ∀ l : List (DataW H), l.length ≤ Rows.uptoBulkAll l
  | [] => by simp [Rows.uptoBulkAll]
  | d :: r => by
    have h1 := bulk_pos d
    have h2 := bulk_len r
    simp only [Rows.uptoBulkAll, List.length_cons]
    omega
theorem deeds_bulk {H : Type} {d : DataW H} {len : Nat} (h : len = 0 ∨ ∃ el sp, d = .slice el sp ∧ len ≤ el.length + sp.length) : len ≤ Rows.uptoBulk d := by
  rcases h with rfl | ⟨el, sp, rfl, h⟩
  · exact Nat.zero_le _
  · have h1 := bulk_len el
    have h2 := bulk_len sp
    simp only [Rows.uptoBulk]
    omega

/-- A list is made of what lies at each place. -/
theorem list_of {P : Nat → Fl → Prop} : ∀ n, (∀ i, i < n → ∃ f, P i f) → ∃ fs : List Fl, fs.length = n ∧ ∀ i (hi : i < fs.length), P i fs[i]
  | 0, _ => ⟨[], rfl, fun i hi => absurd hi (Nat.not_lt_zero _)⟩
  | n + 1, h => by
    obtain ⟨fs, hl, hp⟩ := list_of n (fun i hi => h i (by omega))
    obtain ⟨f, hf⟩ := h n (by omega)
    refine ⟨fs ++ [f], by simp [hl], fun i hi => ?_⟩
    by_cases e : i < fs.length
    · rw [List.getElem_append_left e]; exact hp i e
    · have : i = fs.length := by simp at hi; omega
      subst this
      rw [List.getElem_append_right (Nat.le_refl _)]
      simp only [Nat.sub_self, List.getElem_cons_zero]
      rw [hl]
      exact hf
end Go.Proofs.YtefcndfeemnglaaDoor.Dk
