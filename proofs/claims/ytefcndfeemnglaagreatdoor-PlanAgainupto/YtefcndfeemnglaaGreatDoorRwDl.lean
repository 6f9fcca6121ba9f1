/- Files that came in, their lists and texts no longer than their bulk. -/
import Derived.Test.YtefcndfeemnglaaGreatDoorDx5b
import Derived.Test.YtefcndfeemnglaaGreatDoorTie
import Derived.Test.YtefcndfeemnglaaGreatDoorCards
import Derived.Deep.DeepHandedRow
import Derived.Deep.DeepWitnessRowRef
namespace Go.Proofs.YtefcndfeemnglaaGreatDoor
open Go.ChangeShapes Go.WideShapes Go.ChangeAt Go.RowKit Go.ChangeMaps Dk
set_option maxRecDepth 100000

theorem own : ownKnob Tryz.prog.godebug = none := by kernel_rfl
theorem laidOut : laidOutB Tryz.prog = true := by kernel_rfl
theorem bulk_mem {H : Type} : ∀ {l : List (DataW H)} {d : DataW H}, d ∈ l → Rows.uptoBulk d ≤ Rows.uptoBulkAll l
  | [], d, h => by cases h
  | e :: l, d, h => by
    simp only [Rows.uptoBulkAll]
    rcases List.mem_cons.1 h with rfl | h
    · omega
    · have := bulk_mem h
      omega
theorem bulk_part {H : Type} {parts : List (DataW H)} {i : Nat} {d : DataW H} (h : parts[i]? = some d) : Rows.uptoBulk d ≤ Rows.uptoBulk (.agg parts) := by
  have := bulk_mem (List.mem_of_getElem? h)
  simp only [Rows.uptoBulk]
  omega
theorem bulk_elem {H : Type} {el sp : List (DataW H)} {d : DataW H} (h : d ∈ el) : Rows.uptoBulk d ≤ Rows.uptoBulk (.slice el sp) := by
  have := bulk_mem h
  simp only [Rows.uptoBulk]
  omega

theorem file_readB {H : Type} {enc : TypeId × Value → H} {W : World} {base : Nat} {spare : Nat → Bool} {held : Bool} {n : Nat} {g o : Nat} {cs : List Value} {x : DataW H × List MemPlace} (hc : W.cells? base ⟨g, o, none⟩ 3 = some cs) (h : DataW.trod enc Tryz.prog W base spare held n 45 cs = some x) :
    ∃ f : Fl, W.cell? ⟨g, o, none⟩ = some (.string f.1) ∧ W.cell? ⟨g, o + 1, none⟩ = some (.bool f.2.1) ∧ W.cell? ⟨g, o + 1 + 1, none⟩ = some (.string f.2.2) ∧ f.1.size ≤ maxLen ∧ f.2.2.size ≤ Rows.uptoBulk x.1 := by
  have hs : Tryz.prog.underlying 45 = some (.struct (Tryz.prog.fieldsOf 45)) := by kernel_rfl
  obtain ⟨xs, n', _, hxx, _, hxl, hf⟩ := DataW.trod_struct hs h
  have hsz : (Tryz.prog.fieldsOf 45).size = 3 := by kernel_rfl
  obtain ⟨_, _, hq⟩ := World.cells?_some hc
  have bools : ∀ i off, ((Tryz.prog.fieldsOf 45)[i]?).map (fun f => (f.type, f.offset)) = some (4, off) → i < 3 → ∃ k, cs[off]? = some (.bool k) := by
    intro i off hfd hi
    obtain ⟨f, h1, h2, h3⟩ := field_at hfd
    have hr := hf i f h1
    rw [h2, h3, cellsBool, List.getElem?_eq_getElem (by omega : i < xs.length)] at hr
    obtain ⟨k, e1, _⟩ := DataW.trod_bool Tryz.underlying4 hr
    exact ⟨k, take_one e1⟩
  have strs : ∀ i off, ((Tryz.prog.fieldsOf 45)[i]?).map (fun f => (f.type, f.offset)) = some (9, off) → i < 3 → ∃ s, cs[off]? = some (.string s) ∧ s.size ≤ maxLen ∧ s.size ≤ Rows.uptoBulk x.1 := by
    intro i off hfd hi
    obtain ⟨f, h1, h2, h3⟩ := field_at hfd
    have hr := hf i f h1
    rw [h2, h3, cellsString, List.getElem?_eq_getElem (by omega : i < xs.length)] at hr
    obtain ⟨s, e1, hx1, ws⟩ := DataW.trod_string Tryz.underlying9 hr
    refine ⟨s, take_one e1, ws, ?_⟩
    have b0 : Rows.uptoBulk (xs[i]'(by omega)).1 ≤ Rows.uptoBulk x.1 := by
      rw [hxx]
      exact bulk_part (i := i) (by rw [List.getElem?_map, List.getElem?_eq_getElem (by omega : i < xs.length)]; rfl)
    refine Nat.le_trans ?_ b0
    rw [hx1]
    simp only [Rows.uptoBulk]
    show s.data.size ≤ _
    rw [Array.length_toList]
    omega
  obtain ⟨p, a0, wp, _⟩ := strs 0 0 (by kernel_rfl) (by decide)
  obtain ⟨c, a1⟩ := bools 1 1 (by kernel_rfl) (by decide)
  obtain ⟨t, a2, _, wt⟩ := strs 2 2 (by kernel_rfl) (by decide)
  have ad : ∀ i, (⟨g, o, none⟩ : Addr).add i = ⟨g, o + i, none⟩ := fun i => by unfold Addr.add; split <;> simp_all
  have q0 := hq 0 (by decide)
  have q1 := hq 1 (by decide)
  have q2 := hq 2 (by decide)
  rw [ad] at q0 q1 q2
  exact ⟨(p, c, t), by rw [← a0, ← q0]; rfl, by rw [← a1, ← q1], by rw [← a2, ← q2], wp, wt⟩

theorem open_filesU {H : Type} {enc : TypeId × Value → H} {W : World} {base fuel : Nat} {held : Bool} {a : Option Addr} {len cap : Nat} {x : DataW H × List MemPlace} (h : DataW.trod enc Tryz.prog W base (fun _ => true) held fuel 23 [.slice a len cap] = some x) :
    ∃ fs : List Fl, fs.length = len ∧ IsFiles W a fs ∧ (∀ f ∈ fs, f.1.size ≤ maxLen ∧ f.2.2.size ≤ Rows.uptoBulk x.1) ∧ (len = 0 ∨ ∃ el sp, x.1 = .slice el sp ∧ len ≤ el.length + sp.length) := by
  rcases Go.Deep.open_slice Tryz.underlying23 h with ⟨hcs, _⟩ | ⟨ad, l, c, m, n, D, Pl, hcs, _, hl, _, hm, hx, hel⟩
  · simp only [List.cons.injEq, Value.slice.injEq, and_true] at hcs
    exact ⟨[], hcs.2.1.symm, Or.inl rfl, fun f hf => (by cases hf), Or.inl hcs.2.1⟩
  · simp only [List.cons.injEq, Value.slice.injEq, and_true] at hcs
    obtain ⟨rfl, rfl, rfl⟩ := hcs
    rcases Nat.eq_zero_or_pos len with h0 | h0
    · exact ⟨[], h0.symm, Or.inl rfl, fun f hf => (by cases hf), Or.inl h0⟩
    · have hmm : len ≤ m := by rw [hm]; simp; exact hl
      rw [cellsFile] at hel
      obtain ⟨g, off, spot⟩ := ad
      obtain ⟨cs0, hc0, _⟩ := hel 0 (by omega)
      obtain ⟨_, hln, hq⟩ := World.cells?_some hc0
      have hcell := hq 0 (by decide)
      rw [List.getElem?_eq_getElem (by omega : 0 < cs0.length)] at hcell
      have hspot : spot = none := by simpa [Addr.add] using World.cell?_spot hcell
      subst hspot
      have ad2 : ∀ o i, (⟨g, o, none⟩ : Addr).add i = ⟨g, o + i, none⟩ := fun o i => by unfold Addr.add; split <;> simp_all
      have hxi : x.1 = .slice ((List.range len).map D) ((List.range (m - len)).map fun j => D (len + j)) := by rw [hx]
      obtain ⟨fs, hfl, hfs⟩ := list_of (P := fun i f => W.cell? ⟨g, off + i * 3, none⟩ = some (.string f.1) ∧ W.cell? ⟨g, off + i * 3 + 1, none⟩ = some (.bool f.2.1) ∧ W.cell? ⟨g, off + i * 3 + 1 + 1, none⟩ = some (.string f.2.2) ∧ f.1.size ≤ maxLen ∧ f.2.2.size ≤ Rows.uptoBulk x.1) len (fun i hi => by
        obtain ⟨cs, hc, ht⟩ := hel i (by omega)
        rw [ad2] at hc
        obtain ⟨f, h1, h2, h3, h4, h5⟩ := file_readB hc ht
        have hb : Rows.uptoBulk (D i) ≤ Rows.uptoBulk x.1 := by
          rw [hxi]
          exact bulk_elem (List.mem_map.2 ⟨i, List.mem_range.2 hi, rfl⟩)
        exact ⟨f, h1, h2, h3, h4, Nat.le_trans h5 hb⟩)
      refine ⟨fs, hfl, Or.inr ⟨g, off, rfl, ?_, fun k hk => ?_⟩, fun f hf => ?_, Or.inr ⟨_, _, by rw [hx], by simp⟩⟩
      · have := cell_lt hcell
        rw [ad2, ad2] at this; exact this
      · obtain ⟨q0, q1, q2, _, _⟩ := hfs k hk
        exact ⟨q0, q1, q2⟩
      · obtain ⟨i, hi, rfl⟩ := List.getElem_of_mem hf
        exact ⟨(hfs i hi).2.2.2.1, (hfs i hi).2.2.2.2⟩
end Go.Proofs.YtefcndfeemnglaaGreatDoor
