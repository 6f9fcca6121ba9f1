/- RwTb, laid in one text. -/
import Derived.Test.YtcclfaioicklaaaGreatDoorMg20
namespace Go.Proofs.YtcclfaioicklaaaGreatDoor
open Go.ChangeShapes Go.WideShapes Go.ChangeAt Go.RowKit
set_option maxRecDepth 100000

theorem bytesDirT : Tryz.prog.bytesOf 46 = 144 := by kernel_rfl
/-- Directories that came in. -/
theorem dirs_csB {H : Type} {enc : TypeId × Value → H} {W : World} {base fuel : Nat} {held : Bool} {cs : List Value} {x : DataW H × List MemPlace} (h : DataW.trod enc Tryz.prog W base (fun _ => true) held fuel 22 cs = some x) :
    ∃ v L, cs = [v] ∧ DirsAt W v L ∧ L.length ≤ 9223372036854775807 ∧ (∀ d ∈ L, DrN d) ∧ ((x.1.weights Tryz.prog 22).all (· ≤ reachBytes) = true → FitP1 L ∧ L.length * 144 ≤ 140737488355328) := by
  rcases Go.Deep.open_slice Tryz.underlying22 h with ⟨rfl, _⟩ | ⟨ad, len, cap, m, n, D, Pl, rfl, _, hl, hcm, hm, hx, hel⟩
  · exact ⟨_, [], rfl, ⟨none, 0, rfl, Nat.le_refl _, Or.inl rfl⟩, by simp, (fun d hd => by cases hd), fun _ => ⟨(fun d hd => by cases hd), by simp⟩⟩
  · have hz : len ≤ 9223372036854775807 := by unfold maxLen at hcm; omega
    rcases Nat.eq_zero_or_pos len with h0 | h0
    · subst h0
      exact ⟨_, [], rfl, ⟨_, _, rfl, Nat.zero_le _, Or.inl rfl⟩, by simp, (fun d hd => by cases hd), fun _ => ⟨(fun d hd => by cases hd), by simp⟩⟩
    · have hmm : len ≤ m := by rw [hm]; simp; exact hl
      rw [cellsDirT] at hel
      obtain ⟨g, off, spot⟩ := ad
      obtain ⟨cs0, hc0, _⟩ := hel 0 (by omega)
      obtain ⟨_, hln, hq⟩ := World.cells?_some hc0
      have hcell := hq 0 (by decide)
      rw [List.getElem?_eq_getElem (by omega : 0 < cs0.length)] at hcell
      have hspot : spot = none := by simpa [Addr.add] using World.cell?_spot hcell
      subst hspot
      obtain ⟨L, hL, hP⟩ := list_any (P := fun i (d : Dr) => (∃ u v1 v2 v3, DrIn W g (off + i * 9) d u v1 v2 v3) ∧ DrN d ∧ (((D i).weights Tryz.prog 46).all (· ≤ reachBytes) = true → d.pa.length * 16 ≤ 140737488355328)) (n := len) fun i hi => by
        obtain ⟨cs, hc, ht⟩ := hel i (by omega)
        rw [addT] at hc
        exact dir_read hc ht
      subst hL
      refine ⟨_, L, rfl, ⟨_, _, rfl, hl, Or.inr ⟨g, off, rfl, fun i hi => (hP i hi).1⟩⟩, hz, ?_, fun hr => ?_⟩
      · intro d hd
        obtain ⟨i, hi, rfl⟩ := List.getElem_of_mem hd
        exact (hP i hi).2.1
      · have hxi : x.1 = .slice ((List.range L.length).map D) ((List.range (m - L.length)).map fun j => D (L.length + j)) := by rw [hx]
        refine ⟨?_, by
          rw [hxi] at hr
          have hb := (rch_slice Tryz.underlying22 hr).1
          rw [List.length_map, List.length_range, bytesDirT] at hb
          unfold reachBytes at hb
          omega⟩
        intro d hd
        obtain ⟨i, hi, rfl⟩ := List.getElem_of_mem hd
        have hxi : x.1 = .slice ((List.range L.length).map D) ((List.range (m - L.length)).map fun j => D (L.length + j)) := by rw [hx]
        rw [hxi] at hr
        exact (hP i hi).2.2 ((rch_slice Tryz.underlying22 hr).2 (D i) (List.mem_map.2 ⟨i, List.mem_range.2 (by omega), rfl⟩))

/-- A tree that came in. -/
theorem open_treeB {H : Type} {enc : TypeId × Value → H} {W : World} {base b0 : Nat} {held : Bool} {v : Value} {d : DataW H} {p : List MemPlace} (hv : Value.okWide Tryz.prog W .any b0 24 v) (h : DataW.Trod enc Tryz.prog W base (fun _ => true) held 24 v d p) :
    ∃ (L : List Dr) (vt : Value), v = .agg #[vt] ∧ DirsAt W vt L ∧ L.length ≤ 9223372036854775807 ∧ (∀ d ∈ L, DrN d) ∧ ((d.weights Tryz.prog 24).all (· ≤ reachBytes) = true → FitP1 L ∧ L.length * 144 ≤ 140737488355328) := by
  have hs : Tryz.prog.underlying 24 = some (.struct (Tryz.prog.fieldsOf 24)) := by kernel_rfl
  obtain ⟨cs, rfl, hsz⟩ := okWide_struct hs hv
  obtain ⟨n, h⟩ := h
  obtain ⟨xs, n', _, hxx, _, hxl, hf⟩ := DataW.trod_struct hs h
  have hfz : (Tryz.prog.fieldsOf 24).size = 1 := by kernel_rfl
  obtain ⟨f0, i0, t0, o0⟩ := field_at (fs := Tryz.prog.fieldsOf 24) (i := 0) (ty := 22) (off := 0) (by kernel_rfl)
  have r0 := hf 0 f0 i0
  rw [t0, o0, cellsDirsT, List.getElem?_eq_getElem (by omega : 0 < xs.length)] at r0
  obtain ⟨vt, L, e0, hd, hz, hn, hwt⟩ := dirs_csB r0
  have k0 : cs.toList[0]? = some vt := take1 e0
  rw [cellsTreeT] at hsz
  refine ⟨L, vt, ?_, hd, hz, hn, fun hr => ?_⟩
  · congr 1
    apply Array.ext'
    rcases hcs : cs.toList with _ | ⟨y, _ | ⟨z, r⟩⟩
    · rw [hcs] at k0; cases k0
    · rw [hcs] at k0
      simp at k0
      rw [k0]
    · have : cs.toList.length = 1 := by rw [Array.length_toList]; exact hsz
      rw [hcs] at this
      simp at this
  · have hdd : d = .agg (xs.map (·.1)) := congrArg Prod.fst hxx
    rw [hdd] at hr
    have hp2 := rch_part hs hr i0 (d := xs[0].1) (by rw [List.getElem?_map, List.getElem?_eq_getElem (by omega : 0 < xs.length)]; rfl)
    rw [t0] at hp2
    exact hwt hp2
end Go.Proofs.YtcclfaioicklaaaGreatDoor
