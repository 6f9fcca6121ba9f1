/- RwGr, laid in one text. -/
import Derived.Test.YtfnmbjddlkfooaaDoorMg13
namespace Go.Proofs.YtfnmbjddlkfooaaDoor
open Go.ChangeShapes Go.WideShapes Go.ChangeAt Go.RowKit
set_option maxRecDepth 100000

theorem cellsStrGT : Tryd.prog.cellsOf 9 = 1 := by kernel_rfl
theorem cellsPinT : Tryd.prog.cellsOf 155 = 4 := by kernel_rfl
theorem cellsEdgeT : Tryd.prog.cellsOf 42 = 2 := by kernel_rfl
theorem cellsNodeT : Tryd.prog.cellsOf 40 = 6 := by kernel_rfl
theorem cellsPinsT : Tryd.prog.cellsOf 37 = 1 := by kernel_rfl
theorem cellsEdgesT : Tryd.prog.cellsOf 38 = 1 := by kernel_rfl
theorem cellsNodesT : Tryd.prog.cellsOf 28 = 1 := by kernel_rfl
theorem cellsGraphT : Tryd.prog.cellsOf 30 = 1 := by kernel_rfl
theorem cellsIntGT : Tryd.prog.cellsOf 3 = 1 := by kernel_rfl

theorem pin_readT {H : Type} {enc : TypeId × Value → H} {W : World} {base : Nat} {held : Bool} {n : Nat} {g o : Nat} {cs : List Value} {x : DataW H × List MemPlace} (hc : W.cells? base ⟨g, o, none⟩ 4 = some cs) (h : DataW.trod enc Tryd.prog W base (fun _ => true) held n 155 cs = some x) : ∃ d : Pn, PnIn W g o d ∧ d.nm.size ≤ 9223372036854775807 := by
  have hs : Tryd.prog.underlying 155 = some (.struct (Tryd.prog.fieldsOf 155)) := by kernel_rfl
  obtain ⟨xs, n', _, _, _, hxl, hf⟩ := DataW.trod_struct hs h
  have hsz : (Tryd.prog.fieldsOf 155).size = 2 := by kernel_rfl
  obtain ⟨_, hcl, hq⟩ := World.cells?_some hc
  obtain ⟨f0, i0, t0, o0⟩ := field_at (fs := Tryd.prog.fieldsOf 155) (i := 0) (ty := 9) (off := 0) (by kernel_rfl)
  obtain ⟨f1, i1, t1, o1⟩ := field_at (fs := Tryd.prog.fieldsOf 155) (i := 1) (ty := 36) (off := 1) (by kernel_rfl)
  have r0 := hf 0 f0 i0
  have r1 := hf 1 f1 i1
  rw [t0, o0, cellsStrGT, List.getElem?_eq_getElem (by omega : 0 < xs.length)] at r0
  rw [t1, o1, cellsVer, List.getElem?_eq_getElem (by omega : 1 < xs.length)] at r1
  obtain ⟨s, e0, _, hs0⟩ := DataW.trod_string Tryd.underlying9 r0
  obtain ⟨a, b, c, ea, eb, ec, _⟩ := ints_of r1
  have ka : ((cs.drop 1).take 3)[0]? = some (.int .i64 a) := ea
  have kb : ((cs.drop 1).take 3)[1]? = some (.int .i64 b) := eb
  have kc : ((cs.drop 1).take 3)[2]? = some (.int .i64 c) := ec
  have q0 := hq 0 (by decide)
  have q1 := hq 1 (by decide)
  have q2 := hq 2 (by decide)
  have q3 := hq 3 (by decide)
  have ad : ∀ i, (⟨g, o, none⟩ : Addr).add i = ⟨g, o + i, none⟩ := fun i => by unfold Addr.add; split <;> simp_all
  simp at ka kb kc
  rw [ad, take1 e0] at q0
  rw [ad, ka] at q1
  rw [ad, kb] at q2
  rw [ad, kc] at q3
  exact ⟨⟨s, a, b, c⟩, ⟨⟨q0, q1, q2, q3⟩, cell_in q0⟩, by unfold maxLen at hs0; exact hs0⟩

theorem edge_readT {H : Type} {enc : TypeId × Value → H} {W : World} {base : Nat} {held : Bool} {n : Nat} {g o : Nat} {cs : List Value} {x : DataW H × List MemPlace} (hc : W.cells? base ⟨g, o, none⟩ 2 = some cs) (h : DataW.trod enc Tryd.prog W base (fun _ => true) held n 42 cs = some x) : ∃ d : Eg, EgIn W g o d ∧ d.lb.size ≤ 9223372036854775807 := by
  have hs : Tryd.prog.underlying 42 = some (.struct (Tryd.prog.fieldsOf 42)) := by kernel_rfl
  obtain ⟨xs, n', _, _, _, hxl, hf⟩ := DataW.trod_struct hs h
  have hsz : (Tryd.prog.fieldsOf 42).size = 2 := by kernel_rfl
  obtain ⟨_, hcl, hq⟩ := World.cells?_some hc
  obtain ⟨f0, i0, t0, o0⟩ := field_at (fs := Tryd.prog.fieldsOf 42) (i := 0) (ty := 9) (off := 0) (by kernel_rfl)
  obtain ⟨f1, i1, t1, o1⟩ := field_at (fs := Tryd.prog.fieldsOf 42) (i := 1) (ty := 3) (off := 1) (by kernel_rfl)
  have r0 := hf 0 f0 i0
  have r1 := hf 1 f1 i1
  rw [t0, o0, cellsStrGT, List.getElem?_eq_getElem (by omega : 0 < xs.length)] at r0
  rw [t1, o1, cellsIntGT, List.getElem?_eq_getElem (by omega : 1 < xs.length)] at r1
  obtain ⟨s, e0, _, hs0⟩ := DataW.trod_string Tryd.underlying9 r0
  obtain ⟨k, e1, _, _⟩ := DataW.trod_int Tryd.underlying3 r1
  have q0 := hq 0 (by decide)
  have q1 := hq 1 (by decide)
  have ad : ∀ i, (⟨g, o, none⟩ : Addr).add i = ⟨g, o + i, none⟩ := fun i => by unfold Addr.add; split <;> simp_all
  rw [ad, take1 e0] at q0
  rw [ad, take1 e1] at q1
  exact ⟨⟨s, k⟩, ⟨⟨q0, q1⟩, cell_in q0⟩, by unfold maxLen at hs0; exact hs0⟩

theorem pins_csT {H : Type} {enc : TypeId × Value → H} {W : World} {base fuel : Nat} {held : Bool} {cs : List Value} {x : DataW H × List MemPlace} (h : DataW.trod enc Tryd.prog W base (fun _ => true) held fuel 37 cs = some x) :
    ∃ v L, cs = [v] ∧ PinsAt W v L ∧ L.length ≤ 9223372036854775807 ∧ ∀ d ∈ L, d.nm.size ≤ 9223372036854775807 := by
  rcases Go.Deep.open_slice Tryd.underlying37 h with ⟨rfl, _⟩ | ⟨ad, len, cap, m, n, D, Pl, rfl, _, hl, hcm, hm, hx, hel⟩
  · exact ⟨_, [], rfl, ⟨none, 0, rfl, Nat.le_refl _, Or.inl rfl⟩, by simp, (fun d hd => by cases hd)⟩
  · have hz : len ≤ 9223372036854775807 := by unfold maxLen at hcm; omega
    rcases Nat.eq_zero_or_pos len with h0 | h0
    · subst h0
      exact ⟨_, [], rfl, ⟨_, _, rfl, Nat.zero_le _, Or.inl rfl⟩, by simp, (fun d hd => by cases hd)⟩
    · have hmm : len ≤ m := by rw [hm]; simp; exact hl
      rw [cellsPinT] at hel
      obtain ⟨g, off, spot⟩ := ad
      obtain ⟨cs0, hc0, _⟩ := hel 0 (by omega)
      obtain ⟨_, hln, hq⟩ := World.cells?_some hc0
      have hcell := hq 0 (by decide)
      rw [List.getElem?_eq_getElem (by omega : 0 < cs0.length)] at hcell
      have hspot : spot = none := by simpa [Addr.add] using World.cell?_spot hcell
      subst hspot
      have ad2 : ∀ o i, (⟨g, o, none⟩ : Addr).add i = ⟨g, o + i, none⟩ := fun o i => by unfold Addr.add; split <;> simp_all
      obtain ⟨L, hL, hP⟩ := list_any (P := fun i (d : Pn) => PnIn W g (off + i * 4) d ∧ d.nm.size ≤ 9223372036854775807) (n := len) fun i hi => by
        obtain ⟨cs, hc, ht⟩ := hel i (by omega)
        rw [ad2] at hc
        exact pin_readT hc ht
      subst hL
      refine ⟨_, L, rfl, ⟨_, _, rfl, hl, Or.inr ⟨g, off, rfl, ?_, fun i hi => (hP i hi).1⟩⟩, hz, ?_⟩
      · have := cell_in hcell
        rw [ad2, ad2] at this; exact this
      · intro d hd
        obtain ⟨i, hi, rfl⟩ := List.getElem_of_mem hd
        exact (hP i hi).2

theorem edges_csT {H : Type} {enc : TypeId × Value → H} {W : World} {base fuel : Nat} {held : Bool} {cs : List Value} {x : DataW H × List MemPlace} (h : DataW.trod enc Tryd.prog W base (fun _ => true) held fuel 38 cs = some x) :
    ∃ v L, cs = [v] ∧ EdgesAt W v L ∧ L.length ≤ 9223372036854775807 ∧ ∀ d ∈ L, d.lb.size ≤ 9223372036854775807 := by
  rcases Go.Deep.open_slice Tryd.underlying38 h with ⟨rfl, _⟩ | ⟨ad, len, cap, m, n, D, Pl, rfl, _, hl, hcm, hm, hx, hel⟩
  · exact ⟨_, [], rfl, ⟨none, 0, rfl, Nat.le_refl _, Or.inl rfl⟩, by simp, (fun d hd => by cases hd)⟩
  · have hz : len ≤ 9223372036854775807 := by unfold maxLen at hcm; omega
    rcases Nat.eq_zero_or_pos len with h0 | h0
    · subst h0
      exact ⟨_, [], rfl, ⟨_, _, rfl, Nat.zero_le _, Or.inl rfl⟩, by simp, (fun d hd => by cases hd)⟩
    · have hmm : len ≤ m := by rw [hm]; simp; exact hl
      rw [cellsEdgeT] at hel
      obtain ⟨g, off, spot⟩ := ad
      obtain ⟨cs0, hc0, _⟩ := hel 0 (by omega)
      obtain ⟨_, hln, hq⟩ := World.cells?_some hc0
      have hcell := hq 0 (by decide)
      rw [List.getElem?_eq_getElem (by omega : 0 < cs0.length)] at hcell
      have hspot : spot = none := by simpa [Addr.add] using World.cell?_spot hcell
      subst hspot
      have ad2 : ∀ o i, (⟨g, o, none⟩ : Addr).add i = ⟨g, o + i, none⟩ := fun o i => by unfold Addr.add; split <;> simp_all
      obtain ⟨L, hL, hP⟩ := list_any (P := fun i (d : Eg) => EgIn W g (off + i * 2) d ∧ d.lb.size ≤ 9223372036854775807) (n := len) fun i hi => by
        obtain ⟨cs, hc, ht⟩ := hel i (by omega)
        rw [ad2] at hc
        exact edge_readT hc ht
      subst hL
      refine ⟨_, L, rfl, ⟨_, _, rfl, hl, Or.inr ⟨g, off, rfl, ?_, fun i hi => (hP i hi).1⟩⟩, hz, ?_⟩
      · have := cell_in hcell
        rw [ad2, ad2] at this; exact this
      · intro d hd
        obtain ⟨i, hi, rfl⟩ := List.getElem_of_mem hd
        exact (hP i hi).2

/-- Texts and lists that are not too great. -/
def NdZT (n : Nd) : Prop := n.nm.size ≤ 9223372036854775807 ∧ (n.cx.length ≤ 9223372036854775807 ∧ ∀ d ∈ n.cx, d.nm.size ≤ 9223372036854775807) ∧ n.ed.length ≤ 9223372036854775807 ∧ ∀ d ∈ n.ed, d.lb.size ≤ 9223372036854775807
theorem node_readT {H : Type} {enc : TypeId × Value → H} {W : World} {base : Nat} {held : Bool} {n : Nat} {g o : Nat} {cs : List Value} {x : DataW H × List MemPlace} (hc : W.cells? base ⟨g, o, none⟩ 6 = some cs) (h : DataW.trod enc Tryd.prog W base (fun _ => true) held n 40 cs = some x) : ∃ d : Nd, (∃ vc ve, NdIn W g o d vc ve) ∧ NdZT d := by
  have hs : Tryd.prog.underlying 40 = some (.struct (Tryd.prog.fieldsOf 40)) := by kernel_rfl
  obtain ⟨xs, n', _, _, _, hxl, hf⟩ := DataW.trod_struct hs h
  have hsz : (Tryd.prog.fieldsOf 40).size = 4 := by kernel_rfl
  obtain ⟨_, hcl, hq⟩ := World.cells?_some hc
  obtain ⟨f0, i0, t0, o0⟩ := field_at (fs := Tryd.prog.fieldsOf 40) (i := 0) (ty := 9) (off := 0) (by kernel_rfl)
  obtain ⟨f1, i1, t1, o1⟩ := field_at (fs := Tryd.prog.fieldsOf 40) (i := 1) (ty := 36) (off := 1) (by kernel_rfl)
  obtain ⟨f2, i2, t2, o2⟩ := field_at (fs := Tryd.prog.fieldsOf 40) (i := 2) (ty := 37) (off := 4) (by kernel_rfl)
  obtain ⟨f3, i3, t3, o3⟩ := field_at (fs := Tryd.prog.fieldsOf 40) (i := 3) (ty := 38) (off := 5) (by kernel_rfl)
  have r0 := hf 0 f0 i0
  have r1 := hf 1 f1 i1
  have r2 := hf 2 f2 i2
  have r3 := hf 3 f3 i3
  rw [t0, o0, cellsStrGT, List.getElem?_eq_getElem (by omega : 0 < xs.length)] at r0
  rw [t1, o1, cellsVer, List.getElem?_eq_getElem (by omega : 1 < xs.length)] at r1
  rw [t2, o2, cellsPinsT, List.getElem?_eq_getElem (by omega : 2 < xs.length)] at r2
  rw [t3, o3, cellsEdgesT, List.getElem?_eq_getElem (by omega : 3 < xs.length)] at r3
  obtain ⟨s, e0, _, hs0⟩ := DataW.trod_string Tryd.underlying9 r0
  obtain ⟨a, b, c, ea, eb, ec, _⟩ := ints_of r1
  obtain ⟨vc, L1, e2, h2, z2, m2⟩ := pins_csT r2
  obtain ⟨ve, L2, e3, h3, z3, m3⟩ := edges_csT r3
  have ka : ((cs.drop 1).take 3)[0]? = some (.int .i64 a) := ea
  have kb : ((cs.drop 1).take 3)[1]? = some (.int .i64 b) := eb
  have kc : ((cs.drop 1).take 3)[2]? = some (.int .i64 c) := ec
  have q0 := hq 0 (by decide)
  have q1 := hq 1 (by decide)
  have q2 := hq 2 (by decide)
  have q3 := hq 3 (by decide)
  have q4 := hq 4 (by decide)
  have q5 := hq 5 (by decide)
  have ad : ∀ i, (⟨g, o, none⟩ : Addr).add i = ⟨g, o + i, none⟩ := fun i => by unfold Addr.add; split <;> simp_all
  simp at ka kb kc
  rw [ad, take1 e0] at q0
  rw [ad, ka] at q1
  rw [ad, kb] at q2
  rw [ad, kc] at q3
  rw [ad, take1 e2] at q4
  rw [ad, take1 e3] at q5
  exact ⟨⟨s, a, b, c, L1, L2⟩, ⟨vc, ve, ⟨q0, q1, q2, q3, q4, q5⟩, ⟨h2, h3⟩, cell_in q0⟩, by unfold maxLen at hs0; exact hs0, ⟨z2, m2⟩, z3, m3⟩

theorem nodes_csT {H : Type} {enc : TypeId × Value → H} {W : World} {base fuel : Nat} {held : Bool} {cs : List Value} {x : DataW H × List MemPlace} (h : DataW.trod enc Tryd.prog W base (fun _ => true) held fuel 28 cs = some x) :
    ∃ v L, cs = [v] ∧ NodesAt W v L ∧ L.length ≤ 9223372036854775807 ∧ ∀ d ∈ L, NdZT d := by
  rcases Go.Deep.open_slice Tryd.underlying28 h with ⟨rfl, _⟩ | ⟨ad, len, cap, m, n, D, Pl, rfl, _, hl, hcm, hm, hx, hel⟩
  · exact ⟨_, [], rfl, ⟨none, 0, rfl, Nat.le_refl _, Or.inl rfl⟩, by simp, (fun d hd => by cases hd)⟩
  · have hz : len ≤ 9223372036854775807 := by unfold maxLen at hcm; omega
    rcases Nat.eq_zero_or_pos len with h0 | h0
    · subst h0
      exact ⟨_, [], rfl, ⟨_, _, rfl, Nat.zero_le _, Or.inl rfl⟩, by simp, (fun d hd => by cases hd)⟩
    · have hmm : len ≤ m := by rw [hm]; simp; exact hl
      rw [cellsNodeT] at hel
      obtain ⟨g, off, spot⟩ := ad
      obtain ⟨cs0, hc0, _⟩ := hel 0 (by omega)
      obtain ⟨_, hln, hq⟩ := World.cells?_some hc0
      have hcell := hq 0 (by decide)
      rw [List.getElem?_eq_getElem (by omega : 0 < cs0.length)] at hcell
      have hspot : spot = none := by simpa [Addr.add] using World.cell?_spot hcell
      subst hspot
      have ad2 : ∀ o i, (⟨g, o, none⟩ : Addr).add i = ⟨g, o + i, none⟩ := fun o i => by unfold Addr.add; split <;> simp_all
      obtain ⟨L, hL, hP⟩ := list_any (P := fun i (d : Nd) => (∃ vc ve, NdIn W g (off + i * 6) d vc ve) ∧ NdZT d) (n := len) fun i hi => by
        obtain ⟨cs, hc, ht⟩ := hel i (by omega)
        rw [ad2] at hc
        exact node_readT hc ht
      subst hL
      refine ⟨_, L, rfl, ⟨_, _, rfl, hl, Or.inr ⟨g, off, rfl, ?_, fun i hi => (hP i hi).1⟩⟩, hz, ?_⟩
      · have := cell_in hcell
        rw [ad2, ad2] at this; exact this
      · intro d hd
        obtain ⟨i, hi, rfl⟩ := List.getElem_of_mem hd
        exact (hP i hi).2

theorem open_graphT {H : Type} {enc : TypeId × Value → H} {W : World} {base b0 : Nat} {held : Bool} {v : Value} {d : DataW H} {p : List MemPlace} (hv : Value.okWide Tryd.prog W .any b0 30 v) (h : DataW.Trod enc Tryd.prog W base (fun _ => true) held 30 v d p) :
    ∃ (G : List Nd) (u : Value), v = .agg #[u] ∧ NodesAt W u G ∧ G.length ≤ 9223372036854775807 ∧ ∀ n ∈ G, NdZT n := by
  have hs : Tryd.prog.underlying 30 = some (.struct (Tryd.prog.fieldsOf 30)) := by kernel_rfl
  obtain ⟨cs, rfl, hsz⟩ := okWide_struct hs hv
  obtain ⟨n, h⟩ := h
  obtain ⟨xs, n', _, _, _, hxl, hf⟩ := DataW.trod_struct hs h
  have hfz : (Tryd.prog.fieldsOf 30).size = 1 := by kernel_rfl
  rw [cellsGraphT] at hsz
  obtain ⟨f0, i0, t0, o0⟩ := field_at (fs := Tryd.prog.fieldsOf 30) (i := 0) (ty := 28) (off := 0) (by kernel_rfl)
  have r0 := hf 0 f0 i0
  rw [t0, o0, cellsNodesT, List.getElem?_eq_getElem (by omega : 0 < xs.length)] at r0
  obtain ⟨u, G, e0, h0, z0, m0⟩ := nodes_csT r0
  have k0 : cs.toList[0]? = some u := take1 e0
  obtain ⟨l⟩ := cs
  match l, hsz with
  | [x0], _ =>
    simp at k0
    subst k0
    exact ⟨G, _, rfl, h0, z0, m0⟩
theorem open_grT {H : Type} {enc : TypeId × Value → H} {W : World} {base b0 : Nat} {held : Bool} {v : Value} {d : DataW H} {p : List MemPlace} (hv : Value.okWide Tryd.prog W .any b0 30 v) (h : DataW.Trod enc Tryd.prog W base (fun _ => true) held 30 v d p) :
    ∃ (G : List Nd) (u : Value), v = .agg #[u] ∧ NodesAt W u G ∧ GrOk G ∧ ∀ n ∈ G, NdZT n := by
  obtain ⟨G, u, e, h1, h2, h3⟩ := open_graphT hv h
  exact ⟨G, u, e, h1, ⟨h2, fun n hn => (h3 n hn).2.2.1⟩, h3⟩
end Go.Proofs.YtfnmbjddlkfooaaDoor
