/- RwG, Lk27, laid in one text. -/
import Derived.Test.YtjbohacllhjgmaaGreatDoorMg10
namespace Go.Proofs.YtjbohacllhjgmaaGreatDoor
open Go.ChangeShapes Go.WideShapes Go.ChangeAt Go.RowKit
set_option maxRecDepth 100000

theorem ints_of {H : Type} {enc : TypeId × Value → H} {W : World} {base : Nat} {spare : Nat → Bool} {held : Bool} {n : Nat} {cs : List Value} {x : DataW H × List MemPlace} (h : DataW.trod enc Tryz.prog W base spare held n 39 cs = some x) :
    ∃ a b c, cs[0]? = some (.int .i64 a) ∧ cs[1]? = some (.int .i64 b) ∧ cs[2]? = some (.int .i64 c) ∧ x.1 = .agg [.lit (.int .i64 a), .lit (.int .i64 b), .lit (.int .i64 c)] := by
  have hs : Tryz.prog.underlying 39 = some (.struct (Tryz.prog.fieldsOf 39)) := by kernel_rfl
  obtain ⟨xs, n', _, hx, _, hxl, hf⟩ := DataW.trod_struct hs h
  have hfz : (Tryz.prog.fieldsOf 39).size = 3 := by kernel_rfl
  have ints : ∀ i off, ((Tryz.prog.fieldsOf 39)[i]?).map (fun f => (f.type, f.offset)) = some (3, off) → i < 3 → ∃ k, cs[off]? = some (.int .i64 k) ∧ xs[i]? = some (.lit (.int .i64 k), []) := by
    intro i off hfd hi
    obtain ⟨f, h1, h2, h3⟩ := field_at hfd
    have hr := hf i f h1
    rw [h2, h3, cellsInt, List.getElem?_eq_getElem (by omega : i < xs.length)] at hr
    obtain ⟨k, e1, e2, wk⟩ := DataW.trod_int Tryz.underlying3 hr
    exact ⟨k, take_one e1, by rw [List.getElem?_eq_getElem (by omega : i < xs.length), e2]⟩
  obtain ⟨a, a0, x0⟩ := ints 0 0 (by kernel_rfl) (by decide)
  obtain ⟨b, a1, x1⟩ := ints 1 1 (by kernel_rfl) (by decide)
  obtain ⟨c, a2, x2⟩ := ints 2 2 (by kernel_rfl) (by decide)
  refine ⟨a, b, c, a0, a1, a2, ?_⟩
  rw [hx]
  obtain ⟨y0, y1, y2, rfl⟩ := list3 (l := xs) (by omega)
  simp at x0 x1 x2
  subst x0 x1 x2
  rfl

theorem list_any {α : Type} {P : Nat → α → Prop} : ∀ {n : Nat}, (∀ i, i < n → ∃ s, P i s) → ∃ L : List α, L.length = n ∧ ∀ i (h : i < L.length), P i L[i]
  | 0, _ => ⟨[], rfl, fun i h => by simp at h⟩
  | n + 1, h => by
    obtain ⟨L, hl, hP⟩ := list_any (n := n) fun i hi => h i (by omega)
    obtain ⟨s, hs⟩ := h n (by omega)
    refine ⟨L ++ [s], by simp [hl], fun i hi => ?_⟩
    by_cases hin : i < L.length
    · rw [List.getElem_append_left hin]; exact hP i hin
    · have : i = n := by simp at hi; omega
      subst this
      simpa [hl] using hs
theorem take1 {cs : List Value} {o : Nat} {v : Value} (h : (cs.drop o).take 1 = [v]) : cs[o]? = some v := by
  have h0 : ((cs.drop o).take 1)[0]? = some v := by rw [h]; rfl
  simpa using h0
theorem cellsStrG : Tryz.prog.cellsOf 9 = 1 := by kernel_rfl
theorem cellsPin : Tryz.prog.cellsOf 49 = 4 := by kernel_rfl
theorem cellsEdge : Tryz.prog.cellsOf 51 = 2 := by kernel_rfl
theorem cellsNode : Tryz.prog.cellsOf 43 = 6 := by kernel_rfl
theorem cellsPins : Tryz.prog.cellsOf 40 = 1 := by kernel_rfl
theorem cellsEdges : Tryz.prog.cellsOf 41 = 1 := by kernel_rfl
theorem cellsNodes : Tryz.prog.cellsOf 22 = 1 := by kernel_rfl
theorem cellsGraph : Tryz.prog.cellsOf 24 = 1 := by kernel_rfl
theorem cellsIntG : Tryz.prog.cellsOf 3 = 1 := by kernel_rfl

theorem pin_read {H : Type} {enc : TypeId × Value → H} {W : World} {base : Nat} {held : Bool} {n : Nat} {g o : Nat} {cs : List Value} {x : DataW H × List MemPlace} (hc : W.cells? base ⟨g, o, none⟩ 4 = some cs) (h : DataW.trod enc Tryz.prog W base (fun _ => true) held n 49 cs = some x) : ∃ d : Pn, PnIn W g o d ∧ d.nm.size ≤ 9223372036854775807 := by
  have hs : Tryz.prog.underlying 49 = some (.struct (Tryz.prog.fieldsOf 49)) := by kernel_rfl
  obtain ⟨xs, n', _, _, _, hxl, hf⟩ := DataW.trod_struct hs h
  have hsz : (Tryz.prog.fieldsOf 49).size = 2 := by kernel_rfl
  obtain ⟨_, hcl, hq⟩ := World.cells?_some hc
  obtain ⟨f0, i0, t0, o0⟩ := field_at (fs := Tryz.prog.fieldsOf 49) (i := 0) (ty := 9) (off := 0) (by kernel_rfl)
  obtain ⟨f1, i1, t1, o1⟩ := field_at (fs := Tryz.prog.fieldsOf 49) (i := 1) (ty := 39) (off := 1) (by kernel_rfl)
  have r0 := hf 0 f0 i0
  have r1 := hf 1 f1 i1
  rw [t0, o0, cellsStrG, List.getElem?_eq_getElem (by omega : 0 < xs.length)] at r0
  rw [t1, o1, cellsVer, List.getElem?_eq_getElem (by omega : 1 < xs.length)] at r1
  obtain ⟨s, e0, _, hs0⟩ := DataW.trod_string Tryz.underlying9 r0
  obtain ⟨a, b, c, ea, eb, ec, _⟩ := ints_of r1
  have ka : ((cs.drop 1).take 3)[0]? = some (.int .i64 a) := ea
  have kb : ((cs.drop 1).take 3)[1]? = some (.int .i64 b) := eb
  have kc : ((cs.drop 1).take 3)[2]? = some (.int .i64 c) := ec
  have q0 := hq 0 (by decide)
  have q1 := hq 1 (by decide)
  have q2 := hq 2 (by decide)
  have q3 := hq 3 (by decide)
  have ad : ∀ i, (⟨g, o, none⟩ : Addr).add i = ⟨g, o + i, none⟩ := fun i => by unfold Addr.add; split <;> simp_all
  simp at ka kb kc
  rw [ad, take1 e0] at q0
  rw [ad, ka] at q1
  rw [ad, kb] at q2
  rw [ad, kc] at q3
  exact ⟨⟨s, a, b, c⟩, ⟨⟨q0, q1, q2, q3⟩, cell_in q0⟩, by unfold maxLen at hs0; exact hs0⟩

theorem edge_read {H : Type} {enc : TypeId × Value → H} {W : World} {base : Nat} {held : Bool} {n : Nat} {g o : Nat} {cs : List Value} {x : DataW H × List MemPlace} (hc : W.cells? base ⟨g, o, none⟩ 2 = some cs) (h : DataW.trod enc Tryz.prog W base (fun _ => true) held n 51 cs = some x) : ∃ d : Eg, EgIn W g o d ∧ d.lb.size ≤ 9223372036854775807 := by
  have hs : Tryz.prog.underlying 51 = some (.struct (Tryz.prog.fieldsOf 51)) := by kernel_rfl
  obtain ⟨xs, n', _, _, _, hxl, hf⟩ := DataW.trod_struct hs h
  have hsz : (Tryz.prog.fieldsOf 51).size = 2 := by kernel_rfl
  obtain ⟨_, hcl, hq⟩ := World.cells?_some hc
  obtain ⟨f0, i0, t0, o0⟩ := field_at (fs := Tryz.prog.fieldsOf 51) (i := 0) (ty := 9) (off := 0) (by kernel_rfl)
  obtain ⟨f1, i1, t1, o1⟩ := field_at (fs := Tryz.prog.fieldsOf 51) (i := 1) (ty := 3) (off := 1) (by kernel_rfl)
  have r0 := hf 0 f0 i0
  have r1 := hf 1 f1 i1
  rw [t0, o0, cellsStrG, List.getElem?_eq_getElem (by omega : 0 < xs.length)] at r0
  rw [t1, o1, cellsIntG, List.getElem?_eq_getElem (by omega : 1 < xs.length)] at r1
  obtain ⟨s, e0, _, hs0⟩ := DataW.trod_string Tryz.underlying9 r0
  obtain ⟨k, e1, _, _⟩ := DataW.trod_int Tryz.underlying3 r1
  have q0 := hq 0 (by decide)
  have q1 := hq 1 (by decide)
  have ad : ∀ i, (⟨g, o, none⟩ : Addr).add i = ⟨g, o + i, none⟩ := fun i => by unfold Addr.add; split <;> simp_all
  rw [ad, take1 e0] at q0
  rw [ad, take1 e1] at q1
  exact ⟨⟨s, k⟩, ⟨⟨q0, q1⟩, cell_in q0⟩, by unfold maxLen at hs0; exact hs0⟩

theorem pins_cs {H : Type} {enc : TypeId × Value → H} {W : World} {base fuel : Nat} {held : Bool} {cs : List Value} {x : DataW H × List MemPlace} (h : DataW.trod enc Tryz.prog W base (fun _ => true) held fuel 40 cs = some x) :
    ∃ v L, cs = [v] ∧ PinsAt W v L ∧ L.length ≤ 9223372036854775807 ∧ ∀ d ∈ L, d.nm.size ≤ 9223372036854775807 := by
  rcases Go.Deep.open_slice Tryz.underlying40 h with ⟨rfl, _⟩ | ⟨ad, len, cap, m, n, D, Pl, rfl, _, hl, hcm, hm, hx, hel⟩
  · exact ⟨_, [], rfl, ⟨none, 0, rfl, Nat.le_refl _, Or.inl rfl⟩, by simp, (fun d hd => by cases hd)⟩
  · have hz : len ≤ 9223372036854775807 := by unfold maxLen at hcm; omega
    rcases Nat.eq_zero_or_pos len with h0 | h0
    · subst h0
      exact ⟨_, [], rfl, ⟨_, _, rfl, Nat.zero_le _, Or.inl rfl⟩, by simp, (fun d hd => by cases hd)⟩
    · have hmm : len ≤ m := by rw [hm]; simp; exact hl
      rw [cellsPin] at hel
      obtain ⟨g, off, spot⟩ := ad
      obtain ⟨cs0, hc0, _⟩ := hel 0 (by omega)
      obtain ⟨_, hln, hq⟩ := World.cells?_some hc0
      have hcell := hq 0 (by decide)
      rw [List.getElem?_eq_getElem (by omega : 0 < cs0.length)] at hcell
      have hspot : spot = none := by simpa [Addr.add] using World.cell?_spot hcell
      subst hspot
      have ad2 : ∀ o i, (⟨g, o, none⟩ : Addr).add i = ⟨g, o + i, none⟩ := fun o i => by unfold Addr.add; split <;> simp_all
      obtain ⟨L, hL, hP⟩ := list_any (P := fun i (d : Pn) => PnIn W g (off + i * 4) d ∧ d.nm.size ≤ 9223372036854775807) (n := len) fun i hi => by
        obtain ⟨cs, hc, ht⟩ := hel i (by omega)
        rw [ad2] at hc
        exact pin_read hc ht
      subst hL
      refine ⟨_, L, rfl, ⟨_, _, rfl, hl, Or.inr ⟨g, off, rfl, ?_, fun i hi => (hP i hi).1⟩⟩, hz, ?_⟩
      · have := cell_in hcell
        rw [ad2, ad2] at this; exact this
      · intro d hd
        obtain ⟨i, hi, rfl⟩ := List.getElem_of_mem hd
        exact (hP i hi).2

theorem edges_cs {H : Type} {enc : TypeId × Value → H} {W : World} {base fuel : Nat} {held : Bool} {cs : List Value} {x : DataW H × List MemPlace} (h : DataW.trod enc Tryz.prog W base (fun _ => true) held fuel 41 cs = some x) :
    ∃ v L, cs = [v] ∧ EdgesAt W v L ∧ L.length ≤ 9223372036854775807 ∧ ∀ d ∈ L, d.lb.size ≤ 9223372036854775807 := by
  rcases Go.Deep.open_slice Tryz.underlying41 h with ⟨rfl, _⟩ | ⟨ad, len, cap, m, n, D, Pl, rfl, _, hl, hcm, hm, hx, hel⟩
  · exact ⟨_, [], rfl, ⟨none, 0, rfl, Nat.le_refl _, Or.inl rfl⟩, by simp, (fun d hd => by cases hd)⟩
  · have hz : len ≤ 9223372036854775807 := by unfold maxLen at hcm; omega
    rcases Nat.eq_zero_or_pos len with h0 | h0
    · subst h0
      exact ⟨_, [], rfl, ⟨_, _, rfl, Nat.zero_le _, Or.inl rfl⟩, by simp, (fun d hd => by cases hd)⟩
    · have hmm : len ≤ m := by rw [hm]; simp; exact hl
      rw [cellsEdge] at hel
      obtain ⟨g, off, spot⟩ := ad
      obtain ⟨cs0, hc0, _⟩ := hel 0 (by omega)
      obtain ⟨_, hln, hq⟩ := World.cells?_some hc0
      have hcell := hq 0 (by decide)
      rw [List.getElem?_eq_getElem (by omega : 0 < cs0.length)] at hcell
      have hspot : spot = none := by simpa [Addr.add] using World.cell?_spot hcell
      subst hspot
      have ad2 : ∀ o i, (⟨g, o, none⟩ : Addr).add i = ⟨g, o + i, none⟩ := fun o i => by unfold Addr.add; split <;> simp_all
      obtain ⟨L, hL, hP⟩ := list_any (P := fun i (d : Eg) => EgIn W g (off + i * 2) d ∧ d.lb.size ≤ 9223372036854775807) (n := len) fun i hi => by
        obtain ⟨cs, hc, ht⟩ := hel i (by omega)
        rw [ad2] at hc
        exact edge_read hc ht
      subst hL
      refine ⟨_, L, rfl, ⟨_, _, rfl, hl, Or.inr ⟨g, off, rfl, ?_, fun i hi => (hP i hi).1⟩⟩, hz, ?_⟩
      · have := cell_in hcell
        rw [ad2, ad2] at this; exact this
      · intro d hd
        obtain ⟨i, hi, rfl⟩ := List.getElem_of_mem hd
        exact (hP i hi).2

/-- Texts and lists that are not too great. -/
def NdZ (n : Nd) : Prop := n.nm.size ≤ 9223372036854775807 ∧ (n.cx.length ≤ 9223372036854775807 ∧ ∀ d ∈ n.cx, d.nm.size ≤ 9223372036854775807) ∧ n.ed.length ≤ 9223372036854775807 ∧ ∀ d ∈ n.ed, d.lb.size ≤ 9223372036854775807
theorem node_read {H : Type} {enc : TypeId × Value → H} {W : World} {base : Nat} {held : Bool} {n : Nat} {g o : Nat} {cs : List Value} {x : DataW H × List MemPlace} (hc : W.cells? base ⟨g, o, none⟩ 6 = some cs) (h : DataW.trod enc Tryz.prog W base (fun _ => true) held n 43 cs = some x) : ∃ d : Nd, (∃ vc ve, NdIn W g o d vc ve) ∧ NdZ d := by
  have hs : Tryz.prog.underlying 43 = some (.struct (Tryz.prog.fieldsOf 43)) := by kernel_rfl
  obtain ⟨xs, n', _, _, _, hxl, hf⟩ := DataW.trod_struct hs h
  have hsz : (Tryz.prog.fieldsOf 43).size = 4 := by kernel_rfl
  obtain ⟨_, hcl, hq⟩ := World.cells?_some hc
  obtain ⟨f0, i0, t0, o0⟩ := field_at (fs := Tryz.prog.fieldsOf 43) (i := 0) (ty := 9) (off := 0) (by kernel_rfl)
  obtain ⟨f1, i1, t1, o1⟩ := field_at (fs := Tryz.prog.fieldsOf 43) (i := 1) (ty := 39) (off := 1) (by kernel_rfl)
  obtain ⟨f2, i2, t2, o2⟩ := field_at (fs := Tryz.prog.fieldsOf 43) (i := 2) (ty := 40) (off := 4) (by kernel_rfl)
  obtain ⟨f3, i3, t3, o3⟩ := field_at (fs := Tryz.prog.fieldsOf 43) (i := 3) (ty := 41) (off := 5) (by kernel_rfl)
  have r0 := hf 0 f0 i0
  have r1 := hf 1 f1 i1
  have r2 := hf 2 f2 i2
  have r3 := hf 3 f3 i3
  rw [t0, o0, cellsStrG, List.getElem?_eq_getElem (by omega : 0 < xs.length)] at r0
  rw [t1, o1, cellsVer, List.getElem?_eq_getElem (by omega : 1 < xs.length)] at r1
  rw [t2, o2, cellsPins, List.getElem?_eq_getElem (by omega : 2 < xs.length)] at r2
  rw [t3, o3, cellsEdges, List.getElem?_eq_getElem (by omega : 3 < xs.length)] at r3
  obtain ⟨s, e0, _, hs0⟩ := DataW.trod_string Tryz.underlying9 r0
  obtain ⟨a, b, c, ea, eb, ec, _⟩ := ints_of r1
  obtain ⟨vc, L1, e2, h2, z2, m2⟩ := pins_cs r2
  obtain ⟨ve, L2, e3, h3, z3, m3⟩ := edges_cs r3
  have ka : ((cs.drop 1).take 3)[0]? = some (.int .i64 a) := ea
  have kb : ((cs.drop 1).take 3)[1]? = some (.int .i64 b) := eb
  have kc : ((cs.drop 1).take 3)[2]? = some (.int .i64 c) := ec
  have q0 := hq 0 (by decide)
  have q1 := hq 1 (by decide)
  have q2 := hq 2 (by decide)
  have q3 := hq 3 (by decide)
  have q4 := hq 4 (by decide)
  have q5 := hq 5 (by decide)
  have ad : ∀ i, (⟨g, o, none⟩ : Addr).add i = ⟨g, o + i, none⟩ := fun i => by unfold Addr.add; split <;> simp_all
  simp at ka kb kc
  rw [ad, take1 e0] at q0
  rw [ad, ka] at q1
  rw [ad, kb] at q2
  rw [ad, kc] at q3
  rw [ad, take1 e2] at q4
  rw [ad, take1 e3] at q5
  exact ⟨⟨s, a, b, c, L1, L2⟩, ⟨vc, ve, ⟨q0, q1, q2, q3, q4, q5⟩, ⟨h2, h3⟩, cell_in q0⟩, by unfold maxLen at hs0; exact hs0, ⟨z2, m2⟩, z3, m3⟩

theorem nodes_cs {H : Type} {enc : TypeId × Value → H} {W : World} {base fuel : Nat} {held : Bool} {cs : List Value} {x : DataW H × List MemPlace} (h : DataW.trod enc Tryz.prog W base (fun _ => true) held fuel 22 cs = some x) :
    ∃ v L, cs = [v] ∧ NodesAt W v L ∧ L.length ≤ 9223372036854775807 ∧ ∀ d ∈ L, NdZ d := by
  rcases Go.Deep.open_slice Tryz.underlying22 h with ⟨rfl, _⟩ | ⟨ad, len, cap, m, n, D, Pl, rfl, _, hl, hcm, hm, hx, hel⟩
  · exact ⟨_, [], rfl, ⟨none, 0, rfl, Nat.le_refl _, Or.inl rfl⟩, by simp, (fun d hd => by cases hd)⟩
  · have hz : len ≤ 9223372036854775807 := by unfold maxLen at hcm; omega
    rcases Nat.eq_zero_or_pos len with h0 | h0
    · subst h0
      exact ⟨_, [], rfl, ⟨_, _, rfl, Nat.zero_le _, Or.inl rfl⟩, by simp, (fun d hd => by cases hd)⟩
    · have hmm : len ≤ m := by rw [hm]; simp; exact hl
      rw [cellsNode] at hel
      obtain ⟨g, off, spot⟩ := ad
      obtain ⟨cs0, hc0, _⟩ := hel 0 (by omega)
      obtain ⟨_, hln, hq⟩ := World.cells?_some hc0
      have hcell := hq 0 (by decide)
      rw [List.getElem?_eq_getElem (by omega : 0 < cs0.length)] at hcell
      have hspot : spot = none := by simpa [Addr.add] using World.cell?_spot hcell
      subst hspot
      have ad2 : ∀ o i, (⟨g, o, none⟩ : Addr).add i = ⟨g, o + i, none⟩ := fun o i => by unfold Addr.add; split <;> simp_all
      obtain ⟨L, hL, hP⟩ := list_any (P := fun i (d : Nd) => (∃ vc ve, NdIn W g (off + i * 6) d vc ve) ∧ NdZ d) (n := len) fun i hi => by
        obtain ⟨cs, hc, ht⟩ := hel i (by omega)
        rw [ad2] at hc
        exact node_read hc ht
      subst hL
      refine ⟨_, L, rfl, ⟨_, _, rfl, hl, Or.inr ⟨g, off, rfl, ?_, fun i hi => (hP i hi).1⟩⟩, hz, ?_⟩
      · have := cell_in hcell
        rw [ad2, ad2] at this; exact this
      · intro d hd
        obtain ⟨i, hi, rfl⟩ := List.getElem_of_mem hd
        exact (hP i hi).2

theorem open_graph {H : Type} {enc : TypeId × Value → H} {W : World} {base b0 : Nat} {held : Bool} {v : Value} {d : DataW H} {p : List MemPlace} (hv : Value.okWide Tryz.prog W .any b0 24 v) (h : DataW.Trod enc Tryz.prog W base (fun _ => true) held 24 v d p) :
    ∃ (G : List Nd) (u : Value), v = .agg #[u] ∧ NodesAt W u G ∧ G.length ≤ 9223372036854775807 ∧ ∀ n ∈ G, NdZ n := by
  have hs : Tryz.prog.underlying 24 = some (.struct (Tryz.prog.fieldsOf 24)) := by kernel_rfl
  obtain ⟨cs, rfl, hsz⟩ := okWide_struct hs hv
  obtain ⟨n, h⟩ := h
  obtain ⟨xs, n', _, _, _, hxl, hf⟩ := DataW.trod_struct hs h
  have hfz : (Tryz.prog.fieldsOf 24).size = 1 := by kernel_rfl
  rw [cellsGraph] at hsz
  obtain ⟨f0, i0, t0, o0⟩ := field_at (fs := Tryz.prog.fieldsOf 24) (i := 0) (ty := 22) (off := 0) (by kernel_rfl)
  have r0 := hf 0 f0 i0
  rw [t0, o0, cellsNodes, List.getElem?_eq_getElem (by omega : 0 < xs.length)] at r0
  obtain ⟨u, G, e0, h0, z0, m0⟩ := nodes_cs r0
  have k0 : cs.toList[0]? = some u := take1 e0
  obtain ⟨l⟩ := cs
  match l, hsz with
  | [x0], _ =>
    simp at k0
    subst k0
    exact ⟨G, _, rfl, h0, z0, m0⟩
end Go.Proofs.YtjbohacllhjgmaaGreatDoor
namespace Go.Proofs.YtjbohacllhjgmaaGreatDoor
open Go.RowKit
open Sc (KeepP hide3 keepBelow Bs ba)
set_option maxRecDepth 100000

/-- A node may stand at its place. -/
def okAt (n : Nat) (j : Nat) (x : Nd) : Bool := (if j = 0 then firstB x else laterB x) && mayEd n x.ed
theorem mayG_iff {G : List Nd} : mayG G = true ↔ 0 < G.length ∧ G.length ≤ 128 ∧ ∀ j (h : j < G.length), okAt G.length j G[j] = true := by
  cases G with
  | nil => exact ⟨fun h => (by cases h), fun h => (by have := h.1; simp at this)⟩
  | cons n r =>
    have ec : (((n :: r).length : Nat) : Int) = (r.length : Int) + 1 := by simp
    unfold mayG
    simp only [Bool.and_eq_true, decide_eq_true_eq, List.all_eq_true]
    constructor
    · rintro ⟨⟨⟨h1, h2⟩, h3⟩, h4⟩
      refine ⟨by simp, by simpa using h1, fun j hj => ?_⟩
      unfold okAt
      rw [Bool.and_eq_true, ec]
      refine ⟨?_, h4 _ (List.getElem_mem hj)⟩
      cases j with
      | zero => exact h2
      | succ j => exact h3 _ (by simp)
    · rintro ⟨_, h1, h2⟩
      have q : ∀ j (h : j < (n :: r).length), (if j = 0 then firstB (n :: r)[j] else laterB (n :: r)[j]) = true ∧ mayEd ((r.length : Int) + 1) (n :: r)[j].ed = true := fun j h => by
        have := h2 j h
        unfold okAt at this
        rwa [Bool.and_eq_true, ec] at this
      refine ⟨⟨⟨by simpa using h1, (q 0 (by simp)).1⟩, fun m hm => ?_⟩, fun m hm => ?_⟩
      · obtain ⟨i, hi, rfl⟩ := List.getElem_of_mem hm
        exact (q (i + 1) (by simpa using hi)).1
      · obtain ⟨i, hi, rfl⟩ := List.getElem_of_mem hm
        exact (q i hi).2
/-- What stays while a node is looked at. -/
def KM (w : World) (v : Value) (x : Nd) (vc ve : Value) (M : Nat) (W : World) : Prop := (Below w.heap.size w W ∧ BxG W w.heap.size v) ∧ BxNd W M x vc ve ∧ PinsAt W vc x.cx ∧ EdgesAt W ve x.ed
theorem keepKM (w : World) (v : Value) (x : Nd) (vc ve : Value) (M : Nat) : KeepP (KM w v x vc ve M) := fun _ _ ⟨⟨h1, h2⟩, h3, h4, h5⟩ hb => ⟨⟨below_then h1 hb, keepBxG _ _ _ _ h2 hb⟩, keepBxNd _ _ _ _ _ _ h3 hb, h4.below hb, h5.below hb⟩

set_option maxHeartbeats 12800000 in
theorem rMayG_walk {G : List Nd} {ad : Option Addr} {cap : Nat} {w : World} (h : NodesAt w (.slice ad G.length cap) G) (hz : ∀ n ∈ G, NdZ n) (h0 : 0 < G.length) (h1 : G.length ≤ 128) :
    Calls Tryz.prog 14 #[.agg #[.slice ad G.length cap]] w fun e w' => e = .returned (.bool (mayG G)) ∧ Below w.heap.size w w' := by
  obtain ⟨ga, oa, rfl, hcs⟩ : ∃ ga oa, ad = some ⟨ga, oa, none⟩ ∧ ∀ W, Below w.heap.size w W → ∀ i (h : i < G.length), ∃ vc ve, NdIn W ga (oa + i * 6) G[i] vc ve := by
    obtain ⟨a1, c1, hv, _, hl⟩ := h
    cases hv
    rcases hl with rfl | ⟨g, o, rfl, _, hs⟩
    · cases h0
    · exact ⟨g, o, rfl, fun W hb i hi => by obtain ⟨vc, ve, k⟩ := hs i hi; exact ⟨vc, ve, k.below hb⟩⟩
  have HCS := hide3 hcs
  have HZ := hide3 hz
  have HMG : Hid (∀ k (h : k < G.length), okAt G.length k G[k] = false → mayG G = false) := fun k hk he => by
    cases hm : mayG G with
    | false => rfl
    | true => have := (mayG_iff.1 hm).2.2 k hk; rw [he] at this; cases this
  have HMY : Hid ((∀ j (h : j < G.length), okAt G.length j G[j] = true) → mayG G = true) := fun hj => mayG_iff.2 ⟨h0, h1, hj⟩
  have hl1 : decide ((G.length : Int) < 1) = false := decide_eq_false (by omega)
  have hl2 : decide ((128 : Int) < (G.length : Int)) = false := decide_eq_false (by omega)
  have HB0 : Hid (Below w.heap.size w (w.alloc (.cells #[.slice (some ⟨ga, oa, none⟩) G.length cap] 24)) ∧ BxG (w.alloc (.cells #[.slice (some ⟨ga, oa, none⟩) G.length cap] 24)) w.heap.size (.slice (some ⟨ga, oa, none⟩) G.length cap)) := ⟨boxB _ _, BxG.new rfl _⟩
  clear h hz hcs
  go_enter Tryz.func14, Tryz.ntmps14
  go_wp2_with fail
  go_loopw [4] (fun i wr => ∃ k : Nat, k ≤ G.length ∧ i = .int .i64 k ∧ (Below w.heap.size w wr ∧ BxG wr w.heap.size (.slice (some ⟨ga, oa, none⟩) G.length cap)) ∧ ∀ j (h : j < k) (h1 : j < G.length), okAt G.length j G[j] = true) (fun i _ => G.length - (intOf i).toNat)
  case atStart => exact ⟨0, Nat.zero_le _, rfl, HB0.out, fun j h => by omega⟩
  case round =>
    clear HB0
    obtain ⟨k, hk, rfl, hb, hall⟩ := hrel
    have HALL := hide3 hall
    have HB := hide3 hb
    obtain ⟨_, y0, y1⟩ := hb
    clear hall
    by_cases hlt : k < G.length
    · obtain ⟨vc, ve, hx⟩ := HCS.out wr HB.out.1 k hlt
      have hzk := HZ.out G[k] (List.getElem_mem hlt)
      have HNO := hide3 (HMG.out k hlt)
      have HST : Hid (okAt G.length k G[k] = true → ∀ j (h : j < k + 1) (h1 : j < G.length), okAt G.length j G[j] = true) := fun h j hj h1 => by
        rcases Nat.lt_or_ge j k with hjk | hjk
        · exact HALL.out j hjk h1
        · obtain rfl : j = k := by omega
          exact h
      clear HALL HCS HZ HMG HMY
      generalize G[k] = x at *
      obtain ⟨av, cv, rfl⟩ := hx.2.1.1.sl
      obtain ⟨ae, ce, rfl⟩ := hx.2.1.2.sl
      have HX1 := hide3 (hx.below (boxB wr (.cells #[.string x.nm, .int .i64 x.a, .int .i64 x.b, .int .i64 x.c, .slice av x.cx.length cv, .slice ae x.ed.length ce] 43)))
      have HKM : Hid (KM w (.slice (some ⟨ga, oa, none⟩) G.length cap) x (.slice av x.cx.length cv) (.slice ae x.ed.length ce) wr.heap.size (wr.alloc (.cells #[.string x.nm, .int .i64 x.a, .int .i64 x.b, .int .i64 x.c, .slice av x.cx.length cv, .slice ae x.ed.length ce] 43))) := ⟨⟨below_then HB.out.1 (boxB _ _), keepBxG _ _ _ _ HB.out.2 (boxB _ _)⟩, BxNd.new rfl _ _ _, HX1.out.2.1.1, HX1.out.2.1.2⟩
      have HKP := hide3 (keepKM w (.slice (some ⟨ga, oa, none⟩) G.length cap) x (.slice av x.cx.length cv) (.slice ae x.ed.length ce) wr.heap.size)
      have HPI : Hid (∀ W v, PinsAt W v x.cx → Calls Tryz.prog 28 #[v] W fun e w' => e = .returned (.bool (mayCx x.cx)) ∧ Below W.heap.size W w') := fun W v hp => rpins_any hp hzk.2.1.1 hzk.2.1.2
      have HED : Hid (∀ W v, EdgesAt W v x.ed → Calls Tryz.prog 29 #[v, .int .i64 G.length] W fun e w' => e = .returned (.bool (mayEd G.length x.ed)) ∧ Below W.heap.size W w') := fun W v hp => redges_any _ hp hzk.2.2.1 hzk.2.2.2
      have HNM : Hid (∀ W, Calls Tryz.prog 26 #[.string x.nm] W fun e w' => e = .returned (.bool (Sc.nameA x.nm.data.toList)) ∧ Below W.heap.size W w') := fun W => (Sc.rName_any x.nm hzk.1 W).mono fun e w' ⟨h1, h2⟩ => ⟨h1, by rw [h2]; exact Below.refl _ _⟩
      have HMV : Hid (∀ W, Calls Tryz.prog 27 #[.agg #[.int .i64 x.a, .int .i64 x.b, .int .i64 x.c]] W fun e w' => e = .returned (.bool (mayV x.a x.b x.c)) ∧ Below W.heap.size W w') := fun W => rMay_any _ _ _ W
      obtain ⟨⟨x0, x1, x2, x3, x4, x5⟩, _, x6⟩ := hx
      clear HX1 hzk
      have hgd := guardV
      obtain ⟨wa, rfl⟩ : ∃ q, q = wr := ⟨wr, rfl⟩
      rcases Nat.eq_zero_or_pos k with hk0 | hk0
      · subst hk0
        have HOK : Hid (okAt G.length 0 x = (x.nm.toList.isEmpty && (decide (x.a = 0 ∧ x.b = 0 ∧ x.c = 0)) && decide (x.cx.length = 0) && mayEd G.length x.ed)) := by
          unfold Hid okAt firstB
          have e : decide (x.nm.size = 0) = x.nm.toList.isEmpty := by
            rw [ByteArray.toList_eq, Bool.eq_iff_iff, decide_eq_true_eq, List.isEmpty_iff_length_eq_zero]
            rfl
          rw [e]
          rfl
        have HCX : Hid (x.cx.length = 0 → mayCx x.cx = true) := fun e => by rw [List.eq_nil_of_length_eq_zero e]; rfl
        have hv := neqV x.a x.b x.c 0 0 0
        rw [show oa + 0 * 6 = oa by omega] at x0 x1 x2 x3 x4 x5
        cases hx : x.nm.toList.isEmpty
        · have hx2 : (x.nm.toList == []) = false := by rw [← hx]; cases x.nm.toList <;> rfl
          rw [hx] at HOK
          clear hx HCX
          have HR := hide3 (HNO.out (by rw [HOK.out]; simp))
          clear HST HNO HOK
          go_wp2
          go_ret
          exact ⟨ret_bool HR.out.symm, HKM.out.1.1⟩
        · have hx2 : (x.nm.toList == []) = true := by rw [← hx]; cases x.nm.toList <;> rfl
          rw [hx] at HOK
          clear hx
          generalize decide (x.a = 0 ∧ x.b = 0 ∧ x.c = 0) = xv at *
          cases xv
          · clear HCX
            have HR := hide3 (HNO.out (by rw [HOK.out]; simp))
            clear HST HNO HOK
            go_wp2
            go_ret
            exact ⟨ret_bool HR.out.symm, HKM.out.1.1⟩
          · by_cases hl : x.cx.length = 0
            · have HCY := hide3 (HCX.out hl)
              have hl3 : decide ((0 : Int) < (x.cx.length : Int)) = false := decide_eq_false (by omega)
              have hl4 : decide (0 < x.cx.length) = false := decide_eq_false (by omega)
              rw [decide_eq_true hl] at HOK
              rw [HCY.out] at HPI
              clear hl HCX
              generalize mayEd G.length x.ed = b9 at *
              cases b9
              · skip
                have HR := hide3 (HNO.out (by rw [HOK.out]; simp))
                clear HST HNO HOK
                go_wp2_with (first
                  | (have _h := HKM; go_at_call 28; refine (HPI.out _ _ HKM.out.2.2.1).mono ?_; rintro e z1 ⟨rfl, ok⟩; have HO1 := hide3 (HKP.out _ _ HKM.out ok); clear ok HKM; obtain ⟨⟨b0, b1, b2, b3, b4, b5⟩, b6⟩ := HO1.out.2.1)
                  | (have _h := HO1; go_at_call 29; refine (HED.out _ _ HO1.out.2.2.2).mono ?_; rintro e z2 ⟨rfl, ok⟩; have HO2 := hide3 (HKP.out _ _ HO1.out ok); clear ok HO1 b0 b1 b2 b3 b4 b5 b6; obtain ⟨⟨b0, b1, b2, b3, b4, b5⟩, b6⟩ := HO2.out.2.1))
                go_ret
                exact ⟨ret_bool HR.out.symm, HO2.out.1.1⟩
              · skip
                have HR := hide3 (HST.out (by rw [HOK.out]; simp))
                clear HST HNO HOK
                go_wp2_with (first
                  | (have _h := HKM; go_at_call 28; refine (HPI.out _ _ HKM.out.2.2.1).mono ?_; rintro e z1 ⟨rfl, ok⟩; have HO1 := hide3 (HKP.out _ _ HKM.out ok); clear ok HKM; obtain ⟨⟨b0, b1, b2, b3, b4, b5⟩, b6⟩ := HO1.out.2.1)
                  | (have _h := HO1; go_at_call 29; refine (HED.out _ _ HO1.out.2.2.2).mono ?_; rintro e z2 ⟨rfl, ok⟩; have HO2 := hide3 (HKP.out _ _ HO1.out ok); clear ok HO1 b0 b1 b2 b3 b4 b5 b6; obtain ⟨⟨b0, b1, b2, b3, b4, b5⟩, b6⟩ := HO2.out.2.1))
                exact ⟨⟨0 + 1, by omega, by go_num, HO2.out.1, HR.out⟩, by simp [intOf]; omega⟩
            · have hl3 : decide ((0 : Int) < (x.cx.length : Int)) = true := decide_eq_true (by omega)
              have hl4 : decide (0 < x.cx.length) = true := decide_eq_true (by omega)
              rw [decide_eq_false hl] at HOK
              clear hl HCX
              have HR := hide3 (HNO.out (by rw [HOK.out]; simp))
              clear HST HNO HOK
              go_wp2
              go_ret
              exact ⟨ret_bool HR.out.symm, HKM.out.1.1⟩
      · have hk1 : ((k : Int) == 0) = false := by rw [beq_eq_false_iff_ne]; omega
        have hk2 : decide ((0 : Int) < (k : Int)) = true := decide_eq_true (by omega)
        have hk3 : decide (0 < k) = true := decide_eq_true hk0
        have HOK : Hid (okAt G.length k x = (Sc.nameA x.nm.data.toList && mayV x.a x.b x.c && mayCx x.cx && mayEd G.length x.ed)) := by
          unfold Hid okAt laterB
          rw [if_neg (by omega)]
        generalize Sc.nameA x.nm.data.toList = c1 at *
        generalize mayV x.a x.b x.c = c2 at *
        generalize mayCx x.cx = c3 at *
        generalize mayEd G.length x.ed = c4 at *
        cases c1
        · skip
          have HR := hide3 (HNO.out (by rw [HOK.out]; simp))
          clear HST HNO HOK
          go_wp2_with (first
            | (have _h := HKM; go_at_call 26; refine (HNM.out _).mono ?_; rintro e z1 ⟨rfl, ok⟩; have HO1 := hide3 (HKP.out _ _ HKM.out ok); clear ok HKM; obtain ⟨⟨b0, b1, b2, b3, b4, b5⟩, b6⟩ := HO1.out.2.1))
          go_ret
          exact ⟨ret_bool HR.out.symm, HO1.out.1.1⟩
        · cases c2
          · skip
            have HR := hide3 (HNO.out (by rw [HOK.out]; simp))
            clear HST HNO HOK
            go_wp2_with (first
              | (have _h := HKM; go_at_call 26; refine (HNM.out _).mono ?_; rintro e z1 ⟨rfl, ok⟩; have HO1 := hide3 (HKP.out _ _ HKM.out ok); clear ok HKM; obtain ⟨⟨b0, b1, b2, b3, b4, b5⟩, b6⟩ := HO1.out.2.1)
              | (have _h := HO1; go_at_call 27; refine (HMV.out _).mono ?_; rintro e z2 ⟨rfl, ok⟩; have HO2 := hide3 (HKP.out _ _ HO1.out ok); clear ok HO1 b0 b1 b2 b3 b4 b5 b6; obtain ⟨⟨b0, b1, b2, b3, b4, b5⟩, b6⟩ := HO2.out.2.1))
            go_ret
            exact ⟨ret_bool HR.out.symm, HO2.out.1.1⟩
          · cases c3
            · skip
              have HR := hide3 (HNO.out (by rw [HOK.out]; simp))
              clear HST HNO HOK
              go_wp2_with (first
                | (have _h := HKM; go_at_call 26; refine (HNM.out _).mono ?_; rintro e z1 ⟨rfl, ok⟩; have HO1 := hide3 (HKP.out _ _ HKM.out ok); clear ok HKM; obtain ⟨⟨b0, b1, b2, b3, b4, b5⟩, b6⟩ := HO1.out.2.1)
                | (have _h := HO1; go_at_call 27; refine (HMV.out _).mono ?_; rintro e z2 ⟨rfl, ok⟩; have HO2 := hide3 (HKP.out _ _ HO1.out ok); clear ok HO1 b0 b1 b2 b3 b4 b5 b6; obtain ⟨⟨b0, b1, b2, b3, b4, b5⟩, b6⟩ := HO2.out.2.1)
                | (have _h := HO2; go_at_call 28; refine (HPI.out _ _ HO2.out.2.2.1).mono ?_; rintro e z3 ⟨rfl, ok⟩; have HO3 := hide3 (HKP.out _ _ HO2.out ok); clear ok HO2 b0 b1 b2 b3 b4 b5 b6; obtain ⟨⟨b0, b1, b2, b3, b4, b5⟩, b6⟩ := HO3.out.2.1))
              go_ret
              exact ⟨ret_bool HR.out.symm, HO3.out.1.1⟩
            · cases c4
              · skip
                have HR := hide3 (HNO.out (by rw [HOK.out]; simp))
                clear HST HNO HOK
                go_wp2_with (first
                  | (have _h := HKM; go_at_call 26; refine (HNM.out _).mono ?_; rintro e z1 ⟨rfl, ok⟩; have HO1 := hide3 (HKP.out _ _ HKM.out ok); clear ok HKM; obtain ⟨⟨b0, b1, b2, b3, b4, b5⟩, b6⟩ := HO1.out.2.1)
                  | (have _h := HO1; go_at_call 27; refine (HMV.out _).mono ?_; rintro e z2 ⟨rfl, ok⟩; have HO2 := hide3 (HKP.out _ _ HO1.out ok); clear ok HO1 b0 b1 b2 b3 b4 b5 b6; obtain ⟨⟨b0, b1, b2, b3, b4, b5⟩, b6⟩ := HO2.out.2.1)
                  | (have _h := HO2; go_at_call 28; refine (HPI.out _ _ HO2.out.2.2.1).mono ?_; rintro e z3 ⟨rfl, ok⟩; have HO3 := hide3 (HKP.out _ _ HO2.out ok); clear ok HO2 b0 b1 b2 b3 b4 b5 b6; obtain ⟨⟨b0, b1, b2, b3, b4, b5⟩, b6⟩ := HO3.out.2.1)
                  | (have _h := HO3; go_at_call 29; refine (HED.out _ _ HO3.out.2.2.2).mono ?_; rintro e z4 ⟨rfl, ok⟩; have HO4 := hide3 (HKP.out _ _ HO3.out ok); clear ok HO3 b0 b1 b2 b3 b4 b5 b6; obtain ⟨⟨b0, b1, b2, b3, b4, b5⟩, b6⟩ := HO4.out.2.1))
                go_ret
                exact ⟨ret_bool HR.out.symm, HO4.out.1.1⟩
              · skip
                have HR := hide3 (HST.out (by rw [HOK.out]; simp))
                clear HST HNO HOK
                go_wp2_with (first
                  | (have _h := HKM; go_at_call 26; refine (HNM.out _).mono ?_; rintro e z1 ⟨rfl, ok⟩; have HO1 := hide3 (HKP.out _ _ HKM.out ok); clear ok HKM; obtain ⟨⟨b0, b1, b2, b3, b4, b5⟩, b6⟩ := HO1.out.2.1)
                  | (have _h := HO1; go_at_call 27; refine (HMV.out _).mono ?_; rintro e z2 ⟨rfl, ok⟩; have HO2 := hide3 (HKP.out _ _ HO1.out ok); clear ok HO1 b0 b1 b2 b3 b4 b5 b6; obtain ⟨⟨b0, b1, b2, b3, b4, b5⟩, b6⟩ := HO2.out.2.1)
                  | (have _h := HO2; go_at_call 28; refine (HPI.out _ _ HO2.out.2.2.1).mono ?_; rintro e z3 ⟨rfl, ok⟩; have HO3 := hide3 (HKP.out _ _ HO2.out ok); clear ok HO2 b0 b1 b2 b3 b4 b5 b6; obtain ⟨⟨b0, b1, b2, b3, b4, b5⟩, b6⟩ := HO3.out.2.1)
                  | (have _h := HO3; go_at_call 29; refine (HED.out _ _ HO3.out.2.2.2).mono ?_; rintro e z4 ⟨rfl, ok⟩; have HO4 := hide3 (HKP.out _ _ HO3.out ok); clear ok HO3 b0 b1 b2 b3 b4 b5 b6; obtain ⟨⟨b0, b1, b2, b3, b4, b5⟩, b6⟩ := HO4.out.2.1))
                exact ⟨⟨k + 1, by omega, by go_num, HO4.out.1, HR.out⟩, by simp [intOf]; omega⟩
    · obtain rfl : k = G.length := by omega
      have HR := hide3 (HMY.out fun j h => HALL.out j h h)
      clear HALL HMY HMG
      go_wp2
      go_ret
      exact ⟨ret_bool HR.out.symm, HB.out.1⟩

theorem rMayG_any {G : List Nd} {v : Value} {w : World} (h : NodesAt w v G) (hz : ∀ n ∈ G, NdZ n) :
    Calls Tryz.prog 14 #[.agg #[v]] w fun e w' => e = .returned (.bool (mayG G)) ∧ Below w.heap.size w w' := by
  obtain ⟨ad, cap, rfl, hc⟩ := h
  by_cases h0 : 0 < G.length
  · by_cases h1 : G.length ≤ 128
    · exact rMayG_walk ⟨ad, cap, rfl, hc⟩ hz h0 h1
    · have HR : Hid (mayG G = false) := by
        unfold Hid
        cases hm : mayG G with
        | false => rfl
        | true => exact absurd (mayG_iff.1 hm).2.1 h1
      have hl1 : decide ((G.length : Int) < 1) = false := decide_eq_false (by omega)
      have hl2 : decide ((128 : Int) < (G.length : Int)) = true := decide_eq_true (by omega)
      have HB0 : Hid (Below w.heap.size w (w.alloc (.cells #[.slice ad G.length cap] 24))) := boxB _ _
      clear h0 h1 hc hz
      go_enter Tryz.func14, Tryz.ntmps14
      go_wp2
      go_ret
      exact ⟨ret_bool HR.out.symm, HB0.out⟩
  · have HR : Hid (mayG G = false) := by
      unfold Hid
      cases hm : mayG G with
      | false => rfl
      | true => exact absurd (mayG_iff.1 hm).1 h0
    have hl1 : decide ((G.length : Int) < 1) = true := decide_eq_true (by omega)
    have HB0 : Hid (Below w.heap.size w (w.alloc (.cells #[.slice ad G.length cap] 24))) := boxB _ _
    clear h0 hc hz
    go_enter Tryz.func14, Tryz.ntmps14
    go_wp2
    go_ret
    exact ⟨ret_bool HR.out.symm, HB0.out⟩
end Go.Proofs.YtjbohacllhjgmaaGreatDoor
