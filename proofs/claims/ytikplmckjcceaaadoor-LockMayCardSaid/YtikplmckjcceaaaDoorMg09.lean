/- RwG, Lk21, Lk22, laid in one text. -/
import Derived.Test.YtikplmckjcceaaaDoorMg08
namespace Go.Proofs.YtikplmckjcceaaaDoor
open Go.ChangeShapes Go.WideShapes Go.ChangeAt Go.RowKit
set_option maxRecDepth 100000

theorem ints_of {H : Type} {enc : TypeId × Value → H} {W : World} {base : Nat} {spare : Nat → Bool} {held : Bool} {n : Nat} {cs : List Value} {x : DataW H × List MemPlace} (h : DataW.trod enc Tryd.prog W base spare held n 34 cs = some x) :
    ∃ a b c, cs[0]? = some (.int .i64 a) ∧ cs[1]? = some (.int .i64 b) ∧ cs[2]? = some (.int .i64 c) ∧ x.1 = .agg [.lit (.int .i64 a), .lit (.int .i64 b), .lit (.int .i64 c)] := by
  have hs : Tryd.prog.underlying 34 = some (.struct (Tryd.prog.fieldsOf 34)) := by kernel_rfl
  obtain ⟨xs, n', _, hx, _, hxl, hf⟩ := DataW.trod_struct hs h
  have hfz : (Tryd.prog.fieldsOf 34).size = 3 := by kernel_rfl
  have ints : ∀ i off, ((Tryd.prog.fieldsOf 34)[i]?).map (fun f => (f.type, f.offset)) = some (3, off) → i < 3 → ∃ k, cs[off]? = some (.int .i64 k) ∧ xs[i]? = some (.lit (.int .i64 k), []) := by
    intro i off hfd hi
    obtain ⟨f, h1, h2, h3⟩ := field_at hfd
    have hr := hf i f h1
    rw [h2, h3, cellsInt, List.getElem?_eq_getElem (by omega : i < xs.length)] at hr
    obtain ⟨k, e1, e2, wk⟩ := DataW.trod_int Tryd.underlying3 hr
    exact ⟨k, take_one e1, by rw [List.getElem?_eq_getElem (by omega : i < xs.length), e2]⟩
  obtain ⟨a, a0, x0⟩ := ints 0 0 (by kernel_rfl) (by decide)
  obtain ⟨b, a1, x1⟩ := ints 1 1 (by kernel_rfl) (by decide)
  obtain ⟨c, a2, x2⟩ := ints 2 2 (by kernel_rfl) (by decide)
  refine ⟨a, b, c, a0, a1, a2, ?_⟩
  rw [hx]
  obtain ⟨y0, y1, y2, rfl⟩ := list3 (l := xs) (by omega)
  simp at x0 x1 x2
  subst x0 x1 x2
  rfl

theorem list_any {α : Type} {P : Nat → α → Prop} : ∀ {n : Nat}, (∀ i, i < n → ∃ s, P i s) → ∃ L : List α, L.length = n ∧ ∀ i (h : i < L.length), P i L[i]
  | 0, _ => ⟨[], rfl, fun i h => by simp at h⟩
  | n + 1, h => by
    obtain ⟨L, hl, hP⟩ := list_any (n := n) fun i hi => h i (by omega)
    obtain ⟨s, hs⟩ := h n (by omega)
    refine ⟨L ++ [s], by simp [hl], fun i hi => ?_⟩
    by_cases hin : i < L.length
    · rw [List.getElem_append_left hin]; exact hP i hin
    · have : i = n := by simp at hi; omega
      subst this
      simpa [hl] using hs
theorem take1 {cs : List Value} {o : Nat} {v : Value} (h : (cs.drop o).take 1 = [v]) : cs[o]? = some v := by
  have h0 : ((cs.drop o).take 1)[0]? = some v := by rw [h]; rfl
  simpa using h0
theorem cellsStrG : Tryd.prog.cellsOf 9 = 1 := by kernel_rfl
theorem cellsPin : Tryd.prog.cellsOf 42 = 4 := by kernel_rfl
theorem cellsEdge : Tryd.prog.cellsOf 40 = 2 := by kernel_rfl
theorem cellsNode : Tryd.prog.cellsOf 38 = 6 := by kernel_rfl
theorem cellsPins : Tryd.prog.cellsOf 35 = 1 := by kernel_rfl
theorem cellsEdges : Tryd.prog.cellsOf 36 = 1 := by kernel_rfl
theorem cellsNodes : Tryd.prog.cellsOf 22 = 1 := by kernel_rfl
theorem cellsGraph : Tryd.prog.cellsOf 24 = 1 := by kernel_rfl
theorem cellsIntG : Tryd.prog.cellsOf 3 = 1 := by kernel_rfl

theorem pin_read {H : Type} {enc : TypeId × Value → H} {W : World} {base : Nat} {held : Bool} {n : Nat} {g o : Nat} {cs : List Value} {x : DataW H × List MemPlace} (hc : W.cells? base ⟨g, o, none⟩ 4 = some cs) (h : DataW.trod enc Tryd.prog W base (fun _ => true) held n 42 cs = some x) : ∃ d : Pn, PnIn W g o d ∧ d.nm.size ≤ 9223372036854775807 := by
  have hs : Tryd.prog.underlying 42 = some (.struct (Tryd.prog.fieldsOf 42)) := by kernel_rfl
  obtain ⟨xs, n', _, _, _, hxl, hf⟩ := DataW.trod_struct hs h
  have hsz : (Tryd.prog.fieldsOf 42).size = 2 := by kernel_rfl
  obtain ⟨_, hcl, hq⟩ := World.cells?_some hc
  obtain ⟨f0, i0, t0, o0⟩ := field_at (fs := Tryd.prog.fieldsOf 42) (i := 0) (ty := 9) (off := 0) (by kernel_rfl)
  obtain ⟨f1, i1, t1, o1⟩ := field_at (fs := Tryd.prog.fieldsOf 42) (i := 1) (ty := 34) (off := 1) (by kernel_rfl)
  have r0 := hf 0 f0 i0
  have r1 := hf 1 f1 i1
  rw [t0, o0, cellsStrG, List.getElem?_eq_getElem (by omega : 0 < xs.length)] at r0
  rw [t1, o1, cellsVer, List.getElem?_eq_getElem (by omega : 1 < xs.length)] at r1
  obtain ⟨s, e0, _, hs0⟩ := DataW.trod_string Tryd.underlying9 r0
  obtain ⟨a, b, c, ea, eb, ec, _⟩ := ints_of r1
  have ka : ((cs.drop 1).take 3)[0]? = some (.int .i64 a) := ea
  have kb : ((cs.drop 1).take 3)[1]? = some (.int .i64 b) := eb
  have kc : ((cs.drop 1).take 3)[2]? = some (.int .i64 c) := ec
  have q0 := hq 0 (by decide)
  have q1 := hq 1 (by decide)
  have q2 := hq 2 (by decide)
  have q3 := hq 3 (by decide)
  have ad : ∀ i, (⟨g, o, none⟩ : Addr).add i = ⟨g, o + i, none⟩ := fun i => by unfold Addr.add; split <;> simp_all
  simp at ka kb kc
  rw [ad, take1 e0] at q0
  rw [ad, ka] at q1
  rw [ad, kb] at q2
  rw [ad, kc] at q3
  exact ⟨⟨s, a, b, c⟩, ⟨⟨q0, q1, q2, q3⟩, cell_in q0⟩, by unfold maxLen at hs0; exact hs0⟩

theorem edge_read {H : Type} {enc : TypeId × Value → H} {W : World} {base : Nat} {held : Bool} {n : Nat} {g o : Nat} {cs : List Value} {x : DataW H × List MemPlace} (hc : W.cells? base ⟨g, o, none⟩ 2 = some cs) (h : DataW.trod enc Tryd.prog W base (fun _ => true) held n 40 cs = some x) : ∃ d : Eg, EgIn W g o d ∧ d.lb.size ≤ 9223372036854775807 := by
  have hs : Tryd.prog.underlying 40 = some (.struct (Tryd.prog.fieldsOf 40)) := by kernel_rfl
  obtain ⟨xs, n', _, _, _, hxl, hf⟩ := DataW.trod_struct hs h
  have hsz : (Tryd.prog.fieldsOf 40).size = 2 := by kernel_rfl
  obtain ⟨_, hcl, hq⟩ := World.cells?_some hc
  obtain ⟨f0, i0, t0, o0⟩ := field_at (fs := Tryd.prog.fieldsOf 40) (i := 0) (ty := 9) (off := 0) (by kernel_rfl)
  obtain ⟨f1, i1, t1, o1⟩ := field_at (fs := Tryd.prog.fieldsOf 40) (i := 1) (ty := 3) (off := 1) (by kernel_rfl)
  have r0 := hf 0 f0 i0
  have r1 := hf 1 f1 i1
  rw [t0, o0, cellsStrG, List.getElem?_eq_getElem (by omega : 0 < xs.length)] at r0
  rw [t1, o1, cellsIntG, List.getElem?_eq_getElem (by omega : 1 < xs.length)] at r1
  obtain ⟨s, e0, _, hs0⟩ := DataW.trod_string Tryd.underlying9 r0
  obtain ⟨k, e1, _, _⟩ := DataW.trod_int Tryd.underlying3 r1
  have q0 := hq 0 (by decide)
  have q1 := hq 1 (by decide)
  have ad : ∀ i, (⟨g, o, none⟩ : Addr).add i = ⟨g, o + i, none⟩ := fun i => by unfold Addr.add; split <;> simp_all
  rw [ad, take1 e0] at q0
  rw [ad, take1 e1] at q1
  exact ⟨⟨s, k⟩, ⟨⟨q0, q1⟩, cell_in q0⟩, by unfold maxLen at hs0; exact hs0⟩

theorem pins_cs {H : Type} {enc : TypeId × Value → H} {W : World} {base fuel : Nat} {held : Bool} {cs : List Value} {x : DataW H × List MemPlace} (h : DataW.trod enc Tryd.prog W base (fun _ => true) held fuel 35 cs = some x) :
    ∃ v L, cs = [v] ∧ PinsAt W v L ∧ L.length ≤ 9223372036854775807 ∧ ∀ d ∈ L, d.nm.size ≤ 9223372036854775807 := by
  rcases Go.Deep.open_slice Tryd.underlying35 h with ⟨rfl, _⟩ | ⟨ad, len, cap, m, n, D, Pl, rfl, _, hl, hcm, hm, hx, hel⟩
  · exact ⟨_, [], rfl, ⟨none, 0, rfl, Nat.le_refl _, Or.inl rfl⟩, by simp, (fun d hd => by cases hd)⟩
  · have hz : len ≤ 9223372036854775807 := by unfold maxLen at hcm; omega
    rcases Nat.eq_zero_or_pos len with h0 | h0
    · subst h0
      exact ⟨_, [], rfl, ⟨_, _, rfl, Nat.zero_le _, Or.inl rfl⟩, by simp, (fun d hd => by cases hd)⟩
    · have hmm : len ≤ m := by rw [hm]; simp; exact hl
      rw [cellsPin] at hel
      obtain ⟨g, off, spot⟩ := ad
      obtain ⟨cs0, hc0, _⟩ := hel 0 (by omega)
      obtain ⟨_, hln, hq⟩ := World.cells?_some hc0
      have hcell := hq 0 (by decide)
      rw [List.getElem?_eq_getElem (by omega : 0 < cs0.length)] at hcell
      have hspot : spot = none := by simpa [Addr.add] using World.cell?_spot hcell
      subst hspot
      have ad2 : ∀ o i, (⟨g, o, none⟩ : Addr).add i = ⟨g, o + i, none⟩ := fun o i => by unfold Addr.add; split <;> simp_all
      obtain ⟨L, hL, hP⟩ := list_any (P := fun i (d : Pn) => PnIn W g (off + i * 4) d ∧ d.nm.size ≤ 9223372036854775807) (n := len) fun i hi => by
        obtain ⟨cs, hc, ht⟩ := hel i (by omega)
        rw [ad2] at hc
        exact pin_read hc ht
      subst hL
      refine ⟨_, L, rfl, ⟨_, _, rfl, hl, Or.inr ⟨g, off, rfl, ?_, fun i hi => (hP i hi).1⟩⟩, hz, ?_⟩
      · have := cell_in hcell
        rw [ad2, ad2] at this; exact this
      · intro d hd
        obtain ⟨i, hi, rfl⟩ := List.getElem_of_mem hd
        exact (hP i hi).2

theorem edges_cs {H : Type} {enc : TypeId × Value → H} {W : World} {base fuel : Nat} {held : Bool} {cs : List Value} {x : DataW H × List MemPlace} (h : DataW.trod enc Tryd.prog W base (fun _ => true) held fuel 36 cs = some x) :
    ∃ v L, cs = [v] ∧ EdgesAt W v L ∧ L.length ≤ 9223372036854775807 ∧ ∀ d ∈ L, d.lb.size ≤ 9223372036854775807 := by
  rcases Go.Deep.open_slice Tryd.underlying36 h with ⟨rfl, _⟩ | ⟨ad, len, cap, m, n, D, Pl, rfl, _, hl, hcm, hm, hx, hel⟩
  · exact ⟨_, [], rfl, ⟨none, 0, rfl, Nat.le_refl _, Or.inl rfl⟩, by simp, (fun d hd => by cases hd)⟩
  · have hz : len ≤ 9223372036854775807 := by unfold maxLen at hcm; omega
    rcases Nat.eq_zero_or_pos len with h0 | h0
    · subst h0
      exact ⟨_, [], rfl, ⟨_, _, rfl, Nat.zero_le _, Or.inl rfl⟩, by simp, (fun d hd => by cases hd)⟩
    · have hmm : len ≤ m := by rw [hm]; simp; exact hl
      rw [cellsEdge] at hel
      obtain ⟨g, off, spot⟩ := ad
      obtain ⟨cs0, hc0, _⟩ := hel 0 (by omega)
      obtain ⟨_, hln, hq⟩ := World.cells?_some hc0
      have hcell := hq 0 (by decide)
      rw [List.getElem?_eq_getElem (by omega : 0 < cs0.length)] at hcell
      have hspot : spot = none := by simpa [Addr.add] using World.cell?_spot hcell
      subst hspot
      have ad2 : ∀ o i, (⟨g, o, none⟩ : Addr).add i = ⟨g, o + i, none⟩ := fun o i => by unfold Addr.add; split <;> simp_all
      obtain ⟨L, hL, hP⟩ := list_any (P := fun i (d : Eg) => EgIn W g (off + i * 2) d ∧ d.lb.size ≤ 9223372036854775807) (n := len) fun i hi => by
        obtain ⟨cs, hc, ht⟩ := hel i (by omega)
        rw [ad2] at hc
        exact edge_read hc ht
      subst hL
      refine ⟨_, L, rfl, ⟨_, _, rfl, hl, Or.inr ⟨g, off, rfl, ?_, fun i hi => (hP i hi).1⟩⟩, hz, ?_⟩
      · have := cell_in hcell
        rw [ad2, ad2] at this; exact this
      · intro d hd
        obtain ⟨i, hi, rfl⟩ := List.getElem_of_mem hd
        exact (hP i hi).2

/-- Texts and lists that are not too great. -/
def NdZ (n : Nd) : Prop := n.nm.size ≤ 9223372036854775807 ∧ (n.cx.length ≤ 9223372036854775807 ∧ ∀ d ∈ n.cx, d.nm.size ≤ 9223372036854775807) ∧ n.ed.length ≤ 9223372036854775807 ∧ ∀ d ∈ n.ed, d.lb.size ≤ 9223372036854775807
theorem node_read {H : Type} {enc : TypeId × Value → H} {W : World} {base : Nat} {held : Bool} {n : Nat} {g o : Nat} {cs : List Value} {x : DataW H × List MemPlace} (hc : W.cells? base ⟨g, o, none⟩ 6 = some cs) (h : DataW.trod enc Tryd.prog W base (fun _ => true) held n 38 cs = some x) : ∃ d : Nd, (∃ vc ve, NdIn W g o d vc ve) ∧ NdZ d := by
  have hs : Tryd.prog.underlying 38 = some (.struct (Tryd.prog.fieldsOf 38)) := by kernel_rfl
  obtain ⟨xs, n', _, _, _, hxl, hf⟩ := DataW.trod_struct hs h
  have hsz : (Tryd.prog.fieldsOf 38).size = 4 := by kernel_rfl
  obtain ⟨_, hcl, hq⟩ := World.cells?_some hc
  obtain ⟨f0, i0, t0, o0⟩ := field_at (fs := Tryd.prog.fieldsOf 38) (i := 0) (ty := 9) (off := 0) (by kernel_rfl)
  obtain ⟨f1, i1, t1, o1⟩ := field_at (fs := Tryd.prog.fieldsOf 38) (i := 1) (ty := 34) (off := 1) (by kernel_rfl)
  obtain ⟨f2, i2, t2, o2⟩ := field_at (fs := Tryd.prog.fieldsOf 38) (i := 2) (ty := 35) (off := 4) (by kernel_rfl)
  obtain ⟨f3, i3, t3, o3⟩ := field_at (fs := Tryd.prog.fieldsOf 38) (i := 3) (ty := 36) (off := 5) (by kernel_rfl)
  have r0 := hf 0 f0 i0
  have r1 := hf 1 f1 i1
  have r2 := hf 2 f2 i2
  have r3 := hf 3 f3 i3
  rw [t0, o0, cellsStrG, List.getElem?_eq_getElem (by omega : 0 < xs.length)] at r0
  rw [t1, o1, cellsVer, List.getElem?_eq_getElem (by omega : 1 < xs.length)] at r1
  rw [t2, o2, cellsPins, List.getElem?_eq_getElem (by omega : 2 < xs.length)] at r2
  rw [t3, o3, cellsEdges, List.getElem?_eq_getElem (by omega : 3 < xs.length)] at r3
  obtain ⟨s, e0, _, hs0⟩ := DataW.trod_string Tryd.underlying9 r0
  obtain ⟨a, b, c, ea, eb, ec, _⟩ := ints_of r1
  obtain ⟨vc, L1, e2, h2, z2, m2⟩ := pins_cs r2
  obtain ⟨ve, L2, e3, h3, z3, m3⟩ := edges_cs r3
  have ka : ((cs.drop 1).take 3)[0]? = some (.int .i64 a) := ea
  have kb : ((cs.drop 1).take 3)[1]? = some (.int .i64 b) := eb
  have kc : ((cs.drop 1).take 3)[2]? = some (.int .i64 c) := ec
  have q0 := hq 0 (by decide)
  have q1 := hq 1 (by decide)
  have q2 := hq 2 (by decide)
  have q3 := hq 3 (by decide)
  have q4 := hq 4 (by decide)
  have q5 := hq 5 (by decide)
  have ad : ∀ i, (⟨g, o, none⟩ : Addr).add i = ⟨g, o + i, none⟩ := fun i => by unfold Addr.add; split <;> simp_all
  simp at ka kb kc
  rw [ad, take1 e0] at q0
  rw [ad, ka] at q1
  rw [ad, kb] at q2
  rw [ad, kc] at q3
  rw [ad, take1 e2] at q4
  rw [ad, take1 e3] at q5
  exact ⟨⟨s, a, b, c, L1, L2⟩, ⟨vc, ve, ⟨q0, q1, q2, q3, q4, q5⟩, ⟨h2, h3⟩, cell_in q0⟩, by unfold maxLen at hs0; exact hs0, ⟨z2, m2⟩, z3, m3⟩

theorem nodes_cs {H : Type} {enc : TypeId × Value → H} {W : World} {base fuel : Nat} {held : Bool} {cs : List Value} {x : DataW H × List MemPlace} (h : DataW.trod enc Tryd.prog W base (fun _ => true) held fuel 22 cs = some x) :
    ∃ v L, cs = [v] ∧ NodesAt W v L ∧ L.length ≤ 9223372036854775807 ∧ ∀ d ∈ L, NdZ d := by
  rcases Go.Deep.open_slice Tryd.underlying22 h with ⟨rfl, _⟩ | ⟨ad, len, cap, m, n, D, Pl, rfl, _, hl, hcm, hm, hx, hel⟩
  · exact ⟨_, [], rfl, ⟨none, 0, rfl, Nat.le_refl _, Or.inl rfl⟩, by simp, (fun d hd => by cases hd)⟩
  · have hz : len ≤ 9223372036854775807 := by unfold maxLen at hcm; omega
    rcases Nat.eq_zero_or_pos len with h0 | h0
    · subst h0
      exact ⟨_, [], rfl, ⟨_, _, rfl, Nat.zero_le _, Or.inl rfl⟩, by simp, (fun d hd => by cases hd)⟩
    · have hmm : len ≤ m := by rw [hm]; simp; exact hl
      rw [cellsNode] at hel
      obtain ⟨g, off, spot⟩ := ad
      obtain ⟨cs0, hc0, _⟩ := hel 0 (by omega)
      obtain ⟨_, hln, hq⟩ := World.cells?_some hc0
      have hcell := hq 0 (by decide)
      rw [List.getElem?_eq_getElem (by omega : 0 < cs0.length)] at hcell
      have hspot : spot = none := by simpa [Addr.add] using World.cell?_spot hcell
      subst hspot
      have ad2 : ∀ o i, (⟨g, o, none⟩ : Addr).add i = ⟨g, o + i, none⟩ := fun o i => by unfold Addr.add; split <;> simp_all
      obtain ⟨L, hL, hP⟩ := list_any (P := fun i (d : Nd) => (∃ vc ve, NdIn W g (off + i * 6) d vc ve) ∧ NdZ d) (n := len) fun i hi => by
        obtain ⟨cs, hc, ht⟩ := hel i (by omega)
        rw [ad2] at hc
        exact node_read hc ht
      subst hL
      refine ⟨_, L, rfl, ⟨_, _, rfl, hl, Or.inr ⟨g, off, rfl, ?_, fun i hi => (hP i hi).1⟩⟩, hz, ?_⟩
      · have := cell_in hcell
        rw [ad2, ad2] at this; exact this
      · intro d hd
        obtain ⟨i, hi, rfl⟩ := List.getElem_of_mem hd
        exact (hP i hi).2

theorem open_graph {H : Type} {enc : TypeId × Value → H} {W : World} {base b0 : Nat} {held : Bool} {v : Value} {d : DataW H} {p : List MemPlace} (hv : Value.okWide Tryd.prog W .any b0 24 v) (h : DataW.Trod enc Tryd.prog W base (fun _ => true) held 24 v d p) :
    ∃ (G : List Nd) (u : Value), v = .agg #[u] ∧ NodesAt W u G ∧ G.length ≤ 9223372036854775807 ∧ ∀ n ∈ G, NdZ n := by
  have hs : Tryd.prog.underlying 24 = some (.struct (Tryd.prog.fieldsOf 24)) := by kernel_rfl
  obtain ⟨cs, rfl, hsz⟩ := okWide_struct hs hv
  obtain ⟨n, h⟩ := h
  obtain ⟨xs, n', _, _, _, hxl, hf⟩ := DataW.trod_struct hs h
  have hfz : (Tryd.prog.fieldsOf 24).size = 1 := by kernel_rfl
  rw [cellsGraph] at hsz
  obtain ⟨f0, i0, t0, o0⟩ := field_at (fs := Tryd.prog.fieldsOf 24) (i := 0) (ty := 22) (off := 0) (by kernel_rfl)
  have r0 := hf 0 f0 i0
  rw [t0, o0, cellsNodes, List.getElem?_eq_getElem (by omega : 0 < xs.length)] at r0
  obtain ⟨u, G, e0, h0, z0, m0⟩ := nodes_cs r0
  have k0 : cs.toList[0]? = some u := take1 e0
  obtain ⟨l⟩ := cs
  match l, hsz with
  | [x0], _ =>
    simp at k0
    subst k0
    exact ⟨G, _, rfl, h0, z0, m0⟩
end Go.Proofs.YtikplmckjcceaaaDoor
namespace Go.Proofs.YtikplmckjcceaaaDoor
open Go.RowKit
open Sc (KeepP hide3 keepBelow Bs ba)
set_option maxRecDepth 100000

/-- Whether two things are one. -/
noncomputable def eqB {α : Type} (x y : α) : Bool := @decide (x = y) (Classical.propDecidable _)
theorem eqB_yes {α : Type} {x y : α} (h : x = y) : eqB x y = true := by unfold eqB; exact @decide_eq_true _ (Classical.propDecidable _) h
theorem eqB_no {α : Type} {x y : α} (h : x ≠ y) : eqB x y = false := by unfold eqB; exact @decide_eq_false _ (Classical.propDecidable _) h
theorem eqB_iff {α : Type} {x y : α} : eqB x y = true ↔ x = y := ⟨fun h => by unfold eqB at h; exact @of_decide_eq_true _ (Classical.propDecidable _) h, eqB_yes⟩

theorem eqInVL (p q r p' q' r' : Int) (w : World) : (Op.equalIn 9999 34 (.agg #[.int .i64 p, .int .i64 q, .int .i64 r]) (.agg #[.int .i64 p', .int .i64 q', .int .i64 r'])).run Tryd.prog w = .ok (decide (p = p') && decide (q = q') && decide (r = r')) w := by
  have u3 := Tryd.underlying3
  have a3 := Tryd.isAgg3
  have z3 := Tryd.sizeOf3
  rw [show (9999 : Nat) = 9998 + 1 from rfl, run_equalIn_agg w 9998 34 _ _ (by kernel_rfl) (by kernel_rfl)]
  simp only [Program.fieldsOf, Tryd.underlying34]
  by_cases h1 : p = p'
  · by_cases h2 : q = q'
    · by_cases h3 : r = r'
      · subst h1 h2 h3; go_simp
      · subst h1 h2; simp only [h3, decide_false, Bool.and_false]; go_simp
    · subst h1; simp only [h2, decide_false, Bool.and_false, Bool.false_and]; go_simp
  · simp only [h1, decide_false, Bool.false_and]; go_simp

def eqPn (p q : Pn) : Bool := decide (p.nm.toList = q.nm.toList) && (decide (p.a = q.a) && decide (p.b = q.b) && decide (p.c = q.c))
theorem eqPn_iff {p q : Pn} : eqPn p q = true ↔ p = q := by
  obtain ⟨s, a, b, c⟩ := p
  obtain ⟨s', a', b', c'⟩ := q
  unfold eqPn
  simp only [Bool.and_eq_true, decide_eq_true_eq, Pn.mk.injEq]
  exact ⟨fun ⟨h1, ⟨h2, h3⟩, h4⟩ => ⟨bytes_same h1, h2, h3, h4⟩, fun ⟨h1, h2, h3, h4⟩ => ⟨by rw [h1], ⟨h2, h3⟩, h4⟩⟩
def eqEg (p q : Eg) : Bool := decide (p.lb.toList = q.lb.toList) && decide (p.to = q.to)
theorem eqEg_iff {p q : Eg} : eqEg p q = true ↔ p = q := by
  obtain ⟨s, a⟩ := p
  obtain ⟨s', a'⟩ := q
  unfold eqEg
  simp only [Bool.and_eq_true, decide_eq_true_eq, Eg.mk.injEq]
  exact ⟨fun ⟨h1, h2⟩ => ⟨bytes_same h1, h2⟩, fun ⟨h1, h2⟩ => ⟨by rw [h1], h2⟩⟩
theorem guardPn (op : BinOp) (x y : Operand) (xs ys : Array Value) (w : World) : (eqGuard op 42 x y (.agg xs) (.agg ys)).run Tryd.prog w = .ok () w := run_eqGuard_agg w op 42 x y xs ys (by kernel_rfl)
theorem guardEg (op : BinOp) (x y : Operand) (xs ys : Array Value) (w : World) : (eqGuard op 40 x y (.agg xs) (.agg ys)).run Tryd.prog w = .ok () w := run_eqGuard_agg w op 40 x y xs ys (by kernel_rfl)
theorem neqPn (p q : Pn) (w : World) : (binOp .neq 42 (.agg #[.string p.nm, .int .i64 p.a, .int .i64 p.b, .int .i64 p.c]) (.agg #[.string q.nm, .int .i64 q.a, .int .i64 q.b, .int .i64 q.c])).run Tryd.prog w = .ok (.bool (!(eqPn p q))) w := by
  obtain ⟨s, a, b, c⟩ := p
  obtain ⟨s', a', b', c'⟩ := q
  have av := Tryd.isAgg34
  have zv := Tryd.sizeOf34
  have u9 := Tryd.underlying9
  have a9 := Tryd.isAgg9
  have z9 := Tryd.sizeOf9
  have h1 := eqInVL a b c a' b' c' w
  rw [run_neq_struct, show (10000 : Nat) = 9999 + 1 from rfl, run_equalIn_agg w 9999 42 _ _ (by kernel_rfl) (by kernel_rfl)]
  simp only [Program.fieldsOf, Tryd.underlying42]
  unfold eqPn
  simp only
  by_cases hs : s.toList = s'.toList
  · obtain rfl := bytes_same hs
    by_cases hv : a = a' ∧ b = b' ∧ c = c'
    · obtain ⟨rfl, rfl, rfl⟩ := hv
      go_simp
    · have hx : (decide (a = a') && decide (b = b') && decide (c = c')) = false := by
        rw [Bool.eq_false_iff]
        intro e
        simp only [Bool.and_eq_true, decide_eq_true_eq] at e
        exact hv ⟨e.1.1, e.1.2, e.2⟩
      rw [hx]
      go_simp
      intro e1 e2 e3
      exact hv ⟨e1, e2, e3⟩
  · generalize (decide (a = a') && decide (b = b') && decide (c = c')) = xv at *
    simp only [hs, decide_false, Bool.false_and]
    go_simp
theorem neqEg (p q : Eg) (w : World) : (binOp .neq 40 (.agg #[.string p.lb, .int .i64 p.to]) (.agg #[.string q.lb, .int .i64 q.to])).run Tryd.prog w = .ok (.bool (!(eqEg p q))) w := by
  obtain ⟨s, a⟩ := p
  obtain ⟨s', a'⟩ := q
  have u3 := Tryd.underlying3
  have a3 := Tryd.isAgg3
  have z3 := Tryd.sizeOf3
  have u9 := Tryd.underlying9
  have a9 := Tryd.isAgg9
  have z9 := Tryd.sizeOf9
  rw [run_neq_struct, show (10000 : Nat) = 9999 + 1 from rfl, run_equalIn_agg w 9999 40 _ _ (by kernel_rfl) (by kernel_rfl)]
  simp only [Program.fieldsOf, Tryd.underlying40]
  unfold eqEg
  simp only
  by_cases hs : s.toList = s'.toList
  · obtain rfl := bytes_same hs
    by_cases ha : a = a'
    · subst ha
      go_simp
    · simp only [ha, decide_false, Bool.and_false]
      go_simp
  · simp only [hs, decide_false, Bool.false_and]
    go_simp
end Go.Proofs.YtikplmckjcceaaaDoor
namespace Go.Proofs.YtikplmckjcceaaaDoor
open Go.RowKit
open Sc (KeepP hide3 keepBelow Bs ba wp_region_keep)
set_option maxRecDepth 100000

/-- What stays while two nodes are compared. -/
def KX (w : World) (N M : Nat) (v u : Value) (x y : Nd) (vc ve uc ue : Value) (W : World) : Prop :=
  (Below w.heap.size w W ∧ BxG W N v ∧ BxG W (N + 1) u) ∧ (BxNd W M x vc ve ∧ BxNd W (M + 1) y uc ue) ∧ (PinsAt W vc x.cx ∧ PinsAt W uc y.cx) ∧ EdgesAt W ve x.ed ∧ EdgesAt W ue y.ed
theorem keepKX (w : World) (N M : Nat) (v u : Value) (x y : Nd) (vc ve uc ue : Value) : KeepP (KX w N M v u x y vc ve uc ue) := fun _ _ ⟨⟨h1, h2, h3⟩, ⟨h4, h5⟩, ⟨h6, h7⟩, h8, h9⟩ hb =>
  ⟨⟨below_then h1 hb, keepBxG _ _ _ _ h2 hb, keepBxG _ _ _ _ h3 hb⟩, ⟨keepBxNd _ _ _ _ _ _ h4 hb, keepBxNd _ _ _ _ _ _ h5 hb⟩, ⟨h6.below hb, h7.below hb⟩, h8.below hb, h9.below hb⟩
theorem keepPnIn (g o : Nat) (p : Pn) : KeepP fun W => PnIn W g o p := fun _ _ h hb => h.below hb
theorem keepEgIn (g o : Nat) (p : Eg) : KeepP fun W => EgIn W g o p := fun _ _ h hb => h.below hb
theorem pins_cell {W : World} {ad : Option Addr} {n cap : Nat} {L : List Pn} (h : PinsAt W (.slice ad n cap) L) {m : Nat} (hm : m < L.length) : ∃ g o, ad = some ⟨g, o, none⟩ ∧ n ≤ cap ∧ PnIn W g (o + m * 4) L[m] := by
  obtain ⟨a1, c1, hv, hc, hl⟩ := h
  cases hv
  rcases hl with rfl | ⟨g, o, rfl, _, hs⟩
  · cases hm
  · exact ⟨g, o, rfl, hc, hs m hm⟩
theorem edges_cell {W : World} {ad : Option Addr} {n cap : Nat} {L : List Eg} (h : EdgesAt W (.slice ad n cap) L) {m : Nat} (hm : m < L.length) : ∃ g o, ad = some ⟨g, o, none⟩ ∧ n ≤ cap ∧ EgIn W g (o + m * 2) L[m] := by
  obtain ⟨a1, c1, hv, hc, hl⟩ := h
  cases hv
  rcases hl with rfl | ⟨g, o, rfl, _, hs⟩
  · cases hm
  · exact ⟨g, o, rfl, hc, hs m hm⟩
theorem same_at {A C : List Nd} (h : A.length = C.length) (hj : ∀ j (_ : j < A.length) (h1 : j < A.length) (h2 : j < C.length), A[j] = C[j]) : A = C := List.ext_getElem h fun j h1 h2 => hj j h1 h1 h2

set_option maxHeartbeats 12800000 in
theorem rSameG_walk {A C : List Nd} (hAC : A.length = C.length) (hz : A.length ≤ 1000000) (hzl : ∀ n ∈ A, n.cx.length ≤ 1000000 ∧ n.ed.length ≤ 1000000) {ga oa ca gb ob cb : Nat} {w : World}
    (ha : ∀ W, Below w.heap.size w W → ∀ i (h : i < A.length), ∃ vc ve, NdIn W ga (oa + i * 6) A[i] vc ve) (hc : ∀ W, Below w.heap.size w W → ∀ i (h : i < C.length), ∃ vc ve, NdIn W gb (ob + i * 6) C[i] vc ve) :
    Calls Tryd.prog 12 #[.agg #[.slice (some ⟨ga, oa, none⟩) A.length ca], .agg #[.slice (some ⟨gb, ob, none⟩) A.length cb]] w fun e w' => e = .returned (.bool (eqB A C)) ∧ Below w.heap.size w w' := by
  have HA := hide3 ha
  have HC := hide3 hc
  have HAC := hide3 hAC
  have HZL := hide3 hzl
  clear ha hc hAC hzl
  have HB0 : Hid (Below w.heap.size w ((w.alloc (.cells #[.slice (some ⟨ga, oa, none⟩) A.length ca] 24)).alloc (.cells #[.slice (some ⟨gb, ob, none⟩) A.length cb] 24)) ∧ BxG ((w.alloc (.cells #[.slice (some ⟨ga, oa, none⟩) A.length ca] 24)).alloc (.cells #[.slice (some ⟨gb, ob, none⟩) A.length cb] 24)) w.heap.size (.slice (some ⟨ga, oa, none⟩) A.length ca) ∧ BxG ((w.alloc (.cells #[.slice (some ⟨ga, oa, none⟩) A.length ca] 24)).alloc (.cells #[.slice (some ⟨gb, ob, none⟩) A.length cb] 24)) (w.heap.size + 1) (.slice (some ⟨gb, ob, none⟩) A.length cb)) := ⟨below_then (boxB _ _) (boxB _ _), keepBxG _ _ _ _ (BxG.new rfl _) (boxB _ _), BxG.new (by simp) _⟩
  go_enter Tryd.func12, Tryd.ntmps12
  go_wp2_with fail
  go_loopw [5] (fun i wr => ∃ k : Nat, k ≤ A.length ∧ i = .int .i64 k ∧ (Below w.heap.size w wr ∧ BxG wr w.heap.size (.slice (some ⟨ga, oa, none⟩) A.length ca) ∧ BxG wr (w.heap.size + 1) (.slice (some ⟨gb, ob, none⟩) A.length cb)) ∧ ∀ j (h : j < k) (h1 : j < A.length) (h2 : j < C.length), A[j] = C[j]) (fun i _ => A.length - (intOf i).toNat)
  case atStart => exact ⟨0, Nat.zero_le _, rfl, HB0.out, fun j h => by omega⟩
  case round =>
    clear HB0
    obtain ⟨k, hk, rfl, hb, hall⟩ := hrel
    have HALL := hide3 hall
    have HB := hide3 hb
    obtain ⟨_, ⟨y0, y1⟩, ⟨z0, z1⟩⟩ := hb
    clear hall
    by_cases hlt : k < A.length
    · have hltC : k < C.length := HAC.out ▸ hlt
      obtain ⟨vc, ve, hx⟩ := HA.out wr HB.out.1 k hlt
      obtain ⟨uc, ue, hy⟩ := HC.out wr HB.out.1 k hltC
      have HNE : Hid (A[k] ≠ C[k] → eqB A C = false) := fun h => eqB_no fun e => by subst e; exact h rfl
      have HST : Hid (A[k] = C[k] → ∀ j (h : j < k + 1) (h1 : j < A.length) (h2 : j < C.length), A[j] = C[j]) := fun h j hj h1 h2 => by
        rcases Nat.lt_or_ge j k with hjk | hjk
        · exact HALL.out j hjk h1 h2
        · obtain rfl : j = k := by omega
          exact h
      have hzk := HZL.out A[k] (List.getElem_mem hlt)
      clear HALL HA HC HZL
      generalize A[k] = x at *
      generalize C[k] = y at *
      obtain ⟨av, cv, rfl⟩ := hx.2.1.1.sl
      obtain ⟨ae, ce, rfl⟩ := hx.2.1.2.sl
      obtain ⟨bv, dv, rfl⟩ := hy.2.1.1.sl
      obtain ⟨be, de, rfl⟩ := hy.2.1.2.sl
      have HX1 := hide3 (hx.below (boxB wr (.cells #[.string x.nm, .int .i64 x.a, .int .i64 x.b, .int .i64 x.c, .slice av x.cx.length cv, .slice ae x.ed.length ce] 38)))
      have HY1 := hide3 (hy.below (boxB wr (.cells #[.string x.nm, .int .i64 x.a, .int .i64 x.b, .int .i64 x.c, .slice av x.cx.length cv, .slice ae x.ed.length ce] 38)))
      have HX2 := hide3 (HX1.out.below (boxB _ (.cells #[.string y.nm, .int .i64 y.a, .int .i64 y.b, .int .i64 y.c, .slice bv y.cx.length dv, .slice be y.ed.length de] 38)))
      have HY2 := hide3 (HY1.out.below (boxB _ (.cells #[.string y.nm, .int .i64 y.a, .int .i64 y.b, .int .i64 y.c, .slice bv y.cx.length dv, .slice be y.ed.length de] 38)))
      have HKX : Hid (KX w w.heap.size wr.heap.size (.slice (some ⟨ga, oa, none⟩) A.length ca) (.slice (some ⟨gb, ob, none⟩) A.length cb) x y (.slice av x.cx.length cv) (.slice ae x.ed.length ce) (.slice bv y.cx.length dv) (.slice be y.ed.length de) ((wr.alloc (.cells #[.string x.nm, .int .i64 x.a, .int .i64 x.b, .int .i64 x.c, .slice av x.cx.length cv, .slice ae x.ed.length ce] 38)).alloc (.cells #[.string y.nm, .int .i64 y.a, .int .i64 y.b, .int .i64 y.c, .slice bv y.cx.length dv, .slice be y.ed.length de] 38))) :=
        ⟨⟨below_then (below_then HB.out.1 (boxB _ _)) (boxB _ _), keepBxG _ _ _ _ (keepBxG _ _ _ _ HB.out.2.1 (boxB _ _)) (boxB _ _), keepBxG _ _ _ _ (keepBxG _ _ _ _ HB.out.2.2 (boxB _ _)) (boxB _ _)⟩, ⟨keepBxNd _ _ _ _ _ _ (BxNd.new rfl _ _ _) (boxB _ _), BxNd.new (by simp) _ _ _⟩, ⟨HX2.out.2.1.1, HY2.out.2.1.1⟩, HX2.out.2.1.2, HY2.out.2.1.2⟩
      obtain ⟨⟨x0, x1, x2, x3, x4, x5⟩, _, x6⟩ := hx
      obtain ⟨⟨f0, f1, f2, f3, f4, f5⟩, _, f6⟩ := HY1.out
      clear HX1 HY1 HX2 HY2 hy
      have hv := neqV x.a x.b x.c y.a y.b y.c
      have hgd := guardV
      by_cases hn : x.nm.toList = y.nm.toList
      · by_cases hvv : x.a = y.a ∧ x.b = y.b ∧ x.c = y.c
        · by_cases hlc : x.cx.length = y.cx.length
          · by_cases hle : x.ed.length = y.ed.length
            · rw [decide_eq_true hvv] at hv
              have HEQ : Hid (x = y ↔ x.cx = y.cx ∧ x.ed = y.ed) := ⟨fun e => by rw [e]; exact ⟨rfl, rfl⟩, fun ⟨e1, e2⟩ => by
                obtain ⟨n, a, b, c, cx, ed⟩ := x
                obtain ⟨n', a', b', c', cx', ed'⟩ := y
                obtain ⟨h1, h2, h3⟩ := hvv
                simp only at *
                rw [bytes_same hn, h1, h2, h3, e1, e2]⟩
              have HLC := hide3 hlc
              have HLE := hide3 hle
              rw [← hlc, ← hle] at HKX
              rw [← hlc] at f4
              rw [← hle] at f5
              have HKP := hide3 (keepKX w w.heap.size wr.heap.size (.slice (some ⟨ga, oa, none⟩) A.length ca) (.slice (some ⟨gb, ob, none⟩) A.length cb) x y (.slice av x.cx.length cv) (.slice ae x.ed.length ce) (.slice bv x.cx.length dv) (.slice be x.ed.length de))
              clear hvv hlc hle
              generalize hlx : x.cx.length = lx at *
              generalize hle : x.ed.length = le at *
              have HLX := hide3 hlx
              have HLEE := hide3 hle
              clear hlx hle
              obtain ⟨wa, rfl⟩ : ∃ q, q = wr := ⟨wr, rfl⟩
              go_wp2_with fail
              go_loopw [8] (fun j wq => ∃ m : Nat, m ≤ lx ∧ j = .int .i64 m ∧ KX w w.heap.size wa.heap.size (.slice (some ⟨ga, oa, none⟩) A.length ca) (.slice (some ⟨gb, ob, none⟩) A.length cb) x y (.slice av lx cv) (.slice ae le ce) (.slice bv lx dv) (.slice be le de) wq ∧ ∀ i (h : i < m) (h1 : i < x.cx.length) (h2 : i < y.cx.length), x.cx[i] = y.cx[i]) (fun j _ => lx - (intOf j).toNat)
              case atStart => exact ⟨0, Nat.zero_le _, rfl, HKX.out, fun i h => by omega⟩
              case round =>
                clear HKX x0 x1 x2 x3 x4 x5 x6 f0 f1 f2 f3 f4 f5 f6 y0 y1 z0 z1 HB
                obtain ⟨m, hm, rfl, hkx, heq⟩ := hrel
                have HEP := hide3 heq
                have HKX := hide3 hkx
                obtain ⟨_, ⟨⟨⟨b0, b1, b2, b3, b4, b5⟩, b6⟩, ⟨⟨d0, d1, d2, d3, d4, d5⟩, d6⟩⟩, _, _⟩ := hkx
                clear heq
                by_cases hml : m < lx
                · have hmx : m < x.cx.length := by have := HLX.out; omega
                  have hmy : m < y.cx.length := by have := HLC.out; omega
                  obtain ⟨gp, op, rfl, hcp, hpi⟩ := pins_cell HKX.out.2.2.1.1 hmx
                  obtain ⟨gq, oq, rfl, hcq, hqi⟩ := pins_cell HKX.out.2.2.1.2 hmy
                  have HPN : Hid (x.cx[m] ≠ y.cx[m] → eqB A C = false) := fun h => HNE.out fun e => h (by subst e; rfl)
                  have HPS : Hid (x.cx[m] = y.cx[m] → ∀ i (h : i < m + 1) (h1 : i < x.cx.length) (h2 : i < y.cx.length), x.cx[i] = y.cx[i]) := fun h i hi h1 h2 => by
                    rcases Nat.lt_or_ge i m with him | him
                    · exact HEP.out i him h1 h2
                    · obtain rfl : i = m := by omega
                      exact h
                  have HO : Hid (KX w w.heap.size wa.heap.size (.slice (some ⟨ga, oa, none⟩) A.length ca) (.slice (some ⟨gb, ob, none⟩) A.length cb) x y (.slice (some ⟨gp, op, none⟩) lx cv) (.slice ae le ce) (.slice (some ⟨gq, oq, none⟩) lx dv) (.slice be le de) wr ∧ PnIn wr gp (op + m * 4) x.cx[m] ∧ PnIn wr gq (oq + m * 4) y.cx[m]) := ⟨HKX.out, hpi, hqi⟩
                  have HK : Hid (KeepP fun W => KX w w.heap.size wa.heap.size (.slice (some ⟨ga, oa, none⟩) A.length ca) (.slice (some ⟨gb, ob, none⟩) A.length cb) x y (.slice (some ⟨gp, op, none⟩) lx cv) (.slice ae le ce) (.slice (some ⟨gq, oq, none⟩) lx dv) (.slice be le de) W ∧ PnIn W gp (op + m * 4) x.cx[m] ∧ PnIn W gq (oq + m * 4) y.cx[m]) := HKP.out.and ((keepPnIn _ _ _).and (keepPnIn _ _ _))
                  clear HKX hpi hqi HEP
                  generalize x.cx[m] = p at *
                  generalize y.cx[m] = q at *
                  have hp := neqPn p q
                  have hgp := guardPn
                  cases hpq : eqPn p q
                  · have HR := hide3 (HPN.out fun e => by rw [eqPn_iff.2 e] at hpq; cases hpq)
                    rw [hpq] at hp
                    clear HPN HPS hpq
                    go_wp2_with fail
                    clear b0 b1 b2 b3 b4 b5 b6 d0 d1 d2 d3 d4 d5 d6
                    refine wp_region_keep HK.out (by kernel_rfl) (by kernel_rfl) (by first | exact HO.out | exact HK.out.drew HO.out) ?_
                    intro C hin hout
                    have HIN := hide3 hin
                    have HOUT := hide3 hout
                    clear hin hout HO
                    repeat
                      (with_reducible refine wpQuiet_step (fun K hK => ?_)
                       go_simp
                       first
                         | (refine hK _ ?_; clear hK K)
                         | (apply Exists.intro; refine ⟨fun w1 hC => ?_, hK _ ?_⟩; (focus ((first | (exact rfl) | (obtain ⟨⟨_, ⟨⟨⟨b0, b1, b2, b3, b4, b5⟩, b6⟩, ⟨⟨d0, d1, d2, d3, d4, d5⟩, d6⟩⟩, _, _⟩, ⟨⟨p0, p1, p2, p3⟩, p4⟩, ⟨⟨q0, q1, q2, q3⟩, q4⟩⟩ := HOUT.out w1 hC; clear hC; go_simp; first | done | exact rfl)); done)); clear hK K))
                    refine wpQuiet_nil ?_
                    intro wn hC
                    have HO := hide3 (HOUT.out _ hC)
                    clear hC HIN HOUT C
                    obtain ⟨⟨_, ⟨⟨⟨b0, b1, b2, b3, b4, b5⟩, b6⟩, ⟨⟨d0, d1, d2, d3, d4, d5⟩, d6⟩⟩, _, _⟩, ⟨⟨p0, p1, p2, p3⟩, p4⟩, ⟨⟨q0, q1, q2, q3⟩, q4⟩⟩ := HO.out
                    go_wp2
                    go_ret
                    exact ⟨ret_bool HR.out.symm, HO.out.1.1.1⟩
                  · have HR := hide3 (HPS.out (eqPn_iff.1 hpq))
                    rw [hpq] at hp
                    clear HPN HPS hpq
                    go_wp2_with fail
                    clear b0 b1 b2 b3 b4 b5 b6 d0 d1 d2 d3 d4 d5 d6
                    refine wp_region_keep HK.out (by kernel_rfl) (by kernel_rfl) (by first | exact HO.out | exact HK.out.drew HO.out) ?_
                    intro C hin hout
                    have HIN := hide3 hin
                    have HOUT := hide3 hout
                    clear hin hout HO
                    repeat
                      (with_reducible refine wpQuiet_step (fun K hK => ?_)
                       go_simp
                       first
                         | (refine hK _ ?_; clear hK K)
                         | (apply Exists.intro; refine ⟨fun w1 hC => ?_, hK _ ?_⟩; (focus ((first | (exact rfl) | (obtain ⟨⟨_, ⟨⟨⟨b0, b1, b2, b3, b4, b5⟩, b6⟩, ⟨⟨d0, d1, d2, d3, d4, d5⟩, d6⟩⟩, _, _⟩, ⟨⟨p0, p1, p2, p3⟩, p4⟩, ⟨⟨q0, q1, q2, q3⟩, q4⟩⟩ := HOUT.out w1 hC; clear hC; go_simp; first | done | exact rfl)); done)); clear hK K))
                    refine wpQuiet_nil ?_
                    intro wn hC
                    have HO := hide3 (HOUT.out _ hC)
                    clear hC HIN HOUT C
                    obtain ⟨⟨_, ⟨⟨⟨b0, b1, b2, b3, b4, b5⟩, b6⟩, ⟨⟨d0, d1, d2, d3, d4, d5⟩, d6⟩⟩, _, _⟩, ⟨⟨p0, p1, p2, p3⟩, p4⟩, ⟨⟨q0, q1, q2, q3⟩, q4⟩⟩ := HO.out
                    go_wp2
                    exact ⟨⟨m + 1, by omega, by go_num, HO.out.1, HR.out⟩, by simp [intOf]; omega⟩
                · have hme : m = lx := by omega
                  subst hme
                  have HCX : Hid (x.cx = y.cx) := List.ext_getElem (HLX.out.trans HLC.out) fun i h1 h2 => HEP.out i (by have := HLX.out; omega) h1 h2
                  clear HEP
                  obtain ⟨wb, rfl⟩ : ∃ q, q = wr := ⟨wr, rfl⟩
                  go_wp2_with fail
                  clear b0 b1 b2 b3 b4 b5 b6 d0 d1 d2 d3 d4 d5 d6
                  go_loopw [9] (fun j wq => ∃ n : Nat, n ≤ le ∧ j = .int .i64 n ∧ KX w w.heap.size wa.heap.size (.slice (some ⟨ga, oa, none⟩) A.length ca) (.slice (some ⟨gb, ob, none⟩) A.length cb) x y (.slice av m cv) (.slice ae le ce) (.slice bv m dv) (.slice be le de) wq ∧ ∀ i (h : i < n) (h1 : i < x.ed.length) (h2 : i < y.ed.length), x.ed[i] = y.ed[i]) (fun j _ => le - (intOf j).toNat)
                  case atStart => exact ⟨0, Nat.zero_le _, rfl, HKX.out, fun i h => by omega⟩
                  case round =>
                    clear HKX
                    obtain ⟨n, hnn, rfl, hkx, heq⟩ := hrel
                    have HEP := hide3 heq
                    have HKX := hide3 hkx
                    obtain ⟨_, ⟨⟨⟨b0, b1, b2, b3, b4, b5⟩, b6⟩, ⟨⟨d0, d1, d2, d3, d4, d5⟩, d6⟩⟩, _, _⟩ := hkx
                    clear heq
                    by_cases hml : n < le
                    · have hmx : n < x.ed.length := by have := HLEE.out; omega
                      have hmy : n < y.ed.length := by have := HLE.out; omega
                      obtain ⟨gp, op, rfl, hcp, hpi⟩ := edges_cell HKX.out.2.2.2.1 hmx
                      obtain ⟨gq, oq, rfl, hcq, hqi⟩ := edges_cell HKX.out.2.2.2.2 hmy
                      have HPN : Hid (x.ed[n] ≠ y.ed[n] → eqB A C = false) := fun h => HNE.out fun e => h (by subst e; rfl)
                      have HPS : Hid (x.ed[n] = y.ed[n] → ∀ i (h : i < n + 1) (h1 : i < x.ed.length) (h2 : i < y.ed.length), x.ed[i] = y.ed[i]) := fun h i hi h1 h2 => by
                        rcases Nat.lt_or_ge i n with him | him
                        · exact HEP.out i him h1 h2
                        · obtain rfl : i = n := by omega
                          exact h
                      have HO : Hid (KX w w.heap.size wa.heap.size (.slice (some ⟨ga, oa, none⟩) A.length ca) (.slice (some ⟨gb, ob, none⟩) A.length cb) x y (.slice av m cv) (.slice (some ⟨gp, op, none⟩) le ce) (.slice bv m dv) (.slice (some ⟨gq, oq, none⟩) le de) wr ∧ EgIn wr gp (op + n * 2) x.ed[n] ∧ EgIn wr gq (oq + n * 2) y.ed[n]) := ⟨HKX.out, hpi, hqi⟩
                      have HK : Hid (KeepP fun W => KX w w.heap.size wa.heap.size (.slice (some ⟨ga, oa, none⟩) A.length ca) (.slice (some ⟨gb, ob, none⟩) A.length cb) x y (.slice av m cv) (.slice (some ⟨gp, op, none⟩) le ce) (.slice bv m dv) (.slice (some ⟨gq, oq, none⟩) le de) W ∧ EgIn W gp (op + n * 2) x.ed[n] ∧ EgIn W gq (oq + n * 2) y.ed[n]) := HKP.out.and ((keepEgIn _ _ _).and (keepEgIn _ _ _))
                      clear HKX hpi hqi HEP
                      generalize x.ed[n] = p at *
                      generalize y.ed[n] = q at *
                      have hp := neqEg p q
                      have hgp := guardEg
                      cases hpq : eqEg p q
                      · have HR := hide3 (HPN.out fun e => by rw [eqEg_iff.2 e] at hpq; cases hpq)
                        rw [hpq] at hp
                        clear HPN HPS hpq
                        go_wp2_with fail
                        clear b0 b1 b2 b3 b4 b5 b6 d0 d1 d2 d3 d4 d5 d6
                        refine wp_region_keep HK.out (by kernel_rfl) (by kernel_rfl) (by first | exact HO.out | exact HK.out.drew HO.out) ?_
                        intro C hin hout
                        have HIN := hide3 hin
                        have HOUT := hide3 hout
                        clear hin hout HO
                        repeat
                          (with_reducible refine wpQuiet_step (fun K hK => ?_)
                           go_simp
                           first
                             | (refine hK _ ?_; clear hK K)
                             | (apply Exists.intro; refine ⟨fun w1 hC => ?_, hK _ ?_⟩; (focus ((first | (exact rfl) | (obtain ⟨⟨_, ⟨⟨⟨b0, b1, b2, b3, b4, b5⟩, b6⟩, ⟨⟨d0, d1, d2, d3, d4, d5⟩, d6⟩⟩, _, _⟩, ⟨⟨p0, p1⟩, p4⟩, ⟨⟨q0, q1⟩, q4⟩⟩ := HOUT.out w1 hC; clear hC; go_simp; first | done | exact rfl)); done)); clear hK K))
                        refine wpQuiet_nil ?_
                        intro wn hC
                        have HO := hide3 (HOUT.out _ hC)
                        clear hC HIN HOUT C
                        obtain ⟨⟨_, ⟨⟨⟨b0, b1, b2, b3, b4, b5⟩, b6⟩, ⟨⟨d0, d1, d2, d3, d4, d5⟩, d6⟩⟩, _, _⟩, ⟨⟨p0, p1⟩, p4⟩, ⟨⟨q0, q1⟩, q4⟩⟩ := HO.out
                        go_wp2
                        go_ret
                        exact ⟨ret_bool HR.out.symm, HO.out.1.1.1⟩
                      · have HR := hide3 (HPS.out (eqEg_iff.1 hpq))
                        rw [hpq] at hp
                        clear HPN HPS hpq
                        go_wp2_with fail
                        clear b0 b1 b2 b3 b4 b5 b6 d0 d1 d2 d3 d4 d5 d6
                        refine wp_region_keep HK.out (by kernel_rfl) (by kernel_rfl) (by first | exact HO.out | exact HK.out.drew HO.out) ?_
                        intro C hin hout
                        have HIN := hide3 hin
                        have HOUT := hide3 hout
                        clear hin hout HO
                        repeat
                          (with_reducible refine wpQuiet_step (fun K hK => ?_)
                           go_simp
                           first
                             | (refine hK _ ?_; clear hK K)
                             | (apply Exists.intro; refine ⟨fun w1 hC => ?_, hK _ ?_⟩; (focus ((first | (exact rfl) | (obtain ⟨⟨_, ⟨⟨⟨b0, b1, b2, b3, b4, b5⟩, b6⟩, ⟨⟨d0, d1, d2, d3, d4, d5⟩, d6⟩⟩, _, _⟩, ⟨⟨p0, p1⟩, p4⟩, ⟨⟨q0, q1⟩, q4⟩⟩ := HOUT.out w1 hC; clear hC; go_simp; first | done | exact rfl)); done)); clear hK K))
                        refine wpQuiet_nil ?_
                        intro wn hC
                        have HO := hide3 (HOUT.out _ hC)
                        clear hC HIN HOUT C
                        obtain ⟨⟨_, ⟨⟨⟨b0, b1, b2, b3, b4, b5⟩, b6⟩, ⟨⟨d0, d1, d2, d3, d4, d5⟩, d6⟩⟩, _, _⟩, ⟨⟨p0, p1⟩, p4⟩, ⟨⟨q0, q1⟩, q4⟩⟩ := HO.out
                        go_wp2
                        exact ⟨⟨n + 1, by omega, by go_num, HO.out.1, HR.out⟩, by simp [intOf]; omega⟩
                    · have hme2 : n = le := by omega
                      subst hme2
                      have HED : Hid (x.ed = y.ed) := List.ext_getElem (HLEE.out.trans HLE.out) fun i h1 h2 => HEP.out i (by have := HLEE.out; omega) h1 h2
                      have HR := hide3 (HST.out (HEQ.out.2 ⟨HCX.out, HED.out⟩))
                      clear HEP HKP HNE HST
                      go_wp2
                      exact ⟨⟨k + 1, by omega, by go_num, HKX.out.1, HR.out⟩, by simp [intOf]; omega⟩
            · have HR := hide3 (HNE.out fun e => hle (by rw [e]))
              rw [decide_eq_true hvv] at hv
              have hle2 : ((x.ed.length : Int) = (y.ed.length : Int)) = False := by simp; omega
              have hle3 : ((x.ed.length : Int) == (y.ed.length : Int)) = false := by rw [beq_eq_false_iff_ne]; omega
              rw [← hlc] at HKX f4
              clear hle hlc hvv
              generalize x.ed.length = lx at *
              generalize y.ed.length = ly at *
              clear HNE HST
              go_wp2
              go_ret
              exact ⟨ret_bool HR.out.symm, HKX.out.1.1⟩
          · have HR := hide3 (HNE.out fun e => hlc (by rw [e]))
            rw [decide_eq_true hvv] at hv
            have hlc2 : ((x.cx.length : Int) = (y.cx.length : Int)) = False := by simp; omega
            have hlc3 : ((x.cx.length : Int) == (y.cx.length : Int)) = false := by rw [beq_eq_false_iff_ne]; omega
            clear hlc hvv
            generalize x.cx.length = lx at *
            generalize y.cx.length = ly at *
            clear HNE HST
            go_wp2
            go_ret
            exact ⟨ret_bool HR.out.symm, HKX.out.1.1⟩
        · have HR := hide3 (HNE.out fun e => hvv (by rw [e]; exact ⟨rfl, rfl, rfl⟩))
          rw [decide_eq_false hvv] at hv
          clear HNE HST
          go_wp2
          go_ret
          exact ⟨ret_bool HR.out.symm, HKX.out.1.1⟩
      · have HR := hide3 (HNE.out fun e => hn (by rw [e]))
        clear HNE HST
        go_wp2
        go_ret
        exact ⟨ret_bool HR.out.symm, HKX.out.1.1⟩
    · obtain rfl : k = A.length := by omega
      have HR : Hid (eqB A C = true) := eqB_yes (same_at HAC.out fun j h1 h2 h3 => HALL.out j h1 h2 h3)
      clear HALL
      go_wp2
      go_ret
      exact ⟨ret_bool HR.out.symm, HB.out.1⟩
end Go.Proofs.YtikplmckjcceaaaDoor
