/- RwTr, RwPa, RwOd, laid in one text. -/
import Derived.Test.YtogpkhpephhbiaaGreatDoorMg19
namespace Go.Proofs.YtogpkhpephhbiaaGreatDoor
open Go.ChangeShapes Go.WideShapes Go.ChangeAt Go.RowKit
set_option maxRecDepth 100000

theorem each_all {H : Type} : ∀ {ts : List TypeId} {ds : List (DataW H)} {i : Nat} {t : TypeId} {d : DataW H}, (DataW.weightsEach Tryz.prog ts ds).all (· ≤ reachBytes) = true → ts[i]? = some t → ds[i]? = some d → (d.weights Tryz.prog t).all (· ≤ reachBytes) = true
  | [], _, _, _, _, _, h, _ => by simp at h
  | _ :: _, [], _, _, _, _, _, h => by simp at h
  | t :: ts, d :: ds, 0, t', d', ha, h1, h2 => by
    simp at h1 h2
    subst h1 h2
    unfold DataW.weightsEach at ha
    rw [List.all_append, Bool.and_eq_true] at ha
    exact ha.1
  | t :: ts, d :: ds, i + 1, t', d', ha, h1, h2 => by
    unfold DataW.weightsEach at ha
    rw [List.all_append, Bool.and_eq_true] at ha
    exact each_all ha.2 (by simpa using h1) (by simpa using h2)

theorem all_each {H : Type} {t : TypeId} : ∀ {ds : List (DataW H)} {d : DataW H}, (DataW.weightsAll Tryz.prog t ds).all (· ≤ reachBytes) = true → d ∈ ds → (d.weights Tryz.prog t).all (· ≤ reachBytes) = true
  | [], _, _, h => by cases h
  | d :: ds, d', ha, h => by
    unfold DataW.weightsAll at ha
    rw [List.all_append, Bool.and_eq_true] at ha
    rcases List.mem_cons.1 h with rfl | h
    · exact ha.1
    · exact all_each ha.2 h

theorem rch_part {H : Type} {t : TypeId} {fs : Array Field} (ht : Tryz.prog.underlying t = some (.struct fs)) {parts : List (DataW H)} (h : ((DataW.agg parts).weights Tryz.prog t).all (· ≤ reachBytes) = true) {i : Nat} {f : Field} (hf : fs[i]? = some f) {d : DataW H} (hd : parts[i]? = some d) : (d.weights Tryz.prog f.type).all (· ≤ reachBytes) = true := by
  unfold DataW.weights at h
  rw [ht] at h
  refine each_all h (i := i) (t := f.type) ?_ hd
  rw [List.getElem?_map, Array.getElem?_toList, hf]
  rfl

theorem rch_slice {H : Type} {t e : TypeId} (ht : Tryz.prog.underlying t = some (.slice e)) {el sp : List (DataW H)} (h : ((DataW.slice el sp).weights Tryz.prog t).all (· ≤ reachBytes) = true) : (el.length + sp.length) * Tryz.prog.bytesOf e ≤ reachBytes ∧ ∀ d ∈ el, (d.weights Tryz.prog e).all (· ≤ reachBytes) = true := by
  unfold DataW.weights at h
  rw [ht] at h
  rw [List.all_cons, Bool.and_eq_true, List.all_append, Bool.and_eq_true] at h
  exact ⟨of_decide_eq_true h.1, fun d hd => all_each h.2.1 hd⟩

theorem cellsStrsT : Tryz.prog.cellsOf 53 = 1 := by kernel_rfl
theorem cellsDirT : Tryz.prog.cellsOf 64 = 9 := by kernel_rfl
theorem cellsDirsT : Tryz.prog.cellsOf 65 = 1 := by kernel_rfl
theorem cellsTreeT : Tryz.prog.cellsOf 67 = 1 := by kernel_rfl
theorem bytesStrT : Tryz.prog.bytesOf 9 = 16 := by kernel_rfl
theorem addT (g o i : Nat) : (⟨g, o, none⟩ : Addr).add i = ⟨g, o + i, none⟩ := by unfold Addr.add; split <;> simp_all

/-- Names that came in. -/
theorem strs_cs {H : Type} {enc : TypeId × Value → H} {W : World} {base fuel : Nat} {held : Bool} {cs : List Value} {x : DataW H × List MemPlace} (h : DataW.trod enc Tryz.prog W base (fun _ => true) held fuel 53 cs = some x) :
    ∃ v L, cs = [v] ∧ PathAt W v L ∧ (∀ s ∈ L, s.size ≤ 9223372036854775807) ∧ ((x.1.weights Tryz.prog 53).all (· ≤ reachBytes) = true → L.length * 16 ≤ 140737488355328) := by
  rcases Go.Deep.open_slice Tryz.underlying53 h with ⟨rfl, _⟩ | ⟨ad, len, cap, m, n, D, Pl, rfl, _, hl, hcm, hm, hx, hel⟩
  · exact ⟨_, [], rfl, ⟨none, 0, rfl, Nat.le_refl _, Or.inl rfl⟩, (fun s hs => by cases hs), fun _ => by simp⟩
  · have hwt : (x.1.weights Tryz.prog 53).all (· ≤ reachBytes) = true → len * 16 ≤ 140737488355328 := fun hr => by
      have hxi : x.1 = .slice ((List.range len).map D) ((List.range (m - len)).map fun j => D (len + j)) := by rw [hx]
      rw [hxi] at hr
      have hb := (rch_slice Tryz.underlying53 hr).1
      rw [List.length_map, List.length_range, bytesStrT] at hb
      unfold reachBytes at hb
      omega
    rcases Nat.eq_zero_or_pos len with h0 | h0
    · subst h0
      exact ⟨_, [], rfl, ⟨_, _, rfl, Nat.zero_le _, Or.inl rfl⟩, (fun s hs => by cases hs), fun _ => by simp⟩
    · have hmm : len ≤ m := by rw [hm]; simp; exact hl
      rw [cellsStrD] at hel
      obtain ⟨g, off, spot⟩ := ad
      obtain ⟨cs0, hc0, _⟩ := hel 0 (by omega)
      obtain ⟨_, hln, hq⟩ := World.cells?_some hc0
      have hcell := hq 0 (by decide)
      rw [List.getElem?_eq_getElem (by omega : 0 < cs0.length)] at hcell
      have hspot : spot = none := by simpa [Addr.add] using World.cell?_spot hcell
      subst hspot
      obtain ⟨L, hL, hP⟩ := list_any (P := fun i (s : ByteArray) => StIn W g (off + i) s ∧ s.size ≤ 9223372036854775807) (n := len) fun i hi => by
        obtain ⟨cs, hc, ht⟩ := hel i (by omega)
        rw [addT, Nat.mul_one] at hc
        obtain ⟨_, hcl, hq⟩ := World.cells?_some hc
        obtain ⟨s, e0, _, hs0⟩ := DataW.trod_string Tryz.underlying9 ht
        have q0 := hq 0 (by decide)
        rw [addT, e0] at q0
        exact ⟨s, ⟨q0, Sc.cell_in q0⟩, by unfold maxLen at hs0; exact hs0⟩
      subst hL
      refine ⟨_, L, rfl, ⟨_, _, rfl, hl, Or.inr ⟨g, off, rfl, fun i hi => (hP i hi).1⟩⟩, ?_, hwt⟩
      intro s hs
      obtain ⟨i, hi, rfl⟩ := List.getElem_of_mem hs
      exact (hP i hi).2

/-- The names of a package's lists are not too great. -/
def PgN (P : Pg) : Prop := P.nm.size ≤ 9223372036854775807 ∧ (∀ d ∈ P.d, d.nm.size ≤ 9223372036854775807) ∧ (∀ d ∈ P.p, d.nm.size ≤ 9223372036854775807) ∧ ∀ d ∈ P.o, d.nm.size ≤ 9223372036854775807
/-- A package's cells. -/
theorem pkg_cs {H : Type} {enc : TypeId × Value → H} {W : World} {base fuel : Nat} {held : Bool} {cs : List Value} {x : DataW H × List MemPlace} (h : DataW.trod enc Tryz.prog W base (fun _ => true) held fuel 62 cs = some x) :
    ∃ (P : Pg) (v1 v2 v3 : Value), (cs[0]? = some (.string P.nm) ∧ cs[1]? = some (.int .i64 P.a) ∧ cs[2]? = some (.int .i64 P.b) ∧ cs[3]? = some (.int .i64 P.c) ∧ cs[4]? = some v1 ∧ cs[5]? = some v2 ∧ cs[6]? = some v3) ∧ PgAt W P v1 v2 v3 ∧ PgZ P ∧ PgN P := by
  have hs : Tryz.prog.underlying 62 = some (.struct (Tryz.prog.fieldsOf 62)) := by kernel_rfl
  obtain ⟨xs, n', _, _, _, hxl, hf⟩ := DataW.trod_struct hs h
  have hfz : (Tryz.prog.fieldsOf 62).size = 5 := by kernel_rfl
  obtain ⟨f0, i0, t0, o0⟩ := field_at (fs := Tryz.prog.fieldsOf 62) (i := 0) (ty := 9) (off := 0) (by kernel_rfl)
  obtain ⟨f1, i1, t1, o1⟩ := field_at (fs := Tryz.prog.fieldsOf 62) (i := 1) (ty := 59) (off := 1) (by kernel_rfl)
  obtain ⟨f2, i2, t2, o2⟩ := field_at (fs := Tryz.prog.fieldsOf 62) (i := 2) (ty := 60) (off := 4) (by kernel_rfl)
  obtain ⟨f3, i3, t3, o3⟩ := field_at (fs := Tryz.prog.fieldsOf 62) (i := 3) (ty := 60) (off := 5) (by kernel_rfl)
  obtain ⟨f4, i4, t4, o4⟩ := field_at (fs := Tryz.prog.fieldsOf 62) (i := 4) (ty := 60) (off := 6) (by kernel_rfl)
  have r0 := hf 0 f0 i0
  have r1 := hf 1 f1 i1
  have r2 := hf 2 f2 i2
  have r3 := hf 3 f3 i3
  have r4 := hf 4 f4 i4
  rw [t0, o0, cellsStrD, List.getElem?_eq_getElem (by omega : 0 < xs.length)] at r0
  rw [t1, o1, cellsVer, List.getElem?_eq_getElem (by omega : 1 < xs.length)] at r1
  rw [t2, o2, cellsDeps, List.getElem?_eq_getElem (by omega : 2 < xs.length)] at r2
  rw [t3, o3, cellsDeps, List.getElem?_eq_getElem (by omega : 3 < xs.length)] at r3
  rw [t4, o4, cellsDeps, List.getElem?_eq_getElem (by omega : 4 < xs.length)] at r4
  obtain ⟨s, e0, _, hs0⟩ := DataW.trod_string Tryz.underlying9 r0
  obtain ⟨a, b, c, ea, eb, ec, _⟩ := ints_of r1
  obtain ⟨v1, L1, e2, h1, z1, m1⟩ := deps_cs r2
  obtain ⟨v2, L2, e3, h2, z2, m2⟩ := deps_cs r3
  obtain ⟨v3, L3, e4, h3, z3, m3⟩ := deps_cs r4
  have ka : ((cs.drop 1).take 3)[0]? = some (.int .i64 a) := ea
  have kb : ((cs.drop 1).take 3)[1]? = some (.int .i64 b) := eb
  have kc : ((cs.drop 1).take 3)[2]? = some (.int .i64 c) := ec
  simp at ka kb kc
  exact ⟨⟨s, a, b, c, L1, L2, L3⟩, v1, v2, v3, ⟨take1 e0, ka, kb, kc, take1 e2, take1 e3, take1 e4⟩, ⟨h1, h2, h3⟩, ⟨z1, z2, z3⟩, by unfold maxLen at hs0; exact hs0, m1, m2, m3⟩

/-- A directory that came in is not too great. -/
def DrN (d : Dr) : Prop := PgZ d.pk ∧ PgN d.pk ∧ ∀ s ∈ d.pa, s.size ≤ 9223372036854775807
theorem take7 {cs : List Value} {i : Nat} (hi : i < 7) : ((cs.drop 1).take 7)[i]? = cs[i + 1]? := by
  rw [List.getElem?_take, if_pos hi, List.getElem?_drop, Nat.add_comm]
theorem dir_read {H : Type} {enc : TypeId × Value → H} {W : World} {base : Nat} {held : Bool} {n : Nat} {g o : Nat} {cs : List Value} {x : DataW H × List MemPlace} (hc : W.cells? base ⟨g, o, none⟩ 9 = some cs) (h : DataW.trod enc Tryz.prog W base (fun _ => true) held n 64 cs = some x) :
    ∃ D : Dr, (∃ u v1 v2 v3, DrIn W g o D u v1 v2 v3) ∧ DrN D ∧ ((x.1.weights Tryz.prog 64).all (· ≤ reachBytes) = true → D.pa.length * 16 ≤ 140737488355328) := by
  have hs : Tryz.prog.underlying 64 = some (.struct (Tryz.prog.fieldsOf 64)) := by kernel_rfl
  obtain ⟨xs, n', _, hxx, _, hxl, hf⟩ := DataW.trod_struct hs h
  have hfz : (Tryz.prog.fieldsOf 64).size = 3 := by kernel_rfl
  obtain ⟨_, hcl, hq⟩ := World.cells?_some hc
  obtain ⟨f0, i0, t0, o0⟩ := field_at (fs := Tryz.prog.fieldsOf 64) (i := 0) (ty := 53) (off := 0) (by kernel_rfl)
  obtain ⟨f1, i1, t1, o1⟩ := field_at (fs := Tryz.prog.fieldsOf 64) (i := 1) (ty := 62) (off := 1) (by kernel_rfl)
  obtain ⟨f2, i2, t2, o2⟩ := field_at (fs := Tryz.prog.fieldsOf 64) (i := 2) (ty := 3) (off := 8) (by kernel_rfl)
  have r0 := hf 0 f0 i0
  have r1 := hf 1 f1 i1
  have r2 := hf 2 f2 i2
  rw [t0, o0, cellsStrsT, List.getElem?_eq_getElem (by omega : 0 < xs.length)] at r0
  rw [t1, o1, cellsPkg, List.getElem?_eq_getElem (by omega : 1 < xs.length)] at r1
  rw [t2, o2, cellsInt, List.getElem?_eq_getElem (by omega : 2 < xs.length)] at r2
  obtain ⟨u, L, e0, hp, hsz, hwt⟩ := strs_cs r0
  obtain ⟨P, v1, v2, v3, ⟨p0, p1, p2, p3, p4, p5, p6⟩, hpg, hpz, hpn⟩ := pkg_cs r1
  obtain ⟨k, e2, _, _⟩ := DataW.trod_int Tryz.underlying3 r2
  rw [take7 (by decide)] at p0 p1 p2 p3 p4 p5 p6
  have c0 := hq 0 (by decide)
  have c1 := hq 1 (by decide)
  have c2 := hq 2 (by decide)
  have c3 := hq 3 (by decide)
  have c4 := hq 4 (by decide)
  have c5 := hq 5 (by decide)
  have c6 := hq 6 (by decide)
  have c7 := hq 7 (by decide)
  have c8 := hq 8 (by decide)
  rw [addT, take1 e0] at c0
  rw [addT, p0] at c1
  rw [addT, p1] at c2
  rw [addT, p2] at c3
  rw [addT, p3] at c4
  rw [addT, p4] at c5
  rw [addT, p5] at c6
  rw [addT, p6] at c7
  rw [addT, take_one e2] at c8
  refine ⟨⟨L, P, k⟩, ⟨u, v1, v2, v3, ⟨c0, c1, c2, c3, c4, c5, c6, c7, c8⟩, ⟨hp, hpg⟩, Sc.cell_in c0⟩, ⟨hpz, hpn, hsz⟩, fun hr => ?_⟩
  have hd : x.1 = .agg (xs.map (·.1)) := congrArg Prod.fst hxx
  rw [hd] at hr
  have hp2 := rch_part hs hr i0 (d := xs[0].1) (by rw [List.getElem?_map, List.getElem?_eq_getElem (by omega : 0 < xs.length)]; rfl)
  rw [t0] at hp2
  exact hwt hp2

/-- Directories that came in. -/
theorem dirs_cs {H : Type} {enc : TypeId × Value → H} {W : World} {base fuel : Nat} {held : Bool} {cs : List Value} {x : DataW H × List MemPlace} (h : DataW.trod enc Tryz.prog W base (fun _ => true) held fuel 65 cs = some x) :
    ∃ v L, cs = [v] ∧ DirsAt W v L ∧ L.length ≤ 9223372036854775807 ∧ (∀ d ∈ L, DrN d) ∧ ((x.1.weights Tryz.prog 65).all (· ≤ reachBytes) = true → FitP1 L) := by
  rcases Go.Deep.open_slice Tryz.underlying65 h with ⟨rfl, _⟩ | ⟨ad, len, cap, m, n, D, Pl, rfl, _, hl, hcm, hm, hx, hel⟩
  · exact ⟨_, [], rfl, ⟨none, 0, rfl, Nat.le_refl _, Or.inl rfl⟩, by simp, (fun d hd => by cases hd), fun _ d hd => by cases hd⟩
  · have hz : len ≤ 9223372036854775807 := by unfold maxLen at hcm; omega
    rcases Nat.eq_zero_or_pos len with h0 | h0
    · subst h0
      exact ⟨_, [], rfl, ⟨_, _, rfl, Nat.zero_le _, Or.inl rfl⟩, by simp, (fun d hd => by cases hd), fun _ d hd => by cases hd⟩
    · have hmm : len ≤ m := by rw [hm]; simp; exact hl
      rw [cellsDirT] at hel
      obtain ⟨g, off, spot⟩ := ad
      obtain ⟨cs0, hc0, _⟩ := hel 0 (by omega)
      obtain ⟨_, hln, hq⟩ := World.cells?_some hc0
      have hcell := hq 0 (by decide)
      rw [List.getElem?_eq_getElem (by omega : 0 < cs0.length)] at hcell
      have hspot : spot = none := by simpa [Addr.add] using World.cell?_spot hcell
      subst hspot
      obtain ⟨L, hL, hP⟩ := list_any (P := fun i (d : Dr) => (∃ u v1 v2 v3, DrIn W g (off + i * 9) d u v1 v2 v3) ∧ DrN d ∧ (((D i).weights Tryz.prog 64).all (· ≤ reachBytes) = true → d.pa.length * 16 ≤ 140737488355328)) (n := len) fun i hi => by
        obtain ⟨cs, hc, ht⟩ := hel i (by omega)
        rw [addT] at hc
        exact dir_read hc ht
      subst hL
      refine ⟨_, L, rfl, ⟨_, _, rfl, hl, Or.inr ⟨g, off, rfl, fun i hi => (hP i hi).1⟩⟩, hz, ?_, fun hr => ?_⟩
      · intro d hd
        obtain ⟨i, hi, rfl⟩ := List.getElem_of_mem hd
        exact (hP i hi).2.1
      · intro d hd
        obtain ⟨i, hi, rfl⟩ := List.getElem_of_mem hd
        have hxi : x.1 = .slice ((List.range L.length).map D) ((List.range (m - L.length)).map fun j => D (L.length + j)) := by rw [hx]
        rw [hxi] at hr
        exact (hP i hi).2.2 ((rch_slice Tryz.underlying65 hr).2 (D i) (List.mem_map.2 ⟨i, List.mem_range.2 (by omega), rfl⟩))

/-- A tree that came in. -/
theorem open_tree {H : Type} {enc : TypeId × Value → H} {W : World} {base b0 : Nat} {held : Bool} {v : Value} {d : DataW H} {p : List MemPlace} (hv : Value.okWide Tryz.prog W .any b0 67 v) (h : DataW.Trod enc Tryz.prog W base (fun _ => true) held 67 v d p) :
    ∃ (L : List Dr) (vt : Value), v = .agg #[vt] ∧ DirsAt W vt L ∧ L.length ≤ 9223372036854775807 ∧ (∀ d ∈ L, DrN d) ∧ ((d.weights Tryz.prog 67).all (· ≤ reachBytes) = true → FitP1 L) := by
  have hs : Tryz.prog.underlying 67 = some (.struct (Tryz.prog.fieldsOf 67)) := by kernel_rfl
  obtain ⟨cs, rfl, hsz⟩ := okWide_struct hs hv
  obtain ⟨n, h⟩ := h
  obtain ⟨xs, n', _, hxx, _, hxl, hf⟩ := DataW.trod_struct hs h
  have hfz : (Tryz.prog.fieldsOf 67).size = 1 := by kernel_rfl
  obtain ⟨f0, i0, t0, o0⟩ := field_at (fs := Tryz.prog.fieldsOf 67) (i := 0) (ty := 65) (off := 0) (by kernel_rfl)
  have r0 := hf 0 f0 i0
  rw [t0, o0, cellsDirsT, List.getElem?_eq_getElem (by omega : 0 < xs.length)] at r0
  obtain ⟨vt, L, e0, hd, hz, hn, hwt⟩ := dirs_cs r0
  have k0 : cs.toList[0]? = some vt := take1 e0
  rw [cellsTreeT] at hsz
  refine ⟨L, vt, ?_, hd, hz, hn, fun hr => ?_⟩
  · congr 1
    apply Array.ext'
    rcases hcs : cs.toList with _ | ⟨y, _ | ⟨z, r⟩⟩
    · rw [hcs] at k0; cases k0
    · rw [hcs] at k0
      simp at k0
      rw [k0]
    · have : cs.toList.length = 1 := by rw [Array.length_toList]; exact hsz
      rw [hcs] at this
      simp at this
  · have hdd : d = .agg (xs.map (·.1)) := congrArg Prod.fst hxx
    rw [hdd] at hr
    have hp2 := rch_part hs hr i0 (d := xs[0].1) (by rw [List.getElem?_map, List.getElem?_eq_getElem (by omega : 0 < xs.length)]; rfl)
    rw [t0] at hp2
    exact hwt hp2
theorem drs_ok {L : List Dr} (h1 : FitP1 L) (h2 : ∀ d ∈ L, DrN d) : DrsOk L := ⟨h1, fun d hd => (h2 d hd).1⟩
end Go.Proofs.YtogpkhpephhbiaaGreatDoor
namespace Go.Proofs.YtogpkhpephhbiaaGreatDoor
open Go.ChangeShapes Go.WideShapes Go.ChangeAt Go.RowKit
set_option maxRecDepth 100000

/-- A path that came in. -/
theorem open_path {H : Type} {enc : TypeId × Value → H} {W : World} {base b0 : Nat} {held : Bool} {v : Value} {d : DataW H} {p : List MemPlace} (hv : Value.okWide Tryz.prog W .any b0 53 v) (h : DataW.Trod enc Tryz.prog W base (fun _ => true) held 53 v d p) :
    ∃ L : List ByteArray, PathAt W v L ∧ (∀ s ∈ L, s.size ≤ 9223372036854775807) ∧ ((d.weights Tryz.prog 53).all (· ≤ reachBytes) = true → L.length * 16 ≤ 140737488355328) := by
  obtain ⟨ad, len, cap, rfl⟩ := okWide_slice Tryz.underlying53 hv
  obtain ⟨fuel, hf⟩ := h
  have hf2 : DataW.trod enc Tryz.prog W base (fun _ => true) held fuel 53 [.slice ad len cap] = some (d, p) := by simpa [Value.cells] using hf
  obtain ⟨v, L, e, hp, hs, hw⟩ := strs_cs hf2
  cases e
  exact ⟨L, hp, hs, hw⟩

/-- A text that came in is not too great. -/
theorem str_reach {H : Type} {s : ByteArray} {t : TypeId} (h : ((DataW.lit (.string s.data.toList) : DataW H).weights Tryz.prog t).all (· ≤ reachBytes) = true) : s.size ≤ 140737488351232 := by
  unfold DataW.weights at h
  rw [List.all_cons, Bool.and_eq_true] at h
  have h1 := of_decide_eq_true h.1
  unfold reachBytes at h1
  rw [list_size] at h1
  exact h1
end Go.Proofs.YtogpkhpephhbiaaGreatDoor
namespace Go.Proofs.YtogpkhpephhbiaaGreatDoor
open Go.ChangeShapes Go.WideShapes Go.ChangeAt Go.RowKit
set_option maxRecDepth 100000

/-- What a row lists that reaches the disk, but no parser of numbers. -/
abbrev laidD : List (String × DataW Unit) := [("math/bits.deBruijn32tab", Rows.laid_math_bits_deBruijn32tab), ("math/bits.deBruijn64tab", Rows.laid_math_bits_deBruijn64tab), ("internal/strconv.uint64pow10", Rows.laid_internal_strconv_uint64pow10), ("unicode/utf8.acceptRanges", Rows.laid_unicode_utf8_acceptRanges), ("halyard/span.first", Rows.laid_halyard_span_first), ("halyard/span.last", Rows.laid_halyard_span_last), ("unicode/utf8.first", Rows.laid_unicode_utf8_first)]
theorem envD_of {W : World} (h : laidMet Tryz.prog laidD W) : Env W ∧ FL W := by
  have hT := tab_is h
  have h5 := laidMet.tail (laidMet.tail (laidMet.tail (laidMet.tail h)))
  have h6 := laidMet.tail h5
  have f1 := ver_laid (g := 3) (by kernel_rfl) (by kernel_rfl) h5
  have f2 := ver_laid (g := 4) (by kernel_rfl) (by kernel_rfl) h6
  exact ⟨{ tab := hT }, f1, f2, cell_in f1.1, cell_in f2.1⟩

theorem bytesFile : Tryz.prog.bytesOf 37 = 40 := by kernel_rfl
/-- Files that came in. -/
theorem open_filesB {H : Type} {enc : TypeId × Value → H} {W : World} {base b0 : Nat} {held : Bool} {v : Value} {d : DataW H} {p : List MemPlace} (hv : Value.okWide Tryz.prog W .any b0 22 v) (h : DataW.Trod enc Tryz.prog W base (fun _ => true) held 22 v d p) :
    ∃ (fs : List Dk.Fl) (a : Option Addr) (cap : Nat), v = .slice a fs.length cap ∧ Dk.IsFiles W a fs ∧ (∀ f ∈ fs, f.1.size ≤ maxLen ∧ f.2.2.size ≤ maxLen) ∧ ((d.weights Tryz.prog 22).all (· ≤ reachBytes) = true → fs.length ≤ 3518437208790) := by
  obtain ⟨ad, len, cap, rfl⟩ := okWide_slice Tryz.underlying22 hv
  obtain ⟨fuel, hf⟩ := h
  obtain ⟨fs, hl, hf2, hz, hd⟩ := Dk.open_files (x := (d, p)) (by simpa [Value.cells] using hf)
  refine ⟨fs, ad, cap, by rw [hl], hf2, hz, fun hr => ?_⟩
  rcases hd with h0 | ⟨el, sp, e, hle⟩
  · omega
  · simp only at e
    subst e
    have := (rch_slice Tryz.underlying22 hr).1
    rw [bytesFile] at this
    unfold reachBytes at this
    omega
end Go.Proofs.YtogpkhpephhbiaaGreatDoor
