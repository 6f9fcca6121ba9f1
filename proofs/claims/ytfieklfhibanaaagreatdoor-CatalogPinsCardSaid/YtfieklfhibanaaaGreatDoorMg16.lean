/- Ct19, Ct21, RwC, Ct22, laid in one text. -/
import Derived.Test.YtfieklfhibanaaaGreatDoorMg15
namespace Go.Proofs.YtfieklfhibanaaaGreatDoor
open Go.RowKit Go.Maps Go.WideMaps
set_option maxRecDepth 100000

/-- A name at the version of a rank. -/
def pgN (s : ByteArray) (n : Int) : Pg := ⟨s, atA n, atB n, atC n, [], [], []⟩
theorem bare_written {s : ByteArray} {a b c x y z : Int} (h : writtenB ⟨s, a, b, c, [], [], []⟩ = true) (hm : mayV x y z = true) : writtenB ⟨s, x, y, z, [], [], []⟩ = true := by
  unfold writtenB soundB at h ⊢
  simp only [Bool.and_eq_true, decide_eq_true_eq] at h ⊢
  obtain ⟨⟨⟨⟨hn, _⟩, hl⟩, ho⟩, _⟩ := h
  refine ⟨⟨⟨⟨hn, hm⟩, hl⟩, ho⟩, ?_⟩
  have h1 : s.data.toList.length ≤ 16 := by
    unfold Sc.nameA at hn
    simp only [Bool.and_eq_true, decide_eq_true_eq] at hn
    exact hn.2
  have h2 : (textV x y z).data.toList.length ≤ 11 := by
    have := text_size x y z
    rw [Array.length_toList]
    exact this
  unfold textP listT lineB
  simp only [List.flatMap_nil, List.append_nil, List.length_append, List.length_cons, List.length_nil]
  have h3 : (⟨#[112, 97, 99, 107, 97, 103, 101]⟩ : ByteArray).data.toList.length = 7 := rfl
  omega
theorem bare_name {s : ByteArray} {a b c : Int} (h : writtenB ⟨s, a, b, c, [], [], []⟩ = true) : s.size ≤ 16 := by
  unfold writtenB soundB at h
  simp only [Bool.and_eq_true, decide_eq_true_eq] at h
  have hn := h.1.1.1.1
  unfold Sc.nameA at hn
  simp only [Bool.and_eq_true, decide_eq_true_eq] at hn
  have e : s.size = s.data.toList.length := by rw [Array.length_toList]; rfl
  rw [e]
  exact hn.2
theorem small_i64 {a : Int} (h0 : 0 ≤ a) (h1 : a ≤ 999) : I64 a := WalkArith.wf_i64 (by omega)
theorem may_i64 {a b c : Int} (h : mayV a b c = true) : I64 a ∧ I64 b ∧ I64 c := by
  unfold mayV partB at h
  simp only [Bool.and_eq_true, decide_eq_true_eq] at h
  exact ⟨small_i64 h.1.1.1 h.1.1.2, small_i64 h.1.2.1 h.1.2.2, small_i64 h.2.1 h.2.2⟩
theorem has_in {n : Int} (h0 : 0 ≤ n) (h1 : n < 1000000000) : hasV n = true := by
  unfold hasV
  rw [decide_eq_true h0, decide_eq_true h1]
  rfl
theorem pgN_key {s : ByteArray} {n : Int} (hs : s.size ≤ 16) (hn : hasV n = true) : KeyOk (pgN s n).nm (pgN s n).a (pgN s n).b (pgN s n).c := by
  obtain ⟨h1, h2, h3⟩ := may_i64 (may_at hn).1
  exact ⟨by show s.size ≤ maxLen; unfold maxLen; omega, h1, h2, h3⟩
/-- k versions of a name, from a rank on. -/
def Filled (s : ByteArray) (n : Int) (k : Nat) (L : List CV) : Prop := (L.map (·.pg)).Perm ((List.range k).map fun j : Nat => pgN s (n + (j : Int)))
theorem Filled.len {s : ByteArray} {n : Int} {k : Nat} {L : List CV} (h : Filled s n k L) : L.length = k := by
  have := h.length_eq
  rw [List.length_map, List.length_map, List.length_range] at this
  exact this
theorem Filled.mem {s : ByteArray} {n : Int} {k : Nat} {L : List CV} (h : Filled s n k L) {x : CV} (hx : x ∈ L) : ∃ j, j < k ∧ x.pg = pgN s (n + j) := by
  have := h.mem_iff.1 (List.mem_map_of_mem (f := (·.pg)) hx)
  obtain ⟨j, hj, e⟩ := List.mem_map.1 this
  exact ⟨j, List.mem_range.1 hj, e.symm⟩
theorem Filled.none {s : ByteArray} {n : Int} {k : Nat} {L : List CV} (h : Filled s n k L) (h0 : 0 ≤ n) {i : Nat} (hk : k ≤ i) (h1 : n + i < 1000000000) : catC L s (atA (n + i)) (atB (n + i)) (atC (n + i)) = none := by
  unfold catC
  rw [List.find?_eq_none]
  intro x hx q
  obtain ⟨j, hj, e⟩ := h.mem hx
  have hq : x.pg.nm = s ∧ x.pg.a = atA (n + i) ∧ x.pg.b = atB (n + i) ∧ x.pg.c = atC (n + i) := of_decide_eq_true q
  rw [e] at hq
  have r1 := (may_at (has_in (n := n + j) (by omega) (by omega))).2
  have r2 := (may_at (has_in (n := n + i) (by omega) h1)).2
  have e2 : rankV (atA (n + j)) (atB (n + j)) (atC (n + j)) = rankV (atA (n + i)) (atB (n + i)) (atC (n + i)) := by
    have q1 : atA (n + j) = atA (n + i) := hq.2.1
    have q2 : atB (n + j) = atB (n + i) := hq.2.2.1
    have q3 : atC (n + j) = atC (n + i) := hq.2.2.2
    rw [q1, q2, q3]
  rw [r1, r2] at e2
  omega
theorem Filled.some {s : ByteArray} {n : Int} {k : Nat} {L : List CV} (h : Filled s n k L) {j : Nat} (hj : j < k) : ∃ x, catC L s (atA (n + j)) (atB (n + j)) (atC (n + j)) = some x := by
  have hm : pgN s (n + j) ∈ L.map (·.pg) := h.mem_iff.2 (List.mem_map.2 ⟨j, List.mem_range.2 hj, rfl⟩)
  obtain ⟨x, hx, e⟩ := List.mem_map.1 hm
  cases hc : catC L s (atA (n + j)) (atB (n + j)) (atC (n + j)) with
  | some y => exact ⟨y, rfl⟩
  | none =>
    refine absurd ?_ (List.find?_eq_none.1 hc x hx)
    unfold isAt
    rw [decide_eq_true_eq, e]
    exact ⟨rfl, rfl, rfl, rfl⟩
theorem Filled.put {s : ByteArray} {n : Int} {k : Nat} {L L' : List CV} (h : Filled s n k L) {u1 u2 u3 : Value} (hp : L'.Perm (⟨pgN s (n + k), u1, u2, u3⟩ :: L)) : Filled s n (k + 1) L' := by
  unfold Filled
  refine (hp.map (·.pg)).trans ?_
  rw [List.map_cons, List.range_succ, List.map_append]
  refine (List.Perm.cons _ h).trans ?_
  exact (List.perm_append_singleton _ _).symm
theorem Filled.vers {s : ByteArray} {n : Int} {k : Nat} {L : List CV} (h : Filled s n k L) : (verL s L).length = k := by
  unfold verL
  rw [List.length_map, List.filter_eq_self.2, h.len]
  intro x hx
  obtain ⟨j, _, e⟩ := h.mem hx
  unfold isNm
  rw [decide_eq_true_eq, e]
  rfl
/-- A catalog is as it was where something else is written over that is no row of it. -/
theorem own_over {w w' : World} {B N : Nat} {e t : TypeId} {z : Nat} {v : Value} {n : Nat} {xs : List Value} {cs : Array Value} {fr : Nat × Nat} (h : w.ownsRow B e z v n xs) (hN : w.heap[N]? = some (.cells cs t fr)) (hne : t ≠ e) (hg : w.grownBy w' (some N)) : w'.ownsRow B e z v n xs :=
  World.ownsRow.kept h hg (row_other h hN (fun _ q => hne (Obj.cells.inj q).2.1))
theorem OwnG.over {w w' : World} {B N : Nat} {P : Pg} {v1 v2 v3 : Value} {cs : Array Value} {fr : Nat × Nat} {t : TypeId} (h : OwnG w B P v1 v2 v3) (hN : w.heap[N]? = some (.cells cs t fr)) (h1 : t ≠ 73) (h2 : t ≠ 75) (hg : w.grownBy w' (some N)) : OwnG w' B P v1 v2 v3 := by
  obtain ⟨q1, q2, q3, ⟨d1, m1⟩, ⟨d2, m2⟩, d3, m3⟩ := h
  exact ⟨q1, q2, q3, ⟨⟨own_over d1.1 hN h1 hg, fun p hp => own_over (d1.2 p hp) hN h2 hg⟩, m1⟩, ⟨⟨own_over d2.1 hN h1 hg, fun p hp => own_over (d2.2 p hp) hN h2 hg⟩, m2⟩, ⟨own_over d3.1 hN h1 hg, fun p hp => own_over (d3.2 p hp) hN h2 hg⟩, m3⟩
theorem CatAt.over {w w' : World} {B C M N : Nat} {L : List CV} {cs : Array Value} {fr : Nat × Nat} {t : TypeId} (h : CatAt w B C M L) (hN : w.heap[N]? = some (.cells cs t fr)) (h1 : t ≠ 73) (h2 : t ≠ 75) (hC : N ≠ C) (hg : w.grownBy w' (some N)) : CatAt w' B C M L := by
  obtain ⟨⟨a1, a2, a3⟩, a4, a5, a6⟩ := h
  have hM : some M ≠ some N := fun e => by
    obtain rfl := Option.some.inj e
    obtain ⟨es, cl, hm, _⟩ := a4
    rw [hm] at hN
    cases hN
  refine ⟨⟨?_, Nat.lt_of_lt_of_le a2 hg.size, a3⟩, a4.kept hg hM, fun x hx => ⟨⟨(a5 x hx).1.1.over hN h1 h2 hg, (a5 x hx).1.2⟩, (a5 x hx).2⟩, a6⟩
  rw [World.cell?_of_block (a := ⟨C, 0, none⟩) (hg.block C a2 fun q => hC (Option.some.inj q).symm)]
  exact a1
end Go.Proofs.YtfieklfhibanaaaGreatDoor
namespace Go.Proofs.YtfieklfhibanaaaGreatDoor
open Go.RowKit Go.Maps Go.WideMaps
set_option maxRecDepth 100000

theorem written_key {P : Pg} (h : writtenB P = true) : KeyOk P.nm P.a P.b P.c := by
  have hs := (small_written h).1
  unfold writtenB soundB at h
  simp only [Bool.and_eq_true] at h
  obtain ⟨h1, h2, h3⟩ := may_i64 h.1.1.1.2
  exact ⟨by unfold maxLen; omega, h1, h2, h3⟩
theorem below_any {w w' : World} {M : Nat} (h : Below w.heap.size w w') : w.grownBy w' (some M) := ⟨h.os, h.tape, h.output, h.size, fun k hk _ => h.block k hk⟩
/-- A package is put in, whatever it is. -/
theorem put_any {w : World} {B C M : Nat} {L : List CV} (h : CatAt w B C M L) (hB : B ≤ w.heap.size) (hl : L.length ≤ 128) {P : Pg} {v1 v2 v3 : Value} (hp : PgAt w P v1 v2 v3) (he : Env w) (hf : FL w) :
    Calls Tryz.prog 11 #[.pointer (some ⟨C, 0, none⟩), .agg #[.string P.nm, .int .i64 P.a, .int .i64 P.b, .int .i64 P.c, v1, v2, v3]] w fun e w' => ∃ r L', e = .returned (.int .i64 r) ∧ CatAt w' B C M L' ∧ L'.length ≤ 128 ∧ w.grownBy w' (some M) := by
  cases hw : writtenB P
  · refine (put_no h hp he hf hw).mono ?_
    rintro e w' ⟨rfl, hb⟩
    exact ⟨_, L, rfl, h.below hb, hl, below_any hb⟩
  · cases hx : catC L P.nm P.a P.b P.c with
    | some x =>
      refine (put_there h hp he hf (written_key hw) hw hx).mono ?_
      rintro e w' ⟨rfl, hb⟩
      exact ⟨_, L, rfl, h.below hb, hl, below_any hb⟩
    | none =>
      by_cases hn : L.length < 128
      · refine (put_ok h hp he hf hB (written_key hw) hw hx hn).mono ?_
        rintro e w' ⟨rfl, u1, u2, u3, L', hp', hc, hg⟩
        refine ⟨_, L', rfl, hc, ?_, hg⟩
        rw [hp'.length_eq, List.length_cons]
        omega
      · refine (put_full h hp he hf (written_key hw) hw hx (by omega)).mono ?_
        rintro e w' ⟨rfl, hb⟩
        exact ⟨_, L, rfl, h.below hb, hl, below_any hb⟩
/-- A package at a place; packages. -/
def PgIn (w : World) (g o : Nat) (P : Pg) (v1 v2 v3 : Value) : Prop := (w.cell? ⟨g, o, none⟩ = some (.string P.nm) ∧ w.cell? ⟨g, o + 1, none⟩ = some (.int .i64 P.a) ∧ w.cell? ⟨g, o + 2, none⟩ = some (.int .i64 P.b) ∧ w.cell? ⟨g, o + 3, none⟩ = some (.int .i64 P.c) ∧ w.cell? ⟨g, o + 4, none⟩ = some v1 ∧ w.cell? ⟨g, o + 5, none⟩ = some v2 ∧ w.cell? ⟨g, o + 6, none⟩ = some v3) ∧ PgAt w P v1 v2 v3 ∧ g < w.heap.size
theorem PgIn.below {w w' : World} {g o : Nat} {P : Pg} {v1 v2 v3 : Value} (h : PgIn w g o P v1 v2 v3) (hb : Below w.heap.size w w') : PgIn w' g o P v1 v2 v3 := by
  obtain ⟨⟨h0, h1, h2, h3, h4, h5, h6⟩, hp, hg⟩ := h
  have q : ∀ i, w'.cell? ⟨g, i, none⟩ = w.cell? ⟨g, i, none⟩ := fun i => hb.cell (p := ⟨g, i, none⟩) hg
  exact ⟨⟨by rw [q]; exact h0, by rw [q]; exact h1, by rw [q]; exact h2, by rw [q]; exact h3, by rw [q]; exact h4, by rw [q]; exact h5, by rw [q]; exact h6⟩, hp.below hb, Nat.lt_of_lt_of_le hg hb.size⟩
def PgsAt (w : World) (v : Value) (L : List Pg) : Prop := ∃ ad cap, v = .slice ad L.length cap ∧ L.length ≤ cap ∧ (L = [] ∨ ∃ g o, ad = some ⟨g, o, none⟩ ∧ ∀ i (h : i < L.length), ∃ v1 v2 v3, PgIn w g (o + i * 7) L[i] v1 v2 v3)
theorem PgsAt.below {w w' : World} {v : Value} {L : List Pg} (h : PgsAt w v L) (hb : Below w.heap.size w w') : PgsAt w' v L := by
  obtain ⟨ad, cap, hv, hc, hl⟩ := h
  refine ⟨ad, cap, hv, hc, hl.imp id ?_⟩
  rintro ⟨g, o, ha, hs⟩
  exact ⟨g, o, ha, fun i hi => by obtain ⟨v1, v2, v3, h⟩ := hs i hi; exact ⟨v1, v2, v3, h.below hb⟩⟩
theorem PgsAt.sl {w : World} {v : Value} {L : List Pg} (h : PgsAt w v L) : ∃ ad cap, v = .slice ad L.length cap ∧ ∀ i (_ : i < L.length), ∃ g o, ad = some ⟨g, o, none⟩ ∧ ∃ v1 v2 v3, PgIn w g (o + i * 7) L[i] v1 v2 v3 := by
  obtain ⟨ad, cap, hv, _, hl⟩ := h
  refine ⟨ad, cap, hv, fun i hi => ?_⟩
  rcases hl with rfl | ⟨g, o, ha, hs⟩
  · cases hi
  · exact ⟨g, o, ha, hs i hi⟩
end Go.Proofs.YtfieklfhibanaaaGreatDoor
namespace Go.Proofs.YtfieklfhibanaaaGreatDoor
open Go.ChangeShapes Go.WideShapes Go.ChangeAt Go.RowKit
set_option maxRecDepth 100000

theorem cellsPinC : Tryz.prog.cellsOf 56 = 4 := by kernel_rfl
theorem cellsPinsC : Tryz.prog.cellsOf 40 = 1 := by kernel_rfl
theorem cellsPkgs : Tryz.prog.cellsOf 22 = 1 := by kernel_rfl
theorem intsW {H : Type} {enc : TypeId × Value → H} {W : World} {base : Nat} {spare : Nat → Bool} {held : Bool} {n : Nat} {cs : List Value} {x : DataW H × List MemPlace} (h : DataW.trod enc Tryz.prog W base spare held n 31 cs = some x) :
    ∃ a b c, (cs[0]? = some (.int .i64 a) ∧ cs[1]? = some (.int .i64 b) ∧ cs[2]? = some (.int .i64 c)) ∧ I64 a ∧ I64 b ∧ I64 c := by
  have hs : Tryz.prog.underlying 31 = some (.struct (Tryz.prog.fieldsOf 31)) := by kernel_rfl
  obtain ⟨xs, n', _, hx, _, hxl, hf⟩ := DataW.trod_struct hs h
  have hfz : (Tryz.prog.fieldsOf 31).size = 3 := by kernel_rfl
  have ints : ∀ i off, ((Tryz.prog.fieldsOf 31)[i]?).map (fun f => (f.type, f.offset)) = some (3, off) → i < 3 → ∃ k, cs[off]? = some (.int .i64 k) ∧ I64 k := by
    intro i off hfd hi
    obtain ⟨f, h1, h2, h3⟩ := field_at hfd
    have hr := hf i f h1
    rw [h2, h3, cellsInt, List.getElem?_eq_getElem (by omega : i < xs.length)] at hr
    obtain ⟨k, e1, e2, wk⟩ := DataW.trod_int Tryz.underlying3 hr
    exact ⟨k, take_one e1, wk⟩
  obtain ⟨a, a0, wa⟩ := ints 0 0 (by kernel_rfl) (by decide)
  obtain ⟨b, a1, wb⟩ := ints 1 1 (by kernel_rfl) (by decide)
  obtain ⟨c, a2, wc⟩ := ints 2 2 (by kernel_rfl) (by decide)
  exact ⟨a, b, c, ⟨a0, a1, a2⟩, wa, wb, wc⟩

/-- A pin whose numbers fit. -/
def PnOk (p : Pn) : Prop := I64 p.a ∧ I64 p.b ∧ I64 p.c
theorem pin_read {H : Type} {enc : TypeId × Value → H} {W : World} {base : Nat} {held : Bool} {n : Nat} {g o : Nat} {cs : List Value} {x : DataW H × List MemPlace} (hc : W.cells? base ⟨g, o, none⟩ 4 = some cs) (h : DataW.trod enc Tryz.prog W base (fun _ => true) held n 56 cs = some x) : ∃ d : Pn, PnIn W g o d ∧ PnOk d := by
  have hs : Tryz.prog.underlying 56 = some (.struct (Tryz.prog.fieldsOf 56)) := by kernel_rfl
  obtain ⟨xs, n', _, _, _, hxl, hf⟩ := DataW.trod_struct hs h
  have hsz : (Tryz.prog.fieldsOf 56).size = 2 := by kernel_rfl
  obtain ⟨_, hcl, hq⟩ := World.cells?_some hc
  obtain ⟨f0, i0, t0, o0⟩ := field_at (fs := Tryz.prog.fieldsOf 56) (i := 0) (ty := 9) (off := 0) (by kernel_rfl)
  obtain ⟨f1, i1, t1, o1⟩ := field_at (fs := Tryz.prog.fieldsOf 56) (i := 1) (ty := 31) (off := 1) (by kernel_rfl)
  have r0 := hf 0 f0 i0
  have r1 := hf 1 f1 i1
  rw [t0, o0, cellsStrD, List.getElem?_eq_getElem (by omega : 0 < xs.length)] at r0
  rw [t1, o1, cellsVer, List.getElem?_eq_getElem (by omega : 1 < xs.length)] at r1
  obtain ⟨s, e0, _, hs0⟩ := DataW.trod_string Tryz.underlying9 r0
  obtain ⟨a, b, c, ⟨ea, eb, ec⟩, wa, wb, wc⟩ := intsW r1
  have ka : ((cs.drop 1).take 3)[0]? = some (.int .i64 a) := ea
  have kb : ((cs.drop 1).take 3)[1]? = some (.int .i64 b) := eb
  have kc : ((cs.drop 1).take 3)[2]? = some (.int .i64 c) := ec
  have q0 := hq 0 (by decide)
  have q1 := hq 1 (by decide)
  have q2 := hq 2 (by decide)
  have q3 := hq 3 (by decide)
  have ad : ∀ i, (⟨g, o, none⟩ : Addr).add i = ⟨g, o + i, none⟩ := fun i => by unfold Addr.add; split <;> simp_all
  simp at ka kb kc
  rw [ad, take1 e0] at q0
  rw [ad, ka] at q1
  rw [ad, kb] at q2
  rw [ad, kc] at q3
  exact ⟨⟨s, a, b, c⟩, ⟨⟨q0, q1, q2, q3⟩, cell_in q0⟩, wa, wb, wc⟩
theorem pins_cs {H : Type} {enc : TypeId × Value → H} {W : World} {base fuel : Nat} {held : Bool} {cs : List Value} {x : DataW H × List MemPlace} (h : DataW.trod enc Tryz.prog W base (fun _ => true) held fuel 40 cs = some x) :
    ∃ v L, cs = [v] ∧ PinsAt W v L ∧ L.length ≤ 9223372036854775807 ∧ ∀ d ∈ L, PnOk d := by
  rcases Go.Deep.open_slice Tryz.underlying40 h with ⟨rfl, _⟩ | ⟨ad, len, cap, m, n, D, Pl, rfl, _, hl, hcm, hm, hx, hel⟩
  · exact ⟨_, [], rfl, ⟨none, 0, rfl, Nat.le_refl _, Or.inl rfl⟩, by simp, (fun d hd => by cases hd)⟩
  · have hz : len ≤ 9223372036854775807 := by unfold maxLen at hcm; omega
    rcases Nat.eq_zero_or_pos len with h0 | h0
    · subst h0
      exact ⟨_, [], rfl, ⟨_, _, rfl, Nat.zero_le _, Or.inl rfl⟩, by simp, (fun d hd => by cases hd)⟩
    · have hmm : len ≤ m := by rw [hm]; simp; exact hl
      rw [cellsPinC] at hel
      obtain ⟨g, off, spot⟩ := ad
      obtain ⟨cs0, hc0, _⟩ := hel 0 (by omega)
      obtain ⟨_, hln, hq⟩ := World.cells?_some hc0
      have hcell := hq 0 (by decide)
      rw [List.getElem?_eq_getElem (by omega : 0 < cs0.length)] at hcell
      have hspot : spot = none := by simpa [Addr.add] using World.cell?_spot hcell
      subst hspot
      have ad2 : ∀ o i, (⟨g, o, none⟩ : Addr).add i = ⟨g, o + i, none⟩ := fun o i => by unfold Addr.add; split <;> simp_all
      obtain ⟨L, hL, hP⟩ := list_any (P := fun i (d : Pn) => PnIn W g (off + i * 4) d ∧ PnOk d) (n := len) fun i hi => by
        obtain ⟨cs, hc, ht⟩ := hel i (by omega)
        rw [ad2] at hc
        exact pin_read hc ht
      subst hL
      refine ⟨_, L, rfl, ⟨_, _, rfl, hl, Or.inr ⟨g, off, rfl, ?_, fun i hi => (hP i hi).1⟩⟩, hz, ?_⟩
      · have := cell_in hcell
        rw [ad2, ad2] at this; exact this
      · intro d hd
        obtain ⟨i, hi, rfl⟩ := List.getElem_of_mem hd
        exact (hP i hi).2

/-- A package that came in is not too great. -/
def PgOk (P : Pg) : Prop := (P.d.length ≤ 9223372036854775807 ∧ P.p.length ≤ 9223372036854775807 ∧ P.o.length ≤ 9223372036854775807) ∧ (P.nm.size ≤ 9223372036854775807 ∧ (∀ d ∈ P.d, d.nm.size ≤ 9223372036854775807) ∧ (∀ d ∈ P.p, d.nm.size ≤ 9223372036854775807) ∧ ∀ d ∈ P.o, d.nm.size ≤ 9223372036854775807) ∧ I64 P.a ∧ I64 P.b ∧ I64 P.c
theorem pkg_read {H : Type} {enc : TypeId × Value → H} {W : World} {base : Nat} {held : Bool} {n : Nat} {g o : Nat} {cs : List Value} {x : DataW H × List MemPlace} (hc : W.cells? base ⟨g, o, none⟩ 7 = some cs) (h : DataW.trod enc Tryz.prog W base (fun _ => true) held n 34 cs = some x) : ∃ P : Pg, (∃ v1 v2 v3, PgIn W g o P v1 v2 v3) ∧ PgOk P := by
  have hs : Tryz.prog.underlying 34 = some (.struct (Tryz.prog.fieldsOf 34)) := by kernel_rfl
  obtain ⟨xs, n', _, _, _, hxl, hf⟩ := DataW.trod_struct hs h
  have hfz : (Tryz.prog.fieldsOf 34).size = 5 := by kernel_rfl
  obtain ⟨_, hcl, hq⟩ := World.cells?_some hc
  obtain ⟨f0, i0, t0, o0⟩ := field_at (fs := Tryz.prog.fieldsOf 34) (i := 0) (ty := 9) (off := 0) (by kernel_rfl)
  obtain ⟨f1, i1, t1, o1⟩ := field_at (fs := Tryz.prog.fieldsOf 34) (i := 1) (ty := 31) (off := 1) (by kernel_rfl)
  obtain ⟨f2, i2, t2, o2⟩ := field_at (fs := Tryz.prog.fieldsOf 34) (i := 2) (ty := 32) (off := 4) (by kernel_rfl)
  obtain ⟨f3, i3, t3, o3⟩ := field_at (fs := Tryz.prog.fieldsOf 34) (i := 3) (ty := 32) (off := 5) (by kernel_rfl)
  obtain ⟨f4, i4, t4, o4⟩ := field_at (fs := Tryz.prog.fieldsOf 34) (i := 4) (ty := 32) (off := 6) (by kernel_rfl)
  have r0 := hf 0 f0 i0
  have r1 := hf 1 f1 i1
  have r2 := hf 2 f2 i2
  have r3 := hf 3 f3 i3
  have r4 := hf 4 f4 i4
  rw [t0, o0, cellsStrD, List.getElem?_eq_getElem (by omega : 0 < xs.length)] at r0
  rw [t1, o1, cellsVer, List.getElem?_eq_getElem (by omega : 1 < xs.length)] at r1
  rw [t2, o2, cellsDeps, List.getElem?_eq_getElem (by omega : 2 < xs.length)] at r2
  rw [t3, o3, cellsDeps, List.getElem?_eq_getElem (by omega : 3 < xs.length)] at r3
  rw [t4, o4, cellsDeps, List.getElem?_eq_getElem (by omega : 4 < xs.length)] at r4
  obtain ⟨s, e0, _, hs0⟩ := DataW.trod_string Tryz.underlying9 r0
  obtain ⟨a, b, c, ⟨ea, eb, ec⟩, wa, wb, wc⟩ := intsW r1
  obtain ⟨v1, L1, e2, h1, z1, m1⟩ := deps_cs r2
  obtain ⟨v2, L2, e3, h2, z2, m2⟩ := deps_cs r3
  obtain ⟨v3, L3, e4, h3, z3, m3⟩ := deps_cs r4
  have ka : ((cs.drop 1).take 3)[0]? = some (.int .i64 a) := ea
  have kb : ((cs.drop 1).take 3)[1]? = some (.int .i64 b) := eb
  have kc : ((cs.drop 1).take 3)[2]? = some (.int .i64 c) := ec
  simp at ka kb kc
  have ad : ∀ i, (⟨g, o, none⟩ : Addr).add i = ⟨g, o + i, none⟩ := fun i => by unfold Addr.add; split <;> simp_all
  have q0 := hq 0 (by decide)
  have q1 := hq 1 (by decide)
  have q2 := hq 2 (by decide)
  have q3 := hq 3 (by decide)
  have q4 := hq 4 (by decide)
  have q5 := hq 5 (by decide)
  have q6 := hq 6 (by decide)
  rw [ad, take1 e0] at q0
  rw [ad, ka] at q1
  rw [ad, kb] at q2
  rw [ad, kc] at q3
  rw [ad, take1 e2] at q4
  rw [ad, take1 e3] at q5
  rw [ad, take1 e4] at q6
  exact ⟨⟨s, a, b, c, L1, L2, L3⟩, ⟨v1, v2, v3, ⟨q0, q1, q2, q3, q4, q5, q6⟩, ⟨h1, h2, h3⟩, cell_in q0⟩, ⟨z1, z2, z3⟩, ⟨by unfold maxLen at hs0; exact hs0, m1, m2, m3⟩, wa, wb, wc⟩
/-- Packages that came in. -/
theorem pkgs_cs {H : Type} {enc : TypeId × Value → H} {W : World} {base fuel : Nat} {held : Bool} {cs : List Value} {x : DataW H × List MemPlace} (h : DataW.trod enc Tryz.prog W base (fun _ => true) held fuel 22 cs = some x) :
    ∃ v L, cs = [v] ∧ PgsAt W v L ∧ L.length ≤ 9223372036854775807 ∧ ∀ P ∈ L, PgOk P := by
  rcases Go.Deep.open_slice Tryz.underlying22 h with ⟨rfl, _⟩ | ⟨ad, len, cap, m, n, D, Pl, rfl, _, hl, hcm, hm, hx, hel⟩
  · exact ⟨_, [], rfl, ⟨none, 0, rfl, Nat.le_refl _, Or.inl rfl⟩, by simp, (fun d hd => by cases hd)⟩
  · have hz : len ≤ 9223372036854775807 := by unfold maxLen at hcm; omega
    rcases Nat.eq_zero_or_pos len with h0 | h0
    · subst h0
      exact ⟨_, [], rfl, ⟨_, _, rfl, Nat.zero_le _, Or.inl rfl⟩, by simp, (fun d hd => by cases hd)⟩
    · have hmm : len ≤ m := by rw [hm]; simp; exact hl
      rw [cellsPkg] at hel
      obtain ⟨g, off, spot⟩ := ad
      obtain ⟨cs0, hc0, _⟩ := hel 0 (by omega)
      obtain ⟨_, hln, hq⟩ := World.cells?_some hc0
      have hcell := hq 0 (by decide)
      rw [List.getElem?_eq_getElem (by omega : 0 < cs0.length)] at hcell
      have hspot : spot = none := by simpa [Addr.add] using World.cell?_spot hcell
      subst hspot
      have ad2 : ∀ o i, (⟨g, o, none⟩ : Addr).add i = ⟨g, o + i, none⟩ := fun o i => by unfold Addr.add; split <;> simp_all
      obtain ⟨L, hL, hP⟩ := list_any (P := fun i (d : Pg) => (∃ v1 v2 v3, PgIn W g (off + i * 7) d v1 v2 v3) ∧ PgOk d) (n := len) fun i hi => by
        obtain ⟨cs, hc, ht⟩ := hel i (by omega)
        rw [ad2] at hc
        exact pkg_read hc ht
      subst hL
      refine ⟨_, L, rfl, ⟨_, _, rfl, hl, Or.inr ⟨g, off, rfl, fun i hi => (hP i hi).1⟩⟩, hz, ?_⟩
      intro d hd
      obtain ⟨i, hi, rfl⟩ := List.getElem_of_mem hd
      exact (hP i hi).2
theorem open_pkgs {H : Type} {enc : TypeId × Value → H} {W : World} {base b0 : Nat} {held : Bool} {v : Value} {d : DataW H} {p : List MemPlace} (hv : Value.okWide Tryz.prog W .any b0 22 v) (h : DataW.Trod enc Tryz.prog W base (fun _ => true) held 22 v d p) :
    ∃ L, PgsAt W v L ∧ L.length ≤ 9223372036854775807 ∧ ∀ P ∈ L, PgOk P := by
  obtain ⟨ad, len, cap, rfl⟩ := okWide_slice Tryz.underlying22 hv
  obtain ⟨fuel, hf⟩ := h
  obtain ⟨v, L, e, h1, h2⟩ := pkgs_cs (x := (d, p)) hf
  have e2 : Value.slice ad len cap = v := by simpa [Value.cells] using e
  subst e2
  exact ⟨L, h1, h2⟩

theorem cellsAsk : Tryz.prog.cellsOf 42 = 6 := by kernel_rfl
theorem list6 {α : Type} {l : List α} (h : l.length = 6) : ∃ a b c d e f, l = [a, b, c, d, e, f] := by
  match l, h with
  | [a, b, c, d, e, f], _ => exact ⟨a, b, c, d, e, f, rfl⟩
/-- A question that came in. -/
theorem open_ask {H : Type} {enc : TypeId × Value → H} {W : World} {base b0 : Nat} {held : Bool} {v : Value} {d : DataW H} {p : List MemPlace} (hv : Value.okWide Tryz.prog W .any b0 42 v) (h : DataW.Trod enc Tryz.prog W base (fun _ => true) held 42 v d p) :
    ∃ (s : ByteArray) (a b c : Int) (vl vp : Value) (R : List Sp) (ps : List Pn), v = .agg #[.string s, .int .i64 a, .int .i64 b, .int .i64 c, vl, vp] ∧ SpansC W vl R ∧ PinsAt W vp ps ∧ (s.size ≤ 9223372036854775807 ∧ R.length ≤ 9223372036854775807 ∧ ps.length ≤ 9223372036854775807) ∧ (∀ q ∈ ps, PnOk q) ∧ I64 a ∧ I64 b ∧ I64 c := by
  have hs : Tryz.prog.underlying 42 = some (.struct (Tryz.prog.fieldsOf 42)) := by kernel_rfl
  obtain ⟨cs, rfl, hsz⟩ := okWide_struct hs hv
  obtain ⟨n, h⟩ := h
  obtain ⟨xs, n', _, _, _, hxl, hf⟩ := DataW.trod_struct hs h
  have hfz : (Tryz.prog.fieldsOf 42).size = 4 := by kernel_rfl
  rw [cellsAsk] at hsz
  obtain ⟨f0, i0, t0, o0⟩ := field_at (fs := Tryz.prog.fieldsOf 42) (i := 0) (ty := 9) (off := 0) (by kernel_rfl)
  obtain ⟨f1, i1, t1, o1⟩ := field_at (fs := Tryz.prog.fieldsOf 42) (i := 1) (ty := 31) (off := 1) (by kernel_rfl)
  obtain ⟨f2, i2, t2, o2⟩ := field_at (fs := Tryz.prog.fieldsOf 42) (i := 2) (ty := 39) (off := 4) (by kernel_rfl)
  obtain ⟨f3, i3, t3, o3⟩ := field_at (fs := Tryz.prog.fieldsOf 42) (i := 3) (ty := 40) (off := 5) (by kernel_rfl)
  have r0 := hf 0 f0 i0
  have r1 := hf 1 f1 i1
  have r2 := hf 2 f2 i2
  have r3 := hf 3 f3 i3
  rw [t0, o0, cellsStrD, List.getElem?_eq_getElem (by omega : 0 < xs.length)] at r0
  rw [t1, o1, cellsVer, List.getElem?_eq_getElem (by omega : 1 < xs.length)] at r1
  rw [t2, o2, cellsSps, List.getElem?_eq_getElem (by omega : 2 < xs.length)] at r2
  rw [t3, o3, cellsPinsC, List.getElem?_eq_getElem (by omega : 3 < xs.length)] at r3
  obtain ⟨s, e0, _, hs0⟩ := DataW.trod_string Tryz.underlying9 r0
  obtain ⟨a, b, c, ⟨ea, eb, ec⟩, wa, wb, wc⟩ := intsW r1
  obtain ⟨v1, L1, e2, h1, z1⟩ := spans_cs r2
  obtain ⟨v2, L2, e3, h2, z2, m2⟩ := pins_cs r3
  have k0 : cs.toList[0]? = some (.string s) := take1 e0
  have k2 : cs.toList[4]? = some v1 := take1 e2
  have k3 : cs.toList[5]? = some v2 := take1 e3
  have ka : ((cs.toList.drop 1).take 3)[0]? = some (.int .i64 a) := ea
  have kb : ((cs.toList.drop 1).take 3)[1]? = some (.int .i64 b) := eb
  have kc : ((cs.toList.drop 1).take 3)[2]? = some (.int .i64 c) := ec
  obtain ⟨l⟩ := cs
  obtain ⟨x0, x1, x2, x3, x4, x5, rfl⟩ := list6 (l := l) (by simpa using hsz)
  simp at k0 k2 k3 ka kb kc
  subst k0 k2 k3 ka kb kc
  exact ⟨s, a, b, c, _, _, L1, L2, rfl, h1, h2, ⟨by unfold maxLen at hs0; exact hs0, z1, z2⟩, m2, wa, wb, wc⟩
end Go.Proofs.YtfieklfhibanaaaGreatDoor
namespace Go.Proofs.YtfieklfhibanaaaGreatDoor
open Go.RowKit Go.Maps Go.WideMaps
set_option maxRecDepth 100000

theorem cand_nil (R : List Sp) (s : ByteArray) (ts : List Vn) : candV R s [] ts = ts.filter (inB R) := by
  unfold candV fstV othV
  have e1 : (ts.filter fun x => inB R x && pinB s [] x) = [] := by
    rw [List.filter_eq_nil_iff]
    intro x _
    simp [pinB, cntP]
  rw [e1, List.nil_append]
  congr 1
  funext x
  simp [pinB, cntP]
theorem told_may {w : World} {B C M : Nat} {L : List CV} (h : CatAt w B C M L) {s : ByteArray} {ts : List Vn} (ht : Told L s ts) {x : Vn} (hx : x ∈ ts) : mayV x.a x.b x.c = true := by
  obtain ⟨y, hy, rfl⟩ := List.mem_map.1 (ht.1.mem_iff.1 hx)
  have hw := (h.2.2.1 y (List.mem_filter.1 hy).1).1.2
  unfold writtenB soundB at hw
  simp only [Bool.and_eq_true] at hw
  exact hw.1.1.1.2
theorem told_nodup {L : List CV} {s : ByteArray} {ts : List Vn} (ht : Told L s ts) : ts.Pairwise fun x y => x ≠ y := ht.2.imp fun {x y} h e => by
  subst e
  have q := gtV_iff.1 h
  omega
theorem in_both {A B : Rg} (hA : RangeR A) (hB : RangeR B) (la : A.length ≤ 64) (lb : B.length ≤ 64) (hm : RangeR (meetR A B)) (lm : (meetR A B).length ≤ 64) (hj : RangeR (joinR A B)) (lj : (joinR A B).length ≤ 64) (x : Vn) :
    inB ((meetR A B).map spR) x = (inB (A.map spR) x && inB (B.map spR) x) ∧ inB ((joinR A B).map spR) x = (inB (A.map spR) x || inB (B.map spR) x) := by
  unfold inB
  constructor
  · rw [Bool.eq_iff_iff, Bool.and_eq_true, in_rg hm lm, in_rg hA la, in_rg hB lb, meet_in hA hB]
    exact ⟨fun q => ⟨⟨q.1, q.2.1⟩, q.1, q.2.2⟩, fun q => ⟨q.1.1, q.1.2, q.2.2⟩⟩
  · rw [Bool.eq_iff_iff, Bool.or_eq_true, in_rg hj lj, in_rg hA la, in_rg hB lb, join_in hA hB]
    constructor
    · rintro ⟨q, h | h⟩
      · exact Or.inl ⟨q, h⟩
      · exact Or.inr ⟨q, h⟩
    · rintro (⟨q, h⟩ | ⟨q, h⟩)
      · exact ⟨q, Or.inl h⟩
      · exact ⟨q, Or.inr h⟩
theorem filter_two {α : Type} (ts : List α) {p q r : α → Bool} (h : ∀ x ∈ ts, r x = (p x && q x)) : ts.filter r = (ts.filter p).filter q := by
  rw [List.filter_filter]
  refine List.filter_congr fun x hx => ?_
  rw [h x hx, Bool.and_comm]
theorem filter_count {α : Type} (ts : List α) {p q r o : α → Bool} (h : ∀ x ∈ ts, r x = (p x && q x)) (h' : ∀ x ∈ ts, o x = (p x || q x)) : (ts.filter o).length + (ts.filter r).length = (ts.filter p).length + (ts.filter q).length := by
  induction ts with
  | nil => rfl
  | cons x t ih =>
    have i := ih (fun y hy => h y (List.mem_cons_of_mem _ hy)) (fun y hy => h' y (List.mem_cons_of_mem _ hy))
    have e1 := h x List.mem_cons_self
    have e2 := h' x List.mem_cons_self
    cases hp : p x <;> cases hq : q x <;> rw [hp, hq] at e1 e2 <;> simp [hp, hq, e1, e2] <;> omega
/-- How many of the first i are in both. -/
def bothN (q : Vn → Bool) (a : List Vn) (i : Nat) : Nat := ((a.take i).filter q).length
theorem both_at {q : Vn → Bool} {a : List Vn} {i : Nat} (hi : i < a.length) (hq : q a[i] = true) : ∃ h : bothN q a i < (a.filter q).length, (a.filter q)[bothN q a i] = a[i] := by
  have e : a.filter q = (a.take i).filter q ++ (a[i] :: (a.drop (i + 1)).filter q) := by
    conv => lhs; rw [← List.take_append_drop i a, List.filter_append, List.drop_eq_getElem_cons hi, List.filter_cons, if_pos hq]
  have hl : bothN q a i < (a.filter q).length := by
    rw [e, List.length_append, List.length_cons]
    unfold bothN
    omega
  refine ⟨hl, ?_⟩
  have h2 : (a.filter q)[bothN q a i]? = some a[i] := by
    unfold bothN
    rw [e, List.getElem?_append_right (Nat.le_refl _), Nat.sub_self]
    rfl
  rw [List.getElem?_eq_getElem hl] at h2
  exact Option.some.inj h2
theorem both_succ {q : Vn → Bool} {a : List Vn} {i : Nat} (hi : i < a.length) : bothN q a (i + 1) = bothN q a i + (if q a[i] = true then 1 else 0) := by
  unfold bothN
  rw [List.take_succ_eq_append_getElem hi, List.filter_append, List.length_append]
  by_cases h : q a[i] = true
  · simp [h]
  · simp [h]
theorem both_all (q : Vn → Bool) (a : List Vn) : bothN q a a.length = (a.filter q).length := by
  unfold bothN
  rw [List.take_length]
theorem both_le (q : Vn → Bool) (a : List Vn) (i : Nat) : bothN q a i ≤ a.length := by
  unfold bothN
  exact Nat.le_trans (List.length_filter_le _ _) (by rw [List.length_take]; omega)
/-- Has it been met among the first k? -/
noncomputable def metN (x : Vn) (b : List Vn) (k : Nat) : Nat := if x ∈ b.take k then 1 else 0
theorem met_no {x : Vn} {b : List Vn} {k : Nat} (hk : k < b.length) (hne : ¬ x = b[k]) : metN x b (k + 1) = metN x b k := by
  have e : x ∈ b.take (k + 1) ↔ x ∈ b.take k := by
    rw [List.take_succ_eq_append_getElem hk, List.mem_append, List.mem_singleton]
    exact ⟨fun q => q.resolve_right hne, Or.inl⟩
  unfold metN
  by_cases h : x ∈ b.take k
  · rw [if_pos (e.2 h), if_pos h]
  · rw [if_neg (fun q => h (e.1 q)), if_neg h]
theorem met_yes {x : Vn} {b : List Vn} {k : Nat} (hk : k < b.length) (he : x = b[k]) (hn : b.Pairwise fun x y => x ≠ y) : metN x b k = 0 ∧ metN x b (k + 1) = 1 := by
  unfold metN
  constructor
  · rw [if_neg]
    intro hm
    obtain ⟨j, hj, e⟩ := List.getElem_of_mem hm
    rw [List.length_take] at hj
    rw [List.getElem_take] at e
    exact List.pairwise_iff_getElem.1 hn j k (by omega) hk (by omega) (e.trans he)
  · rw [if_pos]
    rw [List.take_succ_eq_append_getElem hk, he]
    exact List.mem_append_right _ (List.mem_singleton.2 rfl)
theorem met_all {x : Vn} {b : List Vn} : metN x b b.length = if x ∈ b then 1 else 0 := by
  unfold metN
  rw [List.take_length]
theorem met_le (x : Vn) (b : List Vn) (k : Nat) : metN x b k ≤ 1 := by
  unfold metN
  split <;> omega
end Go.Proofs.YtfieklfhibanaaaGreatDoor
