/- RwK, laid in one text. -/
import Derived.Test.YtpaoimhebheaeaaGreatDoorMg38
namespace Go.Proofs.YtpaoimhebheaeaaGreatDoor
open Go.ChangeShapes Go.WideShapes Go.ChangeAt Go.RowKit Go.ChangeMaps Dk
set_option maxRecDepth 100000

theorem file_readS {H : Type} {enc : TypeId × Value → H} {W : World} {base : Nat} {spare : Nat → Bool} {held : Bool} {n : Nat} {g o : Nat} {cs : List Value} {x : DataW H × List MemPlace} (hc : W.cells? base ⟨g, o, none⟩ 3 = some cs) (h : DataW.trod enc Tryz.prog W base spare held n 83 cs = some x) :
    ∃ f : Fl, W.cell? ⟨g, o, none⟩ = some (.string f.1) ∧ W.cell? ⟨g, o + 1, none⟩ = some (.bool f.2.1) ∧ W.cell? ⟨g, o + 1 + 1, none⟩ = some (.string f.2.2) ∧ f.1.size ≤ maxLen ∧ 8 + f.1.size + 2 * f.2.2.size ≤ 2 * Rows.uptoBulk x.1 := by
  have hs : Tryz.prog.underlying 83 = some (.struct (Tryz.prog.fieldsOf 83)) := by kernel_rfl
  obtain ⟨xs, n', _, hxx, _, hxl, hf⟩ := DataW.trod_struct hs h
  have hsz : (Tryz.prog.fieldsOf 83).size = 3 := by kernel_rfl
  obtain ⟨_, _, hq⟩ := World.cells?_some hc
  have bools : ∀ i off, ((Tryz.prog.fieldsOf 83)[i]?).map (fun f => (f.type, f.offset)) = some (4, off) → (hi : i < 3) → ∃ k, cs[off]? = some (.bool k) ∧ 1 ≤ Rows.uptoBulk (xs[i]'(by omega)).1 := by
    intro i off hfd hi
    obtain ⟨f, h1, h2, h3⟩ := field_at hfd
    have hr := hf i f h1
    rw [h2, h3, cellsBool, List.getElem?_eq_getElem (by omega : i < xs.length)] at hr
    obtain ⟨k, e1, _⟩ := DataW.trod_bool Tryz.underlying4 hr
    exact ⟨k, take_one e1, bulk_pos _⟩
  have strs : ∀ i off, ((Tryz.prog.fieldsOf 83)[i]?).map (fun f => (f.type, f.offset)) = some (9, off) → (hi : i < 3) → ∃ s, cs[off]? = some (.string s) ∧ s.size ≤ maxLen ∧ s.size + 1 ≤ Rows.uptoBulk (xs[i]'(by omega)).1 := by
    intro i off hfd hi
    obtain ⟨f, h1, h2, h3⟩ := field_at hfd
    have hr := hf i f h1
    rw [h2, h3, cellsString, List.getElem?_eq_getElem (by omega : i < xs.length)] at hr
    obtain ⟨s, e1, hx1, ws⟩ := DataW.trod_string Tryz.underlying9 hr
    refine ⟨s, take_one e1, ws, ?_⟩
    rw [hx1]
    simp only [Rows.uptoBulk]
    show s.data.size + 1 ≤ _
    rw [Array.length_toList]
    omega
  obtain ⟨p, a0, wp, bp⟩ := strs 0 0 (by kernel_rfl) (by decide)
  obtain ⟨c, a1, bc⟩ := bools 1 1 (by kernel_rfl) (by decide)
  obtain ⟨t, a2, _, bt⟩ := strs 2 2 (by kernel_rfl) (by decide)
  have ad : ∀ i, (⟨g, o, none⟩ : Addr).add i = ⟨g, o + i, none⟩ := fun i => by unfold Addr.add; split <;> simp_all
  have q0 := hq 0 (by decide)
  have q1 := hq 1 (by decide)
  have q2 := hq 2 (by decide)
  rw [ad] at q0 q1 q2
  have hb : Rows.uptoBulk x.1 = Rows.uptoBulk (xs[0]'(by omega)).1 + (Rows.uptoBulk (xs[1]'(by omega)).1 + (Rows.uptoBulk (xs[2]'(by omega)).1 + 0)) + 1 := by
    rw [hxx]
    exact bulk_xs xs (by omega)
  exact ⟨(p, c, t), by rw [← a0, ← q0]; rfl, by rw [← a1, ← q1], by rw [← a2, ← q2], wp, by simp only; omega⟩

theorem open_filesS {H : Type} {enc : TypeId × Value → H} {W : World} {base fuel : Nat} {held : Bool} {a : Option Addr} {len cap : Nat} {x : DataW H × List MemPlace} (h : DataW.trod enc Tryz.prog W base (fun _ => true) held fuel 22 [.slice a len cap] = some x) :
    ∃ fs : List Fl, fs.length = len ∧ IsFiles W a fs ∧ (∀ f ∈ fs, f.1.size ≤ maxLen) ∧ sumL (fs.map dP) ≤ 2 * Rows.uptoBulk x.1 := by
  rcases Go.Deep.open_slice Tryz.underlying22 h with ⟨hcs, _⟩ | ⟨ad, l, c, m, n, D, Pl, hcs, _, hl, _, hm, hx, hel⟩
  · simp only [List.cons.injEq, Value.slice.injEq, and_true] at hcs
    exact ⟨[], hcs.2.1.symm, Or.inl rfl, fun f hf => (by cases hf), Nat.zero_le _⟩
  · simp only [List.cons.injEq, Value.slice.injEq, and_true] at hcs
    obtain ⟨rfl, rfl, rfl⟩ := hcs
    rcases Nat.eq_zero_or_pos len with h0 | h0
    · exact ⟨[], h0.symm, Or.inl rfl, fun f hf => (by cases hf), Nat.zero_le _⟩
    · have hmm : len ≤ m := by rw [hm]; simp; exact hl
      rw [cellsFile] at hel
      obtain ⟨g, off, spot⟩ := ad
      obtain ⟨cs0, hc0, _⟩ := hel 0 (by omega)
      obtain ⟨_, hln, hq⟩ := World.cells?_some hc0
      have hcell := hq 0 (by decide)
      rw [List.getElem?_eq_getElem (by omega : 0 < cs0.length)] at hcell
      have hspot : spot = none := by simpa [Addr.add] using World.cell?_spot hcell
      subst hspot
      have ad2 : ∀ o i, (⟨g, o, none⟩ : Addr).add i = ⟨g, o + i, none⟩ := fun o i => by unfold Addr.add; split <;> simp_all
      have hxi : x.1 = .slice ((List.range len).map D) ((List.range (m - len)).map fun j => D (len + j)) := by rw [hx]
      obtain ⟨fs, hfl, hfs⟩ := list_of (P := fun i f => W.cell? ⟨g, off + i * 3, none⟩ = some (.string f.1) ∧ W.cell? ⟨g, off + i * 3 + 1, none⟩ = some (.bool f.2.1) ∧ W.cell? ⟨g, off + i * 3 + 1 + 1, none⟩ = some (.string f.2.2) ∧ f.1.size ≤ maxLen ∧ 8 + f.1.size + 2 * f.2.2.size ≤ 2 * Rows.uptoBulk (D i)) len (fun i hi => by
        obtain ⟨cs, hc, ht⟩ := hel i (by omega)
        rw [ad2] at hc
        exact file_readS hc ht)
      refine ⟨fs, hfl, Or.inr ⟨g, off, rfl, ?_, fun k hk => ?_⟩, fun f hf => ?_, ?_⟩
      · have := cell_lt hcell
        rw [ad2, ad2] at this; exact this
      · obtain ⟨q0, q1, q2, _, _⟩ := hfs k hk
        exact ⟨q0, q1, q2⟩
      · obtain ⟨i, hi, rfl⟩ := List.getElem_of_mem hf
        exact (hfs i hi).2.2.2.1
      · have h1 := sum_bulk D len (fs.map dP) (by rw [List.length_map, hfl]) fun i hi => by
          rw [List.getElem_map]
          exact (hfs i (by rw [List.length_map] at hi; exact hi)).2.2.2.2
        rw [hxi]
        simp only [Rows.uptoBulk]
        omega
/-- What two choices out of a list weigh. -/
theorem two_filters {L : List Fl} {p q : Fl → Bool} {f g : Fl → De} (hpq : ∀ y, p y = true → q y = true → False) (hf : ∀ y, 8 + (f y).pa.size + 2 * (f y).da.size ≤ 8 + (dP y).pa.size + 2 * (dP y).da.size) (hg : ∀ y, 8 + (g y).pa.size + 2 * (g y).da.size ≤ 8 + (dP y).pa.size + 2 * (dP y).da.size) : sumL ((L.filter p).map f) + sumL ((L.filter q).map g) ≤ sumL (L.map dP) := by
  unfold sumL
  induction L with
  | nil => simp
  | cons y r ih =>
    have h1 := hf y
    have h2 := hg y
    have h3 := hpq y
    cases ep : p y <;> cases eq : q y
    · rw [List.filter_cons_of_neg (by rw [ep]; decide), List.filter_cons_of_neg (by rw [eq]; decide), List.map_cons, List.map_cons, List.sum_cons]
      omega
    · rw [List.filter_cons_of_neg (by rw [ep]; decide), List.filter_cons_of_pos eq, List.map_cons, List.map_cons, List.map_cons, List.map_cons, List.sum_cons, List.sum_cons]
      omega
    · rw [List.filter_cons_of_pos ep, List.filter_cons_of_neg (by rw [eq]; decide), List.map_cons, List.map_cons, List.map_cons, List.map_cons, List.sum_cons, List.sum_cons]
      omega
    · exact (h3 ep eq).elim
theorem sum_app (a b : List De) : sumL (a ++ b) = sumL a + sumL b := by
  unfold sumL
  rw [List.map_append, List.sum_append]
theorem sum_perm {L M : List Fl} (h : L.Perm M) : sumL (L.map dP) = sumL (M.map dP) := by
  unfold sumL
  exact ((h.map dP).map _).sum_nat
theorem deeds_sum {fs gs : List Fl} (h1 : OkJ fs) (h2 : OkJ gs) : sumL (deeds fs gs) ≤ sumL (fs.map dP) + sumL (gs.map dP) := by
  have p1 := sum_perm (ordL h1.1).perm
  have p2 := sum_perm (ordL h2.1).perm
  unfold deeds deD lU lR lM lP
  rw [p1, p2, sum_app, sum_app, sum_app]
  generalize filesD (loadD fs) = L
  generalize filesD (loadD gs) = M
  have he : ByteArray.empty.size = 0 := rfl
  have e1 := two_filters (L := L.reverse) (p := wU M) (q := wR M) (f := dU) (g := dR) (fun y a b => by unfold wU at a; unfold wR at b; simp at a b; rw [a.1] at b; exact absurd b.1 (by decide)) (fun y => by show 8 + y.1.size + 2 * ByteArray.empty.size ≤ 8 + y.1.size + 2 * y.2.2.size; omega) (fun y => by show 8 + y.1.size + 2 * ByteArray.empty.size ≤ 8 + y.1.size + 2 * y.2.2.size; omega)
  have e2 := two_filters (L := M) (p := wM L) (q := wP L) (f := dM) (g := dP) (fun y a b => by unfold wM at a; unfold wP at b; simp at a b; rw [a.1] at b; exact absurd b.1 (by decide)) (fun y => by show 8 + y.1.size + 2 * ByteArray.empty.size ≤ 8 + y.1.size + 2 * y.2.2.size; omega) (fun y => Nat.le_refl _)
  rw [sum_perm (List.reverse_perm L)] at e1
  omega
theorem deeds_sizes {fs gs : List Fl} (h1 : OkJ fs) (h2 : OkJ gs) (hz : sumL (fs.map dP) + sumL (gs.map dP) ≤ 2097152) : (textD (deeds fs gs)).size ≤ 4194304 ∧ (deeds fs gs).length ≤ 1048576 ∧ ∀ d ∈ deeds fs gs, d.pa.size ≤ maxLen ∧ d.da.size ≤ 100000000 := by
  have hs := deeds_sum h1 h2
  have ht := text_le (deeds fs gs)
  have hl := sum_len (deeds fs gs)
  refine ⟨by omega, by omega, fun d hd => ?_⟩
  have := sum_mem hd
  exact ⟨by unfold maxLen; omega, by omega⟩
theorem files_bulk {fs : List Fl} {n : Nat} (h : sumL (fs.map dP) ≤ 2 * n) : fs.length ≤ n ∧ ∀ f ∈ fs, f.2.2.size ≤ n := by
  have hl := sum_len (fs.map dP)
  rw [List.length_map] at hl
  refine ⟨by omega, fun f hf => ?_⟩
  have h1 := sum_mem (List.mem_map.2 ⟨f, hf, rfl⟩ : dP f ∈ fs.map dP)
  have h2 : (dP f).da = f.2.2 := rfl
  rw [h2] at h1
  omega
end Go.Proofs.YtpaoimhebheaeaaGreatDoor
