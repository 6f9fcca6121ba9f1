/- Deeds that came in, by their bulk: their text is no more than twice it. -/
import Derived.Test.YtefcndfeemnglaaGreatDoorPm1
import Derived.Test.YtefcndfeemnglaaGreatDoorRwDl
namespace Go.Proofs.YtefcndfeemnglaaGreatDoor
open Go.ChangeShapes Go.WideShapes Go.ChangeAt Go.RowKit Go.ChangeMaps Dk
set_option maxRecDepth 100000

theorem list_sizeP (s : ByteArray) : s.data.toList.length = s.size := rfl
/-- A bound on a plan's text. -/
def sumL (l : List De) : Nat := (l.map fun d => 8 + d.pa.size + 2 * d.da.size).sum
theorem hexT_le (s : ByteArray) : (hexT s).size ≤ 1 + 2 * s.size := by
  cases h : (s.toList == [])
  · have h1 := hexL_len s.data.toList
    rw [← hexT_ne h] at h1
    have h2 : (hexT s).data.toList.length = (hexT s).size := rfl
    have h3 : s.data.toList.length = s.size := rfl
    omega
  · have h1 : (hexT s).data.toList.length = 1 := by rw [hexT_nil h]; rfl
    have h2 : (hexT s).data.toList.length = (hexT s).size := rfl
    omega
theorem word_le (k : Int) : (wordP k).size ≤ 6 ∧ (k = 4 → (wordP k).size = 3) := by
  refine ⟨?_, fun h => by rw [h]; decide⟩
  unfold wordP
  split
  · decide
  · split
    · decide
    · split <;> decide
theorem lineD_size (d : De) (acc : ByteArray) : (lineD d acc).size ≤ acc.size + (8 + d.pa.size + 2 * d.da.size) := by
  have h1 := word_le d.kd
  have h2 := hexT_le d.da
  have s1 : sp1.size = 1 := by decide
  have s2 : nl1.size = 1 := by decide
  unfold lineD
  by_cases h4 : d.kd = 4
  · rw [if_pos (by rw [h4]; rfl)]
    have := h1.2 h4
    simp only [by_app]
    omega
  · rw [if_neg (by simpa using h4)]
    simp only [by_app]
    omega
theorem text_le (l : List De) : (textD l).size ≤ 5 + sumL l := by
  have hf : ∀ (l : List De) (acc : ByteArray), (l.foldl (fun acc d => lineD d acc) acc).size ≤ acc.size + sumL l := by
    intro l
    induction l with
    | nil => intro acc; simp [sumL]
    | cons d l ih =>
      intro acc
      rw [List.foldl_cons]
      have h1 := ih (lineD d acc)
      have h2 := lineD_size d acc
      unfold sumL at h1 ⊢
      rw [List.map_cons, List.sum_cons]
      omega
  unfold textD
  have := hf l ⟨#[112, 108, 97, 110, 10]⟩
  have h5 : (⟨#[112, 108, 97, 110, 10]⟩ : ByteArray).size = 5 := by decide
  omega
theorem sum_mem {l : List De} {d : De} (h : d ∈ l) : 8 + d.pa.size + 2 * d.da.size ≤ sumL l := by
  induction l with
  | nil => cases h
  | cons x l ih =>
    unfold sumL at ih ⊢
    rw [List.map_cons, List.sum_cons]
    rcases List.mem_cons.1 h with rfl | h
    · omega
    · have := ih h
      omega
theorem sum_len (l : List De) : 8 * l.length ≤ sumL l := by
  induction l with
  | nil => exact Nat.zero_le _
  | cons x l ih =>
    unfold sumL at ih ⊢
    rw [List.map_cons, List.sum_cons, List.length_cons]
    omega

theorem bulk_app {H : Type} : ∀ (l m : List (DataW H)), Rows.uptoBulkAll (l ++ m) = Rows.uptoBulkAll l + Rows.uptoBulkAll m
  | [], m => by simp [Rows.uptoBulkAll]
  | x :: l, m => by rw [List.cons_append]; simp only [Rows.uptoBulkAll]; rw [bulk_app l m]; omega
theorem sum_bulk {H : Type} (D : Nat → DataW H) : ∀ (n : Nat) (l : List De), l.length = n → (∀ i (hi : i < l.length), 8 + l[i].pa.size + 2 * l[i].da.size ≤ 2 * Rows.uptoBulk (D i)) → sumL l ≤ 2 * Rows.uptoBulkAll ((List.range n).map D)
  | 0, l, hl, _ => by rw [List.eq_nil_of_length_eq_zero hl]; exact Nat.zero_le _
  | n + 1, l, hl, h => by
    have hne : l ≠ [] := fun e => by rw [e] at hl; cases hl
    obtain ⟨q, x, rfl⟩ : ∃ q x, l = q ++ [x] := ⟨l.dropLast, l.getLast hne, (List.dropLast_concat_getLast hne).symm⟩
    have hq : q.length = n := by simpa using hl
    have h1 := sum_bulk D n q hq fun i hi => by
      have := h i (by simp; omega)
      rwa [List.getElem_append_left hi] at this
    have h2 := h n (by simp; omega)
    rw [List.getElem_append_right (by omega)] at h2
    simp only [hq, Nat.sub_self, List.getElem_cons_zero] at h2
    rw [List.range_succ, List.map_append, bulk_app]
    have h3 : Rows.uptoBulkAll ([n].map D) = Rows.uptoBulk (D n) := by simp [Rows.uptoBulkAll]
    have h4 : sumL (q ++ [x]) = sumL q + (8 + x.pa.size + 2 * x.da.size) := by unfold sumL; simp
    omega

theorem cellsIntP : Tryz.prog.cellsOf 3 = 1 := by kernel_rfl
theorem cellsStringP : Tryz.prog.cellsOf 9 = 1 := by kernel_rfl
theorem cellsDe : Tryz.prog.cellsOf 32 = 3 := by kernel_rfl
theorem bulk_three {H : Type} (a b c : DataW H) : Rows.uptoBulk (.agg [a, b, c]) = Rows.uptoBulk a + (Rows.uptoBulk b + (Rows.uptoBulk c + 0)) + 1 := by simp [Rows.uptoBulk, Rows.uptoBulkAll]
theorem bulk_xs {H : Type} (xs : List (DataW H × List MemPlace)) (h : xs.length = 3) : Rows.uptoBulk (.agg (xs.map (·.1))) = Rows.uptoBulk (xs[0]'(by omega)).1 + (Rows.uptoBulk (xs[1]'(by omega)).1 + (Rows.uptoBulk (xs[2]'(by omega)).1 + 0)) + 1 := by
  match xs, h with
  | [u, v, w], _ => exact bulk_three _ _ _

theorem deed_readB {H : Type} {enc : TypeId × Value → H} {W : World} {base : Nat} {spare : Nat → Bool} {held : Bool} {n : Nat} {g o : Nat} {cs : List Value} {x : DataW H × List MemPlace} (hc : W.cells? base ⟨g, o, none⟩ 3 = some cs) (h : DataW.trod enc Tryz.prog W base spare held n 32 cs = some x) :
    ∃ d : De, W.cell? ⟨g, o, none⟩ = some (.int .i64 d.kd) ∧ W.cell? ⟨g, o + 1, none⟩ = some (.string d.pa) ∧ W.cell? ⟨g, o + 1 + 1, none⟩ = some (.string d.da) ∧ d.pa.size ≤ maxLen ∧ 8 + d.pa.size + 2 * d.da.size ≤ 2 * Rows.uptoBulk x.1 := by
  have hs : Tryz.prog.underlying 32 = some (.struct (Tryz.prog.fieldsOf 32)) := by kernel_rfl
  obtain ⟨xs, n', _, hxx, _, hxl, hf⟩ := DataW.trod_struct hs h
  have hsz : (Tryz.prog.fieldsOf 32).size = 3 := by kernel_rfl
  obtain ⟨_, _, hq⟩ := World.cells?_some hc
  have ints : ∀ i off, ((Tryz.prog.fieldsOf 32)[i]?).map (fun f => (f.type, f.offset)) = some (3, off) → (hi : i < 3) → ∃ k, cs[off]? = some (.int .i64 k) ∧ 1 ≤ Rows.uptoBulk (xs[i]'(by omega)).1 := by
    intro i off hfd hi
    obtain ⟨f, h1, h2, h3⟩ := field_at hfd
    have hr := hf i f h1
    rw [h2, h3, cellsIntP, List.getElem?_eq_getElem (by omega : i < xs.length)] at hr
    obtain ⟨k, e1, hx1, _⟩ := DataW.trod_int Tryz.underlying3 hr
    exact ⟨k, take_one e1, bulk_pos _⟩
  have strs : ∀ i off, ((Tryz.prog.fieldsOf 32)[i]?).map (fun f => (f.type, f.offset)) = some (9, off) → (hi : i < 3) → ∃ s, cs[off]? = some (.string s) ∧ s.size ≤ maxLen ∧ s.size + 1 ≤ Rows.uptoBulk (xs[i]'(by omega)).1 := by
    intro i off hfd hi
    obtain ⟨f, h1, h2, h3⟩ := field_at hfd
    have hr := hf i f h1
    rw [h2, h3, cellsStringP, List.getElem?_eq_getElem (by omega : i < xs.length)] at hr
    obtain ⟨s, e1, hx1, ws⟩ := DataW.trod_string Tryz.underlying9 hr
    refine ⟨s, take_one e1, ws, ?_⟩
    rw [hx1]
    simp only [Rows.uptoBulk]
    show s.data.size + 1 ≤ _
    rw [Array.length_toList]
    omega
  obtain ⟨k, a0, bk⟩ := ints 0 0 (by kernel_rfl) (by decide)
  obtain ⟨p, a1, wp, bp⟩ := strs 1 1 (by kernel_rfl) (by decide)
  obtain ⟨t, a2, _, bt⟩ := strs 2 2 (by kernel_rfl) (by decide)
  have ad : ∀ i, (⟨g, o, none⟩ : Addr).add i = ⟨g, o + i, none⟩ := fun i => by unfold Addr.add; split <;> simp_all
  have q0 := hq 0 (by decide)
  have q1 := hq 1 (by decide)
  have q2 := hq 2 (by decide)
  rw [ad] at q0 q1 q2
  have hb : Rows.uptoBulk x.1 = Rows.uptoBulk (xs[0]'(by omega)).1 + (Rows.uptoBulk (xs[1]'(by omega)).1 + (Rows.uptoBulk (xs[2]'(by omega)).1 + 0)) + 1 := by
    rw [hxx]
    exact bulk_xs xs (by omega)
  exact ⟨⟨k, p, t⟩, by rw [← a0, ← q0]; rfl, by rw [← a1, ← q1], by rw [← a2, ← q2], wp, by simp only; omega⟩
theorem list_ofD {P : Nat → De → Prop} : ∀ n, (∀ i, i < n → ∃ f, P i f) → ∃ fs : List De, fs.length = n ∧ ∀ i (hi : i < fs.length), P i fs[i]
  | 0, _ => ⟨[], rfl, fun i hi => absurd hi (Nat.not_lt_zero _)⟩
  | n + 1, h => by
    obtain ⟨fs, hl, hp⟩ := list_ofD n (fun i hi => h i (by omega))
    obtain ⟨f, hf⟩ := h n (by omega)
    refine ⟨fs ++ [f], by simp [hl], fun i hi => ?_⟩
    by_cases e : i < fs.length
    · rw [List.getElem_append_left e]; exact hp i e
    · have : i = fs.length := by simp at hi; omega
      subst this
      rw [List.getElem_append_right (Nat.le_refl _)]
      simp only [Nat.sub_self, List.getElem_cons_zero]
      rw [hl]
      exact hf

theorem open_desU {H : Type} {enc : TypeId × Value → H} {W : World} {base fuel : Nat} {held : Bool} {a : Option Addr} {len cap : Nat} {x : DataW H × List MemPlace} (h : DataW.trod enc Tryz.prog W base (fun _ => true) held fuel 22 [.slice a len cap] = some x) :
    ∃ l : List De, l.length = len ∧ IsDes W a l ∧ (∀ d ∈ l, d.pa.size ≤ maxLen) ∧ sumL l ≤ 2 * Rows.uptoBulk x.1 ∧ len ≤ cap := by
  rcases Go.Deep.open_slice Tryz.underlying22 h with ⟨hcs, _⟩ | ⟨ad, l, c, m, n, D, Pl, hcs, _, hl, _, hm, hx, hel⟩
  · simp only [List.cons.injEq, Value.slice.injEq, and_true] at hcs
    exact ⟨[], hcs.2.1.symm, Or.inl rfl, fun f hf => (by cases hf), Nat.zero_le _, by omega⟩
  · simp only [List.cons.injEq, Value.slice.injEq, and_true] at hcs
    obtain ⟨rfl, rfl, rfl⟩ := hcs
    rcases Nat.eq_zero_or_pos len with h0 | h0
    · exact ⟨[], h0.symm, Or.inl rfl, fun f hf => (by cases hf), Nat.zero_le _, hl⟩
    · have hmm : len ≤ m := by rw [hm]; simp; exact hl
      rw [cellsDe] at hel
      obtain ⟨g, off, spot⟩ := ad
      obtain ⟨cs0, hc0, _⟩ := hel 0 (by omega)
      obtain ⟨_, hln, hq⟩ := World.cells?_some hc0
      have hcell := hq 0 (by decide)
      rw [List.getElem?_eq_getElem (by omega : 0 < cs0.length)] at hcell
      have hspot : spot = none := by simpa [Addr.add] using World.cell?_spot hcell
      subst hspot
      have ad2 : ∀ o i, (⟨g, o, none⟩ : Addr).add i = ⟨g, o + i, none⟩ := fun o i => by unfold Addr.add; split <;> simp_all
      have hxi : x.1 = .slice ((List.range len).map D) ((List.range (m - len)).map fun j => D (len + j)) := by rw [hx]
      obtain ⟨ds, hfl, hfs⟩ := list_ofD (P := fun i d => W.cell? ⟨g, off + i * 3, none⟩ = some (.int .i64 d.kd) ∧ W.cell? ⟨g, off + i * 3 + 1, none⟩ = some (.string d.pa) ∧ W.cell? ⟨g, off + i * 3 + 1 + 1, none⟩ = some (.string d.da) ∧ d.pa.size ≤ maxLen ∧ 8 + d.pa.size + 2 * d.da.size ≤ 2 * Rows.uptoBulk (D i)) len (fun i hi => by
        obtain ⟨cs, hc, ht⟩ := hel i (by omega)
        rw [ad2] at hc
        exact deed_readB hc ht)
      refine ⟨ds, hfl, Or.inr ⟨g, off, rfl, ?_, fun k hk => ?_⟩, fun d hd => ?_, ?_, hl⟩
      · have := cell_lt hcell
        rw [ad2, ad2] at this; exact this
      · obtain ⟨q0, q1, q2, _, _⟩ := hfs k hk
        exact ⟨q0, q1, q2⟩
      · obtain ⟨i, hi, rfl⟩ := List.getElem_of_mem hd
        exact (hfs i hi).2.2.2.1
      · have h1 := sum_bulk D len ds hfl fun i hi => (hfs i hi).2.2.2.2
        have h2 : Rows.uptoBulkAll ((List.range len).map D) ≤ Rows.uptoBulk x.1 := by
          rw [hxi]
          simp only [Rows.uptoBulk]
          omega
        omega
end Go.Proofs.YtefcndfeemnglaaGreatDoor
