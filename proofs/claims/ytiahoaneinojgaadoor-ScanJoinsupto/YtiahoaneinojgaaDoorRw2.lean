/- A list of lists of strings that came in. -/
import Derived.Test.YtiahoaneinojgaaDoorRw1
import Derived.Test.YtiahoaneinojgaaDoorJo2
import Derived.SliceStrings
namespace Go.Proofs.YtiahoaneinojgaaDoor.Sc
open Go.ChangeShapes Go.WideShapes Go.ChangeAt Go.RowKit
set_option maxRecDepth 100000

theorem cellsStr : Tryd.prog.cellsOf 9 = 1 := by kernel_rfl
theorem cellsStrs : Tryd.prog.cellsOf 27 = 1 := by kernel_rfl
theorem list_of {α : Type} {P : Nat → α → Prop} : ∀ {n : Nat}, (∀ i, i < n → ∃ s, P i s) → ∃ L : List α, L.length = n ∧ ∀ i (h : i < L.length), P i L[i]
  | 0, _ => ⟨[], rfl, fun i h => by simp at h⟩
  | n + 1, h => by
    obtain ⟨L, hl, hP⟩ := list_of (n := n) fun i hi => h i (by omega)
    obtain ⟨s, hs⟩ := h n (by omega)
    refine ⟨L ++ [s], by simp [hl], fun i hi => ?_⟩
    by_cases hin : i < L.length
    · rw [List.getElem_append_left hin]; exact hP i hin
    · have : i = n := by simp at hi; omega
      subst this
      simpa [hl] using hs

/-- How much words weigh. -/
def wBulk (ws : List Bs) : Nat := (ws.map fun x => x.length + 1).sum + 1
theorem lineT_bulk (ws : List Bs) : (lineT ws).length ≤ wBulk ws := by
  induction ws with
  | nil => simp [lineT, wBulk]
  | cons x l ih =>
    cases l with
    | nil => simp [lineT, wBulk]
    | cons y r =>
      have e : lineT (x :: y :: r) = x ++ [32] ++ lineT (y :: r) := rfl
      rw [e]
      unfold wBulk at *
      simp only [List.length_append, List.length_cons, List.length_nil, List.map_cons, List.sum_cons] at *
      omega
theorem textT_bulk (L : List (List Bs)) : (textT L).length ≤ (L.map wBulk).sum := by
  induction L with
  | nil => simp [textT]
  | cons l L ih =>
    rw [textT_cons]
    have := lineT_bulk l
    simp only [List.length_append, List.map_cons, List.sum_cons]
    omega
theorem bulk_all {H : Type} {α : Type} {f : α → Nat} : ∀ (L : List α) (ds : List (DataW H)), L.length = ds.length → (∀ i (h : i < L.length) (h2 : i < ds.length), f L[i] ≤ Rows.uptoBulk ds[i]) → (L.map f).sum ≤ Rows.uptoBulkAll ds
  | [], ds, _, _ => by simp
  | x :: L, [], h, _ => by simp at h
  | x :: L, d :: ds, h, hf => by
    have h0 := hf 0 (by simp) (by simp)
    have := bulk_all L ds (by simpa using h) (fun i h1 h2 => by have := hf (i + 1) (by simp; omega) (by simp; omega); simpa using this)
    simp only [List.map_cons, List.sum_cons, Rows.uptoBulkAll]
    simp at h0
    omega

theorem open_words {H : Type} {enc : TypeId × Value → H} {W : World} {base fuel : Nat} {spare : Nat → Bool} {held : Bool} {cs : List Value} {x : DataW H × List MemPlace} (h : DataW.trod enc Tryd.prog W base spare held fuel 27 cs = some x) :
    ∃ v ws, cs = [v] ∧ WordsAt W v ws ∧ wBulk ws ≤ Rows.uptoBulk x.1 := by
  rcases open_strings Tryd.underlying27 Tryd.underlying9 cellsStr h with ⟨rfl, rfl⟩ | ⟨a, len, cap, ss, rfl, _, hl, _, hss, rfl, hc, _⟩
  · exact ⟨_, [], rfl, ⟨none, 0, rfl, Nat.le_refl _, Or.inl rfl⟩, by simp [wBulk, Rows.uptoBulk]⟩
  · have hlen : len ≤ ss.length := by rw [hss]; split <;> omega
    refine ⟨_, (ss.take len).map (·.data.toList), rfl, ⟨some a, cap, by simp [hlen], by simp; omega, ?_⟩, ?_⟩
    · rcases Nat.eq_zero_or_pos len with h0 | h0
      · left; subst h0; simp
      · right
        obtain ⟨g, off, spot⟩ := a
        have hc0 := hc 0 (by omega)
        have hspot : spot = none := by simpa [Addr.add] using World.cell?_spot hc0
        subst hspot
        have ad2 : ∀ i, (⟨g, off, none⟩ : Addr).add i = ⟨g, off + i, none⟩ := fun i => by unfold Addr.add; split <;> simp_all
        refine ⟨g, off, rfl, ?_, fun i hi => ?_⟩
        · have := cell_in hc0
          rw [ad2] at this; exact this
        · have hi' : i < ss.length := by simp at hi; omega
          have := hc i hi'
          rw [ad2] at this
          rw [this]
          simp [ba_of, hi']
    · unfold wBulk
      simp only [Rows.uptoBulk]
      have := bulk_all (f := fun x : Bs => x.length + 1) ((ss.take len).map (·.data.toList)) (ChangeShapes.strs (ss.take len) : List (DataW H)) (by simp [ChangeShapes.strs]) (fun i h1 h2 => by simp [ChangeShapes.strs, Rows.uptoBulk])
      omega

/-- A list of lists of strings that came in. -/
theorem open_lines {H : Type} {enc : TypeId × Value → H} {W : World} {base b0 : Nat} {spare : Nat → Bool} {held : Bool} {v : Value} {d : DataW H} {p : List MemPlace} (hv : Value.okWide Tryd.prog W .any b0 22 v) (h : DataW.Trod enc Tryd.prog W base spare held 22 v d p) :
    ∃ L, LinesAt W v L ∧ (textT L).length ≤ Rows.uptoBulk d := by
  obtain ⟨ad, len, cap, rfl⟩ := okWide_slice Tryd.underlying22 hv
  obtain ⟨fuel, hf⟩ := h
  rcases DataW.trod_slice Tryd.underlying22 hf with ⟨hcs, hx⟩ | ⟨a, len', cap', elems, rest, n, _, hcs, hx, hb, hl, hm, hlen, hel, _, _⟩
  · simp [Value.cells] at hcs
    obtain ⟨rfl, rfl, rfl⟩ := hcs
    exact ⟨[], ⟨none, 0, rfl, Nat.le_refl _, Or.inl rfl⟩, by simp [textT]⟩
  · simp [Value.cells] at hcs
    obtain ⟨rfl, rfl, rfl⟩ := hcs
    simp only [Prod.mk.injEq] at hx
    obtain ⟨rfl, _⟩ := hx
    obtain ⟨g, off, spot⟩ := a
    obtain ⟨L, hL, hP⟩ := list_of (α := List Bs) (P := fun i ws => ∃ u, W.cell? ((⟨g, off, spot⟩ : Addr).add i) = some u ∧ WordsAt W u ws ∧ ∀ (hi : i < elems.length), wBulk ws ≤ Rows.uptoBulk elems[i].1) (n := len) fun i hi => by
      have he := hel i hi
      rw [cellsStrs, Nat.mul_one, List.getElem?_eq_getElem (by omega : i < elems.length)] at he
      obtain ⟨cs, hc, ht⟩ := Option.bind_eq_some_iff.1 he
      obtain ⟨u, ws, rfl, hw, hk⟩ := open_words ht
      obtain ⟨_, _, hq⟩ := World.cells?_some hc
      have q0 := hq 0 (by decide)
      simp only [List.getElem?_cons_zero] at q0
      have e0 : ((⟨g, off, spot⟩ : Addr).add i).add 0 = (⟨g, off, spot⟩ : Addr).add i := by unfold Addr.add; split <;> simp_all
      rw [e0] at q0
      exact ⟨ws, u, q0, hw, fun _ => hk⟩
    refine ⟨L, ⟨some ⟨g, off, spot⟩, cap, by rw [hL], by omega, ?_⟩, ?_⟩
    · rcases Nat.eq_zero_or_pos L.length with h0 | h0
      · exact Or.inl (List.eq_nil_of_length_eq_zero h0)
      · right
        obtain ⟨u0, hc0, _⟩ := hP 0 h0
        have hspot : spot = none := by simpa [Addr.add] using World.cell?_spot hc0
        subst hspot
        have ad2 : ∀ i, (⟨g, off, none⟩ : Addr).add i = ⟨g, off + i, none⟩ := fun i => by unfold Addr.add; split <;> simp_all
        refine ⟨g, off, rfl, ?_, fun i hi => ?_⟩
        · have := cell_in hc0
          rw [ad2] at this; exact this
        · obtain ⟨u, h1, h2, _⟩ := hP i hi
          rw [ad2] at h1
          exact ⟨u, h1, h2⟩
    · refine Nat.le_trans (textT_bulk L) ?_
      simp only [Rows.uptoBulk]
      have := bulk_all (f := wBulk) L (elems.map (·.1)) (by simp; omega) (fun i h1 h2 => by
        obtain ⟨_, _, _, h3⟩ := hP i h1
        have := h3 (by simpa using h2)
        simpa using this)
      omega
end Go.Proofs.YtiahoaneinojgaaDoor.Sc
