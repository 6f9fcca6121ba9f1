/- Wg6, laid in one text. -/
import Derived.Test.YtbjbhgkbnegfgaaGreatDoorMg28
namespace Go.Proofs.YtbjbhgkbnegfgaaGreatDoor
open Go.RowKit Go.Maps Go.WideMaps
set_option maxRecDepth 100000

/-- A telling, but for the row in which it lies. -/
def PartW (O : List Dp) (E : List (Dp × Int)) (w : World) (B : Nat) (Y : List Wt) : Prop := ((Y.map (·.tg)).Pairwise (ltPl E) ∧ (Y.map (·.tg)).Perm (List.range E.length)) ∧ ∀ x ∈ Y, ∃ e : Dp × Int, E[x.tg]? = some e ∧ x.nm = e.1.nm ∧ x.kd = e.2 ∧ OwnS w B x.rs (rangeD O e.1)
theorem ToldW.row {O : List Dp} {E : List (Dp × Int)} {w : World} {B : Nat} {v : Value} {Y : List Wt} (h : ToldW O E w B v Y) : RowO w B v Y := by
  have e := h.1.1
  rw [withR_fst] at e
  have e2 : (withR O E Y).length = Y.length := by unfold withR; rw [List.length_map]
  rw [e2] at e
  exact e
theorem ToldW.part {O : List Dp} {E : List (Dp × Int)} {w : World} {B : Nat} {v : Value} {Y : List Wt} (h : ToldW O E w B v Y) : PartW O E w B Y := by
  refine ⟨⟨h.sorted, h.2.2.1⟩, fun x hx => ?_⟩
  obtain ⟨e, h1, h2, h3⟩ := h.2.2.2 x hx
  refine ⟨e, h1, h2, h3, ?_⟩
  have q := h.1.2.1 (x, rgT O E x.tg) (List.mem_map.2 ⟨x, hx, rfl⟩)
  have e2 : rgT O E x.tg = rangeD O e.1 := by unfold rgT; rw [h1]
  have q2 : OwnS w B x.rs (rgT O E x.tg) := q
  rw [e2] at q2
  exact q2
theorem PartW.below {O : List Dp} {E : List (Dp × Int)} {w w' : World} {B : Nat} {Y : List Wt} (h : PartW O E w B Y) (hb : Below w.heap.size w w') : PartW O E w' B Y := ⟨h.1, fun x hx => by
  obtain ⟨e, h1, h2, h3, h4⟩ := h.2 x hx
  exact ⟨e, h1, h2, h3, h4.below hb⟩⟩
theorem PartW.base {O : List Dp} {E : List (Dp × Int)} {w : World} {B C : Nat} {Y : List Wt} (h : PartW O E w B Y) (hc : C ≤ B) : PartW O E w C Y := ⟨h.1, fun x hx => by
  obtain ⟨e, h1, h2, h3, h4⟩ := h.2 x hx
  exact ⟨e, h1, h2, h3, h4.base hc⟩⟩
/-- Ranges stay while wants are put behind wants. -/
theorem PartW.grown {O : List Dp} {E : List (Dp × Int)} {w w1 : World} {B B' n : Nat} {v : Value} {xs : List Value} {Y : List Wt} (h : PartW O E w B Y) (hr : w.ownsRow B' 69 3 v n xs) (hg : w.grownBy w1 v.ownBlock) : PartW O E w1 B Y := ⟨h.1, fun x hx => by
  obtain ⟨e, h1, h2, h3, h4⟩ := h.2 x hx
  exact ⟨e, h1, h2, h3, h4.of_block fun g hgu => hg.block g (h4.lt hgu).1 fun q => own_ne h4 hr (by decide) hgu q.symm⟩⟩
theorem RowO.below {w w' : World} {B : Nat} {v : Value} {xs : List Wt} (h : RowO w B v xs) (hb : Below w.heap.size w w') : RowO w' B v xs := own_below h hb
theorem RowO.base {w : World} {B C : Nat} {v : Value} {xs : List Wt} (h : RowO w B v xs) (hc : C ≤ B) : RowO w C v xs := own_base h hc
theorem RowO.grown {w w1 : World} {B : Nat} {v : Value} {xs : List Wt} {r : Option Nat} (h : RowO w B v xs) (hg : w.grownBy w1 r) (hne : ∀ g, v.ownBlock = some g → some g ≠ r) : RowO w1 B v xs := own_of h fun g hgv => hg.block g (World.ownsRow.lt h g hgv).2 (hne g hgv)

/-- Two lists of wants that say the same, but that the one's ranges are overridden. -/
def MatchW (O : List Dp) (w : World) (B : Nat) (A Z : List Wt) : Prop := A.length = Z.length ∧ ∀ (i : Nat) (x y : Wt), A[i]? = some x → Z[i]? = some y → ∃ d : Dp, x.nm = d.nm ∧ y.nm = d.nm ∧ x.kd = y.kd ∧ OwnS w B x.rs (rangeD O d) ∧ OwnS w B y.rs d.rg
theorem match_of {O : List Dp} {E : List (Dp × Int)} {w : World} {B : Nat} {Y Z : List Wt} (h : PartW O E w B Y) (h' : PartW [] E w B Z) : MatchW O w B Y Z := by
  have ht : Y.map (·.tg) = Z.map (·.tg) := perm_sorted (ltPl_asym E) (h.1.2.trans h'.1.2.symm) h.1.1 h'.1.1
  refine ⟨by have e := congrArg List.length ht; rw [List.length_map, List.length_map] at e; exact e, fun i x y hx hy => ?_⟩
  obtain ⟨e, h1, h2, h3, h4⟩ := h.2 x (List.mem_of_getElem? hx)
  obtain ⟨f, g1, g2, g3, g4⟩ := h'.2 y (List.mem_of_getElem? hy)
  have e1 : x.tg = y.tg := by
    have q := congrArg (fun l : List Nat => l[i]?) ht
    simp only [List.getElem?_map, hx, hy] at q
    exact Option.some.inj q
  rw [e1, g1] at h1
  cases h1
  exact ⟨e.1, h2, g2, h3.trans g3.symm, h4, g4⟩
theorem MatchW.append {O : List Dp} {w : World} {B : Nat} {A Z A' Z' : List Wt} (h : MatchW O w B A Z) (h' : MatchW O w B A' Z') : MatchW O w B (A ++ A') (Z ++ Z') := by
  refine ⟨by rw [List.length_append, List.length_append, h.1, h'.1], fun i x y hx hy => ?_⟩
  by_cases hi : i < A.length
  · rw [List.getElem?_append_left hi] at hx
    rw [List.getElem?_append_left (h.1 ▸ hi)] at hy
    exact h.2 i x y hx hy
  · rw [List.getElem?_append_right (by omega)] at hx
    rw [List.getElem?_append_right (by have := h.1; omega), ← h.1] at hy
    exact h'.2 _ x y hx hy
theorem MatchW.below {O : List Dp} {w w' : World} {B : Nat} {A Z : List Wt} (h : MatchW O w B A Z) (hb : Below w.heap.size w w') : MatchW O w' B A Z := ⟨h.1, fun i x y hx hy => by
  obtain ⟨d, h1, h2, h3, h4, h5⟩ := h.2 i x y hx hy
  exact ⟨d, h1, h2, h3, h4.below hb, h5.below hb⟩⟩

/-- Both lists, put together. -/
def FinW (O : List Dp) (w : World) (B : Nat) (va vb : Value) (A Z : List Wt) : Prop := (RowO w B va A ∧ RowO w B vb Z) ∧ MatchW O w B A Z
theorem FinW.below {O : List Dp} {w w' : World} {B : Nat} {va vb : Value} {A Z : List Wt} (h : FinW O w B va vb A Z) (hb : Below w.heap.size w w') : FinW O w' B va vb A Z := ⟨⟨h.1.1.below hb, h.1.2.below hb⟩, h.2.below hb⟩

/-- Half way: the first list is put together. -/
def MidW (O : List Dp) (E1 E2 : List (Dp × Int)) (w : World) (B : Nat) (va vb : Value) (Y1 Y2 Z1 : List Wt) : Prop := (RowO w B va (Y1 ++ Y2) ∧ RowO w B vb Z1 ∧ ∀ g, va.ownBlock = some g → vb.ownBlock ≠ some g) ∧ PartW O E1 w B Y1 ∧ PartW O E2 w B Y2 ∧ PartW [] E1 w B Z1
theorem MidW.below {O : List Dp} {E1 E2 : List (Dp × Int)} {w w' : World} {B : Nat} {va vb : Value} {Y1 Y2 Z1 : List Wt} (h : MidW O E1 E2 w B va vb Y1 Y2 Z1) (hb : Below w.heap.size w w') : MidW O E1 E2 w' B va vb Y1 Y2 Z1 := ⟨⟨h.1.1.below hb, h.1.2.1.below hb, h.1.2.2⟩, h.2.1.below hb, h.2.2.1.below hb, h.2.2.2.below hb⟩

theorem mid_of {O : List Dp} {E1 E2 : List (Dp × Int)} {w5 w6 w7 w8 : World} {B : Nat} {va vb vc va' : Value} {Y1 Y2 Z1 : List Wt} (hB : B ≤ w5.heap.size) (h1 : ToldW O E1 w5 B va Y1) (b6 : Below w5.heap.size w5 w6) (h2 : ToldW [] E1 w6 w5.heap.size vb Z1) (b7 : Below w6.heap.size w6 w7) (h3 : ToldW O E2 w7 w6.heap.size vc Y2) (ho : w8.ownsRow B 69 3 va' (Y1.length + Y2.length) (Y1.flatMap encW ++ Y2.flatMap encW)) (hg : w7.grownBy w8 va.ownBlock) (hat : va'.ownBlock = va.ownBlock ∨ va'.ownBlock = some w7.heap.size) : MidW O E1 E2 w8 B va' vb Y1 Y2 Z1 := by
  have r1 := (h1.row.below b6).below b7
  have r2 := h2.row.below b7
  have hne : ∀ g, va.ownBlock = some g → vb.ownBlock ≠ some g := fun g ha hb => by
    have q1 := (World.ownsRow.lt h1.row g ha).2
    have q2 := (World.ownsRow.lt h2.row g hb).1
    omega
  refine ⟨⟨?_, (r2.base hB).grown hg (fun g hgv q => hne g q.symm hgv), fun g ha hb => ?_⟩, (((h1.part.below b6).below b7).grown r1 hg), (h3.part.grown r1 hg).base (Nat.le_trans hB b6.size), (((h2.part.below b7).grown r1 hg)).base hB⟩
  · unfold RowO
    rw [List.length_append, List.flatMap_append]
    exact ho
  · rcases hat with e | e
    · rw [e] at ha
      exact hne g ha hb
    · rw [e] at ha
      cases ha
      have q := (World.ownsRow.lt r2 _ hb).2
      omega

theorem fin_of {O : List Dp} {E1 E2 : List (Dp × Int)} {w8 w9 w10 : World} {B : Nat} {va vb vd vb' : Value} {Y1 Y2 Z1 Z2 : List Wt} (h : MidW O E1 E2 w8 B va vb Y1 Y2 Z1) (hB : B ≤ w8.heap.size) (b9 : Below w8.heap.size w8 w9) (h4 : ToldW [] E2 w9 w8.heap.size vd Z2) (ho : w10.ownsRow B 69 3 vb' (Z1.length + Z2.length) (Z1.flatMap encW ++ Z2.flatMap encW)) (hg : w9.grownBy w10 vb.ownBlock) : FinW O w10 B va vb' (Y1 ++ Y2) (Z1 ++ Z2) := by
  have hm := h.below b9
  have r2 := hm.1.2.1
  refine ⟨⟨hm.1.1.grown hg (fun g hgv q => hm.1.2.2 g hgv q.symm), ?_⟩, (match_of (hm.2.1.grown r2 hg) (hm.2.2.2.grown r2 hg)).append (match_of (hm.2.2.1.grown r2 hg) ((h4.part.grown r2 hg).base hB))⟩
  unfold RowO
  rw [List.length_append, List.flatMap_append]
  exact ho

theorem rangeD_drop {O : List Dp} {d : Dp} {k : Nat} (h : k < O.length) : rangeD (O.drop k) d = if O[k].nm = d.nm then O[k].rg else rangeD (O.drop (k + 1)) d := by
  unfold rangeD
  rw [List.drop_eq_getElem_cons h, List.find?_cons]
  by_cases e : O[k].nm = d.nm
  · have e1 : isD d.nm O[k] = true := by unfold isD; rw [e]; exact decide_eq_true rfl
    rw [e1, if_pos e]
  · have e1 : isD d.nm O[k] = false := by unfold isD; exact decide_eq_false e
    rw [e1, if_neg e]
theorem rangeD_end (O : List Dp) (d : Dp) : rangeD (O.drop O.length) d = d.rg := by
  unfold rangeD
  rw [List.drop_length]
  rfl
end Go.Proofs.YtbjbhgkbnegfgaaGreatDoor
