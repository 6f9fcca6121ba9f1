/- Pure1, Cut1, Cut2, Fo1, Fo2, Pure2, Fo3, Tx1, Row1, Tab1, laid in one text. -/
import Derived.WalkKit
import Derived.Maps.AppendAt
import Derived.Deep.AppendLies
import Derived.Deep.RegionHeld3
import Derived.Test.YtogpkhpephhbiaaGreatDoorRows
import Derived.Test.YtogpkhpephhbiaaGreatDoorTie
import Derived.Test.YtogpkhpephhbiaaGreatDoorCards
import Derived.ProofKit
import Derived.OpenShut
import Derived.ChangeOld
import Derived.LaidMore
import Derived.Lay
import Derived.SevenTiedAt
import Derived.Stop.Joined
import Derived.Shelf.Vars
import Derived.Deep.Slices
import Derived.Test.YtogpkhpephhbiaaGreatDoorShelfB
import Derived.Lib.LaidTab
import Derived.Lib.AppendIntMem
import Derived.Stop.LaidErr
import Derived.Test.YtogpkhpephhbiaaGreatDoorMg02
namespace Go.Proofs.YtogpkhpephhbiaaGreatDoor

abbrev Rg := List (Int × Int)

def InR : Rg → Int → Prop
  | [], _ => False
  | (g, h) :: B, n => (g ≤ n ∧ n ≤ h) ∨ InR B n

/-- The spans rise from k on, up to M at most, and do not touch. -/
def RiseR (k M : Int) : Rg → Prop
  | [] => True
  | (g, h) :: B => k ≤ g ∧ g ≤ h ∧ h ≤ M ∧ RiseR (h + 2) M B

theorem RiseR.weak {M j k : Int} : ∀ {B : Rg}, RiseR k M B → j ≤ k → RiseR j M B
  | [], _, _ => trivial
  | (_, _) :: _, h, hj => ⟨Int.le_trans hj h.1, h.2⟩

theorem RiseR.top {M N k : Int} : ∀ {B : Rg} {k : Int}, RiseR k M B → M ≤ N → RiseR k N B
  | [], _, _, _ => trivial
  | (_, _) :: _, _, h, hm => ⟨h.1, h.2.1, Int.le_trans h.2.2.1 hm, RiseR.top (k := k) h.2.2.2 hm⟩

theorem RiseR.bounds {M : Int} {n : Int} : ∀ {B : Rg} {k : Int}, RiseR k M B → InR B n → k ≤ n ∧ n ≤ M
  | [], _, _, hi => hi.elim
  | (g, h) :: B, k, hr, hi => by
    obtain ⟨h1, h2, h3, h4⟩ := hr
    rcases hi with ⟨i1, i2⟩ | hi
    · omega
    · have := RiseR.bounds h4 hi; omega

theorem InR.append {n : Int} : ∀ {A B : Rg}, InR (A ++ B) n ↔ InR A n ∨ InR B n
  | [], B => by simp [InR]
  | (g, h) :: A, B => by simp only [List.cons_append, InR]; rw [InR.append (A := A), or_assoc]

theorem RiseR.append {m M : Int} : ∀ {X Y : Rg} {k : Int}, RiseR k m X → RiseR (m + 2) M Y → m ≤ M → k ≤ m + 2 → RiseR k M (X ++ Y)
  | [], Y, k, _, hy, _, hk => hy.weak hk
  | (g, h) :: X, Y, k, hx, hy, hm, hk => by
    obtain ⟨h1, h2, h3, h4⟩ := hx
    exact ⟨h1, h2, by omega, RiseR.append h4 hy hm (by omega)⟩

/-- What is left of one span. -/
def cutS (lo hi : Int) : Rg → Rg
  | [] => [(lo, hi)]
  | (g, h) :: B => if hi < g then [(lo, hi)] else (if lo < g then [(lo, g - 1)] else []) ++ (if hi ≤ h then [] else cutS (h + 1) hi B)

/-- The spans that are not left behind. -/
def dropR (lo : Int) (B : Rg) : Rg := B.dropWhile fun p => decide (p.2 < lo)

/-- What is left of some spans. -/
def cutR : Rg → Rg → Rg
  | [], _ => []
  | (lo, hi) :: A, B => cutS lo hi (dropR lo B) ++ cutR A (dropR lo B)

theorem cutS_in {M n : Int} : ∀ {B : Rg} {lo hi k : Int}, RiseR k M B → (∀ p ∈ B, lo ≤ p.2) → lo ≤ hi → (InR (cutS lo hi B) n ↔ (lo ≤ n ∧ n ≤ hi) ∧ ¬ InR B n)
  | [], lo, hi, k, _, _, hl => by simp [cutS, InR]
  | (g, h) :: B, lo, hi, k, hr, hp, hl => by
    obtain ⟨h1, h2, h3, h4⟩ := hr
    have hB : ∀ x, InR B x → h + 2 ≤ x := fun x hx => (h4.bounds hx).1
    have hlh : lo ≤ h := hp _ List.mem_cons_self
    unfold cutS
    by_cases hg : hi < g
    · rw [if_pos hg]
      simp only [InR, or_false]
      constructor
      · intro hn
        refine ⟨hn, ?_⟩
        rintro (hx | hx)
        · omega
        · have := hB n hx; omega
      · exact fun hn => hn.1
    · rw [if_neg hg, InR.append]
      have ih : ¬ hi ≤ h → (InR (cutS (h + 1) hi B) n ↔ (h + 1 ≤ n ∧ n ≤ hi) ∧ ¬ InR B n) := fun hh =>
        cutS_in (k := h + 2) h4 (fun p hq => by
          have : ∀ {C : Rg} {j : Int}, RiseR j M C → p ∈ C → j ≤ p.2 := by
            intro C
            induction C with
            | nil => intro j _ hq; cases hq
            | cons q C ihc =>
              intro j hr hq
              obtain ⟨a, b⟩ := q
              obtain ⟨r1, r2, r3, r4⟩ := hr
              rcases List.mem_cons.1 hq with rfl | hq
              · show j ≤ b; omega
              · have := ihc r4 hq; omega
          have := this h4 hq; omega) (by omega)
      have hin : InR (if lo < g then [(lo, g - 1)] else []) n ↔ lo ≤ n ∧ n < g := by
        split
        · simp only [InR, or_false]; omega
        · simp only [InR, false_iff]; omega
      rw [hin]
      by_cases hh : hi ≤ h
      · rw [if_pos hh]
        simp only [InR, or_false]
        constructor
        · intro hn
          refine ⟨by omega, ?_⟩
          rintro (hx | hx)
          · omega
          · have := hB n hx; omega
        · rintro ⟨hn, hx⟩
          have : ¬ (g ≤ n ∧ n ≤ h) := fun hy => hx (Or.inl hy)
          omega
      · rw [if_neg hh, ih hh]
        simp only [InR]
        constructor
        · rintro (hn | ⟨hn, hx⟩)
          · refine ⟨by omega, ?_⟩
            rintro (hx | hx)
            · omega
            · have := hB n hx; omega
          · refine ⟨by omega, ?_⟩
            rintro (hy | hy)
            · omega
            · exact hx hy
        · rintro ⟨hn, hx⟩
          have h5 : ¬ (g ≤ n ∧ n ≤ h) := fun hy => hx (Or.inl hy)
          have h6 : ¬ InR B n := fun hy => hx (Or.inr hy)
          by_cases hb : n < g
          · exact Or.inl (by omega)
          · exact Or.inr ⟨by omega, h6⟩

theorem RiseR.mem {M : Int} {p : Int × Int} : ∀ {C : Rg} {j : Int}, RiseR j M C → p ∈ C → j ≤ p.1 ∧ p.1 ≤ p.2 ∧ p.2 ≤ M
  | [], _, _, hq => by cases hq
  | (a, b) :: C, j, hr, hq => by
    obtain ⟨r1, r2, r3, r4⟩ := hr
    rcases List.mem_cons.1 hq with rfl | hq
    · exact ⟨r1, r2, r3⟩
    · have := RiseR.mem r4 hq; omega

theorem cutS_rise {M : Int} : ∀ {B : Rg} {lo hi k : Int}, RiseR k M B → (∀ p ∈ B, lo ≤ p.2) → lo ≤ hi → RiseR lo hi (cutS lo hi B)
  | [], lo, hi, k, _, _, hl => ⟨Int.le_refl _, hl, Int.le_refl _, trivial⟩
  | (g, h) :: B, lo, hi, k, hr, hp, hl => by
    obtain ⟨h1, h2, h3, h4⟩ := hr
    have hlh : lo ≤ h := hp _ List.mem_cons_self
    unfold cutS
    by_cases hg : hi < g
    · rw [if_pos hg]; exact ⟨Int.le_refl _, hl, Int.le_refl _, trivial⟩
    · rw [if_neg hg]
      have hrest : RiseR (h + 1) hi (if hi ≤ h then [] else cutS (h + 1) hi B) := by
        split
        · trivial
        · exact cutS_rise (k := h + 2) h4 (fun p hq => by have := h4.mem hq; omega) (by omega)
      by_cases hlg : lo < g
      · rw [if_pos hlg]
        exact ⟨Int.le_refl _, by omega, by omega, hrest.weak (by omega)⟩
      · rw [if_neg hlg]
        exact hrest.weak (by omega)

theorem drop_in {n lo : Int} (hn : lo ≤ n) : ∀ {B : Rg}, InR (dropR lo B) n ↔ InR B n
  | [] => Iff.rfl
  | (g, h) :: B => by
    unfold dropR
    rw [List.dropWhile_cons]
    by_cases hh : h < lo
    · rw [if_pos (by simpa using hh)]
      show InR (dropR lo B) n ↔ _
      rw [drop_in hn]
      simp only [InR]
      constructor
      · exact Or.inr
      · rintro (hx | hx)
        · omega
        · exact hx
    · rw [if_neg (by simpa using hh)]

theorem drop_rise {lo M : Int} : ∀ {B : Rg} {k : Int}, RiseR k M B → RiseR k M (dropR lo B)
  | [], _, _ => trivial
  | (g, h) :: B, k, hr => by
    unfold dropR
    rw [List.dropWhile_cons]
    obtain ⟨h1, h2, h3, h4⟩ := hr
    by_cases hh : h < lo
    · rw [if_pos (by simpa using hh)]
      exact (drop_rise h4).weak (by omega)
    · rw [if_neg (by simpa using hh)]; exact ⟨h1, h2, h3, h4⟩

theorem drop_lo {lo M : Int} : ∀ {B : Rg} {k : Int}, RiseR k M B → ∀ p ∈ dropR lo B, lo ≤ p.2
  | [], _, _, p, hp => by simp [dropR] at hp
  | (g, h) :: B, k, hr, p, hp => by
    unfold dropR at hp
    rw [List.dropWhile_cons] at hp
    obtain ⟨h1, h2, h3, h4⟩ := hr
    by_cases hh : h < lo
    · rw [if_pos (by simpa using hh)] at hp
      exact drop_lo h4 p hp
    · rw [if_neg (by simpa using hh)] at hp
      rcases List.mem_cons.1 hp with rfl | hp
      · show lo ≤ h; omega
      · have := h4.mem hp; omega

theorem cutR_rise {M N : Int} : ∀ {A B : Rg} {k j : Int}, RiseR k M A → RiseR j N B → RiseR k M (cutR A B)
  | [], _, _, _, _, _ => trivial
  | (lo, hi) :: A, B, k, j, ha, hb => by
    obtain ⟨h1, h2, h3, h4⟩ := ha
    unfold cutR
    exact RiseR.weak (RiseR.append (cutS_rise (drop_rise hb) (drop_lo hb) h2) (cutR_rise h4 (drop_rise hb)) h3 (by omega)) h1

theorem cutR_in {M N n : Int} : ∀ {A B : Rg} {k j : Int}, RiseR k M A → RiseR j N B → (InR (cutR A B) n ↔ InR A n ∧ ¬ InR B n)
  | [], _, _, _, _, _ => by simp [cutR, InR]
  | (lo, hi) :: A, B, k, j, ha, hb => by
    obtain ⟨h1, h2, h3, h4⟩ := ha
    unfold cutR
    rw [InR.append, cutS_in (drop_rise hb) (drop_lo hb) h2, cutR_in h4 (drop_rise hb)]
    simp only [InR]
    by_cases hn : lo ≤ n
    · rw [drop_in hn]
      constructor
      · rintro (⟨x, y⟩ | ⟨x, y⟩)
        · exact ⟨Or.inl x, y⟩
        · exact ⟨Or.inr x, y⟩
      · rintro ⟨x | x, y⟩
        · exact Or.inl ⟨x, y⟩
        · exact Or.inr ⟨x, y⟩
    · constructor
      · rintro (⟨x, y⟩ | ⟨x, y⟩)
        · omega
        · have := h4.bounds x; omega
      · rintro ⟨x | x, y⟩
        · omega
        · have := h4.bounds x; omega

/-- A list is told by its members. -/
theorem rise_one {M N : Int} : ∀ {A B : Rg} {k j : Int}, RiseR k M A → RiseR j N B → (∀ n, InR A n ↔ InR B n) → A = B
  | [], [], _, _, _, _, _ => rfl
  | [], (g, h) :: B, _, _, _, hb, he => by
    have := (he g).2 (Or.inl ⟨Int.le_refl _, hb.2.1⟩)
    exact this.elim
  | (g, h) :: A, [], _, _, ha, _, he => by
    have := (he g).1 (Or.inl ⟨Int.le_refl _, ha.2.1⟩)
    exact this.elim
  | (g, h) :: A, (g', h') :: B, k, j, ha, hb, he => by
    obtain ⟨a1, a2, a3, a4⟩ := ha
    obtain ⟨b1, b2, b3, b4⟩ := hb
    have hA : ∀ x, InR A x → h + 2 ≤ x := fun x hx => (a4.bounds hx).1
    have hB : ∀ x, InR B x → h' + 2 ≤ x := fun x hx => (b4.bounds hx).1
    have e1 : g = g' := by
      have x1 := (he g).1 (Or.inl ⟨Int.le_refl _, a2⟩)
      have x2 := (he g').2 (Or.inl ⟨Int.le_refl _, b2⟩)
      rcases x1 with x1 | x1 <;> rcases x2 with x2 | x2
      · omega
      · have := hA _ x2; omega
      · have := hB _ x1; omega
      · have := hA _ x2; have := hB _ x1; omega
    subst e1
    have e2 : h = h' := by
      rcases Int.lt_trichotomy h h' with hh | hh | hh
      · have x := (he (h + 1)).2 (Or.inl ⟨by omega, by omega⟩)
        rcases x with x | x
        · omega
        · have := hA _ x; omega
      · exact hh
      · have x := (he (h' + 1)).1 (Or.inl ⟨by omega, by omega⟩)
        rcases x with x | x
        · omega
        · have := hB _ x; omega
    subst e2
    have e3 : A = B := rise_one a4 b4 fun n => by
      constructor
      · intro hn
        rcases (he n).1 (Or.inr hn) with x | x
        · have := hA _ hn; omega
        · exact x
      · intro hn
        rcases (he n).2 (Or.inr hn) with x | x
        · have := hB _ hn; omega
        · exact x
    rw [e3]

theorem tw_no {g h hi : Int} {B : Rg} (hh : hi ≤ h) : (((g, h) :: B).takeWhile fun p => decide (p.2 < hi)) = [] := by
  rw [List.takeWhile_cons]; simp [Int.not_lt.2 hh]
theorem tw_yes {g h hi : Int} {B : Rg} (hh : h < hi) : (((g, h) :: B).takeWhile fun p => decide (p.2 < hi)) = (g, h) :: B.takeWhile fun p => decide (p.2 < hi) := by
  rw [List.takeWhile_cons]; simp [hh]
theorem dw_no {g h lo : Int} {B : Rg} (hh : lo ≤ h) : dropR lo ((g, h) :: B) = (g, h) :: B := by
  unfold dropR; rw [List.dropWhile_cons]; simp [Int.not_lt.2 hh]
theorem dw_yes {g h lo : Int} {B : Rg} (hh : h < lo) : dropR lo ((g, h) :: B) = dropR lo B := by
  unfold dropR; rw [List.dropWhile_cons]; simp [hh]
theorem drop_len {lo : Int} {B : Rg} : (dropR lo B).length ≤ B.length := (List.dropWhile_sublist _).length_le

theorem cutS_len : ∀ {B : Rg} {lo hi : Int}, (cutS lo hi B).length ≤ 1 + (B.takeWhile fun p => decide (p.2 < hi)).length
  | [], lo, hi => by simp [cutS]
  | (g, h) :: B, lo, hi => by
    unfold cutS
    by_cases hg : hi < g
    · rw [if_pos hg]; simp
    · rw [if_neg hg, List.length_append]
      have hone : (if lo < g then [(lo, g - 1)] else ([] : Rg)).length ≤ 1 := by split <;> simp
      by_cases hh : hi ≤ h
      · rw [if_pos hh, tw_no hh]
        simp only [List.length_nil]; omega
      · rw [if_neg hh, tw_yes (by omega)]
        have := cutS_len (B := B) (lo := h + 1) (hi := hi)
        simp only [List.length_cons]
        omega

theorem drop_take {lo hi : Int} (h : hi ≤ lo) : ∀ {B : Rg}, (dropR lo B).length + (B.takeWhile fun p => decide (p.2 < hi)).length ≤ B.length
  | [] => by simp [dropR]
  | (a, b) :: B => by
    by_cases hb : b < hi
    · rw [dw_yes (by omega), tw_yes hb]
      have := drop_take h (B := B)
      simp only [List.length_cons]; omega
    · rw [tw_no (by omega)]
      have := drop_len (lo := lo) (B := (a, b) :: B)
      simpa using this

theorem cutR_len' {M : Int} : ∀ {A B : Rg} {lo hi k : Int}, RiseR k M ((lo, hi) :: A) → (cutR ((lo, hi) :: A) B).length ≤ A.length + 1 + (dropR lo B).length
  | [], B, lo, hi, k, _ => by
    unfold cutR
    rw [List.length_append]
    have h1 := cutS_len (B := dropR lo B) (lo := lo) (hi := hi)
    have h2 := (List.takeWhile_sublist (l := dropR lo B) fun p => decide (p.2 < hi)).length_le
    simp only [cutR, List.length_nil]
    omega
  | (lo2, hi2) :: A, B, lo, hi, k, hr => by
    obtain ⟨h1, h2, h3, h4⟩ := hr
    have ih := cutR_len' (A := A) (B := dropR lo B) (lo := lo2) (hi := hi2) h4
    have hl : hi ≤ lo2 := by have := h4.1; omega
    have h5 := drop_take hl (B := dropR lo B)
    have h6 := cutS_len (B := dropR lo B) (lo := lo) (hi := hi)
    rw [cutR, List.length_append]
    simp only [List.length_cons]
    omega

theorem cutR_len {M : Int} {A B : Rg} {k : Int} (h : RiseR k M A) : (cutR A B).length ≤ A.length + B.length := by
  cases A with
  | nil => simp [cutR]
  | cons p A =>
    obtain ⟨lo, hi⟩ := p
    have h1 := cutR_len' (B := B) h
    have h2 := drop_len (lo := lo) (B := B)
    simp only [List.length_cons]
    omega

/-- The range of all. -/
def allR : Rg := [(0, 999999999)]
def meetR (A B : Rg) : Rg := cutR A (cutR A B)
def joinR (A B : Rg) : Rg := cutR allR (cutR (cutR allR A) B)

/-- A range, however long. -/
def RangeR (A : Rg) : Prop := RiseR 0 999999999 A

theorem allR_ok : RangeR allR := ⟨by decide, by decide, by decide, trivial⟩
theorem allR_in {n : Int} : InR allR n ↔ 0 ≤ n ∧ n ≤ 999999999 := by simp [allR, InR]
theorem RangeR.cut {A B : Rg} (ha : RangeR A) (hb : RangeR B) : RangeR (cutR A B) := cutR_rise ha hb
theorem RangeR.meet {A B : Rg} (ha : RangeR A) (hb : RangeR B) : RangeR (meetR A B) := ha.cut (ha.cut hb)
theorem RangeR.join {A B : Rg} (ha : RangeR A) (hb : RangeR B) : RangeR (joinR A B) := allR_ok.cut ((allR_ok.cut ha).cut hb)
theorem RangeR.in {A : Rg} (ha : RangeR A) {n : Int} (h : InR A n) : 0 ≤ n ∧ n ≤ 999999999 := RiseR.bounds ha h

theorem cut_in {A B : Rg} (ha : RangeR A) (hb : RangeR B) {n : Int} : InR (cutR A B) n ↔ InR A n ∧ ¬ InR B n := cutR_in ha hb
theorem meet_in {A B : Rg} (ha : RangeR A) (hb : RangeR B) {n : Int} : InR (meetR A B) n ↔ InR A n ∧ InR B n := by
  unfold meetR
  rw [cut_in ha (ha.cut hb), cut_in ha hb]
  constructor
  · rintro ⟨x, y⟩
    exact ⟨x, Classical.byContradiction fun z => y ⟨x, z⟩⟩
  · rintro ⟨x, y⟩
    exact ⟨x, fun z => z.2 y⟩
theorem join_in {A B : Rg} (ha : RangeR A) (hb : RangeR B) {n : Int} : InR (joinR A B) n ↔ InR A n ∨ InR B n := by
  unfold joinR
  rw [cut_in allR_ok ((allR_ok.cut ha).cut hb), cut_in (allR_ok.cut ha) hb, cut_in allR_ok ha, allR_in]
  constructor
  · rintro ⟨x, y⟩
    refine Classical.byContradiction fun z => y ⟨⟨x, fun q => z (Or.inl q)⟩, fun q => z (Or.inr q)⟩
  · rintro (x | x)
    · exact ⟨ha.in x, fun z => z.1.2 x⟩
    · exact ⟨hb.in x, fun z => z.2 x⟩

theorem range_one {A B : Rg} (ha : RangeR A) (hb : RangeR B) (h : ∀ n, InR A n ↔ InR B n) : A = B := rise_one ha hb h
theorem range_none {A : Rg} (ha : RangeR A) (h : ∀ n, ¬ InR A n) : A = [] := range_one (B := []) ha trivial fun n => ⟨fun x => (h n x).elim, fun x => x.elim⟩

theorem join_len {A B : Rg} (ha : RangeR A) : (joinR A B).length ≤ A.length + B.length + 2 := by
  unfold joinR
  have h1 := cutR_len (B := A) allR_ok
  have h2 := cutR_len (B := B) (allR_ok.cut ha)
  have h3 := cutR_len (B := cutR (cutR allR A) B) allR_ok
  simp only [allR, List.length_cons, List.length_nil] at h1 h2 h3 ⊢
  omega
end Go.Proofs.YtogpkhpephhbiaaGreatDoor
namespace Go.Proofs.YtogpkhpephhbiaaGreatDoor
open Go.RowKit
set_option maxRecDepth 100000

/-- The span from one place to another. -/
def spR (p : Int × Int) : Sp := ⟨atA p.1, atB p.1, atC p.1, atA p.2, atB p.2, atC p.2⟩
/-- A place that is one. -/
def okR (n : Int) : Prop := 0 ≤ n ∧ n ≤ 999999999
def okP2 (p : Int × Int) : Prop := okR p.1 ∧ okR p.2 ∧ p.1 ≤ p.2

theorem okR.has {n : Int} (h : okR n) : hasV n = true := by unfold hasV; simp; unfold okR at h; omega

/-- How two places compare. -/
theorem cmp_at {r s : Int} (hr : okR r) (hs : okR s) : (cmpV (atA r) (atB r) (atC r) (atA s) (atB s) (atC s) < 0 ↔ r < s) ∧ (0 < cmpV (atA r) (atB r) (atC r) (atA s) (atB s) (atC s) ↔ s < r) := by
  obtain ⟨m1, e1⟩ := may_at hr.has
  obtain ⟨m2, e2⟩ := may_at hs.has
  have h1 := cmp_rank m1 m2
  have h2 := cmp_rank m2 m1
  rw [e1, e2] at h1
  rw [e1, e2] at h2
  refine ⟨h1, ?_⟩
  rw [← h2, cmp_neg (atA s)]
  omega

theorem Compare_at {r s : Int} (hr : okR r) (hs : okR s) : ∃ q : Int, (q < 0 ↔ r < s) ∧ (0 < q ↔ s < r) ∧ ∀ w1, Calls Tryz.prog 115 #[.agg #[.int .i64 (atA r), .int .i64 (atB r), .int .i64 (atC r)], .agg #[.int .i64 (atA s), .int .i64 (atB s), .int .i64 (atC s)]] w1 fun e w' => e = .returned (.int .i64 q) ∧ Below w1.heap.size w1 w' :=
  ⟨_, (cmp_at hr hs).1, (cmp_at hr hs).2, Compare_any _ _ _ _ _ _⟩

theorem Next_at {r : Int} (h0 : 0 ≤ r) (h1 : r < 999999999) : ∀ w1, Calls Tryz.prog 116 #[.agg #[.int .i64 (atA r), .int .i64 (atB r), .int .i64 (atC r)]] w1 fun e w' => e = .returned (.tuple #[.agg #[.int .i64 (atA (r + 1)), .int .i64 (atB (r + 1)), .int .i64 (atC (r + 1))], .bool true]) ∧ Below w1.heap.size w1 w' := by
  obtain ⟨m, e⟩ := may_at (n := r) (okR.has ⟨h0, by omega⟩)
  have := Next_any (atA r) (atB r) (atC r)
  obtain ⟨e1, e2, e3⟩ := on_at (k := 1) m
  rw [e1, e2, e3, next_is m, e, decide_eq_true h1] at this
  exact this

/-- A range lies in memory, by its places. -/
def SpansR (w : World) (v : Value) (L : Rg) : Prop := ∃ ad cap, v = .slice ad L.length cap ∧ L.length ≤ cap ∧ (L = [] ∨ ∃ g o, ad = some ⟨g, o, none⟩ ∧ g < w.heap.size ∧ ∀ i (h : i < L.length), SpAt w g (o + i * 6) (spR L[i]))

theorem SpansR.below {w w' : World} {v : Value} {L : Rg} (h : SpansR w v L) (hb : Below w.heap.size w w') : SpansR w' v L := by
  obtain ⟨ad, cap, hv, hc, hl⟩ := h
  refine ⟨ad, cap, hv, hc, hl.imp id ?_⟩
  rintro ⟨g, o, ha, hg, hs⟩
  exact ⟨g, o, ha, Nat.lt_of_lt_of_le hg hb.size, fun i hi => (hs i hi).below hb hg⟩

/-- The same, of a world that is as another one in its old blocks. -/
theorem SpansR.since {w w' : World} {v : Value} {L : Rg} {B : Nat} (h : SpansR w v L) (hB : w.heap.size ≤ B) (hb : Below B w w') : SpansR w' v L := h.below (hb.mono hB)

theorem SpansR.tail {w : World} {g o cap : Nat} {p : Int × Int} {B : Rg} (h : SpansR w (.slice (some ⟨g, o, none⟩) (p :: B).length cap) (p :: B)) : SpansR w (.slice (if cap = 1 then some ⟨g, o, none⟩ else some ⟨g, o + 6, none⟩) B.length (cap - 1)) B := by
  obtain ⟨ad, cap', hv, hc, hl⟩ := h
  cases hv
  rcases hl with hl | ⟨g', o', hq, hg, hs⟩
  · cases hl
  cases hq
  simp only [List.length_cons] at hc
  refine ⟨_, _, rfl, by omega, ?_⟩
  by_cases h1 : cap = 1
  · left
    exact List.eq_nil_of_length_eq_zero (by omega)
  · right
    refine ⟨g, o + 6, by rw [if_neg h1], hg, fun i hi => ?_⟩
    have := hs (i + 1) (by simp; omega)
    simp only [List.getElem_cons_succ] at this
    have e : o + (i + 1) * 6 = o + 6 + i * 6 := by omega
    rw [e] at this
    exact this

/-- A span's variable that may be written. -/
def Bx6F (w : World) (N : Nat) (a b c x y z : Int) : Prop := Bx6 w N a b c x y z ∧ w.frozen? ⟨N, 0, none⟩ = false ∧ w.frozen? ⟨N, 1, none⟩ = false ∧ w.frozen? ⟨N, 2, none⟩ = false

theorem Bx6F.new {w : World} {N : Nat} (hN : w.heap.size = N) (a b c x y z : Int) : Bx6F (w.alloc (.cells #[.int .i64 a, .int .i64 b, .int .i64 c, .int .i64 x, .int .i64 y, .int .i64 z] 148)) N a b c x y z := by
  refine ⟨Bx6.new hN _ _ _ _ _ _, ?_⟩
  subst hN
  refine ⟨?_, ?_, ?_⟩ <;> simp
theorem Bx6F.below {w w' : World} {N : Nat} {a b c x y z : Int} (h : Bx6F w N a b c x y z) (hb : Below w.heap.size w w') : Bx6F w' N a b c x y z := by
  obtain ⟨h0, h1, h2, h3⟩ := h
  have hl := h0.2.2.2.2.2.2
  exact ⟨h0.below hb, (hb.frozen (p := ⟨N, 0, none⟩) hl).trans h1, (hb.frozen (p := ⟨N, 1, none⟩) hl).trans h2, (hb.frozen (p := ⟨N, 2, none⟩) hl).trans h3⟩
theorem keep6F (N : Nat) (a b c x y z : Int) : KeepP fun w1 => Bx6F w1 N a b c x y z := fun _ _ h hb => h.below hb

theorem Bx6F.put {w : World} {N : Nat} {a b c x y z : Int} (h : Bx6F w N a b c x y z) (p q r : Int) : Bx6F (((w.setCell ⟨N, 0, none⟩ (.int .i64 p)).setCell ⟨N, 1, none⟩ (.int .i64 q)).setCell ⟨N, 2, none⟩ (.int .i64 r)) N p q r x y z := by
  obtain ⟨⟨h0, h1, h2, h3, h4, h5, h6⟩, f0, f1, f2⟩ := h
  have k1 : ∀ u, (w.setCell ⟨N, 0, none⟩ u).cell? ⟨N, 1, none⟩ = some (.int .i64 b) := fun u => (World.cell?_setCell_other _ _ _ _ (by simp)).trans h1
  have k2 : ∀ u v, ((w.setCell ⟨N, 0, none⟩ u).setCell ⟨N, 1, none⟩ v).cell? ⟨N, 2, none⟩ = some (.int .i64 c) := fun u v => (World.cell?_setCell_other _ _ _ _ (by simp)).trans ((World.cell?_setCell_other _ _ _ _ (by simp)).trans h2)
  have far : ∀ i, 2 < i → (((w.setCell ⟨N, 0, none⟩ (.int .i64 p)).setCell ⟨N, 1, none⟩ (.int .i64 q)).setCell ⟨N, 2, none⟩ (.int .i64 r)).cell? ⟨N, i, none⟩ = w.cell? ⟨N, i, none⟩ := fun i hi => by
    rw [World.cell?_setCell_other _ _ _ _ (fun e => by cases e; omega), World.cell?_setCell_other _ _ _ _ (fun e => by cases e; omega), World.cell?_setCell_other _ _ _ _ (fun e => by cases e; omega)]
  refine ⟨⟨?_, ?_, ?_, ?_, ?_, ?_, by simpa using h6⟩, ?_, ?_, ?_⟩
  · rw [World.cell?_setCell_other _ _ _ _ (by simp), World.cell?_setCell_other _ _ _ _ (by simp)]; exact World.cell?_setCell_same _ _ _ h0
  · rw [World.cell?_setCell_other _ _ _ _ (by simp)]; exact World.cell?_setCell_same _ _ _ (k1 _)
  · exact World.cell?_setCell_same _ _ _ (k2 _ _)
  · rw [far 3 (by omega)]; exact h3
  · rw [far 4 (by omega)]; exact h4
  · rw [far 5 (by omega)]; exact h5
  · rw [World.frozen?_setCell, World.frozen?_setCell, World.frozen?_setCell]; exact f0
  · rw [World.frozen?_setCell, World.frozen?_setCell, World.frozen?_setCell]; exact f1
  · rw [World.frozen?_setCell, World.frozen?_setCell, World.frozen?_setCell]; exact f2

/-- The cells of spans. -/
def spCells (L : List Sp) : List Value := L.flatMap fun s => [.int .i64 s.a, .int .i64 s.b, .int .i64 s.c, .int .i64 s.x, .int .i64 s.y, .int .i64 s.z]
theorem spCells_snoc (L : List Sp) (s : Sp) : spCells (L ++ [s]) = spCells L ++ [.int .i64 s.a, .int .i64 s.b, .int .i64 s.c, .int .i64 s.x, .int .i64 s.y, .int .i64 s.z] := by simp [spCells]
theorem spCells_length (L : List Sp) : (spCells L).length = L.length * 6 := by
  induction L with
  | nil => rfl
  | cons r L ih => unfold spCells at *; simp only [List.flatMap_cons, List.length_append, List.length_cons, List.length_nil, ih]; omega

/-- A row of spans of one's own. -/
def OwnS (w : World) (B : Nat) (v : Value) (L : List Sp) : Prop := w.ownsRow B 148 6 v L.length (spCells L)

theorem OwnS.nil (w : World) (B : Nat) : OwnS w B (.slice none 0 0) [] := ⟨rfl, Or.inl ⟨rfl, rfl⟩⟩

theorem OwnS.lt {w : World} {B : Nat} {v : Value} {L : List Sp} (h : OwnS w B v L) {g : Nat} (hg : v.ownBlock = some g) : g < w.heap.size ∧ B ≤ g := by
  rcases h.2 with ⟨rfl, _⟩ | ⟨g', cap, cur, rfl, hB, hgg, _⟩
  · cases hg
  · cases hg
    exact ⟨by rw [Array.getElem?_eq_some_iff] at hgg; exact hgg.1, hB⟩

theorem OwnS.of_block {w w' : World} {B : Nat} {v : Value} {L : List Sp} (h : OwnS w B v L) (hk : ∀ g, v.ownBlock = some g → w'.heap[g]? = w.heap[g]?) : OwnS w' B v L := by
  refine ⟨h.1, ?_⟩
  rcases h.2 with hn | ⟨g, cap, cur, rfl, hB, hgg, r⟩
  · exact Or.inl hn
  · exact Or.inr ⟨g, cap, cur, rfl, hB, (hk g rfl).trans hgg, r⟩

theorem OwnS.below {w w' : World} {B : Nat} {v : Value} {L : List Sp} (h : OwnS w B v L) (hb : Below w.heap.size w w') : OwnS w' B v L := h.of_block fun g hg => hb.block g (h.lt hg).1
theorem keepOwn (B : Nat) (v : Value) (L : List Sp) : KeepP fun w1 => OwnS w1 B v L := fun _ _ h hb => h.below hb

theorem OwnS.set {w : World} {B N : Nat} {v : Value} {L : List Sp} (h : OwnS w B v L) (hN : v.ownBlock ≠ some N) (i : Nat) (u : Value) : OwnS (w.setCell ⟨N, i, none⟩ u) B v L := h.of_block fun g hg => by
  have hne : N ≠ g := fun e => hN (by rw [e]; exact hg)
  exact Below.heap_setCell _ _ _ _ (Ne.symm hne)

/-- What a row's growing leaves of a span's variable. -/
theorem Bx6F.grown {w w' : World} {N : Nat} {a b c x y z : Int} {row : Option Nat} (h : Bx6F w N a b c x y z) (hg : w.grownBy w' row) (hN : row ≠ some N) : Bx6F w' N a b c x y z := by
  obtain ⟨⟨h0, h1, h2, h3, h4, h5, h6⟩, f0, f1, f2⟩ := h
  have hbl := hg.block N h6 (fun e => hN e.symm)
  have q : ∀ i, w'.cell? ⟨N, i, none⟩ = w.cell? ⟨N, i, none⟩ := fun i => World.cell?_of_block (w := w) hbl
  have r : ∀ i, w'.frozen? ⟨N, i, none⟩ = w.frozen? ⟨N, i, none⟩ := fun i => World.frozen?_of_block (w := w) hbl
  exact ⟨⟨by rw [q]; exact h0, by rw [q]; exact h1, by rw [q]; exact h2, by rw [q]; exact h3, by rw [q]; exact h4, by rw [q]; exact h5, Nat.lt_of_lt_of_le h6 hg.size⟩, by rw [r]; exact f0, by rw [r]; exact f1, by rw [r]; exact f2⟩
theorem Bx6.grown {w w' : World} {N : Nat} {a b c x y z : Int} {row : Option Nat} (h : Bx6 w N a b c x y z) (hg : w.grownBy w' row) (hN : row ≠ some N) : Bx6 w' N a b c x y z := by
  obtain ⟨h0, h1, h2, h3, h4, h5, h6⟩ := h
  have hbl := hg.block N h6 (fun e => hN e.symm)
  have q : ∀ i, w'.cell? ⟨N, i, none⟩ = w.cell? ⟨N, i, none⟩ := fun i => World.cell?_of_block (w := w) hbl
  exact ⟨by rw [q]; exact h0, by rw [q]; exact h1, by rw [q]; exact h2, by rw [q]; exact h3, by rw [q]; exact h4, by rw [q]; exact h5, Nat.lt_of_lt_of_le h6 hg.size⟩
end Go.Proofs.YtogpkhpephhbiaaGreatDoor
namespace Go.Proofs.YtogpkhpephhbiaaGreatDoor
open Go.RowKit
set_option maxRecDepth 100000

def sliceLen : Value → Nat
  | .slice _ n _ => n
  | _ => 0

theorem infoSpan : (Tryz.prog.info? 148).map (fun i => (i.zero, i.size, i.bytes)) = some (some (.agg #[.int .i64 0, .int .i64 0, .int .i64 0, .int .i64 0, .int .i64 0, .int .i64 0]), 6, 48) := by kernel_rfl

/-- The end of a list's first span lies there. -/
def Hi3 (w : World) (g o : Nat) (h : Int) : Prop := w.cell? ⟨g, o + 3, none⟩ = some (.int .i64 (atA h)) ∧ w.cell? ⟨g, o + 4, none⟩ = some (.int .i64 (atB h)) ∧ w.cell? ⟨g, o + 5, none⟩ = some (.int .i64 (atC h)) ∧ g < w.heap.size
theorem keepHi (g o : Nat) (h : Int) : KeepP fun w1 => Hi3 w1 g o h := fun _ _ hh hb =>
  ⟨(hb.cell (p := ⟨g, o + 3, none⟩) hh.2.2.2).trans hh.1, (hb.cell (p := ⟨g, o + 4, none⟩) hh.2.2.2).trans hh.2.1, (hb.cell (p := ⟨g, o + 5, none⟩) hh.2.2.2).trans hh.2.2.1, Nat.lt_of_lt_of_le hh.2.2.2 hb.size⟩
theorem Hi3.of {w : World} {g o : Nat} {p : Int × Int} (h : SpAt w g (o + 0 * 6) (spR p)) (hg : g < w.heap.size) : Hi3 w g o p.2 := by
  obtain ⟨_, _, _, h3, h4, h5⟩ := h.first
  exact ⟨h3, h4, h5, hg⟩

theorem size1 (w : World) (o : Obj) : (w.alloc o).heap.size = w.heap.size + 1 := by simp

/-- A span is put behind a row. -/
theorem wp_app {w wx : World} {uo : Value} {o1 : Rg} {N : Nat} {a b c x y z : Int} {ops : Array Oper} {rest : List Oper} {o : Oper} {f : Act} {Q : Exit → Act → World → Prop} (hgd : o.guard = none) (s t : Operand)
    (ho : o.op = .call { callee := .builtin .append, args := #[s, t], argTypes := #[135, 135] }) (hs : f.eval s = uo) (p : Int × Int)
    (hK : Below w.heap.size w wx ∧ Bx6F wx N a b c x y z ∧ OwnS wx w.heap.size uo (o1.map spR)) {M : Nat} (hM : wx.heap.size = M) (hx : f.eval t = .slice (some ⟨M, 0, none⟩) 1 1) (hne : uo.ownBlock ≠ some N) (hlen : o1.length + 1 ≤ 1000000000000)
    (h : ∀ v1 w1, (Below w.heap.size w w1 ∧ Bx6F w1 N a b c x y z ∧ OwnS w1 w.heap.size v1 ((o1 ++ [p]).map spR)) → v1.ownBlock ≠ some N → (∀ M i j k l m n, uo.ownBlock ≠ some M → Bx6 wx M i j k l m n → Bx6 w1 M i j k l m n) → wpList Tryz.prog ops Q rest (f.put o.dst v1) w1) :
    wpList Tryz.prog ops Q (o :: rest) f (wx.alloc (.cells #[.int .i64 (atA p.1), .int .i64 (atB p.1), .int .i64 (atC p.1), .int .i64 (atA p.2), .int .i64 (atB p.2), .int .i64 (atC p.2)] 148)) := by
  subst hM
  obtain ⟨i0, hi, hz0, hz1, hz2⟩ : ∃ i, Tryz.prog.info? 148 = some i ∧ i.zero = some (.agg #[.int .i64 0, .int .i64 0, .int .i64 0, .int .i64 0, .int .i64 0, .int .i64 0]) ∧ i.size = 6 ∧ i.bytes = 48 := by
    have := infoSpan
    cases hq : Tryz.prog.info? 148 with
    | none => rw [hq] at this; cases this
    | some i =>
      rw [hq] at this
      simp only [Option.map_some, Option.some.injEq, Prod.mk.injEq] at this
      exact ⟨i, rfl, this.1, this.2.1, this.2.2⟩
  have hob : OwnS (wx.alloc (.cells #[.int .i64 (atA p.1), .int .i64 (atB p.1), .int .i64 (atC p.1), .int .i64 (atA p.2), .int .i64 (atB p.2), .int .i64 (atC p.2)] 148)) w.heap.size uo (o1.map spR) := hK.2.2.below (boxB _ _)
  have hsz : (wx.alloc (.cells #[.int .i64 (atA p.1), .int .i64 (atB p.1), .int .i64 (atC p.1), .int .i64 (atA p.2), .int .i64 (atB p.2), .int .i64 (atC p.2)] 148)).heap.size = wx.heap.size + 1 := by simp
  have hwx := hK.1.size
  refine wpList_append_own_at _ hgd s t 135 ho w.heap.size 148 i0 _ 6 48 Tryz.underlying135 hi hz0 hz1 hz2 rfl (by decide) uo _ _ hs hob ⟨wx.heap.size, 0, none⟩ 1 1 [.int .i64 (atA p.1), .int .i64 (atB p.1), .int .i64 (atC p.1), .int .i64 (atA p.2), .int .i64 (atB p.2), .int .i64 (atC p.2)] hx rfl
    (World.news_of_block (cs := #[.int .i64 (atA p.1), .int .i64 (atB p.1), .int .i64 (atC p.1), .int .i64 (atA p.2), .int .i64 (atB p.2), .int .i64 (atC p.2)]) (t := 148) (fr := (0, 0)) (by show (wx.heap.push _)[wx.heap.size]? = _; rw [Array.getElem?_push, if_pos rfl])) (by simp [Value.oneCell']) (by unfold maxLen; rw [List.length_map]; omega) (by rw [List.length_map]; omega) (by omega) ?_
  intro v1 w1 hown1 hg1 _ hat
  have hbw : Below w.heap.size w w1 := (below_then hK.1 (boxB _ _)).grown hg1 (by omega) (fun k hk => (hK.2.2.lt hk).2)
  refine h v1 w1 ⟨hbw, (hK.2.1.below (boxB _ _)).grown hg1 hne, ?_⟩ ?_ ?_
  · unfold OwnS
    rw [List.map_append, List.map_singleton, spCells_snoc, List.length_append]
    exact hown1
  · rcases hat with e | e
    · rw [e]; exact hne
    · rw [e, hsz]
      intro e2
      have h6 := hK.2.1.1.2.2.2.2.2.2
      have := Option.some.inj e2
      omega
  · intro M i j k l m n hM hbx
    exact (hbx.below (boxB _ _)).grown hg1 hM

end Go.Proofs.YtogpkhpephhbiaaGreatDoor
namespace Go.Proofs.YtogpkhpephhbiaaGreatDoor
open Go.RowKit
set_option maxRecDepth 100000

theorem RiseR.len {M : Int} : ∀ {B : Rg} {k : Int}, RiseR k M B → B = [] ∨ 2 * (B.length : Int) + k ≤ M + 2
  | [], _, _ => Or.inl rfl
  | (g, h) :: B, k, hr => by
    obtain ⟨h1, h2, h3, h4⟩ := hr
    right
    rcases RiseR.len h4 with rfl | h5
    · simp; omega
    · simp only [List.length_cons]; omega
theorem RangeR.len {B : Rg} (h : RangeR B) : B.length ≤ 500000001 := by
  rcases RiseR.len h with rfl | h1
  · simp
  · omega
theorem RangeR.ok {B : Rg} (h : RangeR B) : ∀ p ∈ B, okP2 p := fun p hp => by
  have := RiseR.mem h hp
  unfold okP2 okR; omega

theorem spCells_at : ∀ (L : List Sp) (i : Nat) (h : i < L.length), (spCells L)[i * 6]? = some (.int .i64 L[i].a) ∧ (spCells L)[i * 6 + 1]? = some (.int .i64 L[i].b) ∧ (spCells L)[i * 6 + 1 + 1]? = some (.int .i64 L[i].c) ∧
    (spCells L)[i * 6 + 1 + 1 + 1]? = some (.int .i64 L[i].x) ∧ (spCells L)[i * 6 + 1 + 1 + 1 + 1]? = some (.int .i64 L[i].y) ∧ (spCells L)[i * 6 + 1 + 1 + 1 + 1 + 1]? = some (.int .i64 L[i].z)
  | [], i, h => by simp at h
  | s :: L, 0, _ => by simp [spCells]
  | s :: L, i + 1, h => by
    have ih := spCells_at L i (by simpa using h)
    have e : (i + 1) * 6 = i * 6 + 6 := by omega
    have q : ∀ j, (spCells (s :: L))[i * 6 + 6 + j]? = (spCells L)[i * 6 + j]? := fun j => by
      have : i * 6 + 6 + j = (i * 6 + j) + 6 := by omega
      rw [this]; simp [spCells]
    have q0 := q 0
    have q1 := q 1
    have q2 := q 2
    have q3 := q 3
    have q4 := q 4
    have q5 := q 5
    simp only [Nat.add_zero] at q0
    rw [e]
    simp only [List.getElem_cons_succ]
    exact ⟨q0.trans ih.1, q1.trans ih.2.1, q2.trans ih.2.2.1, q3.trans ih.2.2.2.1, q4.trans ih.2.2.2.2.1, q5.trans ih.2.2.2.2.2⟩

theorem OwnS.base {w : World} {B C : Nat} {v : Value} {L : List Sp} (h : OwnS w B v L) (hc : C ≤ B) : OwnS w C v L := by
  refine ⟨h.1, ?_⟩
  rcases h.2 with hn | ⟨g, cap, cur, hv, hB, r⟩
  · exact Or.inl hn
  · exact Or.inr ⟨g, cap, cur, hv, Nat.le_trans hc hB, r⟩

theorem OwnS.sp {w : World} {B : Nat} {v : Value} {L : List Sp} (h : OwnS w B v L) : ∃ ad cap, v = .slice ad L.length cap ∧ L.length ≤ cap ∧ (L = [] ∨ ∃ g o, ad = some ⟨g, o, none⟩ ∧ g < w.heap.size ∧ ∀ i (h : i < L.length), SpAt w g (o + i * 6) L[i]) := by
  rcases h.2 with ⟨rfl, hn⟩ | ⟨g, cap, cur, rfl, hB, hgg, hc, hm, hs, hx⟩
  · have : L = [] := List.eq_nil_of_length_eq_zero hn
    subst this
    exact ⟨none, 0, rfl, Nat.le_refl _, Or.inl rfl⟩
  · refine ⟨_, _, rfl, hc, Or.inr ⟨g, 0, rfl, ?_, fun i hi => ?_⟩⟩
    · rw [Array.getElem?_eq_some_iff] at hgg; exact hgg.1
    · have q : ∀ j v, (spCells L)[j]? = some v → w.cell? ⟨g, 0 + j, none⟩ = some v := fun j v hj => by
        rw [← hx, List.getElem?_take] at hj
        split at hj
        · rw [Nat.zero_add]
          simp [World.cell?, hgg]
          simpa using hj
        · cases hj
      obtain ⟨s0, s1, s2, s3, s4, s5⟩ := spCells_at L i hi
      exact ⟨q _ _ s0, q _ _ s1, q _ _ s2, q _ _ s3, q _ _ s4, q _ _ s5⟩

theorem OwnS.spans {w : World} {B : Nat} {v : Value} {L : Rg} (h : OwnS w B v (L.map spR)) : SpansR w v L := by
  obtain ⟨ad, cap, hv, hc, hl⟩ := h.sp
  simp only [List.length_map] at hv hc hl
  refine ⟨ad, cap, hv, hc, ?_⟩
  rcases hl with hl | ⟨g, o, ha, hg, hs⟩
  · left; simpa using hl
  · right
    refine ⟨g, o, ha, hg, fun i hi => ?_⟩
    have := hs i hi
    rw [List.getElem_map] at this
    exact this

/-- The first and the last version lie in their variables. -/
def FL (w : World) : Prop := (w.cell? ⟨3, 0, none⟩ = some (.int .i64 0) ∧ w.cell? ⟨3, 1, none⟩ = some (.int .i64 0) ∧ w.cell? ⟨3, 2, none⟩ = some (.int .i64 0)) ∧
  (w.cell? ⟨4, 0, none⟩ = some (.int .i64 999) ∧ w.cell? ⟨4, 1, none⟩ = some (.int .i64 999) ∧ w.cell? ⟨4, 2, none⟩ = some (.int .i64 999)) ∧ 3 < w.heap.size ∧ 4 < w.heap.size
theorem FL.below {w w' : World} (h : FL w) (hb : Below w.heap.size w w') : FL w' := by
  obtain ⟨⟨h0, h1, h2⟩, ⟨h3, h4, h5⟩, h6, h7⟩ := h
  have q : ∀ i, w'.cell? ⟨3, i, none⟩ = w.cell? ⟨3, i, none⟩ := fun i => hb.cell (p := ⟨3, i, none⟩) h6
  have r : ∀ i, w'.cell? ⟨4, i, none⟩ = w.cell? ⟨4, i, none⟩ := fun i => hb.cell (p := ⟨4, i, none⟩) h7
  exact ⟨⟨by rw [q]; exact h0, by rw [q]; exact h1, by rw [q]; exact h2⟩, ⟨by rw [r]; exact h3, by rw [r]; exact h4, by rw [r]; exact h5⟩, Nat.lt_of_lt_of_le h6 hb.size, Nat.lt_of_lt_of_le h7 hb.size⟩
theorem keepFL : KeepP FL := fun _ _ h hb => h.below hb

/-- One span in a new block. -/
theorem spans_one {w w1 : World} (hb : Below w.heap.size w w1) (lo hi : Int) {M : Nat} (hM : w1.heap.size = M) : SpansR (w1.alloc (.cells #[.int .i64 (atA lo), .int .i64 (atB lo), .int .i64 (atC lo), .int .i64 (atA hi), .int .i64 (atB hi), .int .i64 (atC hi)] 148)) (.slice (some ⟨M, 0, none⟩) 1 1) [(lo, hi)] ∧ Below w.heap.size w (w1.alloc (.cells #[.int .i64 (atA lo), .int .i64 (atB lo), .int .i64 (atC lo), .int .i64 (atA hi), .int .i64 (atB hi), .int .i64 (atC hi)] 148)) := by
  subst hM
  refine ⟨⟨_, _, rfl, Nat.le_refl _, Or.inr ⟨_, 0, rfl, by simp, fun i hi => ?_⟩⟩, below_then hb (boxB _ _)⟩
  have : i = 0 := by simpa using hi
  subst this
  refine ⟨?_, ?_, ?_, ?_, ?_, ?_⟩ <;> simp [spR]

end Go.Proofs.YtogpkhpephhbiaaGreatDoor
namespace Go.Proofs.YtogpkhpephhbiaaGreatDoor
open Go.RowKit
set_option maxRecDepth 100000

/-- What notFull makes of a list of n spans. -/
def fullV (n : Nat) (v : Value) : Value := if n ≤ 64 then v else .slice none 0 0
def fullE (n : Nat) : Int := if n ≤ 64 then 0 else 26

end Go.Proofs.YtogpkhpephhbiaaGreatDoor
namespace Go.Proofs.YtogpkhpephhbiaaGreatDoor
open Go.RowKit

/-- A span's places. -/
def rk (s : Sp) : Int × Int := (rankV s.a s.b s.c, rankV s.x s.y s.z)

theorem maySp_true {a b c x y z : Int} : maySp a b c x y z = true ↔ mayV a b c = true ∧ mayV x y z = true ∧ cmpV a b c x y z ≤ 0 := by
  unfold maySp; simp [and_assoc]
theorem cmp_lek {a b c x y z : Int} (h : mayV a b c = true) (k : mayV x y z = true) : cmpV a b c x y z ≤ 0 ↔ rankV a b c ≤ rankV x y z := by
  have h1 := cmp_rank k h
  rw [cmp_neg] at h1
  omega
theorem maySp_rk {s : Sp} (h : maySp s.a s.b s.c s.x s.y s.z = true) : spR (rk s) = s ∧ okP2 (rk s) := by
  obtain ⟨h1, h2, h3⟩ := maySp_true.1 h
  rw [cmp_lek h1 h2] at h3
  obtain ⟨a, b, c, x, y, z⟩ := s
  obtain ⟨e1, e2, e3⟩ := at_rank h1
  obtain ⟨f1, f2, f3⟩ := at_rank h2
  have l1 := rank_low h1
  have l2 := rank_low h2
  refine ⟨?_, ?_, ?_, ?_⟩
  · simp only [spR, rk]
    simp only at e1 e2 e3 f1 f2 f3
    rw [e1, e2, e3, f1, f2, f3]
  · unfold okR rk; simp only at *; omega
  · unfold okR rk; simp only at *; omega
  · exact h3
theorem rk_spR {p : Int × Int} (h : okP2 p) : rk (spR p) = p ∧ maySp (spR p).a (spR p).b (spR p).c (spR p).x (spR p).y (spR p).z = true := by
  obtain ⟨h1, h2, h3⟩ := h
  obtain ⟨m1, e1⟩ := may_at h1.has
  obtain ⟨m2, e2⟩ := may_at h2.has
  refine ⟨?_, ?_⟩
  · unfold rk spR; simp only; rw [e1, e2]
  · rw [maySp_true]
    refine ⟨m1, m2, ?_⟩
    unfold spR
    simp only
    rw [cmp_lek m1 m2, e1, e2]
    exact h3
theorem apart_rk {x y z a b c : Int} (h : mayV x y z = true) (k : mayV a b c = true) : apartV x y z a b c = true ↔ rankV x y z + 2 ≤ rankV a b c := by
  unfold apartV
  have l1 := rank_low h
  have l2 := rank_low k
  rw [Bool.and_eq_true, decide_eq_true_eq]
  constructor
  · rintro ⟨h1, h2⟩
    obtain ⟨_, m, e⟩ := on_may h1
    rw [cmp_rank m k, e] at h2
    omega
  · intro h1
    have h2 : onIs x y z 1 = true := by rw [next_is h]; simp; omega
    obtain ⟨_, m, e⟩ := on_may h2
    refine ⟨h2, ?_⟩
    rw [cmp_rank m k, e]
    omega

theorem okAt_zero {s : Sp} {L : List Sp} : okAt (s :: L) 0 = maySp s.a s.b s.c s.x s.y s.z := by simp [okAt]
theorem okAt_one {s t : Sp} {L : List Sp} : okAt (s :: t :: L) 1 = (maySp t.a t.b t.c t.x t.y t.z && apartV s.x s.y s.z t.a t.b t.c) := by simp [okAt]
theorem okAt_more {s : Sp} {L : List Sp} {i : Nat} : okAt (s :: L) (i + 1 + 1) = okAt L (i + 1) := by simp [okAt]

theorem ok_tail {s : Sp} {L : List Sp} (h : ∀ i, i < (s :: L).length → okAt (s :: L) i = true) : ∀ i, i < L.length → okAt L i = true := by
  intro i hi
  cases i with
  | succ i => rw [← okAt_more (s := s)]; exact h _ (by simpa using hi)
  | zero =>
    cases L with
    | nil => simp at hi
    | cons t L =>
      have := h 1 (by simp)
      rw [okAt_one, Bool.and_eq_true] at this
      rw [okAt_zero]; exact this.1

theorem ok_rise : ∀ {L : List Sp}, (∀ i, i < L.length → okAt L i = true) → (L.map rk).map spR = L ∧ RangeR (L.map rk)
  | [], _ => ⟨rfl, trivial⟩
  | s :: L, h => by
    obtain ⟨e, hr⟩ := ok_rise (ok_tail h)
    have h0 := h 0 (by simp)
    rw [okAt_zero] at h0
    obtain ⟨es, o1, o2, o3⟩ := maySp_rk h0
    refine ⟨by rw [List.map_cons, List.map_cons, e, es], o1.1, o3, o2.2, ?_⟩
    cases L with
    | nil => trivial
    | cons t L =>
      have h1 := h 1 (by simp)
      rw [okAt_one, Bool.and_eq_true] at h1
      have ha := (apart_rk (maySp_true.1 h0).2.1 (maySp_true.1 h1.1).1).1 h1.2
      exact ⟨ha, hr.2⟩

theorem rise_ok : ∀ {A : Rg}, RangeR A → ∀ i, i < (A.map spR).length → okAt (A.map spR) i = true
  | [], _, i, hi => by simp at hi
  | p :: A, h, i, hi => by
    obtain ⟨g, e⟩ := p
    obtain ⟨h1, h2, h3, h4⟩ := h
    have ho : okP2 (g, e) := ⟨⟨h1, by show g ≤ 999999999; omega⟩, ⟨by show 0 ≤ e; omega, h3⟩, h2⟩
    have ih := rise_ok (A := A) (h4.weak (by omega))
    cases i with
    | zero => rw [List.map_cons, okAt_zero]; exact (rk_spR ho).2
    | succ i =>
      cases i with
      | succ i => rw [List.map_cons, okAt_more]; exact ih _ (by simpa using hi)
      | zero =>
        cases A with
        | nil => simp at hi
        | cons q A =>
          obtain ⟨g', e'⟩ := q
          obtain ⟨k1, k2, k3, _⟩ := h4
          have hq : okP2 (g', e') := ⟨⟨by show 0 ≤ g'; omega, by show g' ≤ 999999999; omega⟩, ⟨by show 0 ≤ e'; omega, k3⟩, k2⟩
          rw [List.map_cons, List.map_cons, okAt_one, Bool.and_eq_true]
          refine ⟨(rk_spR hq).2, ?_⟩
          rw [apart_rk (maySp_true.1 (rk_spR ho).2).2.1 (maySp_true.1 (rk_spR hq).2).1]
          have r1 := congrArg Prod.snd (rk_spR ho).1
          have r2 := congrArg Prod.fst (rk_spR hq).1
          simp only [rk] at r1 r2
          rw [r1, r2]
          exact k1

/-- A list may be just if it is a range of at most 64 spans. -/
theorem may_iff {L : List Sp} : mayL L = true ↔ ∃ A : Rg, L = A.map spR ∧ RangeR A ∧ A.length ≤ 64 := by
  unfold mayL
  rw [Bool.and_eq_true, decide_eq_true_eq, List.all_eq_true]
  constructor
  · rintro ⟨h1, h2⟩
    obtain ⟨e, hr⟩ := ok_rise fun i hi => h2 i (List.mem_range.2 hi)
    exact ⟨L.map rk, e.symm, hr, by simpa using h1⟩
  · rintro ⟨A, rfl, hr, hl⟩
    exact ⟨by simpa using hl, fun i hi => rise_ok hr i (List.mem_range.1 hi)⟩
theorem may_rg {A : Rg} (h : RangeR A) (hl : A.length ≤ 64) : mayL (A.map spR) = true := may_iff.2 ⟨A, rfl, h, hl⟩

theorem has_rg {p : Int × Int} (h : okP2 p) {a b c : Int} (k : mayV a b c = true) : hasS a b c (spR p) = true ↔ p.1 ≤ rankV a b c ∧ rankV a b c ≤ p.2 := by
  obtain ⟨h1, h2, h3⟩ := h
  obtain ⟨m1, e1⟩ := may_at h1.has
  obtain ⟨m2, e2⟩ := may_at h2.has
  unfold hasS spR
  simp only
  rw [Bool.and_eq_true, decide_eq_true_eq, decide_eq_true_eq, cmp_lek m1 k, cmp_lek k m2, e1, e2]

theorem any_rg {A : Rg} (h : ∀ p ∈ A, okP2 p) {a b c : Int} (k : mayV a b c = true) : (A.map spR).any (hasS a b c) = true ↔ InR A (rankV a b c) := by
  induction A with
  | nil => simp [InR]
  | cons p A ih =>
    obtain ⟨g, e⟩ := p
    rw [List.map_cons, List.any_cons, Bool.or_eq_true, has_rg (h _ List.mem_cons_self) k, ih fun q hq => h q (List.mem_cons_of_mem _ hq)]
    rfl
theorem in_rg {A : Rg} (h : RangeR A) (hl : A.length ≤ 64) {a b c : Int} : inL (A.map spR) a b c = true ↔ mayV a b c = true ∧ InR A (rankV a b c) := by
  unfold inL
  rw [may_rg h hl, Bool.true_and, Bool.and_eq_true]
  constructor
  · rintro ⟨k, hi⟩
    exact ⟨k, (any_rg (fun p hp => by have := RiseR.mem h hp; unfold okP2 okR; omega) k).1 hi⟩
  · rintro ⟨k, hi⟩
    exact ⟨k, (any_rg (fun p hp => by have := RiseR.mem h hp; unfold okP2 okR; omega) k).2 hi⟩

theorem SpansR.at {w : World} {v : Value} {A : Rg} (h : SpansR w v A) : SpansAt w v (A.map spR) := by
  obtain ⟨ad, cap, hv, hc, hl⟩ := h
  refine ⟨ad, cap, by rw [List.length_map]; exact hv, ?_⟩
  rcases hl with rfl | ⟨g, o, ha, hg, hs⟩
  · exact Or.inl rfl
  · right
    refine ⟨g, o, ha, hg, fun i hi => ?_⟩
    rw [List.getElem_map]
    exact hs i (by simpa using hi)

/-- A list of spans that came in: its length is no more than its room. -/
def SpansC (w : World) (v : Value) (L : List Sp) : Prop := SpansAt w v L ∧ ∃ ad n cap, v = .slice ad n cap ∧ n ≤ cap
theorem SpansC.rg {w : World} {v : Value} {A : Rg} (h : SpansC w v (A.map spR)) : SpansR w v A := by
  obtain ⟨⟨ad, cap, rfl, hl⟩, ad', n', cap', hv, hc⟩ := h
  cases hv
  rw [List.length_map] at hc ⊢
  refine ⟨_, _, rfl, hc, ?_⟩
  rcases hl with hl | ⟨g, o, ha, hg, hs⟩
  · left; simpa using hl
  · right
    refine ⟨g, o, ha, hg, fun i hi => ?_⟩
    have := hs i (by simpa using hi)
    rw [List.getElem_map] at this
    exact this
theorem SpansC.below {w w' : World} {v : Value} {L : List Sp} (h : SpansC w v L) (hb : Below w.heap.size w w') : SpansC w' v L := ⟨h.1.below hb, h.2⟩
theorem SpansR.c {w : World} {v : Value} {A : Rg} (h : SpansR w v A) : SpansC w v (A.map spR) := by
  have := h.at
  obtain ⟨ad, cap, hv, hc, _⟩ := h
  exact ⟨this, ad, _, cap, hv, hc⟩
end Go.Proofs.YtogpkhpephhbiaaGreatDoor
namespace Go.Proofs.YtogpkhpephhbiaaGreatDoor
open Go.RowKit
set_option maxRecDepth 100000

/-- A range, unless it has too many spans. -/
def fitR (A : Rg) : Rg := if A.length ≤ 64 then A else []
theorem fit_ok {A : Rg} (h : RangeR A) : RangeR (fitR A) := by unfold fitR; split; exact h; trivial
theorem fit_len (A : Rg) : (fitR A).length ≤ 64 := by unfold fitR; split; assumption; simp
theorem fit_of {A : Rg} (h : A.length ≤ 64) : fitR A = A := by unfold fitR; rw [if_pos h]

end Go.Proofs.YtogpkhpephhbiaaGreatDoor
namespace Go.Proofs.YtogpkhpephhbiaaGreatDoor
open Go.RowKit
set_option maxRecDepth 100000

def minorR (n : Int) : Int := n / 1000 * 1000 + 999
def majorR (n : Int) : Int := n / 1000000 * 1000000 + 999999
def alikeR (n : Int) : Int := if atA n ≠ 0 then majorR n else if atB n ≠ 0 then minorR n else n

theorem at_of {n : Int} (h : okR n) : atA n = n / 1000000 ∧ atB n = n / 1000 % 1000 ∧ atC n = n % 1000 := by
  unfold atA atB atC; rw [h.has]; simp
theorem minor_ok {n : Int} (h : okR n) : okR (minorR n) ∧ n ≤ minorR n := by unfold okR minorR at *; omega
theorem major_ok {n : Int} (h : okR n) : okR (majorR n) ∧ n ≤ majorR n := by unfold okR majorR at *; omega
theorem alike_ok {n : Int} (h : okR n) : okR (alikeR n) ∧ n ≤ alikeR n := by
  unfold alikeR
  split
  · exact major_ok h
  · split
    · exact minor_ok h
    · exact ⟨h, Int.le_refl _⟩
theorem minor_at {n : Int} (h : okR n) : atA (minorR n) = atA n ∧ atB (minorR n) = atB n ∧ atC (minorR n) = 999 := by
  obtain ⟨a, b, c⟩ := at_of h
  obtain ⟨a', b', c'⟩ := at_of (minor_ok h).1
  unfold okR at h
  rw [a, b, a', b', c']
  unfold minorR
  omega
theorem major_at {n : Int} (h : okR n) : atA (majorR n) = atA n ∧ atB (majorR n) = 999 ∧ atC (majorR n) = 999 := by
  obtain ⟨a, b, c⟩ := at_of h
  obtain ⟨a', b', c'⟩ := at_of (major_ok h).1
  unfold okR at h
  rw [a, a', b', c']
  unfold majorR
  omega

/-- What a sign makes of the version at a place. -/
def signR (s : List UInt8) (n : Int) : Option Rg :=
  if s = [] ∨ s = [61] then some [(n, n)] else if s = [60] then some (cutR allR [(n, 999999999)]) else if s = [60, 61] then some [(0, n)] else if s = [62] then some (cutR allR [(0, n)]) else
  if s = [62, 61] then some [(n, 999999999)] else if s = [94] then some [(n, alikeR n)] else if s = [126] then some [(n, minorR n)] else none

theorem one_ok {g h : Int} (hg : okR g) (hh : okR h) (h1 : g ≤ h) : RangeR [(g, h)] := ⟨hg.1, h1, hh.2, trivial⟩
theorem okL : okR 999999999 := by unfold okR; omega
theorem okF : okR 0 := by unfold okR; omega
theorem sign_ok {s : List UInt8} {n : Int} (hn : okR n) {R : Rg} (h : signR s n = some R) : RangeR R := by
  unfold signR at h
  have h1 := one_ok hn okL hn.2
  have h2 := one_ok okF hn hn.1
  repeat' split at h
  all_goals first | (cases h; done) | (injection h with h; subst h)
  · exact one_ok hn hn (Int.le_refl _)
  · exact allR_ok.cut h1
  · exact h2
  · exact allR_ok.cut h2
  · exact h1
  · exact one_ok hn (alike_ok hn).1 (alike_ok hn).2
  · exact one_ok hn (minor_ok hn).1 (minor_ok hn).2

end Go.Proofs.YtogpkhpephhbiaaGreatDoor
namespace Go.Proofs.YtogpkhpephhbiaaGreatDoor
open Go.ChangeShapes Go.WideShapes Go.ChangeAt Go.RowKit
set_option maxRecDepth 100000

/-- The wrap that hands on what is listed, the reach and the world's shape. -/
theorem wrap_shaped {H : Type} {enc : TypeId × Value → H} {a : Assume} {C : Checked} {os : Os} {f : FuncId} {fn : Func} {s : ChangeSpec} {conds : List PathCond} {apart fresh handsOn again : Bool} {X : World → Array Value → Prop}
    (own : ownKnob C.prog.godebug = none) (started : os.Started) (noInit : C.prog.inits.idxOf? f = none) (hfn : C.prog.funcs[f]? = some fn)
    (witness : ∃ (w : World) (tape : Tape) (i : Input), w.os = os ∧ (w.forCall tape i).Shaped C.prog ∧ i.vars = [] ∧ Input.okWide C.prog (w.forCall tape i) .any w.heap.size f i ∧
      ((s.pre enc C.prog fn conds apart (w.forCall tape i).memory i.args ∧ X (w.forCall tape i).memory i.args) ∧ sizedMet enc C.prog fn (OpenSpec.ofChange s) apart (w.forCall tape i).memory i.args) ∧ a.holds C.prog (lone (Frame.enter C.prog f i.args .normal) [] (w.forCall tape i)))
    (contract : ∀ (W : World) (base : Nat) (args : Array Value) (ds gs : List (DataW H)) (before : List MemPlace),
      (∀ (j : Nat) t v, fn.params[j]? = some t → args[j]? = some v → Value.okWide C.prog W .any base t v) →
      DataW.Whole enc C.prog fn.params.toList s.vars apart W args.toList ds gs before →
      (DataW.weightsEach C.prog (fn.params.toList ++ s.plain.varTypes C.prog) (ds ++ gs)).all (· ≤ reachBytes) = true → W.ShapedOpen C.prog →
      Calls C.prog f args W fun e W' => ∃ v, e = .returned v ∧ s.post enc C.prog fn apart fresh handsOn again W args v W') :
    ReturnsInHanded a C os f .any (fun w args => (s.pre enc C.prog fn conds apart w args ∧ X w args) ∧ sizedMet enc C.prog fn (OpenSpec.ofChange s) apart w args) (s.post enc C.prog fn apart fresh handsOn again) := by
  refine returnsInHanded_of_calls own started noInit witness ?_
  intro w tape i _ hsh _ hok hpre _
  obtain ⟨_, _, _, fn', hfn', _, _, _, _, hval⟩ := hok
  have e : fn' = fn := Option.some.inj (hfn'.symm.trans hfn)
  subst e
  obtain ⟨⟨⟨ds, gs, before, hw, _⟩, _⟩, hz⟩ := hpre
  have hw' := DataW.Whole.of_heap (w' := w.forCall tape i) (by rfl) hw
  refine (contract (w.forCall tape i) w.heap.size i.args ds gs before hval hw' (hz.weights hw) hsh).mono fun e W' ⟨v, he, hp⟩ => ?_
  subst he
  exact ChangeSpec.post_blind hp

theorem own : ownKnob Tryz.prog.godebug = none := by kernel_rfl
theorem laidOut : laidOutB Tryz.prog = true := by kernel_rfl
theorem cellsInt : Tryz.prog.cellsOf 3 = 1 := by kernel_rfl
theorem cellsVer : Tryz.prog.cellsOf 59 = 3 := by kernel_rfl

theorem take_one {cs : List Value} {o : Nat} {v : Value} (h : (cs.drop o).take 1 = [v]) : cs[o]? = some v := by
  have h0 : ((cs.drop o).take 1)[0]? = some v := by rw [h]; rfl
  simpa using h0

theorem field_at {fs : Array Field} {i ty off : Nat} (h : (fs[i]?).map (fun f => (f.type, f.offset)) = some (ty, off)) : ∃ f, fs[i]? = some f ∧ f.type = ty ∧ f.offset = off := by
  cases hf : fs[i]? with
  | none => rw [hf] at h; cases h
  | some f =>
    rw [hf] at h
    simp only [Option.map_some, Option.some.injEq, Prod.mk.injEq] at h
    exact ⟨f, rfl, h.1, h.2⟩

theorem list3 {α : Type} {l : List α} (h : l.length = 3) : ∃ a b c, l = [a, b, c] := by
  match l, h with
  | [a, b, c], _ => exact ⟨a, b, c, rfl⟩

/-- A version that came in: three ints. -/
theorem open_ver {H : Type} {enc : TypeId × Value → H} {W : World} {base b0 : Nat} {spare : Nat → Bool} {held : Bool} {v : Value} {d : DataW H} {p : List MemPlace} (hv : Value.okWide Tryz.prog W .any b0 59 v)
    (h : DataW.Trod enc Tryz.prog W base spare held 59 v d p) : ∃ a b c, v = .agg #[.int .i64 a, .int .i64 b, .int .i64 c] ∧ isI a ∧ isI b ∧ isI c := by
  have hs : Tryz.prog.underlying 59 = some (.struct (Tryz.prog.fieldsOf 59)) := by kernel_rfl
  obtain ⟨cs, rfl, hsz⟩ := okWide_struct hs hv
  obtain ⟨n, h⟩ := h
  obtain ⟨xs, n', _, _, _, hxl, hf⟩ := DataW.trod_struct hs h
  have hfz : (Tryz.prog.fieldsOf 59).size = 3 := by kernel_rfl
  rw [cellsVer] at hsz
  have ints : ∀ i off, ((Tryz.prog.fieldsOf 59)[i]?).map (fun f => (f.type, f.offset)) = some (3, off) → i < 3 → ∃ k, cs.toList[off]? = some (.int .i64 k) ∧ (Lit.int .i64 k).wf = true := by
    intro i off hfd hi
    obtain ⟨f, h1, h2, h3⟩ := field_at hfd
    have hr := hf i f h1
    rw [h2, h3, cellsInt, List.getElem?_eq_getElem (by omega : i < xs.length)] at hr
    obtain ⟨k, e1, _, wk⟩ := DataW.trod_int Tryz.underlying3 hr
    exact ⟨k, take_one e1, wk⟩
  obtain ⟨a, a0, wa⟩ := ints 0 0 (by kernel_rfl) (by decide)
  obtain ⟨b, a1, wb⟩ := ints 1 1 (by kernel_rfl) (by decide)
  obtain ⟨c, a2, wc⟩ := ints 2 2 (by kernel_rfl) (by decide)
  obtain ⟨l⟩ := cs
  obtain ⟨x, y, z, rfl⟩ := list3 (l := l) (by simpa using hsz)
  simp at a0 a1 a2
  subst a0 a1 a2
  exact ⟨a, b, c, rfl, bounds_i64 wa, bounds_i64 wb, bounds_i64 wc⟩

end Go.Proofs.YtogpkhpephhbiaaGreatDoor
namespace Go.Proofs.YtogpkhpephhbiaaGreatDoor
open Go.ChangeShapes Go.WideShapes Go.ChangeAt Go.RowKit
set_option maxRecDepth 100000

/-- The wrap that hands on what is listed, the reach and the world's shape, with what the listed variables hold. -/
theorem wrap_laid {H : Type} {enc : TypeId × Value → H} {a : Assume} {C : Checked} {os : Os} {f : FuncId} {fn : Func} {s : ChangeSpec} {conds : List PathCond} {apart fresh handsOn again : Bool} {l : List (String × DataW Unit)}
    (own : ownKnob C.prog.godebug = none) (started : os.Started) (noInit : C.prog.inits.idxOf? f = none) (hfn : C.prog.funcs[f]? = some fn)
    (witness : ∃ (w : World) (tape : Tape) (i : Input), w.os = os ∧ (w.forCall tape i).Shaped C.prog ∧ i.vars = [] ∧ Input.okWide C.prog (w.forCall tape i) .any w.heap.size f i ∧
      ((s.pre enc C.prog fn conds apart (w.forCall tape i).memory i.args ∧ laidMetH C.prog l (w.forCall tape i).memory) ∧ sizedMet enc C.prog fn (OpenSpec.ofChange s) apart (w.forCall tape i).memory i.args) ∧ a.holds C.prog (lone (Frame.enter C.prog f i.args .normal) [] (w.forCall tape i)))
    (contract : ∀ (W : World) (base : Nat) (args : Array Value) (ds gs : List (DataW H)) (before : List MemPlace),
      (∀ (j : Nat) t v, fn.params[j]? = some t → args[j]? = some v → Value.okWide C.prog W .any base t v) →
      DataW.Whole enc C.prog fn.params.toList s.vars apart W args.toList ds gs before →
      (DataW.weightsEach C.prog (fn.params.toList ++ s.plain.varTypes C.prog) (ds ++ gs)).all (· ≤ reachBytes) = true → W.ShapedOpen C.prog → laidMetH C.prog l W →
      Calls C.prog f args W fun e W' => ∃ v, e = .returned v ∧ s.post enc C.prog fn apart fresh handsOn again W args v W') :
    ReturnsInHanded a C os f .any (fun w args => (s.pre enc C.prog fn conds apart w args ∧ laidMetH C.prog l w) ∧ sizedMet enc C.prog fn (OpenSpec.ofChange s) apart w args) (s.post enc C.prog fn apart fresh handsOn again) := by
  refine returnsInHanded_of_calls own started noInit witness ?_
  intro w tape i _ hsh _ hok hpre _
  obtain ⟨_, _, _, fn', hfn', _, _, _, _, hval⟩ := hok
  have e : fn' = fn := Option.some.inj (hfn'.symm.trans hfn)
  subst e
  obtain ⟨⟨⟨ds, gs, before, hw, _⟩, hX⟩, hz⟩ := hpre
  have hw' := DataW.Whole.of_heap (w' := w.forCall tape i) (by rfl) hw
  have hX' := laidMetH.of_heap (w' := w.forCall tape i) (by rfl) hX
  refine (contract (w.forCall tape i) w.heap.size i.args ds gs before hval hw' (hz.weights hw) hsh hX').mono fun e W' ⟨v, he, hp⟩ => ?_
  subst he
  exact ChangeSpec.post_blind hp

theorem tab_is {W : World} {r : List (String × DataW Unit)} (h : laidMet Tryz.prog (("math/bits.deBruijn32tab", Rows.laid_math_bits_deBruijn32tab) :: ("math/bits.deBruijn64tab", Rows.laid_math_bits_deBruijn64tab) :: ("internal/strconv.uint64pow10", Rows.laid_internal_strconv_uint64pow10) :: r) W) :
    Lib.TabIs Tryz.prog W "internal/strconv.uint64pow10" .u64 Lib.pow10Tab := by
  have h2 : laidMet Tryz.prog (("internal/strconv.uint64pow10", Lib.tabData .u64 Lib.pow10Tab) :: r) W := (laidMet.tail (laidMet.tail h))
  exact Lib.tabIs_of_head (g := 5) (t := 178) (e := 124) (n := 20) (by kernel_rfl) (by kernel_rfl) (by kernel_rfl) Tryz.underlying124 (by kernel_rfl) (by kernel_rfl) h2

/-- Itoa answers with the numeral, in whatever world stands on one with the table. -/
theorem spells_tab {W : World} (h : Lib.TabIs Tryz.prog W "internal/strconv.uint64pow10" .u64 Lib.pow10Tab) (w : World) (hw : Below W.heap.size W w) (n : Int) (h0 : 0 ≤ n) (h1 : n ≤ 999) : Spells w n ⟨(Lib.itoa n).toArray⟩ := by
  intro w1 hb
  have ht := Lib.tabBelow_of_tabIs h w1 (below_then hw hb)
  refine (Tryz.strconv_Itoa n (by omega) (by omega) w1 ht).mono ?_
  rintro e w' ⟨rfl, k, os, rfl⟩
  exact ⟨rfl, Lib.below_grow _ _ (Nat.le_refl _) k os⟩
end Go.Proofs.YtogpkhpephhbiaaGreatDoor
