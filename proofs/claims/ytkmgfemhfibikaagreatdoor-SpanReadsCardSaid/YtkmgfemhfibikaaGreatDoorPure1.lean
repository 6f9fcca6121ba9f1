/- Ranges as lists of pairs of places: what one range has and another has not, and that a list is told by its members. Plain facts. -/
import Derived.WalkKit
namespace Go.Proofs.YtkmgfemhfibikaaGreatDoor

abbrev Rg := List (Int × Int)

def InR : Rg → Int → Prop
  | [], _ => False
  | (g, h) :: B, n => (g ≤ n ∧ n ≤ h) ∨ InR B n

/-- The spans rise from k on, up to M at most, and do not touch. -/
def RiseR (k M : Int) : Rg → Prop
  | [] => True
  | (g, h) :: B => k ≤ g ∧ g ≤ h ∧ h ≤ M ∧ RiseR (h + 2) M B

theorem RiseR.weak {M j k : Int} : ∀ {B : Rg}, RiseR k M B → j ≤ k → RiseR j M B
  | [], _, _ => trivial
  | (_, _) :: _, h, hj => ⟨Int.le_trans hj h.1, h.2⟩

theorem RiseR.top {M N k : Int} : ∀ {B : Rg} {k : Int}, RiseR k M B → M ≤ N → RiseR k N B
  | [], _, _, _ => trivial
  | (_, _) :: _, _, h, hm => ⟨h.1, h.2.1, Int.le_trans h.2.2.1 hm, RiseR.top (k := k) h.2.2.2 hm⟩

theorem RiseR.bounds {M : Int} {n : Int} : ∀ {B : Rg} {k : Int}, RiseR k M B → InR B n → k ≤ n ∧ n ≤ M
  | [], _, _, hi => hi.elim
  | (g, h) :: B, k, hr, hi => by
    obtain ⟨h1, h2, h3, h4⟩ := hr
    rcases hi with ⟨i1, i2⟩ | hi
    · omega
    · have := RiseR.bounds h4 hi; omega

theorem InR.append {n : Int} : ∀ {A B : Rg}, InR (A ++ B) n ↔ InR A n ∨ InR B n
  | [], B => by simp [InR]
  | (g, h) :: A, B => by simp only [List.cons_append, InR]; rw [InR.append (A := A), or_assoc]

theorem RiseR.append {m M : Int} : ∀ {X Y : Rg} {k : Int}, RiseR k m X → RiseR (m + 2) M Y → m ≤ M → k ≤ m + 2 → RiseR k M (X ++ Y)
  | [], Y, k, _, hy, _, hk => hy.weak hk
  | (g, h) :: X, Y, k, hx, hy, hm, hk => by
    obtain ⟨h1, h2, h3, h4⟩ := hx
    exact ⟨h1, h2, by omega, RiseR.append h4 hy hm (by omega)⟩

/-- What is left of one span. -/
def cutS (lo hi : Int) : Rg → Rg
  | [] => [(lo, hi)]
  | (g, h) :: B => if hi < g then [(lo, hi)] else (if lo < g then [(lo, g - 1)] else []) ++ (if hi ≤ h then [] else cutS (h + 1) hi B)

/-- The spans that are not left behind. -/
def dropR (lo : Int) (B : Rg) : Rg := B.dropWhile fun p => decide (p.2 < lo)

/-- What is left of some spans. -/
def cutR : Rg → Rg → Rg
  | [], _ => []
  | (lo, hi) :: A, B => cutS lo hi (dropR lo B) ++ cutR A (dropR lo B)

theorem cutS_in {M n : Int} : ∀ {B : Rg} {lo hi k : Int}, RiseR k M B → (∀ p ∈ B, lo ≤ p.2) → lo ≤ hi → (InR (cutS lo hi B) n ↔ (lo ≤ n ∧ n ≤ hi) ∧ ¬ InR B n)
  | [], lo, hi, k, _, _, hl => by simp [cutS, InR]
  | (g, h) :: B, lo, hi, k, hr, hp, hl => by
    obtain ⟨h1, h2, h3, h4⟩ := hr
    have hB : ∀ x, InR B x → h + 2 ≤ x := fun x hx => (h4.bounds hx).1
    have hlh : lo ≤ h := hp _ List.mem_cons_self
    unfold cutS
    by_cases hg : hi < g
    · rw [if_pos hg]
      simp only [InR, or_false]
      constructor
      · intro hn
        refine ⟨hn, ?_⟩
        rintro (hx | hx)
        · omega
        · have := hB n hx; omega
      · exact fun hn => hn.1
    · rw [if_neg hg, InR.append]
      have ih : ¬ hi ≤ h → (InR (cutS (h + 1) hi B) n ↔ (h + 1 ≤ n ∧ n ≤ hi) ∧ ¬ InR B n) := fun hh =>
        cutS_in (k := h + 2) h4 (fun p hq => by
          have : ∀ {C : Rg} {j : Int}, RiseR j M C → p ∈ C → j ≤ p.2 := by
            intro C
            induction C with
            | nil => intro j _ hq; cases hq
            | cons q C ihc =>
              intro j hr hq
              obtain ⟨a, b⟩ := q
              obtain ⟨r1, r2, r3, r4⟩ := hr
              rcases List.mem_cons.1 hq with rfl | hq
              · show j ≤ b; omega
              · have := ihc r4 hq; omega
          have := this h4 hq; omega) (by omega)
      have hin : InR (if lo < g then [(lo, g - 1)] else []) n ↔ lo ≤ n ∧ n < g := by
        split
        · simp only [InR, or_false]; omega
        · simp only [InR, false_iff]; omega
      rw [hin]
      by_cases hh : hi ≤ h
      · rw [if_pos hh]
        simp only [InR, or_false]
        constructor
        · intro hn
          refine ⟨by omega, ?_⟩
          rintro (hx | hx)
          · omega
          · have := hB n hx; omega
        · rintro ⟨hn, hx⟩
          have : ¬ (g ≤ n ∧ n ≤ h) := fun hy => hx (Or.inl hy)
          omega
      · rw [if_neg hh, ih hh]
        simp only [InR]
        constructor
        · rintro (hn | ⟨hn, hx⟩)
          · refine ⟨by omega, ?_⟩
            rintro (hx | hx)
            · omega
            · have := hB n hx; omega
          · refine ⟨by omega, ?_⟩
            rintro (hy | hy)
            · omega
            · exact hx hy
        · rintro ⟨hn, hx⟩
          have h5 : ¬ (g ≤ n ∧ n ≤ h) := fun hy => hx (Or.inl hy)
          have h6 : ¬ InR B n := fun hy => hx (Or.inr hy)
          by_cases hb : n < g
          · exact Or.inl (by omega)
          · exact Or.inr ⟨by omega, h6⟩

theorem RiseR.mem {M : Int} {p : Int × Int} : ∀ {C : Rg} {j : Int}, RiseR j M C → p ∈ C → j ≤ p.1 ∧ p.1 ≤ p.2 ∧ p.2 ≤ M
  | [], _, _, hq => by cases hq
  | (a, b) :: C, j, hr, hq => by
    obtain ⟨r1, r2, r3, r4⟩ := hr
    rcases List.mem_cons.1 hq with rfl | hq
    · exact ⟨r1, r2, r3⟩
    · have := RiseR.mem r4 hq; omega

theorem cutS_rise {M : Int} : ∀ {B : Rg} {lo hi k : Int}, RiseR k M B → (∀ p ∈ B, lo ≤ p.2) → lo ≤ hi → RiseR lo hi (cutS lo hi B)
  | [], lo, hi, k, _, _, hl => ⟨Int.le_refl _, hl, Int.le_refl _, trivial⟩
  | (g, h) :: B, lo, hi, k, hr, hp, hl => by
    obtain ⟨h1, h2, h3, h4⟩ := hr
    have hlh : lo ≤ h := hp _ List.mem_cons_self
    unfold cutS
    by_cases hg : hi < g
    · rw [if_pos hg]; exact ⟨Int.le_refl _, hl, Int.le_refl _, trivial⟩
    · rw [if_neg hg]
      have hrest : RiseR (h + 1) hi (if hi ≤ h then [] else cutS (h + 1) hi B) := by
        split
        · trivial
        · exact cutS_rise (k := h + 2) h4 (fun p hq => by have := h4.mem hq; omega) (by omega)
      by_cases hlg : lo < g
      · rw [if_pos hlg]
        exact ⟨Int.le_refl _, by omega, by omega, hrest.weak (by omega)⟩
      · rw [if_neg hlg]
        exact hrest.weak (by omega)

theorem drop_in {n lo : Int} (hn : lo ≤ n) : ∀ {B : Rg}, InR (dropR lo B) n ↔ InR B n
  | [] => Iff.rfl
  | (g, h) :: B => by
    unfold dropR
    rw [List.dropWhile_cons]
    by_cases hh : h < lo
    · rw [if_pos (by simpa using hh)]
      show InR (dropR lo B) n ↔ _
      rw [drop_in hn]
      simp only [InR]
      constructor
      · exact Or.inr
      · rintro (hx | hx)
        · omega
        · exact hx
    · rw [if_neg (by simpa using hh)]

theorem drop_rise {lo M : Int} : ∀ {B : Rg} {k : Int}, RiseR k M B → RiseR k M (dropR lo B)
  | [], _, _ => trivial
  | (g, h) :: B, k, hr => by
    unfold dropR
    rw [List.dropWhile_cons]
    obtain ⟨h1, h2, h3, h4⟩ := hr
    by_cases hh : h < lo
    · rw [if_pos (by simpa using hh)]
      exact (drop_rise h4).weak (by omega)
    · rw [if_neg (by simpa using hh)]; exact ⟨h1, h2, h3, h4⟩

theorem drop_lo {lo M : Int} : ∀ {B : Rg} {k : Int}, RiseR k M B → ∀ p ∈ dropR lo B, lo ≤ p.2
  | [], _, _, p, hp => by simp [dropR] at hp
  | (g, h) :: B, k, hr, p, hp => by
    unfold dropR at hp
    rw [List.dropWhile_cons] at hp
    obtain ⟨h1, h2, h3, h4⟩ := hr
    by_cases hh : h < lo
    · rw [if_pos (by simpa using hh)] at hp
      exact drop_lo h4 p hp
    · rw [if_neg (by simpa using hh)] at hp
      rcases List.mem_cons.1 hp with rfl | hp
      · show lo ≤ h; omega
      · have := h4.mem hp; omega

theorem cutR_rise {M N : Int} : ∀ {A B : Rg} {k j : Int}, RiseR k M A → RiseR j N B → RiseR k M (cutR A B)
  | [], _, _, _, _, _ => trivial
  | (lo, hi) :: A, B, k, j, ha, hb => by
    obtain ⟨h1, h2, h3, h4⟩ := ha
    unfold cutR
    exact RiseR.weak (RiseR.append (cutS_rise (drop_rise hb) (drop_lo hb) h2) (cutR_rise h4 (drop_rise hb)) h3 (by omega)) h1

theorem cutR_in {M N n : Int} : ∀ {A B : Rg} {k j : Int}, RiseR k M A → RiseR j N B → (InR (cutR A B) n ↔ InR A n ∧ ¬ InR B n)
  | [], _, _, _, _, _ => by simp [cutR, InR]
  | (lo, hi) :: A, B, k, j, ha, hb => by
    obtain ⟨h1, h2, h3, h4⟩ := ha
    unfold cutR
    rw [InR.append, cutS_in (drop_rise hb) (drop_lo hb) h2, cutR_in h4 (drop_rise hb)]
    simp only [InR]
    by_cases hn : lo ≤ n
    · rw [drop_in hn]
      constructor
      · rintro (⟨x, y⟩ | ⟨x, y⟩)
        · exact ⟨Or.inl x, y⟩
        · exact ⟨Or.inr x, y⟩
      · rintro ⟨x | x, y⟩
        · exact Or.inl ⟨x, y⟩
        · exact Or.inr ⟨x, y⟩
    · constructor
      · rintro (⟨x, y⟩ | ⟨x, y⟩)
        · omega
        · have := h4.bounds x; omega
      · rintro ⟨x | x, y⟩
        · omega
        · have := h4.bounds x; omega

/-- A list is told by its members. -/
theorem rise_one {M N : Int} : ∀ {A B : Rg} {k j : Int}, RiseR k M A → RiseR j N B → (∀ n, InR A n ↔ InR B n) → A = B
  | [], [], _, _, _, _, _ => rfl
  | [], (g, h) :: B, _, _, _, hb, he => by
    have := (he g).2 (Or.inl ⟨Int.le_refl _, hb.2.1⟩)
    exact this.elim
  | (g, h) :: A, [], _, _, ha, _, he => by
    have := (he g).1 (Or.inl ⟨Int.le_refl _, ha.2.1⟩)
    exact this.elim
  | (g, h) :: A, (g', h') :: B, k, j, ha, hb, he => by
    obtain ⟨a1, a2, a3, a4⟩ := ha
    obtain ⟨b1, b2, b3, b4⟩ := hb
    have hA : ∀ x, InR A x → h + 2 ≤ x := fun x hx => (a4.bounds hx).1
    have hB : ∀ x, InR B x → h' + 2 ≤ x := fun x hx => (b4.bounds hx).1
    have e1 : g = g' := by
      have x1 := (he g).1 (Or.inl ⟨Int.le_refl _, a2⟩)
      have x2 := (he g').2 (Or.inl ⟨Int.le_refl _, b2⟩)
      rcases x1 with x1 | x1 <;> rcases x2 with x2 | x2
      · omega
      · have := hA _ x2; omega
      · have := hB _ x1; omega
      · have := hA _ x2; have := hB _ x1; omega
    subst e1
    have e2 : h = h' := by
      rcases Int.lt_trichotomy h h' with hh | hh | hh
      · have x := (he (h + 1)).2 (Or.inl ⟨by omega, by omega⟩)
        rcases x with x | x
        · omega
        · have := hA _ x; omega
      · exact hh
      · have x := (he (h' + 1)).1 (Or.inl ⟨by omega, by omega⟩)
        rcases x with x | x
        · omega
        · have := hB _ x; omega
    subst e2
    have e3 : A = B := rise_one a4 b4 fun n => by
      constructor
      · intro hn
        rcases (he n).1 (Or.inr hn) with x | x
        · have := hA _ hn; omega
        · exact x
      · intro hn
        rcases (he n).2 (Or.inr hn) with x | x
        · have := hB _ hn; omega
        · exact x
    rw [e3]

theorem tw_no {g h hi : Int} {B : Rg} (hh : hi ≤ h) : (((g, h) :: B).takeWhile fun p => decide (p.2 < hi)) = [] := by
  rw [List.takeWhile_cons]; simp [Int.not_lt.2 hh]
theorem tw_yes {g h hi : Int} {B : Rg} (hh : h < hi) : (((g, h) :: B).takeWhile fun p => decide (p.2 < hi)) = (g, h) :: B.takeWhile fun p => decide (p.2 < hi) := by
  rw [List.takeWhile_cons]; simp [hh]
theorem dw_no {g h lo : Int} {B : Rg} (hh : lo ≤ h) : dropR lo ((g, h) :: B) = (g, h) :: B := by
  unfold dropR; rw [List.dropWhile_cons]; simp [Int.not_lt.2 hh]
theorem dw_yes {g h lo : Int} {B : Rg} (hh : h < lo) : dropR lo ((g, h) :: B) = dropR lo B := by
  unfold dropR; rw [List.dropWhile_cons]; simp [hh]
theorem drop_len {lo : Int} {B : Rg} : (dropR lo B).length ≤ B.length := (List.dropWhile_sublist _).length_le

theorem cutS_len : ∀ {B : Rg} {lo hi : Int}, (cutS lo hi B).length ≤ 1 + (B.takeWhile fun p => decide (p.2 < hi)).length
  | [], lo, hi => by simp [cutS]
  | (g, h) :: B, lo, hi => by
    unfold cutS
    by_cases hg : hi < g
    · rw [if_pos hg]; simp
    · rw [if_neg hg, List.length_append]
      have hone : (if lo < g then [(lo, g - 1)] else ([] : Rg)).length ≤ 1 := by split <;> simp
      by_cases hh : hi ≤ h
      · rw [if_pos hh, tw_no hh]
        simp only [List.length_nil]; omega
      · rw [if_neg hh, tw_yes (by omega)]
        have := cutS_len (B := B) (lo := h + 1) (hi := hi)
        simp only [List.length_cons]
        omega

theorem drop_take {lo hi : Int} (h : hi ≤ lo) : ∀ {B : Rg}, (dropR lo B).length + (B.takeWhile fun p => decide (p.2 < hi)).length ≤ B.length
  | [] => by simp [dropR]
  | (a, b) :: B => by
    by_cases hb : b < hi
    · rw [dw_yes (by omega), tw_yes hb]
      have := drop_take h (B := B)
      simp only [List.length_cons]; omega
    · rw [tw_no (by omega)]
      have := drop_len (lo := lo) (B := (a, b) :: B)
      simpa using this

theorem cutR_len' {M : Int} : ∀ {A B : Rg} {lo hi k : Int}, RiseR k M ((lo, hi) :: A) → (cutR ((lo, hi) :: A) B).length ≤ A.length + 1 + (dropR lo B).length
  | [], B, lo, hi, k, _ => by
    unfold cutR
    rw [List.length_append]
    have h1 := cutS_len (B := dropR lo B) (lo := lo) (hi := hi)
    have h2 := (List.takeWhile_sublist (l := dropR lo B) fun p => decide (p.2 < hi)).length_le
    simp only [cutR, List.length_nil]
    omega
  | (lo2, hi2) :: A, B, lo, hi, k, hr => by
    obtain ⟨h1, h2, h3, h4⟩ := hr
    have ih := cutR_len' (A := A) (B := dropR lo B) (lo := lo2) (hi := hi2) h4
    have hl : hi ≤ lo2 := by have := h4.1; omega
    have h5 := drop_take hl (B := dropR lo B)
    have h6 := cutS_len (B := dropR lo B) (lo := lo) (hi := hi)
    rw [cutR, List.length_append]
    simp only [List.length_cons]
    omega

theorem cutR_len {M : Int} {A B : Rg} {k : Int} (h : RiseR k M A) : (cutR A B).length ≤ A.length + B.length := by
  cases A with
  | nil => simp [cutR]
  | cons p A =>
    obtain ⟨lo, hi⟩ := p
    have h1 := cutR_len' (B := B) h
    have h2 := drop_len (lo := lo) (B := B)
    simp only [List.length_cons]
    omega

/-- The range of all. -/
def allR : Rg := [(0, 999999999)]
def meetR (A B : Rg) : Rg := cutR A (cutR A B)
def joinR (A B : Rg) : Rg := cutR allR (cutR (cutR allR A) B)

/-- A range, however long. -/
def RangeR (A : Rg) : Prop := RiseR 0 999999999 A

theorem allR_ok : RangeR allR := ⟨by decide, by decide, by decide, trivial⟩
theorem allR_in {n : Int} : InR allR n ↔ 0 ≤ n ∧ n ≤ 999999999 := by simp [allR, InR]
theorem RangeR.cut {A B : Rg} (ha : RangeR A) (hb : RangeR B) : RangeR (cutR A B) := cutR_rise ha hb
theorem RangeR.meet {A B : Rg} (ha : RangeR A) (hb : RangeR B) : RangeR (meetR A B) := ha.cut (ha.cut hb)
theorem RangeR.join {A B : Rg} (ha : RangeR A) (hb : RangeR B) : RangeR (joinR A B) := allR_ok.cut ((allR_ok.cut ha).cut hb)
theorem RangeR.in {A : Rg} (ha : RangeR A) {n : Int} (h : InR A n) : 0 ≤ n ∧ n ≤ 999999999 := RiseR.bounds ha h

theorem cut_in {A B : Rg} (ha : RangeR A) (hb : RangeR B) {n : Int} : InR (cutR A B) n ↔ InR A n ∧ ¬ InR B n := cutR_in ha hb
theorem meet_in {A B : Rg} (ha : RangeR A) (hb : RangeR B) {n : Int} : InR (meetR A B) n ↔ InR A n ∧ InR B n := by
  unfold meetR
  rw [cut_in ha (ha.cut hb), cut_in ha hb]
  constructor
  · rintro ⟨x, y⟩
    exact ⟨x, Classical.byContradiction fun z => y ⟨x, z⟩⟩
  · rintro ⟨x, y⟩
    exact ⟨x, fun z => z.2 y⟩
theorem join_in {A B : Rg} (ha : RangeR A) (hb : RangeR B) {n : Int} : InR (joinR A B) n ↔ InR A n ∨ InR B n := by
  unfold joinR
  rw [cut_in allR_ok ((allR_ok.cut ha).cut hb), cut_in (allR_ok.cut ha) hb, cut_in allR_ok ha, allR_in]
  constructor
  · rintro ⟨x, y⟩
    refine Classical.byContradiction fun z => y ⟨⟨x, fun q => z (Or.inl q)⟩, fun q => z (Or.inr q)⟩
  · rintro (x | x)
    · exact ⟨ha.in x, fun z => z.1.2 x⟩
    · exact ⟨hb.in x, fun z => z.2 x⟩

theorem range_one {A B : Rg} (ha : RangeR A) (hb : RangeR B) (h : ∀ n, InR A n ↔ InR B n) : A = B := rise_one ha hb h
theorem range_none {A : Rg} (ha : RangeR A) (h : ∀ n, ¬ InR A n) : A = [] := range_one (B := []) ha trivial fun n => ⟨fun x => (h n x).elim, fun x => x.elim⟩

theorem join_len {A B : Rg} (ha : RangeR A) : (joinR A B).length ≤ A.length + B.length + 2 := by
  unfold joinR
  have h1 := cutR_len (B := A) allR_ok
  have h2 := cutR_len (B := B) (allR_ok.cut ha)
  have h3 := cutR_len (B := cutR (cutR allR A) B) allR_ok
  simp only [allR, List.length_cons, List.length_nil] at h1 h2 h3 ⊢
  omega
end Go.Proofs.YtkmgfemhfibikaaGreatDoor
