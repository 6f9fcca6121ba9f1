/- The document's Folded in plain words: places at which something may change, and the range of what is wanted. -/
import Derived.Test.YtkmgfemhfibikaaGreatDoorPure2
namespace Go.Proofs.YtkmgfemhfibikaaGreatDoor
set_option maxRecDepth 100000

/-- A number more in a list that rises. -/
def insF : List Int → Int → List Int
  | [], n => [n]
  | x :: r, n => if x < n then x :: insF r n else if x = n then x :: r else n :: x :: r
def endsF : List Int → Rg → List Int
  | l, [] => l
  | l, q :: Q => endsF (insF (insF l q.1) (q.2 + 1)) Q

theorem ins_mem {n x : Int} : ∀ {l : List Int}, x ∈ insF l n ↔ x = n ∨ x ∈ l
  | [] => by simp [insF]
  | y :: r => by
    unfold insF
    split
    · rw [List.mem_cons, ins_mem, List.mem_cons]
      constructor
      · rintro (h | h | h); exact Or.inr (Or.inl h); exact Or.inl h; exact Or.inr (Or.inr h)
      · rintro (h | h | h); exact Or.inr (Or.inl h); exact Or.inl h; exact Or.inr (Or.inr h)
    · split
      · rename_i e
        rw [List.mem_cons]
        constructor
        · rintro (h | h); exact Or.inr (Or.inl h); exact Or.inr (Or.inr h)
        · rintro (h | h | h); exact Or.inl (h.trans e.symm); exact Or.inl h; exact Or.inr h
      · rw [List.mem_cons]
theorem ins_rise {n : Int} : ∀ {l : List Int}, l.Pairwise (· < ·) → (insF l n).Pairwise (· < ·)
  | [], _ => by simp [insF]
  | y :: r, h => by
    rw [List.pairwise_cons] at h
    unfold insF
    split
    · rename_i hy
      rw [List.pairwise_cons]
      refine ⟨fun a ha => ?_, ins_rise h.2⟩
      rcases ins_mem.1 ha with rfl | ha
      · exact hy
      · exact h.1 a ha
    · split
      · rw [List.pairwise_cons]; exact h
      · rename_i h1 h2
        rw [List.pairwise_cons, List.pairwise_cons]
        refine ⟨fun a ha => ?_, h⟩
        rcases List.mem_cons.1 ha with rfl | ha
        · omega
        · have := h.1 a ha; omega
theorem ins_len {n : Int} : ∀ {l : List Int}, (insF l n).length ≤ l.length + 1 ∧ l.length ≤ (insF l n).length
  | [] => by simp [insF]
  | y :: r => by
    have := ins_len (n := n) (l := r)
    unfold insF
    split
    · simp; omega
    · split <;> simp
theorem ends_mem {x : Int} : ∀ {Q : Rg} {l : List Int}, x ∈ endsF l Q ↔ x ∈ l ∨ ∃ q ∈ Q, x = q.1 ∨ x = q.2 + 1
  | [], l => by simp [endsF]
  | q :: Q, l => by
    unfold endsF
    rw [ends_mem, ins_mem, ins_mem]
    constructor
    · rintro ((h | h | h) | ⟨p, hp, h⟩)
      · exact Or.inr ⟨q, List.mem_cons_self, Or.inr h⟩
      · exact Or.inr ⟨q, List.mem_cons_self, Or.inl h⟩
      · exact Or.inl h
      · exact Or.inr ⟨p, List.mem_cons_of_mem _ hp, h⟩
    · rintro (h | ⟨p, hp, h⟩)
      · exact Or.inl (Or.inr (Or.inr h))
      · rcases List.mem_cons.1 hp with rfl | hp
        · rcases h with h | h
          · exact Or.inl (Or.inr (Or.inl h))
          · exact Or.inl (Or.inl h)
        · exact Or.inr ⟨p, hp, h⟩
theorem ends_rise : ∀ {Q : Rg} {l : List Int}, l.Pairwise (· < ·) → (endsF l Q).Pairwise (· < ·)
  | [], _, h => h
  | q :: Q, l, h => by
    unfold endsF
    exact ends_rise (Q := Q) (ins_rise (ins_rise h))
theorem ends_len : ∀ {Q : Rg} {l : List Int}, (endsF l Q).length ≤ l.length + 2 * Q.length
  | [], _ => by simp [endsF]
  | q :: Q, l => by
    unfold endsF
    have h1 := ends_len (Q := Q) (l := insF (insF l q.1) (q.2 + 1))
    have h2 := ins_len (n := q.1) (l := l)
    have h3 := ins_len (n := q.2 + 1) (l := insF l q.1)
    simp; omega
theorem ends_append (l : List Int) : ∀ (Q1 Q2 : Rg), endsF l (Q1 ++ Q2) = endsF (endsF l Q1) Q2 := by
  intro Q1
  induction Q1 generalizing l with
  | nil => intro Q2; rfl
  | cons q Q ih => intro Q2; exact ih _ Q2

/-- Is a place in one of some spans? -/
def hasQ (Q : Rg) (n : Int) : Bool := Q.any fun q => decide (q.1 ≤ n) && decide (n ≤ q.2)
/-- By the kind: m both, j one, c the first alone. -/
def wantK (kind : UInt8) (x y : Bool) : Bool := if kind = 109 then x && y else if kind = 106 then x || y else x && !y

/-- The range of what is wanted, place by place. -/
def foldG (P : Int → Bool) : List Int → Option Int → Rg
  | [], _ => []
  | x :: r, none => if decide (x ≤ 999999999) && P x then foldG P r (some x) else foldG P r none
  | x :: r, some f => if decide (x ≤ 999999999) && P x then foldG P r (some f) else (f, x - 1) :: foldG P r none

/-- Between two places next to one another nothing changes. -/
def Ch (P : Int → Bool) : List Int → Prop
  | [] => False
  | [x] => x = 1000000000
  | x :: y :: r => x < y ∧ (∀ n, x ≤ n → n < y → P n = P x) ∧ Ch P (y :: r)
theorem ch_le {P : Int → Bool} : ∀ {x : Int} {r : List Int}, Ch P (x :: r) → x ≤ 1000000000
  | x, [], h => by have : x = 1000000000 := h; omega
  | x, y :: r, h => by have := ch_le h.2.2; have := h.1; omega
theorem ch_lt {P : Int → Bool} {x y : Int} {r : List Int} (h : Ch P (x :: y :: r)) : x ≤ 999999999 := by have := ch_le h.2.2; have := h.1; omega

theorem fold_spec {P : Int → Bool} : ∀ (l : List Int) (x : Int) (r : List Int), l = x :: r → Ch P l →
    (RiseR x 999999999 (foldG P l none) ∧ ∀ n, InR (foldG P l none) n ↔ x ≤ n ∧ n ≤ 999999999 ∧ P n = true) ∧
    ∀ f, f < x → (∀ n, f ≤ n → n < x → P n = true) → RiseR f 999999999 (foldG P l (some f)) ∧ ∀ n, InR (foldG P l (some f)) n ↔ f ≤ n ∧ n ≤ 999999999 ∧ P n = true
  | [], x, r, h, _ => by cases h
  | [z], x, r, h, hc => by
    obtain ⟨rfl, rfl⟩ : z = x ∧ [] = r := by simpa using h
    have hx : z = 1000000000 := hc
    subst hx
    have e1 : foldG P [1000000000] none = [] := by unfold foldG; rw [if_neg (by simp)]; rfl
    have e2 : ∀ f, foldG P [1000000000] (some f) = [(f, 999999999)] := by intro f; unfold foldG; rw [if_neg (by simp)]; rfl
    rw [e1]
    refine ⟨⟨trivial, fun n => ⟨fun q => q.elim, fun q => by omega⟩⟩, fun f hf hp => ?_⟩
    rw [e2]
    refine ⟨⟨Int.le_refl _, by omega, Int.le_refl _, trivial⟩, fun n => ?_⟩
    simp only [InR, or_false]
    constructor
    · rintro ⟨a, b⟩
      exact ⟨a, b, hp n a (by omega)⟩
    · rintro ⟨a, b, _⟩
      exact ⟨a, b⟩
  | z :: y :: r', x, r, h, hc => by
    obtain ⟨rfl, rfl⟩ : z = x ∧ y :: r' = r := by simpa using h
    have hlt := ch_lt hc
    generalize z = x at *
    obtain ⟨hxy, hcon, hcr⟩ := hc
    obtain ⟨ih1, ih2⟩ := fold_spec (y :: r') y r' rfl hcr
    cases hp : P x
    · have e1 : foldG P (x :: y :: r') none = foldG P (y :: r') none := by conv => lhs; unfold foldG; rw [if_neg (by rw [hp]; simp)]
      have e2 : ∀ f, foldG P (x :: y :: r') (some f) = (f, x - 1) :: foldG P (y :: r') none := by intro f; conv => lhs; unfold foldG; rw [if_neg (by rw [hp]; simp)]
      refine ⟨?_, fun f hf hpf => ?_⟩
      · rw [e1]
        refine ⟨ih1.1.weak (by omega), fun n => ?_⟩
        rw [ih1.2]
        constructor
        · rintro ⟨a, b, c⟩; exact ⟨by omega, b, c⟩
        · rintro ⟨a, b, c⟩
          refine ⟨?_, b, c⟩
          rcases Int.lt_or_le n y with hn | hn
          · rw [hcon n a hn, hp] at c; cases c
          · exact hn
      · rw [e2]
        refine ⟨⟨Int.le_refl _, by omega, by omega, ih1.1.weak (by omega)⟩, fun n => ?_⟩
        simp only [InR]
        rw [ih1.2]
        constructor
        · rintro (⟨a, b⟩ | ⟨a, b, c⟩)
          · exact ⟨a, by omega, hpf n a (by omega)⟩
          · exact ⟨by omega, b, c⟩
        · rintro ⟨a, b, c⟩
          rcases Int.lt_or_le n x with hn | hn
          · exact Or.inl ⟨a, by omega⟩
          · rcases Int.lt_or_le n y with hm | hm
            · rw [hcon n hn hm, hp] at c; cases c
            · exact Or.inr ⟨hm, b, c⟩
    · have hd : (decide (x ≤ 999999999) && P x) = true := by rw [hp, decide_eq_true hlt]; rfl
      have e1 : foldG P (x :: y :: r') none = foldG P (y :: r') (some x) := by conv => lhs; unfold foldG; rw [if_pos hd]
      have e2 : ∀ f, foldG P (x :: y :: r') (some f) = foldG P (y :: r') (some f) := by intro f; conv => lhs; unfold foldG; rw [if_pos hd]
      refine ⟨?_, fun f hf hpf => ?_⟩
      · rw [e1]
        exact ih2 x hxy (fun n a b => by rw [hcon n a b, hp])
      · rw [e2]
        refine ih2 f (by omega) (fun n a b => ?_)
        rcases Int.lt_or_le n x with hn | hn
        · exact hpf n a hn
        · rw [hcon n hn b, hp]

theorem ch_of {P : Int → Bool} {B : Int → Prop} (hC : ∀ x n, x ≤ n → (∀ y, B y → ¬ (x < y ∧ y ≤ n)) → P n = P x) : ∀ {l : List Int}, l ≠ [] → l.Pairwise (· < ·) → (1000000000 : Int) ∈ l → (∀ z ∈ l, z ≤ 1000000000) → (∀ z, B z → z ∈ l ∨ ∀ x ∈ l, z < x) → Ch P l
  | [], h, _, _, _, _ => absurd rfl h
  | [x], _, _, hm, _, _ => (List.mem_singleton.1 hm).symm
  | x :: y :: r, _, hr, hm, hle, hB => by
    rw [List.pairwise_cons] at hr
    have hxy := hr.1 y List.mem_cons_self
    refine ⟨hxy, fun n h1 h2 => hC x n h1 fun z hz hq => ?_, ?_⟩
    · rcases hB z hz with hz | hz
      · rcases List.mem_cons.1 hz with rfl | hz
        · omega
        · rcases List.mem_cons.1 hz with rfl | hz
          · omega
          · have := (List.pairwise_cons.1 hr.2).1 z hz; omega
      · have := hz x List.mem_cons_self; omega
    · refine ch_of hC (by simp) hr.2 ?_ (fun z hz => hle z (List.mem_cons_of_mem _ hz)) ?_
      · rcases List.mem_cons.1 hm with e | h
        · have := hle y (List.mem_cons_of_mem _ List.mem_cons_self); omega
        · exact h
      · intro z hz
        rcases hB z hz with h | h
        · rcases List.mem_cons.1 h with rfl | h
          · exact Or.inr fun x hx => hr.1 x hx
          · exact Or.inl h
        · exact Or.inr fun x hx => h x (List.mem_cons_of_mem _ hx)

/-- Spans whose places are some. -/
def OkQ (Q : Rg) : Prop := ∀ q ∈ Q, okP2' q
where okP2' (q : Int × Int) : Prop := (0 ≤ q.1 ∧ q.1 ≤ 999999999) ∧ (0 ≤ q.2 ∧ q.2 ≤ 999999999)

theorem has_same {Q : Rg} {x n : Int} (hxn : x ≤ n) (h : ∀ q ∈ Q, ¬ (x < q.1 ∧ q.1 ≤ n) ∧ ¬ (x < q.2 + 1 ∧ q.2 + 1 ≤ n)) : hasQ Q n = hasQ Q x := by
  unfold hasQ
  induction Q with
  | nil => rfl
  | cons q Q ih =>
    rw [List.any_cons, List.any_cons, ih fun p hp => h p (List.mem_cons_of_mem _ hp)]
    have hq := h q List.mem_cons_self
    have e1 : decide (q.1 ≤ n) = decide (q.1 ≤ x) := by rw [decide_eq_decide]; omega
    have e2 : (decide (q.1 ≤ x) && decide (n ≤ q.2)) = (decide (q.1 ≤ x) && decide (x ≤ q.2)) := by
      have : decide (n ≤ q.2) = decide (x ≤ q.2) := by rw [decide_eq_decide]; omega
      rw [this]
    rw [e1, e2]

/-- The places of two lists of spans. -/
def placesF (a b : Rg) : List Int := endsF (endsF [0, 1000000000] a) b
/-- What Folded makes of two lists of spans. -/
def foldK (kind : UInt8) (a b : Rg) : Rg := foldG (fun n => wantK kind (hasQ a n) (hasQ b n)) (placesF a b) none

theorem foldK_spec (kind : UInt8) {a b : Rg} (ha : OkQ a) (hb : OkQ b) : RangeR (foldK kind a b) ∧ ∀ n, InR (foldK kind a b) n ↔ 0 ≤ n ∧ n ≤ 999999999 ∧ wantK kind (hasQ a n) (hasQ b n) = true := by
  have hmem : ∀ x, x ∈ placesF a b ↔ (x = 0 ∨ x = 1000000000) ∨ (∃ q ∈ a, x = q.1 ∨ x = q.2 + 1) ∨ ∃ q ∈ b, x = q.1 ∨ x = q.2 + 1 := by
    intro x
    unfold placesF
    rw [ends_mem, ends_mem]
    simp only [List.mem_cons, List.not_mem_nil, or_false, or_assoc]
  have hrise : (placesF a b).Pairwise (· < ·) := ends_rise (ends_rise (by decide))
  have hrng : ∀ x ∈ placesF a b, 0 ≤ x ∧ x ≤ 1000000000 := by
    intro x hx
    rcases (hmem x).1 hx with (rfl | rfl) | ⟨q, hq, h⟩ | ⟨q, hq, h⟩
    · decide
    · decide
    · obtain ⟨q1, q2⟩ := ha q hq; rcases h with rfl | rfl <;> omega
    · obtain ⟨q1, q2⟩ := hb q hq; rcases h with rfl | rfl <;> omega
  have h0 : (0 : Int) ∈ placesF a b := (hmem 0).2 (Or.inl (Or.inl rfl))
  have hE : (1000000000 : Int) ∈ placesF a b := (hmem _).2 (Or.inl (Or.inr rfl))
  cases hl : placesF a b with
  | nil => rw [hl] at h0; cases h0
  | cons x r =>
    have hx0 : x = 0 := by
      rw [hl] at h0 hrng hrise
      rcases List.mem_cons.1 h0 with e | h
      · exact e.symm
      · have := (List.pairwise_cons.1 hrise).1 0 h
        have := (hrng x List.mem_cons_self).1
        omega
    have hch : Ch (fun n => wantK kind (hasQ a n) (hasQ b n)) (x :: r) := by
      rw [← hl]
      refine ch_of (B := fun z => z ∈ placesF a b) ?_ (by rw [hl]; simp) hrise hE (fun z hz => (hrng z hz).2) (fun z hz => Or.inl hz)
      intro x n hxn hno
      have ea : hasQ a n = hasQ a x := has_same hxn fun q hq => ⟨hno _ ((hmem _).2 (Or.inr (Or.inl ⟨q, hq, Or.inl rfl⟩))), hno _ ((hmem _).2 (Or.inr (Or.inl ⟨q, hq, Or.inr rfl⟩)))⟩
      have eb : hasQ b n = hasQ b x := has_same hxn fun q hq => ⟨hno _ ((hmem _).2 (Or.inr (Or.inr ⟨q, hq, Or.inl rfl⟩))), hno _ ((hmem _).2 (Or.inr (Or.inr ⟨q, hq, Or.inr rfl⟩)))⟩
      simp only [ea, eb]
    obtain ⟨⟨r1, r2⟩, _⟩ := fold_spec (x :: r) x r rfl hch
    unfold foldK
    rw [hl]
    rw [hx0] at r1 r2 ⊢
    exact ⟨r1, r2⟩

theorem has_in {A : Rg} {n : Int} : hasQ A n = true ↔ InR A n := by
  induction A with
  | nil => simp [hasQ, InR]
  | cons p A ih =>
    obtain ⟨g, h⟩ := p
    unfold hasQ at *
    rw [List.any_cons, Bool.or_eq_true, ih]
    simp [InR]
theorem rise_okq {A : Rg} {k : Int} (h : RiseR k 999999999 A) (hk : 0 ≤ k) : OkQ A := by
  induction A generalizing k with
  | nil => intro q hq; cases hq
  | cons p A ih =>
    obtain ⟨g, e⟩ := p
    obtain ⟨h1, h2, h3, h4⟩ := h
    intro q hq
    rcases List.mem_cons.1 hq with rfl | hq
    · exact ⟨⟨by simp; omega, by simp; omega⟩, by simp; omega, by simp; omega⟩
    · exact ih h4 (by omega) q hq
theorem RangeR.okq {A : Rg} (h : RangeR A) : OkQ A := rise_okq h (Int.le_refl 0)

theorem foldK_meet {A B : Rg} (hA : RangeR A) (hB : RangeR B) : foldK 109 A B = meetR A B := by
  obtain ⟨h1, h2⟩ := foldK_spec 109 hA.okq hB.okq
  refine range_one h1 (hA.meet hB) fun n => ?_
  rw [h2, meet_in hA hB]
  unfold wantK
  rw [if_pos rfl, Bool.and_eq_true, has_in, has_in]
  exact ⟨fun h => h.2.2, fun h => ⟨(hA.in h.1).1, (hA.in h.1).2, h⟩⟩
theorem foldK_join {A B : Rg} (hA : RangeR A) (hB : RangeR B) : foldK 106 A B = joinR A B := by
  obtain ⟨h1, h2⟩ := foldK_spec 106 hA.okq hB.okq
  refine range_one h1 (hA.join hB) fun n => ?_
  rw [h2, join_in hA hB]
  unfold wantK
  rw [if_neg (by decide), if_pos rfl, Bool.or_eq_true, has_in, has_in]
  refine ⟨fun h => h.2.2, fun h => ?_⟩
  rcases h with h | h
  · exact ⟨(hA.in h).1, (hA.in h).2, Or.inl h⟩
  · exact ⟨(hB.in h).1, (hB.in h).2, Or.inr h⟩
theorem foldK_cut {A B : Rg} (hA : RangeR A) (hB : RangeR B) : foldK 99 A B = cutR A B := by
  obtain ⟨h1, h2⟩ := foldK_spec 99 hA.okq hB.okq
  refine range_one h1 (hA.cut hB) fun n => ?_
  rw [h2, cut_in hA hB]
  unfold wantK
  rw [if_neg (by decide), if_neg (by decide), Bool.and_eq_true, has_in, Bool.not_eq_true', ← Bool.not_eq_true, has_in]
  exact ⟨fun h => h.2.2, fun h => ⟨(hA.in h.1).1, (hA.in h.1).2, h⟩⟩
end Go.Proofs.YtkmgfemhfibikaaGreatDoor
