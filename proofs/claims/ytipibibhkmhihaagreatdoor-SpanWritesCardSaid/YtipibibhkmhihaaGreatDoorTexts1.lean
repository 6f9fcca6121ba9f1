/- Texts put one behind the other: what they say. Plain facts. -/
import Derived.Test.YtipibibhkmhihaaGreatDoorTx6
namespace Go.Proofs.YtipibibhkmhihaaGreatDoor
open Go.RowKit
set_option maxRecDepth 100000

theorem bytes_append (l r : List UInt8) : (⟨(l ++ r).toArray⟩ : ByteArray) = ⟨l.toArray⟩ ++ ⟨r.toArray⟩ := by
  have : ((⟨l.toArray⟩ : ByteArray) ++ ⟨r.toArray⟩).data.toList = l ++ r := by rw [cat_list]
  rw [of_list this]

/-- A text is one piece, or a piece, the separator and the rest. -/
theorem pieces_cases (s sep : ByteArray) (h1 : 1 ≤ sep.size) : piecesB s sep = [s] ∨ ∃ l r : List UInt8, s.data.toList = l ++ (sep.data.toList ++ r) ∧ piecesB s sep = ⟨l.toArray⟩ :: piecesB ⟨r.toArray⟩ sep ∧ r.length < s.size := by
  rcases Lib.indexB_cases s sep with hi | ⟨i, hi, hr⟩
  · left; unfold piecesB; exact Lib.splitB_miss _ _ _ _ hi
  · right
    have ho : Lib.occAt s.data.toList sep.data.toList i = true := by
      rcases Lib.index_spec s.data.toList sep.data.toList with ⟨h2, _⟩ | ⟨j, h2, _, h3, _⟩
      · rw [indexB_eq, h2] at hi; omega
      · rw [indexB_eq, h2] at hi
        have : j = i := by omega
        subst this; exact h3
    unfold Lib.occAt at ho
    obtain ⟨r, hr2⟩ := List.isPrefixOf_iff_prefix.1 ho
    have e0 : s.data.toList = s.data.toList.take i ++ (sep.data.toList ++ r) := by rw [hr2, List.take_append_drop]
    have hle : i ≤ s.data.toList.length := by rw [list_size]; omega
    have e1 : s.extract 0 (i + 0) = ⟨(s.data.toList.take i).toArray⟩ := of_list (by rw [Lib.extract_from_zero, Nat.add_zero])
    have e2 : s.extract (i + sep.size) s.size = ⟨r.toArray⟩ := by
      refine of_list ?_
      rw [Lib.extract_to_end, ← List.drop_drop, ← hr2, ← list_size sep, List.drop_left]
    refine ⟨s.data.toList.take i, r, e0, ?_, ?_⟩
    · unfold piecesB
      rw [Lib.countB_hit s sep i h1 hi, Nat.add_comm 1, Lib.splitB_hit _ _ _ _ _ hi, e1, e2]
    · have := congrArg List.length e0
      rw [List.length_append, List.length_append, list_size, list_size, List.length_take] at this
      omega

theorem pieces_append {sep : ByteArray} {c : UInt8} {tl : List UInt8} (hsep : sep.data.toList = c :: tl) (t : ByteArray) : ∀ (n : Nat) (s : ByteArray), s.size ≤ n → (∀ p ∈ piecesB s sep, ∀ x ∈ p.data.toList, x ≠ c) → piecesB ((s ++ sep) ++ t) sep = piecesB s sep ++ piecesB t sep
  | n, s, hn, h => by
    have h1 : 1 ≤ sep.size := by rw [← list_size, hsep]; simp
    rcases pieces_cases s sep h1 with e | ⟨l, r, e0, e1, hlt⟩
    · rw [e] at h ⊢
      have := pieces_more (s := (s ++ sep) ++ t) (l := s.data.toList) (r := t.data.toList) hsep (by rw [cat_list, cat_list, List.append_assoc]) (h s List.mem_cons_self)
      rw [this, list_of_bytes, list_of_bytes]; rfl
    · rw [e1] at h ⊢
      have hl : ∀ x ∈ l, x ≠ c := fun x hx => h ⟨l.toArray⟩ List.mem_cons_self x (by simpa using hx)
      have := pieces_more (s := (s ++ sep) ++ t) (l := l) (r := r ++ (sep.data.toList ++ t.data.toList)) hsep (by rw [cat_list, cat_list, e0]; simp [List.append_assoc]) hl
      rw [this, List.cons_append]
      have er : (⟨(r ++ (sep.data.toList ++ t.data.toList)).toArray⟩ : ByteArray) = ((⟨r.toArray⟩ : ByteArray) ++ sep) ++ t := by
        refine (of_list ?_).symm
        rw [cat_list, cat_list]; simp [List.append_assoc]
      rw [er]
      cases n with
      | zero => omega
      | succ n =>
        have hs : (⟨r.toArray⟩ : ByteArray).size ≤ n := by rw [bytes_size]; omega
        rw [pieces_append hsep t n ⟨r.toArray⟩ hs fun p hp => h p (List.mem_cons_of_mem _ hp)]

/-- Between single signs there are none. -/
theorem pieces_clean (c : UInt8) : ∀ (n : Nat) (s : ByteArray), s.size ≤ n → ∀ p ∈ piecesB s ⟨#[c]⟩, ∀ x ∈ p.data.toList, x ≠ c
  | n, s, hn => by
    have h1 : 1 ≤ (⟨#[c]⟩ : ByteArray).size := Nat.le_refl _
    rcases Lib.indexB_cases s ⟨#[c]⟩ with hi | ⟨i, hi, hr⟩
    · have e : piecesB s ⟨#[c]⟩ = [s] := by unfold piecesB; exact Lib.splitB_miss _ _ _ _ hi
      rw [e]
      intro p hp x hx hc
      rw [List.mem_singleton] at hp
      subst hp
      subst hc
      obtain ⟨j, hj⟩ := List.getElem?_of_mem hx
      rcases Lib.index_spec p.data.toList [x] with ⟨_, h3⟩ | ⟨j', h2, _⟩
      · have hlt : j < p.data.toList.length := (List.getElem?_eq_some_iff.1 hj).1
        have := h3 j (by omega)
        unfold Lib.occAt at this
        rw [List.drop_eq_getElem_cons hlt] at this
        rw [List.getElem?_eq_getElem hlt, Option.some.injEq] at hj
        rw [hj] at this
        simp at this
      · rw [indexB_eq] at hi
        change Lib.index p.data.toList [x] = -1 at hi
        omega
    · have hno : ∀ x ∈ s.data.toList.take i, x ≠ c := by
        intro x hx hc
        subst hc
        obtain ⟨j, hj⟩ := List.getElem?_of_mem hx
        have hji : j < i ∧ s.data.toList[j]? = some x := by
          rw [List.getElem?_take] at hj
          split at hj
          · exact ⟨by assumption, hj⟩
          · cases hj
        rcases Lib.index_spec s.data.toList [x] with ⟨h2, _⟩ | ⟨j', h2, _, _, h3⟩
        · rw [indexB_eq] at hi
          change Lib.index s.data.toList [x] = _ at hi
          omega
        · rw [indexB_eq] at hi
          change Lib.index s.data.toList [x] = _ at hi
          have : j' = i := by omega
          subst this
          have h4 := h3 j hji.1
          unfold Lib.occAt at h4
          have hlt : j < s.data.toList.length := (List.getElem?_eq_some_iff.1 hji.2).1
          rw [List.drop_eq_getElem_cons hlt] at h4
          have h5 := hji.2
          rw [List.getElem?_eq_getElem hlt, Option.some.injEq] at h5
          rw [h5] at h4
          simp at h4
      have e1 : s.extract 0 (i + 0) = ⟨(s.data.toList.take i).toArray⟩ := of_list (by rw [Lib.extract_from_zero, Nat.add_zero])
      have e : piecesB s ⟨#[c]⟩ = ⟨(s.data.toList.take i).toArray⟩ :: piecesB (s.extract (i + 1) s.size) ⟨#[c]⟩ := by
        unfold piecesB
        rw [Lib.countB_hit s ⟨#[c]⟩ i h1 hi, Nat.add_comm 1, Lib.splitB_hit _ _ _ _ _ hi, e1]
        rfl
      rw [e]
      intro p hp
      rcases List.mem_cons.1 hp with rfl | hp
      · intro x hx; exact hno x (by simpa using hx)
      · cases n with
        | zero => have : (⟨#[c]⟩ : ByteArray).size = 1 := rfl; omega
        | succ n =>
          have hz : (s.extract (i + 1) s.size).size ≤ n := by
            rw [ByteArray.size_extract]
            have : (⟨#[c]⟩ : ByteArray).size = 1 := rfl
            omega
          exact pieces_clean c n _ hz p hp

theorem join_assoc {A B C : Rg} (hA : RangeR A) (hB : RangeR B) (hC : RangeR C) : joinR (joinR A B) C = joinR A (joinR B C) := range_one ((hA.join hB).join hC) (hA.join (hB.join hC)) fun n => by
  rw [join_in (hA.join hB) hC, join_in hA hB, join_in hA (hB.join hC), join_in hB hC, or_assoc]

theorem altF_from : ∀ {l : List ByteArray} {R : Rg}, RangeR R → altF R l = (altF [] l).map (joinR R)
  | [], R, hR => by
    have : joinR R [] = R := range_one (hR.join (B := []) trivial) hR fun n => by rw [join_in hR (B := []) trivial]; exact ⟨fun h => h.elim id (fun x => x.elim), Or.inl⟩
    simp [altF, this]
  | a :: l, R, hR => by
    unfold altF
    split
    · have hX := wordsL_rg (piecesB a ⟨#[32]⟩)
      rw [altF_from (hR.join hX), join_none hX, altF_from hX, Option.map_map]
      cases hq : altF [] l with
      | none => rfl
      | some Y =>
        have hY := altF_rg (R := []) trivial hq
        simp only [Option.map_some, Function.comp_apply, Option.some.injEq]
        exact join_assoc hR hX hY
    · rfl
theorem altF_cons {a : ByteArray} {l : List ByteArray} {R : Rg} : altF R (a :: l) = if wordsB (piecesB a ⟨#[32]⟩) = true then altF (joinR R (wordsL (piecesB a ⟨#[32]⟩))) l else none := rfl
theorem altF_append : ∀ {l m : List ByteArray} {R : Rg}, altF R (l ++ m) = (altF R l).bind fun Q => altF Q m
  | [], m, R => rfl
  | a :: l, m, R => by
    rw [List.cons_append, altF_cons, altF_cons]
    split
    · exact altF_append
    · rfl

/-- A word has no bar. -/
theorem word_bar {s : ByteArray} {X : Rg} (h : wordR s = some X) : ∀ x ∈ s.data.toList, x.toNat ≠ 124 := by
  unfold wordR at h
  split at h
  · rename_i e
    intro x hx
    rw [e] at hx
    simp at hx
    subst hx
    decide
  · split at h
    · rename_i ho
      obtain ⟨m, e⟩ := okP_text ho
      have hb := text_bytes m
      rw [← e, Lib.extract_to_end] at hb
      intro x hx
      rw [← List.take_append_drop (idxK s) s.data.toList, List.mem_append] at hx
      rcases hx with hx | hx
      · rw [Lib.extract_from_zero] at h
        generalize List.take (idxK s) s.data.toList = sg at *
        intro e124
        have no : ∀ l : List UInt8, (∀ y ∈ l, y.toNat ≠ 124) → ¬ sg = l := fun l hl e => by subst e; exact hl x hx e124
        unfold signR at h
        rw [if_neg (by rintro (e | e); exact no [] (by simp) e; exact no [61] (by decide) e), if_neg (no [60] (by decide)), if_neg (no [60, 61] (by decide)), if_neg (no [62] (by decide)), if_neg (no [62, 61] (by decide)), if_neg (no [94] (by decide)), if_neg (no [126] (by decide))] at h
        cases h
      · have := hb x hx; omega
    · cases h
theorem words_bar : ∀ {ps : List ByteArray} {R : Rg} {f : Bool}, (wordsF R f ps).isSome = true → ∀ p ∈ ps, ∀ x ∈ p.data.toList, x.toNat ≠ 124
  | [], _, _, _, p, hp => by cases hp
  | q :: ps, R, f, h, p, hp => by
    unfold wordsF at h
    split at h
    · rename_i h0
      rcases List.mem_cons.1 hp with rfl | hp
      · intro x hx
        rw [← list_size] at h0
        rw [List.eq_nil_of_length_eq_zero h0] at hx
        cases hx
      · exact words_bar h p hp
    · split at h
      · cases h
      · rename_i X hX
        rcases List.mem_cons.1 hp with rfl | hp
        · exact word_bar hX
        · exact words_bar h p hp

/-- The bytes of a text are those of its pieces and of the separators. -/
theorem pieces_bytes (sep : ByteArray) (h1 : 1 ≤ sep.size) : ∀ (n : Nat) (s : ByteArray), s.size ≤ n → ∀ x ∈ s.data.toList, x ∈ sep.data.toList ∨ ∃ p ∈ piecesB s sep, x ∈ p.data.toList
  | n, s, hn, x, hx => by
    rcases pieces_cases s sep h1 with e | ⟨l, r, e0, e1, hlt⟩
    · rw [e]; exact Or.inr ⟨s, List.mem_cons_self, hx⟩
    · rw [e0] at hx
      rw [e1]
      simp only [List.mem_append] at hx
      rcases hx with hx | hx | hx
      · exact Or.inr ⟨_, List.mem_cons_self, by simpa using hx⟩
      · exact Or.inl hx
      · cases n with
        | zero => omega
        | succ n =>
          rcases pieces_bytes sep h1 n ⟨r.toArray⟩ (by rw [bytes_size]; omega) x (by simpa using hx) with h | ⟨p, hp, hpx⟩
          · exact Or.inl h
          · exact Or.inr ⟨p, List.mem_cons_of_mem _ hp, hpx⟩

theorem alt_bar : ∀ {l : List ByteArray} {R : Rg}, (altF R l).isSome = true → ∀ p ∈ l, ∀ x ∈ p.data.toList, x ≠ 124
  | [], _, _, p, hp => by cases hp
  | a :: l, R, h, p, hp => by
    unfold altF at h
    split at h
    · rename_i hb
      rcases List.mem_cons.1 hp with rfl | hp
      · intro x hx e
        have hs : (wordsF allR false (piecesB p ⟨#[32]⟩)).isSome = true := by
          unfold wordsB at hb
          split at hb
          · rename_i e2; rw [e2]; rfl
          · cases hb
        rcases pieces_bytes ⟨#[32]⟩ (by decide) p.size p (Nat.le_refl _) x hx with h2 | ⟨q, hq, hxq⟩
        · simp at h2; rw [h2] at e; exact absurd e (by decide)
        · exact words_bar hs q hq x hxq (by rw [e]; rfl)
      · exact alt_bar h p hp
    · cases h

theorem alt_both {s t : ByteArray} {A B : Rg} (ha : altR s = some A) (hb : altR t = some B) : altR ((s ++ ⟨#[124, 124]⟩) ++ t) = some (joinR A B) := by
  unfold altR at *
  rw [pieces_append (c := 124) (tl := [124]) rfl t s.size s (Nat.le_refl _) (alt_bar (by rw [ha]; rfl)), altF_append, ha, Option.bind_some, altF_from (altF_rg (R := []) trivial ha), hb]
  rfl

theorem meet_allr {R : Rg} (hR : RangeR R) : meetR R allR = R := range_one (hR.meet allR_ok) hR fun n => by
  rw [meet_in hR allR_ok, allR_in]
  exact ⟨fun h => h.1, fun h => ⟨h, hR.in h⟩⟩
theorem meet_asc {A B C : Rg} (hA : RangeR A) (hB : RangeR B) (hC : RangeR C) : meetR (meetR A B) C = meetR A (meetR B C) := range_one ((hA.meet hB).meet hC) (hA.meet (hB.meet hC)) fun n => by
  rw [meet_in hA (hB.meet hC), meet_in hB hC, meet_in (hA.meet hB) hC, meet_in hA hB]
  exact ⟨fun h => ⟨h.1.1, h.1.2, h.2⟩, fun h => ⟨⟨h.1, h.2.1⟩, h.2.2⟩⟩
theorem wordsF_from : ∀ {ps : List ByteArray} {R : Rg} {f : Bool}, RangeR R → wordsF R f ps = (wordsF allR false ps).map fun q => (meetR R q.1, f || q.2)
  | [], R, f, hR => by simp [wordsF, meet_allr hR]
  | p :: ps, R, f, hR => by
    unfold wordsF
    split
    · exact wordsF_from hR
    · split
      · rfl
      · rename_i X hX
        have hXr := word_rg hX
        rw [wordsF_from (hR.meet hXr), meet_all hXr, wordsF_from hXr, Option.map_map]
        cases hq : wordsF allR false ps with
        | none => rfl
        | some Y =>
          obtain ⟨Y, g⟩ := Y
          have hY := wordsF_rg allR_ok hq
          simp only [Option.map_some, Function.comp_apply, Option.some.injEq, Prod.mk.injEq, Bool.true_or, Bool.or_true, and_true]
          exact meet_asc hR hXr hY
theorem wordsF_cons {p : ByteArray} {ps : List ByteArray} {R : Rg} {f : Bool} : wordsF R f (p :: ps) = if p.size = 0 then wordsF R f ps else match wordR p with
    | none => none
    | some X => wordsF (meetR R X) true ps := rfl
theorem wordsF_append : ∀ {ps qs : List ByteArray} {R : Rg} {f : Bool}, wordsF R f (ps ++ qs) = (wordsF R f ps).bind fun q => wordsF q.1 q.2 qs
  | [], qs, R, f => rfl
  | p :: ps, qs, R, f => by
    rw [List.cons_append, wordsF_cons, wordsF_cons]
    split
    · exact wordsF_append
    · cases wordR p with
      | none => rfl
      | some X => exact wordsF_append

/-- A text without bars. -/
theorem alt_plain {s : ByteArray} (h : ∀ x ∈ s.data.toList, x ≠ 124) {A : Rg} : altR s = some A ↔ wordsF allR false (piecesB s ⟨#[32]⟩) = some (A, true) := by
  have p1 : piecesB s ⟨#[124, 124]⟩ = [s] := pieces_one (c := 124) (tl := [124]) rfl h
  unfold altR
  rw [p1]
  unfold altF
  have hj := join_none (wordsL_rg (piecesB s ⟨#[32]⟩))
  rw [hj]
  unfold wordsB wordsL
  cases hq : wordsF allR false (piecesB s ⟨#[32]⟩) with
  | none => simp
  | some q =>
    obtain ⟨X, f⟩ := q
    cases f <;> simp [altF]

theorem alt_blank {s t : ByteArray} {A B : Rg} (hs : ∀ x ∈ s.data.toList, x ≠ 124) (ht : ∀ x ∈ t.data.toList, x ≠ 124) (ha : altR s = some A) (hb : altR t = some B) : altR ((s ++ ⟨#[32]⟩) ++ t) = some (meetR A B) := by
  have hst : ∀ x ∈ ((s ++ ⟨#[32]⟩) ++ t).data.toList, x ≠ 124 := by
    intro x hx
    rw [cat_list, cat_list] at hx
    simp only [List.mem_append] at hx
    rcases hx with (hx | hx) | hx
    · exact hs x hx
    · simp at hx; rw [hx]; decide
    · exact ht x hx
  have ea := (alt_plain hs).1 ha
  have eb := (alt_plain ht).1 hb
  rw [alt_plain hst, pieces_append (c := 32) (tl := []) rfl t s.size s (Nat.le_refl _) (pieces_clean 32 s.size s (Nat.le_refl _)), wordsF_append, ea, Option.bind_some, wordsF_from (altR_rg ha), eb]
  rfl
end Go.Proofs.YtipibibhkmhihaaGreatDoor
