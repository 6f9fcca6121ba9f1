/- Parse of Print, in plain words: a range's text says that range. No condition. -/
import Derived.Test.YtipibibhkmhihaaGreatDoorTexts1
import Derived.Test.YtipibibhkmhihaaGreatDoorPr2
namespace Go.Proofs.YtipibibhkmhihaaGreatDoor
open Go.RowKit
set_option maxRecDepth 100000

theorem same_list {s t : ByteArray} (h : s.data.toList = t.data.toList) : s = t := (of_list h).trans (list_of_bytes t)
theorem empty_cat (s : ByteArray) : (⟨#[]⟩ : ByteArray) ++ s = s := same_list (by rw [cat_list]; rfl)
theorem cat_empty (s : ByteArray) : s ++ (⟨#[]⟩ : ByteArray) = s := same_list (by rw [cat_list]; exact List.append_nil _)
theorem pieces_empty (c : UInt8) : piecesB ⟨#[]⟩ ⟨#[c]⟩ = [⟨#[]⟩] := pieces_one (c := c) (tl := []) rfl (fun x hx => by cases hx)

/-- A blank ahead, a blank behind. -/
theorem pad_left {s : ByteArray} (hs : ∀ x ∈ s.data.toList, x ≠ 124) {A : Rg} (ha : altR s = some A) : altR (⟨#[32]⟩ ++ s) = some A ∧ ∀ x ∈ (⟨#[32]⟩ ++ s).data.toList, x ≠ 124 := by
  have hb : ∀ x ∈ (⟨#[32]⟩ ++ s).data.toList, x ≠ 124 := by
    intro x hx
    rw [cat_list] at hx
    rcases List.mem_append.1 hx with hx | hx
    · simp at hx; rw [hx]; decide
    · exact hs x hx
  refine ⟨?_, hb⟩
  have e : (⟨#[32]⟩ : ByteArray) ++ s = ((⟨#[]⟩ : ByteArray) ++ ⟨#[32]⟩) ++ s := by rw [empty_cat]
  have hp := pieces_append (sep := ⟨#[32]⟩) (c := 32) (tl := []) rfl s 0 ⟨#[]⟩ (Nat.le_refl _) (pieces_clean 32 0 ⟨#[]⟩ (Nat.le_refl _))
  rw [alt_plain hb, e, hp, pieces_empty, List.singleton_append, wordsF_cons, if_pos (show (⟨#[]⟩ : ByteArray).size = 0 from rfl)]
  exact (alt_plain hs).1 ha
theorem pad_right {s : ByteArray} (hs : ∀ x ∈ s.data.toList, x ≠ 124) {A : Rg} (ha : altR s = some A) : altR (s ++ ⟨#[32]⟩) = some A ∧ ∀ x ∈ (s ++ ⟨#[32]⟩).data.toList, x ≠ 124 := by
  have hb : ∀ x ∈ (s ++ ⟨#[32]⟩).data.toList, x ≠ 124 := by
    intro x hx
    rw [cat_list] at hx
    rcases List.mem_append.1 hx with hx | hx
    · exact hs x hx
    · simp at hx; rw [hx]; decide
  refine ⟨?_, hb⟩
  have e : s ++ (⟨#[32]⟩ : ByteArray) = (s ++ ⟨#[32]⟩) ++ ⟨#[]⟩ := by rw [cat_empty]
  have hp := pieces_append (sep := ⟨#[32]⟩) (c := 32) (tl := []) rfl ⟨#[]⟩ s.size s (Nat.le_refl _) (pieces_clean 32 s.size s (Nat.le_refl _))
  rw [alt_plain hb, e, hp, pieces_empty, wordsF_append, (alt_plain hs).1 ha]
  simp only [Option.bind_some]
  rw [wordsF_cons, if_pos (show (⟨#[]⟩ : ByteArray).size = 0 from rfl)]
  rfl

theorem sign_alt {sg : ByteArray} (hs : SignB sg) {a b c : Int} (h : mayV a b c = true) {X : Rg} (hX : signR sg.data.toList (rankV a b c) = some X) : altR (sg ++ textV a b c) = some X ∧ ∀ x ∈ (sg ++ textV a b c).data.toList, x ≠ 124 := by
  have hp := sign_plain hs h
  have hl := text_long h
  refine ⟨alt_word (fun x hx => ⟨(hp x hx).1, (hp x hx).2.1⟩) ?_ ((word_sign hs h).trans hX), fun x hx e => (hp x hx).2.1 (by rw [e]; rfl)⟩
  rw [size_cat]
  rw [list_size] at hl
  omega
theorem star_alt : altR ⟨#[42]⟩ = some allR ∧ ∀ x ∈ (⟨#[42]⟩ : ByteArray).data.toList, x ≠ 124 := by
  refine ⟨alt_word ?_ (by decide) ?_, ?_⟩
  · intro x hx; simp at hx; rw [hx]; decide
  · unfold wordR; rw [if_pos rfl]
  · intro x hx; simp at hx; rw [hx]; decide

theorem le_sign : SignB ⟨#[60, 61]⟩ := by intro x hx; simp at hx; rcases hx with rfl | rfl <;> decide
theorem ge_sign : SignB ⟨#[62, 61]⟩ := by intro x hx; simp at hx; rcases hx with rfl | rfl <;> decide
theorem no_sign : SignB ⟨#[]⟩ := by intro x hx; simp at hx
theorem rank_000 : rankV 0 0 0 = 0 := by decide +kernel
theorem rank_999 : rankV 999 999 999 = 999999999 := by decide +kernel

/-- A span's text says that span. -/
theorem spT_alt {lo hi : Int} (h1 : okR lo) (h2 : okR hi) (h : lo ≤ hi) : altR (spT (lo, hi)) = some [(lo, hi)] ∧ ∀ x ∈ (spT (lo, hi)).data.toList, x ≠ 124 := by
  obtain ⟨m1, e1⟩ := may_at h1.has
  obtain ⟨m2, e2⟩ := may_at h2.has
  unfold spT spanT
  simp only
  split
  · rename_i hq
    have hlh : lo = hi := by rw [← e1, ← e2, hq.1, hq.2.1, hq.2.2]
    have := sign_alt no_sign m1 (X := [(lo, lo)]) (by rw [e1]; rfl)
    rw [empty_cat] at this
    rw [← hlh]
    exact this
  · split
    · rename_i _ hq
      have hl : lo = 0 := by rw [← e1, hq.1.1, hq.1.2.1, hq.1.2.2]; exact rank_000
      have hh : hi = 999999999 := by rw [← e2, hq.2.1, hq.2.2.1, hq.2.2.2]; exact rank_999
      rw [hl, hh]
      exact star_alt
    · split
      · rename_i _ _ hq
        have hl : lo = 0 := by rw [← e1, hq.1, hq.2.1, hq.2.2]; exact rank_000
        have := sign_alt le_sign m2 (X := [(0, hi)]) (by rw [e2]; rfl)
        rw [hl]
        exact this
      · split
        · rename_i _ _ _ hq
          have hh : hi = 999999999 := by rw [← e2, hq.1, hq.2.1, hq.2.2]; exact rank_999
          have := sign_alt ge_sign m1 (X := [(lo, 999999999)]) (by rw [e1]; rfl)
          rw [hh]
          exact this
        · obtain ⟨a1, b1⟩ := sign_alt ge_sign m1 (X := [(lo, 999999999)]) (by rw [e1]; rfl)
          obtain ⟨a2, b2⟩ := sign_alt le_sign m2 (X := [(0, hi)]) (by rw [e2]; rfl)
          have r1 := one_ok h1 okL h1.2
          have r2 := one_ok okF h2 h2.1
          have hm : meetR [(lo, 999999999)] [(0, hi)] = [(lo, hi)] := range_one (r1.meet r2) (one_ok h1 h2 h) fun n => by
            rw [meet_in r1 r2]
            simp only [InR, or_false]
            have := h1.1
            have := h2.2
            omega
          have e : ((⟨#[62, 61]⟩ ++ textV (atA lo) (atB lo) (atC lo)) ++ ⟨#[32, 60, 61]⟩) ++ textV (atA hi) (atB hi) (atC hi) = ((⟨#[62, 61]⟩ ++ textV (atA lo) (atB lo) (atC lo)) ++ ⟨#[32]⟩) ++ (⟨#[60, 61]⟩ ++ textV (atA hi) (atB hi) (atC hi)) := same_list (by simp only [cat_list]; simp)
          rw [e]
          refine ⟨by rw [alt_blank b1 b2 a1 a2, hm], ?_⟩
          intro x hx
          rw [cat_list, cat_list] at hx
          simp only [List.mem_append] at hx
          rcases hx with (hx | hx) | hx
          · exact b1 x hx
          · simp at hx; rw [hx]; decide
          · exact b2 x hx

theorem rise_head {k M : Int} {p : Int × Int} {A : Rg} (h : RiseR k M (p :: A)) : k ≤ p.1 ∧ p.1 ≤ p.2 ∧ p.2 ≤ M ∧ RiseR (p.2 + 2) M A := h
theorem rise_down {k j M : Int} (hj : j ≤ k) : ∀ {A : Rg}, RiseR k M A → RiseR j M A
  | [], _ => trivial
  | (_, _) :: _, h => ⟨by have := h.1; omega, h.2.1, h.2.2.1, h.2.2.2⟩

/-- A range's text, and that with a blank ahead, says that range. -/
theorem print_alt : ∀ {A : Rg}, RangeR A → A ≠ [] → altR (printR A) = some A ∧ altR (⟨#[32]⟩ ++ printR A) = some A
  | [], _, h => absurd rfl h
  | [(lo, hi)], hA, _ => by
    obtain ⟨q1, q2, q3, _⟩ := rise_head hA
    obtain ⟨a, b⟩ := spT_alt (lo := lo) (hi := hi) ⟨q1, by simp at q2 q3; omega⟩ ⟨by simp at q1 q2; omega, q3⟩ q2
    have e : printR [(lo, hi)] = spT (lo, hi) := by
      unfold printR
      simp only [List.map_cons, List.map_nil]
      rw [Lib.join_one, list_of_bytes]
    rw [e]
    exact ⟨a, (pad_left b a).1⟩
  | (lo, hi) :: q :: r, hA, _ => by
    obtain ⟨q1, q2, q3, q4⟩ := rise_head hA
    have hB : RangeR (q :: r) := rise_down (by simp at q1 q2; omega) q4
    have hP : RangeR [(lo, hi)] := ⟨q1, q2, q3, trivial⟩
    obtain ⟨a, b⟩ := spT_alt (lo := lo) (hi := hi) ⟨q1, by simp at q2 q3; omega⟩ ⟨by simp at q1 q2; omega, q3⟩ q2
    obtain ⟨_, i2⟩ := print_alt hB (by simp)
    have hj : joinR [(lo, hi)] (q :: r) = (lo, hi) :: q :: r := range_one (hP.join hB) hA fun n => by
      rw [join_in hP hB]
      simp only [InR, or_false]
    have e : printR ((lo, hi) :: q :: r) = ((spT (lo, hi) ++ ⟨#[32]⟩) ++ ⟨#[124, 124]⟩) ++ (⟨#[32]⟩ ++ printR (q :: r)) := by
      refine same_list ?_
      simp only [cat_list]
      unfold printR
      simp only [List.map_cons]
      rw [Lib.join_cons]
      have : Lib.joinTail [32, 124, 124, 32] ((spT q).data.toList :: r.map fun p => (spT p).data.toList) = [32, 124, 124, 32] ++ Lib.join ((spT q).data.toList :: r.map fun p => (spT p).data.toList) [32, 124, 124, 32] := by
        rw [Lib.join_cons]
        simp [Lib.joinTail]
      rw [this]
      simp
    obtain ⟨c1, d1⟩ := pad_right b a
    obtain ⟨c2, d2⟩ := pad_left b a
    obtain ⟨c3, d3⟩ := pad_right d2 c2
    refine ⟨by rw [e, alt_both c1 i2, hj], ?_⟩
    have e2 : ⟨#[32]⟩ ++ printR ((lo, hi) :: q :: r) = (((⟨#[32]⟩ ++ spT (lo, hi)) ++ ⟨#[32]⟩) ++ ⟨#[124, 124]⟩) ++ (⟨#[32]⟩ ++ printR (q :: r)) := by
      rw [e]
      refine same_list ?_
      simp only [cat_list]
      simp
    rw [e2, alt_both c3 i2, hj]

theorem lt_sign : SignB ⟨#[60]⟩ := by intro x hx; simp at hx; rw [hx]; decide
theorem print_says {A : Rg} (hA : RangeR A) : altR (printR A) = some A := by
  cases A with
  | cons p A => exact (print_alt hA (by simp)).1
  | nil =>
    have := (sign_alt lt_sign (a := 0) (b := 0) (c := 0) (by decide +kernel) (X := cutR allR [(0, 999999999)]) (by rw [rank_000]; rfl)).1
    have e : cutR allR [(0, 999999999)] = [] := by decide +kernel
    rw [e] at this
    exact this
theorem print_size {A : Rg} (hl : A.length ≤ 64) : (printR A).size ≤ 4096 := by
  cases A with
  | nil => have := text_size 0 0 0; have z : (⟨#[60]⟩ : ByteArray).size = 1 := rfl; show (⟨#[60]⟩ ++ textV 0 0 0).size ≤ 4096; rw [size_cat]; omega
  | cons p A =>
    show (⟨(Lib.join ((p :: A).map fun p => (spT p).data.toList) [32, 124, 124, 32]).toArray⟩ : ByteArray).size ≤ 4096
    rw [bytes_size, List.map_cons, Lib.join_length, ← List.map_cons (f := fun p => (spT p).data.toList)]
    have := lens_le 27 ((p :: A).map fun p => (spT p).data.toList) (by
      intro x hx
      obtain ⟨q, _, rfl⟩ := List.mem_map.1 hx
      exact spanT_size _ _ _ _ _ _)
    simp only [List.length_map, List.length_cons, List.length_nil] at *
    omega
theorem print_par {A : Rg} (hA : RangeR A) (hl : A.length ≤ 64) : parR (printR A) = some A := by
  unfold parR
  rw [if_pos (print_size hl)]
  exact print_says hA
end Go.Proofs.YtipibibhkmhihaaGreatDoor
