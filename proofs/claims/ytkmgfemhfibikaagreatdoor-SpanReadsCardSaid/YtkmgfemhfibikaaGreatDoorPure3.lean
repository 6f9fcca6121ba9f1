/- What stands between separators; what a sign ahead of a version's text says. Plain facts. -/
import Derived.Test.YtkmgfemhfibikaaGreatDoorPr1
import Derived.Lib.IndexMore
import Derived.Lib.CountLaws
namespace Go.Proofs.YtkmgfemhfibikaaGreatDoor
open Go.RowKit
set_option maxRecDepth 100000

theorem indexB_eq (s t : ByteArray) : Lib.indexB s t = Lib.index s.data.toList t.data.toList := rfl
theorem list_of_bytes (s : ByteArray) : (⟨s.data.toList.toArray⟩ : ByteArray) = s := (of_list rfl).symm

theorem occ_no {l : List UInt8} {c : UInt8} {tl : List UInt8} {j : Nat} (h : ∀ x, l[j]? = some x → x ≠ c) : Lib.occAt l (c :: tl) j = false := by
  unfold Lib.occAt
  cases hd : l.drop j with
  | nil => rfl
  | cons x r =>
    have hx : l[j]? = some x := by
      have := congrArg (fun q => q[0]?) hd
      simpa using this
    have := h x hx
    simp only [List.isPrefixOf_cons_cons, Bool.and_eq_false_imp, beq_iff_eq]
    intro e
    exact (this e.symm).elim

theorem pieces_one {s sep : ByteArray} {c : UInt8} {tl : List UInt8} (hsep : sep.data.toList = c :: tl) (h : ∀ x ∈ s.data.toList, x ≠ c) : piecesB s sep = [s] := by
  have hi : Lib.indexB s sep = -1 := by
    rw [indexB_eq, hsep]
    exact Lib.index_none fun j _ => occ_no fun x hx => h x (List.mem_of_getElem? hx)
  unfold piecesB
  exact Lib.splitB_miss _ _ _ _ hi

theorem pieces_more {s sep : ByteArray} {c : UInt8} {tl l r : List UInt8} (hsep : sep.data.toList = c :: tl) (hs : s.data.toList = l ++ (sep.data.toList ++ r)) (h : ∀ x ∈ l, x ≠ c) : piecesB s sep = ⟨l.toArray⟩ :: piecesB ⟨r.toArray⟩ sep := by
  have h1 : 1 ≤ sep.size := by rw [← list_size, hsep]; simp
  have hi : Lib.indexB s sep = (l.length : Int) := by
    rw [indexB_eq, hs]
    refine Lib.index_first (by simp) ?_ ?_
    · unfold Lib.occAt
      rw [List.drop_left]
      exact List.isPrefixOf_iff_prefix.2 (List.prefix_append _ _)
    · intro j hj
      rw [hsep]
      refine occ_no fun x hx => ?_
      rw [List.getElem?_append_left hj] at hx
      exact h x (List.mem_of_getElem? hx)
  have hr : s.extract (l.length + sep.size) s.size = ⟨r.toArray⟩ := by
    refine of_list ?_
    rw [Lib.extract_to_end, hs, ← list_size sep, List.drop_append, List.drop_of_length_le (by simp), List.nil_append, Nat.add_sub_cancel_left, List.drop_left]
  have hl : s.extract 0 (l.length + 0) = ⟨l.toArray⟩ := by
    refine of_list ?_
    rw [Lib.extract_from_zero, hs, Nat.add_zero, List.take_left]
  unfold piecesB
  rw [Lib.countB_hit s sep l.length h1 hi, Nat.add_comm 1, Lib.splitB_hit _ _ _ _ _ hi, hr, hl]

theorem meet_all {X : Rg} (hX : RangeR X) : meetR allR X = X := range_one (allR_ok.meet hX) hX fun n => by
  rw [meet_in allR_ok hX, allR_in]
  exact ⟨fun h => h.2, fun h => ⟨hX.in h, h⟩⟩
theorem join_none {X : Rg} (hX : RangeR X) : joinR [] X = X := range_one (RangeR.join (A := []) trivial hX) hX fun n => by
  rw [join_in (A := []) trivial hX]
  exact ⟨fun h => h.elim (fun x => x.elim) id, Or.inr⟩

/-- A version's text: it begins with a digit, and has digits and dots alone. -/
theorem text_first {a b c : Int} (h : mayV a b c = true) : ∃ d r, (textV a b c).data.toList = d :: r ∧ 48 ≤ d.toNat ∧ d.toNat ≤ 57 := by
  rw [text_list h]
  obtain ⟨a0, a1, _⟩ := may_all h
  rw [itoa_of a0]
  have hd := dec_digits a.toNat
  cases hq : Lib.decDigits a.toNat with
  | nil => exact (dec_ne _ hq).elim
  | cons d r => exact ⟨d, _, rfl, hd d (by rw [hq]; exact List.mem_cons_self)⟩
theorem text_bytes {a b c : Int} (h : mayV a b c = true) : ∀ x ∈ (textV a b c).data.toList, x.toNat = 46 ∨ (48 ≤ x.toNat ∧ x.toNat ≤ 57) := by
  rw [text_list h]
  obtain ⟨a0, a1, b0, b1, c0, c1⟩ := may_all h
  rw [itoa_of a0, itoa_of b0, itoa_of c0]
  intro x hx
  simp only [List.mem_append, List.mem_cons] at hx
  rcases hx with hx | rfl | hx | rfl | hx
  · exact Or.inr (dec_digits _ x hx)
  · exact Or.inl rfl
  · exact Or.inr (dec_digits _ x hx)
  · exact Or.inl rfl
  · exact Or.inr (dec_digits _ x hx)
theorem text_long {a b c : Int} (h : mayV a b c = true) : 2 ≤ (textV a b c).data.toList.length := by
  rw [text_list h]; simp; omega

theorem digit_in {d : UInt8} (h : 48 ≤ d.toNat ∧ d.toNat ≤ 57) : ([48, 49, 50, 51, 52, 53, 54, 55, 56, 57] : List UInt8).contains d = true := by
  have : d.toNat = 48 ∨ d.toNat = 49 ∨ d.toNat = 50 ∨ d.toNat = 51 ∨ d.toNat = 52 ∨ d.toNat = 53 ∨ d.toNat = 54 ∨ d.toNat = 55 ∨ d.toNat = 56 ∨ d.toNat = 57 := by omega
  have e : ∀ k : Nat, d.toNat = k → d = UInt8.ofNat k := fun k hk => by rw [← hk]; simp
  rcases this with h | h | h | h | h | h | h | h | h | h <;> (rw [e _ h]; decide)
theorem digit_out {d : UInt8} (h : ¬ (48 ≤ d.toNat ∧ d.toNat ≤ 57)) : ([48, 49, 50, 51, 52, 53, 54, 55, 56, 57] : List UInt8).contains d = false := by
  rw [Bool.eq_false_iff]
  intro hc
  simp only [List.contains_iff_mem, List.mem_cons, List.not_mem_nil, or_false] at hc
  apply h
  rcases hc with rfl | rfl | rfl | rfl | rfl | rfl | rfl | rfl | rfl | rfl <;> decide

theorem cat_list (x y : ByteArray) : (x ++ y).data.toList = x.data.toList ++ y.data.toList := by
  show (x ++ y).data.toList = _
  rw [ByteArray.data_append, Array.toList_append]

/-- A sign: no digit, blank or bar, ASCII. -/
def SignB (s : ByteArray) : Prop := ∀ x ∈ s.data.toList, x.toNat < 48 ∧ x.toNat ≠ 32 ∨ 57 < x.toNat ∧ x.toNat < 124 ∨ x.toNat = 126

theorem word_sign {sg : ByteArray} (hs : SignB sg) {a b c : Int} (h : mayV a b c = true) : wordR (sg ++ textV a b c) = signR sg.data.toList (rankV a b c) := by
  obtain ⟨d, r, hd, h1, h2⟩ := text_first h
  have hl := text_long h
  have hk : idxK (sg ++ textV a b c) = sg.size := by
    unfold idxK
    rw [cat_list, Lib.indexAny_hit (i := sg.data.toList.length) (x := d) ?_ ?_ (digit_in ⟨h1, h2⟩)]
    · rw [list_size]; omega
    · intro j x hj hx
      rw [List.getElem?_append_left hj] at hx
      have := hs x (List.mem_of_getElem? hx)
      exact digit_out (by omega)
    · rw [List.getElem?_append_right (Nat.le_refl _), hd]; simp
  have e1 : (sg ++ textV a b c).extract sg.size (sg ++ textV a b c).size = textV a b c := by
    have : ((sg ++ textV a b c).extract sg.size (sg ++ textV a b c).size).data.toList = (textV a b c).data.toList := by
      rw [Lib.extract_to_end, cat_list, ← list_size sg, List.drop_left]
    rw [of_list this, list_of_bytes]
  have e2 : ((sg ++ textV a b c).extract 0 sg.size).data.toList = sg.data.toList := by
    rw [Lib.extract_from_zero, cat_list, ← list_size sg, List.take_left]
  unfold wordR
  rw [if_neg, hk, e1, e2, if_pos (okP_of h).1]
  · unfold plP
    rw [(okP_of h).2.1, (okP_of h).2.2.1, (okP_of h).2.2.2]
  · rw [cat_list]
    intro e
    have := congrArg List.length e
    rw [List.length_append, List.length_singleton] at this
    omega

theorem alt_word {s : ByteArray} (h : ∀ x ∈ s.data.toList, x.toNat ≠ 32 ∧ x.toNat ≠ 124) (h0 : s.size ≠ 0) {X : Rg} (hX : wordR s = some X) : altR s = some X := by
  have p1 : piecesB s ⟨#[124, 124]⟩ = [s] := pieces_one (c := 124) (tl := [124]) rfl fun x hx e => (h x hx).2 (by rw [e]; rfl)
  have p2 : piecesB s ⟨#[32]⟩ = [s] := pieces_one (c := 32) (tl := []) rfl fun x hx e => (h x hx).1 (by rw [e]; rfl)
  have hw : wordsF allR false [s] = some (X, true) := by
    rw [wordsF, if_neg h0, hX]
    simp only [wordsF]
    rw [meet_all (word_rg hX)]
  unfold altR
  rw [p1]
  unfold altF
  rw [p2]
  have b : wordsB [s] = true := by unfold wordsB; rw [hw]
  have l : wordsL [s] = X := by unfold wordsL; rw [hw]
  rw [if_pos b, l, join_none (word_rg hX)]
  rfl

theorem sign_plain {sg : ByteArray} (hs : SignB sg) {a b c : Int} (h : mayV a b c = true) : ∀ x ∈ (sg ++ textV a b c).data.toList, x.toNat ≠ 32 ∧ x.toNat ≠ 124 ∧ x.toNat < 128 := by
  intro x hx
  rw [cat_list, List.mem_append] at hx
  rcases hx with hx | hx
  · have := hs x hx; omega
  · have := text_bytes h x hx; omega

theorem plain_of {s : ByteArray} (h : ∀ x ∈ s.data.toList, x.toNat ≠ 32 ∧ x.toNat ≠ 124 ∧ x.toNat < 128) : PlainT s := by
  have p1 : piecesB s ⟨#[124, 124]⟩ = [s] := pieces_one (c := 124) (tl := [124]) rfl fun x hx e => (h x hx).2.1 (by rw [e]; rfl)
  have p2 : piecesB s ⟨#[32]⟩ = [s] := pieces_one (c := 32) (tl := []) rfl fun x hx e => (h x hx).1 (by rw [e]; rfl)
  unfold PlainT
  rw [p1]
  intro a ha
  rw [List.mem_singleton] at ha
  subst ha
  rw [p2]
  intro p hp _
  rw [List.mem_singleton] at hp
  subst hp
  exact Or.inr fun j b hj => (h b (List.mem_of_getElem? hj)).2.2

theorem sign_len {s : List UInt8} {n : Int} {X : Rg} (h : signR s n = some X) : X.length ≤ 64 := by
  unfold signR at h
  repeat' split at h
  all_goals first | (cases h; done) | (injection h with h; subst h)
  · simp
  · have := cutR_len (B := [(n, 999999999)]) allR_ok; simp only [allR, List.length_cons, List.length_nil] at this ⊢; omega
  · simp
  · have := cutR_len (B := [(0, n)]) allR_ok; simp only [allR, List.length_cons, List.length_nil] at this ⊢; omega
  · simp
  · simp
  · simp

/-- Parse of a sign and a version's text. -/
theorem Parse_sign {sg : ByteArray} (hs : SignB sg) (hz : sg.size ≤ 10) {a b c : Int} (h : mayV a b c = true) {X : Rg} (hX : signR sg.data.toList (rankV a b c) = some X) (w : World) (he : Env w) (hf : FL w) :
    Calls Tryz.prog 14 #[.string (sg ++ textV a b c)] w fun e w' => ∃ v, e = .returned (.tuple #[v, .int .i64 0]) ∧ SpansR w' v X ∧ Below w.heap.size w w' := by
  have hx : X.length ≤ 64 := sign_len hX
  have hp := sign_plain hs h
  have ht := text_size a b c
  have h2 := text_long h
  rw [list_size] at h2
  have ha : altR (sg ++ textV a b c) = some X := alt_word (fun x hx => ⟨(hp x hx).1, (hp x hx).2.1⟩) (by rw [size_cat]; omega) (by rw [word_sign hs h]; exact hX)
  refine (sParse_any _ (by rw [size_cat]; omega) (plain_of hp) w he hf).mono ?_
  rintro e w' ⟨v, rfl, ho, hb⟩
  rw [ha] at ho ⊢
  refine ⟨v, ?_, ?_, hb⟩
  · have : parE (some X) = 0 := by show fullE X.length = 0; unfold fullE; rw [if_pos hx]
    rw [this]
  · have := ho.spans
    have e : parL (some X) = X := fit_of hx
    rw [e] at this; exact this
end Go.Proofs.YtkmgfemhfibikaaGreatDoor
