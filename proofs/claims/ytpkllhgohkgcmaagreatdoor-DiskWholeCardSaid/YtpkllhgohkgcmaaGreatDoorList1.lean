/- The names in a directory: children of one parent stand in the order of their names. Plain facts. -/
import Derived.Test.YtpkllhgohkgcmaaGreatDoorRef13
import Derived.Sort.OwnSorted
import Derived.Sort.KeysCollected
namespace Go.Proofs.YtpkllhgohkgcmaaGreatDoor
open Go.RowKit Go.Maps Go.Sort
set_option maxRecDepth 100000

/-- Where a child's name begins. -/
def fromOf (s : ByteArray) : Nat := if (s.toList == [47]) = true then 1 else s.size + 1
/-- What stands ahead of a child's name. -/
def headOf (s : ByteArray) : List UInt8 := if (s.toList == [47]) = true then [47] else s.data.toList ++ [47]

theorem extract_size0 (s : ByteArray) (i : Nat) (h : i ≤ s.size) : (s.extract 0 i).size = i := by rw [ByteArray.size_extract]; omega

theorem root_eq {s : ByteArray} (h : (s.toList == [47]) = true) : s.data.toList = [47] := by
  rw [toList_data] at h; simpa using h

theorem child_split {f : ByteArray} (h : okPath f = true) : ∃ i, i < f.size ∧ fromOf (parentOf f) = i + 1 ∧ nameOf f = f.extract (i + 1) f.size ∧ f.data.toList = headOf (parentOf f) ++ (nameOf f).data.toList := by
  obtain ⟨i, hi, he, hc, _⟩ := last_at (okPath_parts h).2
  have hr := h
  rw [okPath_rest] at hr
  simp only [Bool.and_eq_true, decide_eq_true_eq, beq_iff_eq] at hr
  obtain ⟨⟨⟨h2, _⟩, hh⟩, hrest⟩ := hr
  have hn : nameOf f = f.extract (i + 1) f.size := by unfold nameOf; rw [he]; simp
  have hp : parentOf f = if (i : Int) = 0 then ⟨#[47]⟩ else f.extract 0 i := by unfold parentOf; rw [he]; simp
  have hsz : f.data.toList.length = f.size := by rw [Array.length_toList]; rfl
  have htake : f.data.toList.take (i + 1) ++ f.data.toList.drop (i + 1) = f.data.toList := List.take_append_drop _ _
  have hname : (nameOf f).data.toList = f.data.toList.drop (i + 1) := by
    rw [hn, extract_list]
    rw [List.take_of_length_le]
    rw [List.length_drop, hsz]; omega
  have hgi : f.data.toList[i]'(by rw [hsz]; exact hi) = 47 := by rw [← hc]; rfl
  have hsnoc : f.data.toList.take (i + 1) = f.data.toList.take i ++ [47] := by
    rw [List.take_succ_eq_append_getElem (by rw [hsz]; exact hi), hgi]
  by_cases h0 : i = 0
  · subst h0
    have hp' : parentOf f = ⟨#[47]⟩ := by rw [hp]; rfl
    have hroot : ((parentOf f).toList == [47]) = true := by rw [hp', toList_data]; rfl
    refine ⟨0, hi, by unfold fromOf; rw [if_pos hroot], hn, ?_⟩
    unfold headOf
    rw [if_pos hroot, hname]
    refine htake.symm.trans ?_
    rw [hsnoc]
    simp
  · have hp' : parentOf f = f.extract 0 i := by rw [hp, if_neg (by omega)]
    have hnr : ((parentOf f).toList == [47]) = false := by
      rw [Bool.eq_false_iff]
      intro hroot
      have h1 := root_eq hroot
      have hs1 : (parentOf f).size = 1 := by
        show (parentOf f).data.size = 1
        rw [← Array.length_toList, h1]; rfl
      rw [hp', extract_size0 f i (by omega)] at hs1
      subst hs1
      have hd : f.data.toList.drop 1 = 47 :: f.data.toList.drop 2 := by
        rw [List.drop_eq_getElem_cons (by rw [hsz]; exact hi), hgi]
      rw [hd, restOk_slash] at hrest
      have : partB [] = false := rfl
      rw [this] at hrest
      cases hrest
    have hsz' : (parentOf f).size = i := by rw [hp', extract_size0 f i (by omega)]
    refine ⟨i, hi, by unfold fromOf; rw [if_neg (by rw [hnr]; decide), hsz'], hn, ?_⟩
    unfold headOf
    rw [if_neg (by rw [hnr]; decide), hname, hp', extract_list]
    refine htake.symm.trans ?_
    rw [hsnoc]
    simp

theorem before_prefix : ∀ (P a b : List UInt8), bytesBefore (P ++ a) (P ++ b) = bytesBefore a b
  | [], _, _ => rfl
  | c :: P, a, b => by
    have ih := before_prefix P a b
    show (decide (c < c) || c == c && bytesBefore (P ++ a) (P ++ b)) = _
    rw [ih]
    simp

/-- What is in a directory. -/
def kidsD (D : DataW Unit) (s : ByteArray) : List Fl := (filesD D).filter fun f => (parentOf f.1).toList == s.toList
/-- The names in it. -/
def namesD (D : DataW Unit) (s : ByteArray) : List (List UInt8) := (kidsD D s).map fun f => (nameOf f.1).data.toList

theorem mem_kids {D : DataW Unit} {s : ByteArray} {f : Fl} : f ∈ kidsD D s ↔ f ∈ filesD D ∧ parentOf f.1 = s := by
  unfold kidsD
  rw [List.mem_filter]
  exact ⟨fun ⟨h1, h2⟩ => ⟨h1, beq_bytes.1 h2⟩, fun ⟨h1, h2⟩ => ⟨h1, beq_bytes.2 h2⟩⟩

theorem Plain.ok {D : DataW Unit} (hP : Plain D) {f : Fl} (hf : f ∈ filesD D) : okPath f.1 = true := by
  obtain ⟨s', hs', hok'⟩ := hP.good.keys _ ((hP.good.mem f).1 hf).1
  rw [keyD_inj hs']; exact hok'

theorem names_rising {D : DataW Unit} (hP : Plain D) (s : ByteArray) : (namesD D s).Pairwise fun a b => bytesBefore a b = true := by
  unfold namesD
  rw [List.pairwise_map]
  have hr : (kidsD D s).Pairwise fun x y => bytesBefore x.1.data.toList y.1.data.toList = true := List.Pairwise.filter _ hP.good.rise
  refine hr.imp_of_mem fun {f g} hf hg hb => ?_
  obtain ⟨hf1, hf2⟩ := mem_kids.1 hf
  obtain ⟨hg1, hg2⟩ := mem_kids.1 hg
  obtain ⟨_, _, _, _, ef⟩ := child_split (hP.ok hf1)
  obtain ⟨_, _, _, _, eg⟩ := child_split (hP.ok hg1)
  rw [hf2] at ef
  rw [hg2] at eg
  rw [ef, eg, before_prefix] at hb
  exact hb

theorem before_le : ∀ {a b : List UInt8}, bytesBefore a b = true → a ≤ b
  | [], [], h => by simp [bytesBefore] at h
  | [], _ :: _, _ => by simp
  | _ :: _, [], h => by simp [bytesBefore] at h
  | x :: a, y :: b, h => by
    unfold bytesBefore at h
    simp only [Bool.or_eq_true, Bool.and_eq_true, decide_eq_true_eq, beq_iff_eq] at h
    rw [List.cons_le_cons_iff]
    rcases h with h | ⟨h1, h2⟩
    · exact Or.inl h
    · exact Or.inr ⟨h1, before_le h2⟩

theorem names_sorted {D : DataW Unit} (hP : Plain D) (s : ByteArray) {ss : List (List UInt8)} (h : ss.Perm (namesD D s)) : (ss.mergeSort fun x y => decide (x ≤ y)) = namesD D s := by
  have hm := mergeSort_of_perm h
  show ss.mergeSort leB = _
  rw [hm]
  refine List.mergeSort_of_pairwise ((names_rising hP s).imp fun {a b} h => ?_)
  simp only [leB, decide_eq_true_eq]
  exact before_le h

/-- What List answers: its error. -/
def listE (D : DataW Unit) (s : ByteArray) : Int := if pathB s = true then (if (kindD D s == 0) = true then 12 else if (kindD D s == 1) = true then 13 else 0) else 10
/-- The names that it tells. -/
def listT (D : DataW Unit) (s : ByteArray) : List (List UInt8) := if (listE D s == 0) = true then namesD D s else []

/-- What has been collected of a list. -/
def CollL (L : List Fl) (left : Lit → Bool) (fs : List Fl) : Prop := fs.Nodup ∧ ∀ f : Fl, f ∈ fs ↔ (f ∈ L ∧ left (keyD f.1) = false)

theorem CollL.start {L : List Fl} {has : Lit → Bool} (hm : ∀ f : Fl, f ∈ L → has (keyD f.1) = true) : CollL L has [] :=
  ⟨List.nodup_nil, fun f => ⟨fun h => (by cases h), fun ⟨h1, h2⟩ => (by rw [hm f h1] at h2; cases h2)⟩⟩

theorem CollL.step {L : List Fl} {left : Lit → Bool} {fs : List Fl} (h : CollL L left fs) {f : Fl} (hf : f ∈ L) (hl : left (keyD f.1) = true) (hu : ∀ g ∈ L, g.1 = f.1 → g = f) : CollL L (fun z => left z && !z.sameKey (keyD f.1)) (fs ++ [f]) := by
  have hnew : f ∉ fs := fun hx => by have := ((h.2 f).1 hx).2; rw [hl] at this; cases this
  refine ⟨List.nodup_append.2 ⟨h.1, by simp, fun a ha b hb => by simp only [List.mem_singleton] at hb; subst hb; exact fun e => hnew (e ▸ ha)⟩, fun g => ?_⟩
  rw [List.mem_append, List.mem_singleton, h.2 g]
  by_cases e : g.1 = f.1
  · constructor
    · rintro (⟨h1, h2⟩ | rfl)
      · exact ⟨h1, by simp [h2]⟩
      · exact ⟨hf, by simp [(sameKey_keyD _ _).2 rfl]⟩
    · rintro ⟨h1, _⟩
      exact Or.inr (hu g h1 e)
  · have : (keyD g.1).sameKey (keyD f.1) = false := by rw [Bool.eq_false_iff]; intro h; exact e ((sameKey_keyD _ _).1 h)
    simp only [this, Bool.not_false, Bool.and_true]
    constructor
    · rintro (h1 | rfl)
      · exact h1
      · exact absurd rfl e
    · exact Or.inl

theorem CollL.skip {L : List Fl} {left : Lit → Bool} {fs : List Fl} (h : CollL L left fs) {q : ByteArray} (hu : ∀ g ∈ L, g.1 ≠ q) : CollL L (fun z => left z && !z.sameKey (keyD q)) fs := by
  refine ⟨h.1, fun g => ?_⟩
  rw [h.2 g]
  constructor
  · rintro ⟨h1, h2⟩; exact ⟨h1, by simp [h2]⟩
  · rintro ⟨h1, h2⟩
    have : (keyD g.1).sameKey (keyD q) = false := by rw [Bool.eq_false_iff]; intro h; exact hu g h1 ((sameKey_keyD _ _).1 h)
    simp only [this, Bool.not_false, Bool.and_true] at h2
    exact ⟨h1, h2⟩

theorem CollL.perm {L : List Fl} {left : Lit → Bool} {fs : List Fl} (h : CollL L left fs) (hd : L.Nodup) (hl : ∀ kl, left kl = false) : fs.Perm L :=
  (List.perm_ext_iff_of_nodup h.1 hd).2 fun f => by rw [h.2 f, hl]; simp

end Go.Proofs.YtpkllhgohkgcmaaGreatDoor
