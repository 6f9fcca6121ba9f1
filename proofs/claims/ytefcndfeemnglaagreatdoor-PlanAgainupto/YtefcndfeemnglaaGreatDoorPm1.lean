/- Plans and their texts, in plain words: the words of a deed, the deed of words, what a text is read as. No condition. -/
import Derived.Test.YtefcndfeemnglaaGreatDoorPy7
import Derived.Test.YtefcndfeemnglaaGreatDoorScJo2
namespace Go.Proofs.YtefcndfeemnglaaGreatDoor
open Go.RowKit Dk
set_option maxRecDepth 100000

/-- The first line's word. -/
def bsP : Sc.Bs := [112, 108, 97, 110]
/-- A digit. -/
def isHx (b : UInt8) : Bool := (decide (48 ≤ b.toNat) && decide (b.toNat ≤ 57)) || (decide (97 ≤ b.toNat) && decide (b.toNat ≤ 102))
/-- The bytes for which a word stands. -/
def bytW (w : Sc.Bs) : Option Sc.Bs := if w = [45] then some [] else if w.length % 2 = 0 ∧ w.all isHx = true then some (dataL w) else none
/-- The kind for which a word stands. -/
def kindW (w : Sc.Bs) : Int := if w = (wordP 1).data.toList then 1 else if w = (wordP 2).data.toList then 2 else if w = (wordP 3).data.toList then 3 else if w = (wordP 4).data.toList then 4 else 0
/-- The words of a deed. -/
def lineW (d : De) : List Sc.Bs := (wordP d.kd).data.toList :: d.pa.data.toList :: (if d.kd = 4 then [(hexT d.da).data.toList] else [])
/-- The deed of words. -/
def deedW : List Sc.Bs → Option De
  | [k, p] => if 1 ≤ kindW k ∧ kindW k ≤ 3 then some ⟨kindW k, Sc.ba p, ⟨#[]⟩⟩ else none
  | [k, p, x] => if kindW k = 4 then (bytW x).map fun y => ⟨4, Sc.ba p, Sc.ba y⟩ else none
  | _ => none
def linesP (l : List De) : List (List Sc.Bs) := [bsP] :: l.map lineW

theorem dig_all : ∀ n, n < 256 → isHx (UInt8.ofNat n) = true → hexN (digN n) = UInt8.ofNat n := by decide +kernel
theorem hx_dig {b : UInt8} (h : isHx b = true) : hexN (digN b.toNat) = b := by
  have := dig_all b.toNat (by have := b.toNat_lt; omega) (by rw [UInt8.ofNat_toNat]; exact h)
  rwa [UInt8.ofNat_toNat] at this
theorem hx_all : ∀ n, n < 16 → digN (hexN n).toNat = n ∧ isHx (hexN n) = true := by decide +kernel
theorem hx_wB : ∀ n, n < 256 → isHx (UInt8.ofNat n) = true → Sc.wB (UInt8.ofNat n) = true := by decide +kernel
theorem isHx_w {b : UInt8} (h : isHx b = true) : Sc.wB b = true := by
  have := hx_wB b.toNat (by have := b.toNat_lt; omega) (by rw [UInt8.ofNat_toNat]; exact h)
  rwa [UInt8.ofNat_toNat] at this
theorem dataL_hex : ∀ l : Sc.Bs, dataL (hexL l) = l
  | [] => rfl
  | b :: r => by
    have hb := b.toNat_lt
    have e : hexL (b :: r) = hexN (b.toNat / 16) :: hexN (b.toNat % 16) :: hexL r := by simp [hexL]
    rw [e]
    unfold dataL
    rw [(hx_all (b.toNat / 16) (by omega)).1, (hx_all (b.toNat % 16) (by omega)).1, dataL_hex r]
    congr 1
    rw [show 16 * (b.toNat / 16) + b.toNat % 16 = b.toNat by omega, UInt8.ofNat_toNat]
theorem hexL_all : ∀ l : Sc.Bs, (hexL l).all isHx = true
  | [] => rfl
  | b :: r => by
    have hb := b.toNat_lt
    have e : hexL (b :: r) = hexN (b.toNat / 16) :: hexN (b.toNat % 16) :: hexL r := by simp [hexL]
    rw [e, List.all_cons, List.all_cons, (hx_all (b.toNat / 16) (by omega)).2, (hx_all (b.toNat % 16) (by omega)).2, hexL_all r]
    rfl
theorem hexL_data : ∀ (n : Nat) (l : Sc.Bs), l.length = 2 * n → l.all isHx = true → hexL (dataL l) = l
  | 0, [], _, _ => rfl
  | 0, _ :: _, h, _ => by simp at h
  | n + 1, [], h, _ => by simp at h
  | n + 1, [_], h, _ => by simp at h; omega
  | n + 1, a :: b :: r, h, hh => by
    simp only [List.all_cons, Bool.and_eq_true] at hh
    have ha := digN_lt a.toNat
    have hb := digN_lt b.toNat
    have e : dataL (a :: b :: r) = UInt8.ofNat (16 * digN a.toNat + digN b.toNat) :: dataL r := rfl
    have e2 : ∀ (c : UInt8) (m : Sc.Bs), hexL (c :: m) = hexN (c.toNat / 16) :: hexN (c.toNat % 16) :: hexL m := fun c m => by simp [hexL]
    have e3 : (UInt8.ofNat (16 * digN a.toNat + digN b.toNat)).toNat = 16 * digN a.toNat + digN b.toNat := by rw [UInt8.toNat_ofNat']; omega
    rw [e, e2, e3, show (16 * digN a.toNat + digN b.toNat) / 16 = digN a.toNat by omega, show (16 * digN a.toNat + digN b.toNat) % 16 = digN b.toNat by omega, hx_dig hh.1, hx_dig hh.2.1, hexL_data n r (by simp at h; omega) hh.2.2]

theorem toList_nil {s : ByteArray} (h : (s.toList == []) = true) : s = ⟨#[]⟩ := by
  have := beq_iff_eq.1 h
  rw [toList_data] at this
  exact bytes_eq (by rw [this])
theorem hexT_nil {s : ByteArray} (h : (s.toList == []) = true) : (hexT s).data.toList = [45] := by unfold hexT; rw [if_pos h]
theorem hexT_ne {s : ByteArray} (h : (s.toList == []) = false) : (hexT s).data.toList = hexL s.data.toList := by
  unfold hexT
  rw [if_neg (by rw [h]; decide)]
theorem ne_len {s : ByteArray} (h : (s.toList == []) = false) : 0 < s.data.toList.length := by
  rw [toList_data] at h
  cases hc : s.data.toList with
  | nil => rw [hc] at h; cases h
  | cons _ _ => simp
theorem ba_nil : Sc.ba [] = ⟨#[]⟩ := rfl
theorem empty_beq : ((⟨#[]⟩ : ByteArray).toList == []) = true := by rw [toList_data]; rfl
theorem bytW_hex (s : ByteArray) : bytW (hexT s).data.toList = some s.data.toList := by
  cases h : (s.toList == [])
  · have h2 := ne_len h
    rw [hexT_ne h]
    unfold bytW
    have hl := hexL_len s.data.toList
    rw [if_neg (fun e => by rw [e] at hl; simp at hl; omega), if_pos ⟨by omega, hexL_all _⟩, dataL_hex]
  · rw [hexT_nil h, toList_nil h]
    rfl
theorem kindW_word {k : Int} (h1 : 1 ≤ k) (h4 : k ≤ 4) : kindW (wordP k).data.toList = k := by
  obtain rfl | rfl | rfl | rfl : k = 1 ∨ k = 2 ∨ k = 3 ∨ k = 4 := by omega
  all_goals decide +kernel
theorem word_kind {w : Sc.Bs} (h : kindW w ≠ 0) : w = (wordP (kindW w)).data.toList ∧ 1 ≤ kindW w ∧ kindW w ≤ 4 := by
  unfold kindW at h ⊢
  by_cases h1 : w = (wordP 1).data.toList
  · rw [if_pos h1]; exact ⟨h1, by omega, by omega⟩
  · rw [if_neg h1] at h ⊢
    by_cases h2 : w = (wordP 2).data.toList
    · rw [if_pos h2]; exact ⟨h2, by omega, by omega⟩
    · rw [if_neg h2] at h ⊢
      by_cases h3 : w = (wordP 3).data.toList
      · rw [if_pos h3]; exact ⟨h3, by omega, by omega⟩
      · rw [if_neg h3] at h ⊢
        by_cases h4 : w = (wordP 4).data.toList
        · rw [if_pos h4]; exact ⟨h4, by omega, by omega⟩
        · rw [if_neg h4] at h; exact absurd rfl h

/-- What a deed is written as is read as it. -/
theorem deed_line {d : De} (h1 : 1 ≤ d.kd) (h4 : d.kd ≤ 4) (hd : d.kd = 4 ∨ (d.da.toList == []) = true) : deedW (lineW d) = some d := by
  obtain ⟨k, p, t⟩ := d
  simp only at h1 h4 hd
  unfold lineW
  by_cases h : k = 4
  · subst h
    simp only [if_true]
    unfold deedW
    simp only
    rw [if_pos (kindW_word (by omega) (by omega)), bytW_hex]
    simp only [Option.map_some]
    rw [Sc.ba_of, Sc.ba_of]
  · simp only
    rw [if_neg h]
    unfold deedW
    simp only
    rw [kindW_word h1 h4, if_pos ⟨h1, by omega⟩, Sc.ba_of, toList_nil (hd.resolve_left h)]
theorem bytW_some {x y : Sc.Bs} (hx : x ≠ []) (h : bytW x = some y) : (hexT (Sc.ba y)).data.toList = x := by
  unfold bytW at h
  split at h
  · rename_i e
    cases h
    rw [e]
    exact hexT_nil empty_beq
  · split at h
    · rename_i _ e
      cases h
      have hl : x.length = 2 * (x.length / 2) := by omega
      have hl2 := dataL_len _ x hl
      have h0 : 0 < x.length := List.length_pos_iff.2 hx
      have hne : ((Sc.ba (dataL x)).toList == []) = false := by
        rw [toList_data, Sc.ba_list]
        cases hc : dataL x with
        | nil => rw [hc] at hl2; simp at hl2; omega
        | cons _ _ => rfl
      rw [hexT_ne hne, Sc.ba_list, hexL_data _ x hl e.2]
    · cases h
/-- What is read as a deed is what it is written as. -/
theorem line_deed {ws : List Sc.Bs} {d : De} (hw : ws.all Sc.isW = true) (h : deedW ws = some d) : lineW d = ws ∧ 1 ≤ d.kd ∧ d.kd ≤ 4 ∧ (d.kd = 4 ∨ (d.da.toList == []) = true) := by
  match ws, hw, h with
  | [k, p], hw, h =>
    unfold deedW at h
    simp only at h
    split at h
    · rename_i hk
      cases h
      have hq := word_kind (w := k) (by omega)
      refine ⟨?_, hk.1, by simp only; omega, Or.inr empty_beq⟩
      unfold lineW
      simp only
      rw [if_neg (by omega), ← hq.1, Sc.ba_list]
    · cases h
  | [k, p, x], hw, h =>
    unfold deedW at h
    simp only at h
    split at h
    · rename_i hk
      have hq := word_kind (w := k) (by omega)
      cases hb : bytW x with
      | none => rw [hb] at h; cases h
      | some y =>
        rw [hb] at h
        cases h
        have hx : x ≠ [] := by
          rintro rfl
          simp [Sc.isW] at hw
        refine ⟨?_, by simp only; omega, by simp only; omega, Or.inl rfl⟩
        unfold lineW
        simp only [if_true]
        rw [bytW_some hx hb, Sc.ba_list, ← hk, ← hq.1]
    · cases h
  | [], _, h => cases h
  | [_], _, h => cases h
  | _ :: _ :: _ :: _ :: _, _, h => cases h

/-- What lines are read as. -/
def readD : List (List Sc.Bs) → Option (List De)
  | [] => some []
  | w :: r => match deedW w with
    | none => none
    | some d => match readD r with
      | none => none
      | some l => some (d :: l)
theorem readD_snoc : ∀ (r : List (List Sc.Bs)) (w : List Sc.Bs), readD (r ++ [w]) = match readD r with
    | none => none
    | some l => match deedW w with
      | none => none
      | some d => some (l ++ [d])
  | [], w => by
    simp only [List.nil_append, readD]
  | x :: r, w => by
    simp only [List.cons_append, readD]
    cases deedW x with
    | none => rfl
    | some d =>
      simp only
      rw [readD_snoc r w]
      cases readD r with
      | none => rfl
      | some l => cases deedW w <;> rfl
theorem readD_none : ∀ {r : List (List Sc.Bs)} {w : List Sc.Bs}, w ∈ r → deedW w = none → readD r = none
  | x :: r, w, hm, h => by
    unfold readD
    rcases List.mem_cons.1 hm with rfl | hm
    · rw [h]
    · cases deedW x with
      | none => rfl
      | some d => simp only; rw [readD_none hm h]
theorem readD_len : ∀ {r : List (List Sc.Bs)} {l : List De}, readD r = some l → l.length = r.length
  | [], l, h => by cases h; rfl
  | x :: r, l, h => by
    unfold readD at h
    cases hx : deedW x with
    | none => rw [hx] at h; cases h
    | some d =>
      rw [hx] at h
      simp only at h
      cases hr : readD r with
      | none => rw [hr] at h; cases h
      | some m => rw [hr] at h; cases h; simp [readD_len hr]
theorem read_lines : ∀ {l : List De}, (∀ d ∈ l, 1 ≤ d.kd ∧ d.kd ≤ 4 ∧ (d.kd = 4 ∨ (d.da.toList == []) = true)) → readD (l.map lineW) = some l
  | [], _ => rfl
  | d :: l, h => by
    obtain ⟨a, b, c⟩ := h d List.mem_cons_self
    simp only [List.map_cons, readD]
    rw [deed_line a b c, read_lines fun x hx => h x (List.mem_cons_of_mem _ hx)]
theorem lines_read : ∀ {r : List (List Sc.Bs)} {l : List De}, r.all Sc.isL = true → readD r = some l → r = l.map lineW
  | [], l, _, h => by cases h; rfl
  | x :: r, l, ha, h => by
    rw [List.all_cons, Bool.and_eq_true] at ha
    unfold readD at h
    cases hx : deedW x with
    | none => rw [hx] at h; cases h
    | some d =>
      rw [hx] at h
      simp only at h
      cases hr : readD r with
      | none => rw [hr] at h; cases h
      | some m =>
        rw [hr] at h
        cases h
        have hw : x.all Sc.isW = true := by
          have := ha.1
          unfold Sc.isL at this
          rw [Bool.and_eq_true] at this
          exact this.1
        rw [List.map_cons, (line_deed hw hx).1, lines_read ha.2 hr]

theorem segs_all {q : UInt8 → Bool} : ∀ r : Sc.Bs, (∀ x ∈ segs r, x.all q = true) → ∀ b ∈ r, b = 47 ∨ q b = true
  | [], _, b, hb => by cases hb
  | c :: r, h, b, hb => by
    unfold segs at h
    by_cases hc : c = 47
    · rw [if_pos hc] at h
      rcases List.mem_cons.1 hb with rfl | hb
      · exact Or.inl hc
      · exact segs_all r (fun x hx => h x (List.mem_cons_of_mem _ hx)) b hb
    · rw [if_neg hc] at h
      obtain ⟨a, t, e⟩ := segs_ne r
      rw [e] at h
      simp only at h
      have h0 := h _ List.mem_cons_self
      rw [List.all_cons, Bool.and_eq_true] at h0
      rcases List.mem_cons.1 hb with rfl | hb
      · exact Or.inr h0.1
      · refine segs_all r (fun x hx => ?_) b hb
        rw [e] at hx
        rcases List.mem_cons.1 hx with rfl | hx
        · exact h0.2
        · exact h x (List.mem_cons_of_mem _ hx)
theorem part_w : ∀ n, n < 256 → partByteB (UInt8.ofNat n) = true → Sc.wB (UInt8.ofNat n) = true := by decide +kernel
theorem path_w {s : ByteArray} (h : okPath s = true) : Sc.isW s.data.toList = true := by
  rw [okPath_rest] at h
  simp only [Bool.and_eq_true, decide_eq_true_eq, beq_iff_eq] at h
  obtain ⟨⟨⟨h2, _⟩, h47⟩, hr⟩ := h
  have hne : s.data.toList ≠ [] := by
    intro e
    rw [e] at h47
    cases h47
  obtain ⟨c, r, hs⟩ := List.exists_cons_of_ne_nil hne
  rw [hs] at h47 hr ⊢
  have hc : c = 47 := by simpa using h47
  rw [List.drop_one, List.tail_cons] at hr
  have hall : ∀ x ∈ segs r, x.all partByteB = true := by
    unfold restOk at hr
    obtain ⟨a, t, e⟩ := segs_ne r
    rw [e] at hr ⊢
    simp only [List.nil_append, Bool.and_eq_true] at hr
    have hp : ∀ x, partB x = true → x.all partByteB = true := fun x hx => by
      unfold partB at hx
      simp only [Bool.and_eq_true] at hx
      exact hx.2
    intro x hx
    rcases List.mem_cons.1 hx with rfl | hx
    · exact hp _ hr.1
    · exact hp _ (List.all_eq_true.1 hr.2 x hx)
  have hb := segs_all r hall
  refine Sc.isW_of ?_ (by simp)
  rw [List.all_eq_true]
  intro b hm
  rcases List.mem_cons.1 hm with rfl | hm
  · rw [hc]; decide
  · rcases hb b hm with rfl | hq
    · decide
    · have := part_w b.toNat (by have := b.toNat_lt; omega) (by rw [UInt8.ofNat_toNat]; exact hq)
      rwa [UInt8.ofNat_toNat] at this
theorem okDe_parts {pre : List De} {d : De} (h : okDe pre d = true) : 1 ≤ d.kd ∧ d.kd ≤ 4 ∧ (d.kd = 4 ∨ (d.da.toList == []) = true) ∧ okPath d.pa = true := by
  unfold okDe at h
  simp only [Bool.and_eq_true, Bool.or_eq_true, decide_eq_true_eq, beq_iff_eq] at h
  refine ⟨h.1.1.1.1.1, h.1.1.1.1.2, ?_, h.1.2.1⟩
  rcases h.1.1.2 with q | q
  · exact Or.inl q
  · exact Or.inr (by rw [q]; rfl)
theorem Plan.parts {l : List De} (h : Plan l) : ∀ d ∈ l, 1 ≤ d.kd ∧ d.kd ≤ 4 ∧ (d.kd = 4 ∨ (d.da.toList == []) = true) ∧ okPath d.pa = true := by
  intro d hd
  obtain ⟨i, hi, rfl⟩ := List.getElem_of_mem hd
  exact okDe_parts (h i hi)
theorem hexT_w (s : ByteArray) : Sc.isW (hexT s).data.toList = true := by
  cases h : (s.toList == [])
  · rw [hexT_ne h]
    refine Sc.isW_of ?_ ?_
    · rw [List.all_eq_true]
      intro b hb
      exact isHx_w (List.all_eq_true.1 (hexL_all _) b hb)
    · have h1 := hexL_len s.data.toList
      have h2 := ne_len h
      intro e
      rw [e, List.length_nil] at h1
      omega
  · rw [hexT_nil h]; decide
theorem word_w (k : Int) : Sc.isW (wordP k).data.toList = true := by
  unfold wordP
  split
  · decide
  · split
    · decide
    · split <;> decide
theorem Plan.lines {l : List De} (h : Plan l) : (linesP l).all Sc.isL = true := by
  unfold linesP
  rw [List.all_cons, Bool.and_eq_true]
  refine ⟨by decide, ?_⟩
  rw [List.all_map, List.all_eq_true]
  intro d hd
  obtain ⟨_, _, _, hp⟩ := h.parts d hd
  show Sc.isL (lineW d) = true
  unfold Sc.isL lineW
  rw [List.all_cons, List.all_cons, word_w, path_w hp]
  by_cases h4 : d.kd = 4
  · rw [if_pos h4, List.all_cons, hexT_w]; rfl
  · rw [if_neg h4]; rfl
theorem ap_list (x y : ByteArray) : (x ++ y).data.toList = x.data.toList ++ y.data.toList := by
  rw [ByteArray.data_append, Array.toList_append]
theorem lineD_list (d : De) (acc : ByteArray) : (lineD d acc).data.toList = acc.data.toList ++ Sc.lineT (lineW d) := by
  unfold lineD lineW
  by_cases h4 : d.kd = 4
  · rw [if_pos (by rw [h4]; rfl), if_pos h4]
    simp only [ap_list, Sc.lineT]
    simp [sp1, nl1]
  · rw [if_neg (by simpa using h4), if_neg h4]
    simp only [ap_list, Sc.lineT]
    simp [sp1, nl1]
theorem textD_list (l : List De) : (textD l).data.toList = Sc.textT (linesP l) := by
  have hf : ∀ (l : List De) (acc : ByteArray), (l.foldl (fun acc d => lineD d acc) acc).data.toList = acc.data.toList ++ Sc.textT (l.map lineW) := by
    intro l
    induction l with
    | nil => intro acc; simp [Sc.textT]
    | cons d l ih =>
      intro acc
      rw [List.foldl_cons, ih, lineD_list, List.map_cons]
      simp [Sc.textT]
  unfold textD
  rw [hf]
  rfl
theorem textD_ba (l : List De) : Sc.ba (Sc.textT (linesP l)) = textD l := by rw [← textD_list, Sc.ba_of]

/-- What lines are a plan of. -/
def readL : List (List Sc.Bs) → Option (List De)
  | [] => none
  | h :: r => if h = [bsP] then readD r else none
open Classical in
/-- What a text is read as: the error, and the deeds. -/
noncomputable def parO (t : ByteArray) : Int × List De := match Sc.scanR t.data.toList [] [] [] with
  | .error _ => (22, [])
  | .ok L => match readL L with
    | none => (44, [])
    | some l => if Plan l then (0, l) else (44, [])
theorem parO_text {l : List De} (h : Plan l) : parO (textD l) = (0, l) := by
  unfold parO
  rw [textD_list, Sc.scan_text _ _ h.lines, List.nil_append]
  have : readL (linesP l) = some l := by
    unfold readL linesP
    simp only [if_true]
    exact read_lines fun d hd => ⟨(h.parts d hd).1, (h.parts d hd).2.1, (h.parts d hd).2.2.1⟩
  simp only
  rw [this]
  simp only
  rw [if_pos h]
theorem parO_ok {t : ByteArray} {l : List De} (h : parO t = (0, l)) : Plan l ∧ textD l = t := by
  unfold parO at h
  cases hs : Sc.scanR t.data.toList [] [] [] with
  | error n => rw [hs] at h; cases h
  | ok L =>
    rw [hs] at h
    simp only at h
    cases hr : readL L with
    | none => rw [hr] at h; cases h
    | some m =>
      rw [hr] at h
      simp only at h
      split at h
      · rename_i hp
        cases h
        refine ⟨hp, ?_⟩
        obtain ⟨hal, htx⟩ := Sc.scan_back _ _ _ _ L hs rfl rfl rfl
        have htx' : Sc.textT L = t.data.toList := by rw [htx]; simp [Sc.pend, Sc.textT]
        cases L with
        | nil => cases hr
        | cons x r =>
          simp only [readL] at hr
          by_cases hx : x = [bsP]
          · rw [if_pos hx] at hr
            rw [List.all_cons, Bool.and_eq_true] at hal
            have := lines_read hal.2 hr
            rw [← textD_ba]
            unfold linesP
            rw [← this, ← hx, htx', Sc.ba_of]
          · rw [if_neg hx] at hr; cases hr
      · cases h
theorem parO_no {t : ByteArray} (h : (parO t).1 ≠ 0) : (parO t).2 = [] := by
  unfold parO at h ⊢
  split
  · rfl
  · rename_i L hs
    rw [hs] at h
    simp only at h ⊢
    split
    · rfl
    · rename_i m hr
      rw [hr] at h
      simp only at h ⊢
      split
      · rename_i hp; rw [if_pos hp] at h; exact absurd rfl h
      · rfl
theorem parO_cases (t : ByteArray) : (∃ l, parO t = (0, l)) ∨ parO t = (22, []) ∨ parO t = (44, []) := by
  unfold parO
  split
  · exact Or.inr (Or.inl rfl)
  · split
    · exact Or.inr (Or.inr rfl)
    · split
      · exact Or.inl ⟨_, rfl⟩
      · exact Or.inr (Or.inr rfl)
end Go.Proofs.YtefcndfeemnglaaGreatDoor
