/- Pq1, PsK, Wr2, laid in one text. -/
import Derived.Test.YtabocemcbekioaaGreatDoorMg20
namespace Go.Proofs.YtabocemcbekioaaGreatDoor
open Go.RowKit
set_option maxRecDepth 100000

/-- A byte of a text stands in one of its pieces, if it is none of those that part them. -/
theorem seg_mem {sep : Bt} (h0 : sep ≠ []) {b : UInt8} (hb : b ∉ sep) : ∀ (n : Nat) (cur l : Bt), l.length ≤ n → b ∈ cur ++ l → ∃ p ∈ seg sep cur l, b ∈ p
  | n, cur, [], _, h => ⟨cur, by rw [seg_nil]; simp, by simpa using h⟩
  | 0, cur, _ :: _, hn, _ => by simp at hn
  | n + 1, cur, x :: r, hn, h => by
    cases hp : sep.isPrefixOf (x :: r)
    · rw [seg_go hp]
      exact seg_mem h0 hb n (cur ++ [x]) r (by simpa using hn) (by simpa using h)
    · rw [seg_hit h0 hp]
      rcases List.mem_append.1 h with h | h
      · exact ⟨cur, by simp, h⟩
      · obtain ⟨t, ht⟩ := List.isPrefixOf_iff_prefix.1 hp
        have hd : (x :: r).drop sep.length = t := by rw [← ht]; simp
        rw [hd]
        rw [← ht] at h
        have hl : 0 < sep.length := List.length_pos_iff.2 h0
        have ht2 : t.length ≤ n := by
          have := congrArg List.length ht
          simp at this hn
          omega
        rcases List.mem_append.1 h with h | h
        · exact absurd h hb
        · obtain ⟨p, hp1, hp2⟩ := seg_mem h0 hb n [] t ht2 (by simpa using h)
          exact ⟨p, List.mem_cons_of_mem _ hp1, hp2⟩
theorem pieces_mem {s : ByteArray} {sep : Bt} (h0 : sep ≠ []) {b : UInt8} (hb : b ∉ sep) (h : b ∈ s.data.toList) : ∃ p ∈ piecesB s (bt sep), b ∈ p.data.toList := by
  have e := pieces_seg h0 s.data.toList.length [] s.data.toList (Nat.le_refl _) (fun j hj => by simp at hj)
  have hs : bt ([] ++ s.data.toList) = s := by cases s; simp [bt]
  rw [hs] at e
  obtain ⟨p, hp, hx⟩ := seg_mem h0 hb s.data.toList.length [] s.data.toList (Nat.le_refl _) (by simpa using h)
  refine ⟨bt p, by rw [e]; exact List.mem_map.2 ⟨p, hp, rfl⟩, by rw [bt_list]; exact hx⟩
theorem word_no10 {s : ByteArray} {X : Rg} (h : wordR s = some X) : (10 : UInt8) ∉ s.data.toList := by
  unfold wordR at h
  split at h
  · rename_i e
    rw [e]
    decide
  · split at h
    · rename_i hok
      have hsuf : (10 : UInt8) ∉ (s.extract (idxK s) s.size).data.toList := fun hm => by
        obtain ⟨hm1, hm2⟩ := okP_text hok
        rw [hm2] at hm
        have hw := isW_text hm1 [] rfl
        unfold Sc.isW at hw
        rw [Bool.and_eq_true, List.all_eq_true] at hw
        exact absurd (hw.1 10 (by simpa using hm)) (by decide)
      have hpre : (10 : UInt8) ∉ (s.extract 0 (idxK s)).data.toList := fun hm => by
        generalize (s.extract 0 (idxK s)).data.toList = g at h hm
        unfold signR at h
        repeat' split at h
        all_goals first
          | (rename_i e; rcases e with e | e <;> (rw [e] at hm; revert hm; decide))
          | (rename_i e; rw [e] at hm; revert hm; decide)
          | (cases h; done)
      have hcat : s.data.toList = (s.extract 0 (idxK s)).data.toList ++ (s.extract (idxK s) s.size).data.toList := by
        rw [ByteArray.data_extract, ByteArray.data_extract, Array.toList_extract, Array.toList_extract, List.extract_eq_take_drop, List.extract_eq_take_drop]
        have hz : s.data.toList.length = s.size := rfl
        rw [Nat.sub_zero, List.drop_zero, List.take_of_length_le (l := s.data.toList.drop (idxK s)) (by rw [List.length_drop, hz]; exact Nat.le_refl _), List.take_append_drop]
      rw [hcat]
      exact fun hm => (List.mem_append.1 hm).elim hpre hsuf
    · cases h
theorem wordsF_all : ∀ {ps : List ByteArray} {R R' : Rg} {f f' : Bool}, wordsF R f ps = some (R', f') → ∀ p ∈ ps, p.size = 0 ∨ ∃ X, wordR p = some X
  | [], _, _, _, _, _, p, hp => by cases hp
  | q :: ps, R, R', f, f', h, p, hp => by
    unfold wordsF at h
    split at h
    · rename_i hq
      rcases List.mem_cons.1 hp with rfl | hp
      · exact Or.inl hq
      · exact wordsF_all h p hp
    · split at h
      · cases h
      · rename_i X hX
        rcases List.mem_cons.1 hp with rfl | hp
        · exact Or.inr ⟨X, hX⟩
        · exact wordsF_all h p hp
theorem altF_all : ∀ {l : List ByteArray} {R R' : Rg}, altF R l = some R' → ∀ a ∈ l, wordsB (piecesB a ⟨#[32]⟩) = true
  | [], _, _, _, a, ha => by cases ha
  | b :: l, R, R', h, a, ha => by
    unfold altF at h
    split at h
    · rename_i hb
      rcases List.mem_cons.1 ha with rfl | ha
      · exact hb
      · exact altF_all h a ha
    · cases h
/-- A text that says a range has no line's end in it. -/
theorem par_no10 {t : ByteArray} (h : parE (parR t) = 0) : (10 : UInt8) ∉ t.data.toList := by
  intro hm
  cases hp : parR t with
  | none => rw [hp] at h; cases h
  | some R =>
    unfold parR at hp
    split at hp
    · obtain ⟨a, ha, hma⟩ := pieces_mem (s := t) (sep := [124, 124]) (by simp) (by decide) hm
      have hw := altF_all hp a ha
      obtain ⟨p, hpp, hmp⟩ := pieces_mem (s := a) (sep := [32]) (by simp) (by decide) hma
      unfold wordsB at hw
      split at hw
      · rename_i e
        rcases wordsF_all e p hpp with hz | ⟨X, hX⟩
        · rw [List.eq_nil_of_length_eq_zero (l := p.data.toList) hz] at hmp
          cases hmp
        · exact word_no10 hX hmp
      · cases hw
    · cases hp
/-- A line's rest: its words. -/
theorem scan_rest : ∀ (t cur : Sc.Bs) (ws : List Sc.Bs) (ls L : List (List Sc.Bs)), (10 : UInt8) ∉ t → Sc.scanR (t ++ [10]) cur ws ls = .ok L → ∃ us, us ≠ [] ∧ L = ls ++ [ws ++ us] ∧ Lib.join us [32] = cur ++ t
  | [], cur, ws, ls, L, _, h => by
    by_cases hc : cur = []
    · subst hc
      have := Sc.scan_none (b := 10) (by decide) [] ws ls
      rw [List.nil_append, this] at h
      cases h
    · rw [List.nil_append, Sc.scan_10 hc] at h
      have e : Sc.scanR [] [] [] (ls ++ [ws ++ [cur]]) = .ok (ls ++ [ws ++ [cur]]) := by unfold Sc.scanR; rfl
      rw [e] at h
      injection h with h
      exact ⟨[cur], by simp, h.symm, by rw [Lib.join_one, List.append_nil]⟩
  | b :: r, cur, ws, ls, L, hn, h => by
    have hb10 : b ≠ 10 := fun e => hn (by rw [e]; exact List.mem_cons_self)
    have hn' : (10 : UInt8) ∉ r := fun hm => hn (List.mem_cons_of_mem _ hm)
    rw [List.cons_append] at h
    cases hw : Sc.wB b
    · by_cases h32 : b = 32
      · subst h32
        by_cases hc : cur = []
        · subst hc
          rw [Sc.scan_none (by decide)] at h
          cases h
        · rw [Sc.scan_32 hc] at h
          obtain ⟨us, h1, h2, h3⟩ := scan_rest r [] (ws ++ [cur]) ls L hn' h
          refine ⟨cur :: us, by simp, by rw [h2]; simp, ?_⟩
          have := join_app (A := [cur]) (B := us) (by simp) h1
          rw [Lib.join_one, h3] at this
          simpa using this
      · rw [Sc.scan_bad hw h32 hb10] at h
        cases h
    · rw [Sc.scan_b hw] at h
      obtain ⟨us, h1, h2, h3⟩ := scan_rest r (cur ++ [b]) ws ls L hn' h
      exact ⟨us, h1, h2, by rw [h3]; simp⟩

theorem print_less {A : Rg} (hl : A.length ≤ 64) : (printR A).size ≤ 2000 := by
  cases A with
  | nil => have := text_size 0 0 0; have z : (⟨#[60]⟩ : ByteArray).size = 1 := rfl; show (⟨#[60]⟩ ++ textV 0 0 0).size ≤ 2000; rw [size_cat]; omega
  | cons p A =>
    show (⟨(Lib.join ((p :: A).map fun p => (spT p).data.toList) [32, 124, 124, 32]).toArray⟩ : ByteArray).size ≤ 2000
    rw [bytes_size, List.map_cons, Lib.join_length, ← List.map_cons (f := fun p => (spT p).data.toList)]
    have := lens_le 27 ((p :: A).map fun p => (spT p).data.toList) (by
      intro x hx
      obtain ⟨q, _, rfl⟩ := List.mem_map.1 hx
      exact spanT_size _ _ _ _ _ _)
    simp only [List.length_map, List.length_cons, List.length_nil] at *
    omega
theorem prS_less {L : List Sp} (h : rangeB L = true) : (prS L).size ≤ 2000 := by
  unfold rangeB at h
  rw [Bool.and_eq_true] at h
  obtain ⟨A, rfl, hA, hl⟩ := may_iff.1 h.2
  unfold prS
  rw [pl_sp hA]
  exact print_less hl
/-- The package with one need. -/
def onePk (n : ByteArray) (L : List Sp) : Pg := ⟨⟨#[97]⟩, 1, 0, 0, [⟨n, L⟩], [], []⟩
/-- The text ahead of the name; a text with a name and a range's text. -/
def preO : ByteArray := ⟨#[112, 97, 99, 107, 97, 103, 101, 32, 97, 32, 49, 46, 48, 46, 48, 10, 110, 101, 101, 100, 115, 32]⟩
def oneT (n t : ByteArray) : ByteArray := preO ++ n ++ ⟨#[32]⟩ ++ t ++ ⟨#[10]⟩
theorem oneT_list (n t : ByteArray) : (oneT n t).data.toList = preO.data.toList ++ (n.data.toList ++ ([32] ++ (t.data.toList ++ [10]))) := by
  unfold oneT
  simp only [catLd]
  simp
theorem one_sound {n : ByteArray} {L : List Sp} (hn : Sc.nameA n.data.toList = true) (hL : rangeB L = true) : soundB (onePk n L) = true := by
  unfold soundB onePk mayD
  have ho : onceB ⟨⟨#[97]⟩, 1, 0, 0, [⟨n, L⟩], [], []⟩ = true := once_yes (by simp [namesL])
  have hr : riseD none [⟨n, L⟩] = true := by
    unfold riseD followB riseD
    simp only [hn, hL]
    rfl
  have h1 : Sc.nameA (⟨#[97]⟩ : ByteArray).data.toList = true := by decide +kernel
  have h2 : mayV 1 0 0 = true := by decide +kernel
  rw [ho]
  simp only [hr, h1, h2]
  rfl
theorem one_text (n : ByteArray) (L : List Sp) : textP (onePk n L) = (oneT n (prS L)).data.toList := by
  rw [oneT_list]
  unfold textP onePk listT lineB
  have e : (textV 1 0 0).data.toList = [49, 46, 48, 46, 48] := by decide +kernel
  simp only [e]
  simp [preO, lwK]
theorem one_written {n : ByteArray} {L : List Sp} (hn : Sc.nameA n.data.toList = true) (hL : rangeB L = true) : writtenB (onePk n L) = true ∧ writtenT (onePk n L) = oneT n (prS L) := by
  have hz : (oneT n (prS L)).size ≤ 4096 := by
    have h1 := prS_less hL
    have h2 : n.size ≤ 16 := by unfold Sc.nameA at hn; rw [Bool.and_eq_true, decide_eq_true_eq, list_size] at hn; exact hn.2
    unfold oneT
    simp only [catZd]
    have z1 : preO.size = 22 := rfl
    have z2 : (⟨#[32]⟩ : ByteArray).size = 1 := rfl
    have z3 : (⟨#[10]⟩ : ByteArray).size = 1 := rfl
    omega
  have hw : writtenB (onePk n L) = true := by
    unfold writtenB
    rw [one_sound hn hL, one_text, list_size]
    simpa using hz
  refine ⟨hw, ?_⟩
  unfold writtenT
  rw [if_pos hw, one_text]
/-- Whatever text says the range. -/
theorem one_read {n t : ByteArray} (hn : Sc.nameA n.data.toList = true) (he : parE (parR t) = 0) (hL : rangeB ((parL (parR t)).map spR) = true) :
    parPE (oneT n t) = 22 ∨ parPE (oneT n t) = 25 ∨ (parPE (oneT n t) = 0 ∧ parPP (oneT n t) = onePk n ((parL (parR t)).map spR)) := by
  by_cases hz : (4096 : Int) < ((oneT n t).size : Int)
  · refine Or.inr (Or.inl ?_)
    have hE : Sc.ansE (oneT n t) 4096 = 25 := by unfold Sc.ansE; rw [if_pos hz]
    unfold parPE
    rw [hE, if_neg (by decide)]
  · have hsc : Sc.scanR (oneT n t).data.toList [] [] [] = Sc.scanR (t.data.toList ++ [10]) [] [[110, 101, 101, 100, 115], n.data.toList] [[[112, 97, 99, 107, 97, 103, 101], [97], [49, 46, 48, 46, 48]]] := by
      have hw := name_word hn
      unfold Sc.isW at hw
      rw [Bool.and_eq_true] at hw
      have hne : n.data.toList ≠ [] := by
        intro e
        rw [e] at hw
        exact absurd hw.2 (by decide)
      have e1 : preO.data.toList = Sc.lineT [[112, 97, 99, 107, 97, 103, 101], [97], [49, 46, 48, 46, 48]] ++ ([110, 101, 101, 100, 115] ++ [32]) := rfl
      rw [oneT_list, e1, List.append_assoc, Sc.scan_line _ [] _ _ (by decide) (by simp), List.append_assoc, Sc.scan_word _ _ _ _ _ (by decide), List.singleton_append, Sc.scan_32 (by simp), Sc.scan_word _ _ _ _ _ hw.1, List.singleton_append, Sc.scan_32 (by simpa using hne)]
      rfl
    cases hq : Sc.scanR (oneT n t).data.toList [] [] [] with
    | error k =>
      refine Or.inl ?_
      have hE : Sc.ansE (oneT n t) 4096 = 22 := by unfold Sc.ansE; rw [if_neg hz, hq]; rfl
      unfold parPE
      rw [hE, if_neg (by decide)]
    | ok Ls =>
      refine Or.inr (Or.inr ?_)
      have hq2 := hq
      rw [hsc] at hq2
      obtain ⟨us, hus, hLs, hjn⟩ := scan_rest _ _ _ _ _ (par_no10 he) hq2
      have hE : Sc.ansE (oneT n t) 4096 = 0 := by unfold Sc.ansE; rw [if_neg hz, hq]; rfl
      have hA : Sc.ansL (oneT n t) 4096 = Ls := by unfold Sc.ansL; rw [if_neg hz, hq]; rfl
      have hjt : jnT us = t := by
        unfold jnT
        rw [hjn, List.nil_append]
      have hsb : Sc.ba n.data.toList = n := Sc.ba_of n
      have hd : depE (lastN ([] : List Dp)) (Sc.ba n.data.toList) us = 0 := by
        unfold depE
        rw [hjt, if_pos (by unfold followB lastN; rw [hsb, hn]; rfl), if_pos ⟨he, hL⟩]
      have hLs2 : Ls = [[[112, 97, 99, 107, 97, 103, 101], [97], [49, 46, 48, 46, 48]], [110, 101, 101, 100, 115] :: n.data.toList :: us] := by rw [hLs]; rfl
      have hul : ¬ ([110, 101, 101, 100, 115] :: n.data.toList :: us).length < 3 := by
        have : 0 < us.length := List.length_pos_iff.2 hus
        simp
        omega
      have hrf : readF pkW 0 [[], [], []] [[110, 101, 101, 100, 115] :: n.data.toList :: us] = (0, [[⟨n, (parL (parR t)).map spR⟩], [], []]) := by
        rw [readF_step (X := pkW) (acc := [[], [], []]) (ln := [110, 101, 101, 100, 115] :: n.data.toList :: us) (k := 0) hul (by rfl) (Nat.le_refl _) hd]
        unfold lineDp
        show readF pkW 0 [[⟨Sc.ba n.data.toList, (parL (parR (jnT us))).map spR⟩], [], []] [] = _
        rw [hsb, hjt]
        rfl
      have hh : headE [[112, 97, 99, 107, 97, 103, 101], [97], [49, 46, 48, 46, 48]] = 0 := by decide +kernel
      have hle : linesE Ls = 0 := by
        rw [hLs2]
        show (if headE [[112, 97, 99, 107, 97, 103, 101], [97], [49, 46, 48, 46, 48]] = 0 then (readF pkW 0 [[], [], []] [[110, 101, 101, 100, 115] :: n.data.toList :: us]).1 else headE [[112, 97, 99, 107, 97, 103, 101], [97], [49, 46, 48, 46, 48]]) = 0
        rw [if_pos hh, hrf]
      have hlp : linesP Ls = onePk n ((parL (parR t)).map spR) := by
        rw [hLs2]
        have ha : resA (Sc.ba [49, 46, 48, 46, 48]) = 1 := by decide +kernel
        have hb : resB (Sc.ba [49, 46, 48, 46, 48]) = 0 := by decide +kernel
        have hc : resC (Sc.ba [49, 46, 48, 46, 48]) = 0 := by decide +kernel
        show (⟨Sc.ba [97], resA (Sc.ba [49, 46, 48, 46, 48]), resB (Sc.ba [49, 46, 48, 46, 48]), resC (Sc.ba [49, 46, 48, 46, 48]), (readF pkW 0 [[], [], []] [[110, 101, 101, 100, 115] :: n.data.toList :: us]).2.getD 0 [], (readF pkW 0 [[], [], []] [[110, 101, 101, 100, 115] :: n.data.toList :: us]).2.getD 1 [], (readF pkW 0 [[], [], []] [[110, 101, 101, 100, 115] :: n.data.toList :: us]).2.getD 2 []⟩ : Pg) = _
        rw [ha, hb, hc, hrf]
        rfl
      unfold parPE parPP
      rw [hE, hA, hle, hlp, (one_written hn hL).1]
      exact ⟨rfl, rfl⟩
end Go.Proofs.YtabocemcbekioaaGreatDoor
namespace Go.Proofs.YtabocemcbekioaaGreatDoor
open Go.RowKit
set_option maxRecDepth 100000

/-- The text whose package is fixed, its lines, its package, that one's text. -/
def kT : ByteArray := ⟨#[112, 97, 99, 107, 97, 103, 101, 32, 97, 32, 49, 46, 50, 46, 48, 10, 110, 101, 101, 100, 115, 32, 98, 32, 94, 49, 46, 48, 46, 48, 10]⟩
def kL : List (List Sc.Bs) := [[[112, 97, 99, 107, 97, 103, 101], [97], [49, 46, 50, 46, 48]], [[110, 101, 101, 100, 115], [98], [94, 49, 46, 48, 46, 48]]]
def kP : Pg := ⟨⟨#[97]⟩, 1, 2, 0, [⟨⟨#[98]⟩, [⟨1, 0, 0, 1, 999, 999⟩]⟩], [], []⟩
def kO : ByteArray := ⟨#[112, 97, 99, 107, 97, 103, 101, 32, 97, 32, 49, 46, 50, 46, 48, 10, 110, 101, 101, 100, 115, 32, 98, 32, 62, 61, 49, 46, 48, 46, 48, 32, 60, 61, 49, 46, 57, 57, 57, 46, 57, 57, 57, 10]⟩
theorem k_scan : Sc.scanR kT.data.toList [] [] [] = .ok kL := by
  have h := Sc.scan_text kL [] (by decide +kernel)
  exact h
theorem k_lines : Sc.ansE kT 4096 = 0 ∧ Sc.ansL kT 4096 = kL := by
  unfold Sc.ansE Sc.ansL
  rw [if_neg (by decide), if_neg (by decide), k_scan]
  exact ⟨rfl, rfl⟩
theorem k_e : linesE kL = 0 := by decide +kernel
theorem k_rg : parL (parR (jnT [[94, 49, 46, 48, 46, 48]])) = [(1000000, 1999999)] := by decide +kernel
theorem k_p : linesP kL = kP := by
  have e : (readF pkW 0 [[], [], []] [[[110, 101, 101, 100, 115], [98], [94, 49, 46, 48, 46, 48]]]).2 = [[⟨⟨#[98]⟩, (parL (parR (jnT [[94, 49, 46, 48, 46, 48]]))).map spR⟩], [], []] := by
    have h1 : depE (lastN ([] : List Dp)) (Sc.ba [98]) [[94, 49, 46, 48, 46, 48]] = 0 := by decide +kernel
    rw [readF_step (k := 0) (by simp) (by decide +kernel) (Nat.le_refl _) (by exact h1)]
    rfl
  have ha : resA (Sc.ba [49, 46, 50, 46, 48]) = 1 := by decide +kernel
  have hb : resB (Sc.ba [49, 46, 50, 46, 48]) = 2 := by decide +kernel
  have hc : resC (Sc.ba [49, 46, 50, 46, 48]) = 0 := by decide +kernel
  have hs : List.map spR [(1000000, 1999999)] = [⟨1, 0, 0, 1, 999, 999⟩] := by
    have q1 : atA 1000000 = 1 := by decide +kernel
    have q2 : atB 1000000 = 0 := by decide +kernel
    have q3 : atC 1000000 = 0 := by decide +kernel
    have q4 : atA 1999999 = 1 := by decide +kernel
    have q5 : atB 1999999 = 999 := by decide +kernel
    have q6 : atC 1999999 = 999 := by decide +kernel
    simp only [List.map_cons, List.map_nil, spR, q1, q2, q3, q4, q5, q6]
  unfold kL linesP
  simp only [e, k_rg]
  show (⟨Sc.ba [97], resA (Sc.ba [49, 46, 50, 46, 48]), resB (Sc.ba [49, 46, 50, 46, 48]), resC (Sc.ba [49, 46, 50, 46, 48]), [⟨⟨#[98]⟩, List.map spR [(1000000, 1999999)]⟩], [], []⟩ : Pg) = kP
  rw [ha, hb, hc, hs]
  rfl
theorem k_once : onceB kP = true := once_yes (by simp [namesL, kP])
theorem k_text : textP kP = kO.data.toList := by decide +kernel
theorem k_w : writtenB kP = true := by
  unfold writtenB soundB
  rw [k_once, k_text]
  decide +kernel
theorem k_t : writtenT kP = kO := by unfold writtenT; rw [if_pos k_w, k_text]
theorem k_par : parPE kT = 0 ∧ parPP kT = kP := by
  unfold parPE parPP
  rw [k_lines.1, k_lines.2, k_e, k_p, k_w]
  exact ⟨rfl, rfl⟩

set_option maxHeartbeats 3200000 in
theorem known_pk {w : World} (he : Env w) (hf : FL w) : Calls Tryz.prog 13 #[] w fun e w' => e = .returned (.bool true) ∧ Below w.heap.size w w' := by
  have HPA : Hid (Calls Tryz.prog 16 #[.string kT] w fun e w' => ∃ a1 c1 a2 c2 a3 c3, e = .returned (.tuple #[.agg #[.string ⟨#[97]⟩, .int .i64 1, .int .i64 2, .int .i64 0, .slice a1 1 c1, .slice a2 0 c2, .slice a3 0 c3], .int .i64 0]) ∧ Below w.heap.size w w' ∧ PgAt w' kP (.slice a1 1 c1) (.slice a2 0 c2) (.slice a3 0 c3)) := (Parse_pk kT he hf).mono fun e w' h => by
    rw [k_par.1, k_par.2] at h
    obtain ⟨s, a, b, c, v1, v2, v3, h1, h2, h3, _⟩ := h
    obtain ⟨rfl, rfl, rfl, rfl, ho⟩ := h3 rfl
    have hp := ho.at
    obtain ⟨a1, c1, e1⟩ := hp.1.sl
    obtain ⟨a2, c2, e2⟩ := hp.2.1.sl
    obtain ⟨a3, c3, e3⟩ := hp.2.2.sl
    rw [e1, e2, e3] at hp
    rw [e1, e2, e3] at h1
    exact ⟨a1, c1, a2, c2, a3, c3, h1, h2, hp⟩
  have HPR : Hid (∀ w1 v1 v2 v3, Below w.heap.size w w1 → PgAt w1 kP v1 v2 v3 → Calls Tryz.prog 14 #[.agg #[.string ⟨#[97]⟩, .int .i64 1, .int .i64 2, .int .i64 0, v1, v2, v3]] w1 fun e w' => e = .returned (.tuple #[.string kO, .int .i64 0]) ∧ Below w1.heap.size w1 w') := fun w1 v1 v2 v3 hb h => by
    have := pPrint_any h (he.below hb) (hf.below hb)
    rw [k_w, k_t] at this
    exact this
  have HMA : Hid (∀ w1 v1 v2 v3, Below w.heap.size w w1 → PgAt w1 kP v1 v2 v3 → Calls Tryz.prog 9 #[.agg #[.string ⟨#[97]⟩, .int .i64 1, .int .i64 2, .int .i64 0, v1, v2, v3]] w1 fun e w' => e = .returned (.bool true) ∧ Below w1.heap.size w1 w') := fun w1 v1 v2 v3 hb h => by
    have := pMay_any h (he.below hb) (hf.below hb)
    rw [k_w] at this
    exact this
  have HSA : Hid (∀ w1 v1 v2 v3, PgAt w1 kP v1 v2 v3 → Calls Tryz.prog 11 #[.agg #[.string ⟨#[97]⟩, .int .i64 1, .int .i64 2, .int .i64 0, v1, v2, v3], .agg #[.string ⟨#[97]⟩, .int .i64 1, .int .i64 2, .int .i64 0, v1, v2, v3]] w1 fun e w' => e = .returned (.bool true) ∧ Below w1.heap.size w1 w') := fun w1 v1 v2 v3 h => by
    have := Same_any h h (by decide) (by decide) (by decide)
    rw [eqB_yes rfl] at this
    exact this
  have hkT : kT = ⟨#[112, 97, 99, 107, 97, 103, 101, 32, 97, 32, 49, 46, 50, 46, 48, 10, 110, 101, 101, 100, 115, 32, 98, 32, 94, 49, 46, 48, 46, 48, 10]⟩ := rfl
  have hkO : kO = ⟨#[112, 97, 99, 107, 97, 103, 101, 32, 97, 32, 49, 46, 50, 46, 48, 10, 110, 101, 101, 100, 115, 32, 98, 32, 62, 61, 49, 46, 48, 46, 48, 32, 60, 61, 49, 46, 57, 57, 57, 46, 57, 57, 57, 10]⟩ := rfl
  have htO : kO.toList = [112, 97, 99, 107, 97, 103, 101, 32, 97, 32, 49, 46, 50, 46, 48, 10, 110, 101, 101, 100, 115, 32, 98, 32, 62, 61, 49, 46, 48, 46, 48, 32, 60, 61, 49, 46, 57, 57, 57, 46, 57, 57, 57, 10] := by rw [ByteArray.toList_eq]; rfl
  rw [hkT] at HPA
  clear he hf hkT
  go_enter Tryz.func13, Tryz.ntmps13
  have t1 : True := trivial
  go_wp2_with (first
    | (go_at_call 16; refine HPA.out.mono ?_; rintro e w1 ⟨a1, c1, a2, c2, a3, c3, rfl, hb1, hp1⟩; have HB1 : Hid (Below w.heap.size w (w1.alloc (.cells #[.string ⟨#[97]⟩, .int .i64 1, .int .i64 2, .int .i64 0, .slice a1 1 c1, .slice a2 0 c2, .slice a3 0 c3] 26)) ∧ PgAt (w1.alloc (.cells #[.string ⟨#[97]⟩, .int .i64 1, .int .i64 2, .int .i64 0, .slice a1 1 c1, .slice a2 0 c2, .slice a3 0 c3] 26)) kP (.slice a1 1 c1) (.slice a2 0 c2) (.slice a3 0 c3)) := ⟨below_then hb1 (boxB _ _), hp1.below (boxB _ _)⟩; have HX1 : Hid (BxP (w1.alloc (.cells #[.string ⟨#[97]⟩, .int .i64 1, .int .i64 2, .int .i64 0, .slice a1 1 c1, .slice a2 0 c2, .slice a3 0 c3] 26)) w1.heap.size ⟨#[97]⟩ 1 2 0 (.slice a1 1 c1) (.slice a2 0 c2) (.slice a3 0 c3)) := BxP.new rfl _ _ _ _ _ _ _; clear hb1 hp1)
    | (go_at_call 14; (refine (HPR.out _ _ _ _ HB1.out.1 HB1.out.2).mono ?_; rintro e w2 ⟨rfl, ok⟩; have HB2 : Hid (Below w.heap.size w w2 ∧ PgAt w2 kP (.slice a1 1 c1) (.slice a2 0 c2) (.slice a3 0 c3)) := ⟨below_then HB1.out.1 ok, HB1.out.2.below ok⟩; have HX2 := hide3 (keepBxP _ _ _ _ _ _ _ _ _ _ HX1.out ok); obtain ⟨y0, y1, y2, y3, y4, y5, y6, y7⟩ := HX2.out; clear ok))
    | (go_at_call 9; refine (HMA.out _ _ _ _ HB2.out.1 HB2.out.2).mono ?_; rintro e w3 ⟨rfl, ok⟩; have HB3 : Hid (Below w.heap.size w w3 ∧ PgAt w3 kP (.slice a1 1 c1) (.slice a2 0 c2) (.slice a3 0 c3)) := ⟨below_then HB2.out.1 ok, HB2.out.2.below ok⟩; have HX3 := hide3 (keepBxP _ _ _ _ _ _ _ _ _ _ HX2.out ok); clear y0 y1 y2 y3 y4 y5 y6 y7; obtain ⟨y0, y1, y2, y3, y4, y5, y6, y7⟩ := HX3.out; clear ok)
    | (go_at_call 11; refine (HSA.out _ _ _ _ HB3.out.2).mono ?_; rintro e w4 ⟨rfl, ok⟩; have HB4 := hide3 (below_then HB3.out.1 ok); clear ok))
  go_ret
  exact ⟨rfl, HB4.out⟩
end Go.Proofs.YtabocemcbekioaaGreatDoor
namespace Go.Proofs.YtabocemcbekioaaGreatDoor
open Go.RowKit
set_option maxRecDepth 100000

/-- Spans' texts, with bars between. -/
def joinT (l : Rg) : ByteArray := ⟨(Lib.join (l.map fun p => (spT p).data.toList) [32, 124, 124, 32]).toArray⟩
theorem jmore {l : List (List UInt8)} (h : l ≠ []) (x sep : List UInt8) : Lib.join (l ++ [x]) sep = Lib.join l sep ++ sep ++ x := by
  cases l with
  | nil => exact absurd rfl h
  | cons y l =>
    rw [List.cons_append, Lib.join_cons, Lib.join_cons]
    simp [Lib.joinTail]
theorem joinT_zero {A : Rg} (h : 0 < A.length) : joinT (A.take (0 + 1)) = spT A[0] := by
  unfold joinT
  rw [List.take_succ_eq_append_getElem h]
  simp only [List.take_zero, List.nil_append, List.map_cons, List.map_nil]
  rw [Lib.join_one, list_of_bytes]
theorem joinT_more {A : Rg} {k : Nat} (h : k < A.length) (h0 : k ≠ 0) : joinT (A.take (k + 1)) = (joinT (A.take k) ++ ⟨#[32, 124, 124, 32]⟩) ++ spT A[k] := by
  have hne : (A.take k).map (fun p => (spT p).data.toList) ≠ [] := by
    intro e
    have := congrArg List.length e
    rw [List.length_map, List.length_take, List.length_nil] at this
    omega
  refine same_list ?_
  simp only [cat_list]
  unfold joinT
  rw [List.take_succ_eq_append_getElem h, List.map_append]
  simp only [List.map_cons, List.map_nil]
  rw [jmore hne]
theorem joinT_size {A : Rg} (hl : A.length ≤ 64) (k : Nat) : (joinT (A.take k)).size ≤ 10000 := by
  unfold joinT
  rw [bytes_size]
  exact join_fits (by rw [List.length_take]; omega)
theorem printR_join {A : Rg} (h : A ≠ []) : printR A = joinT A := by
  cases A with
  | nil => exact absurd rfl h
  | cons _ _ => rfl

theorem triple_eq {lo hi : Int} (h1 : okR lo) (h2 : okR hi) : (atA lo = atA hi ∧ atB lo = atB hi ∧ atC lo = atC hi) ↔ lo = hi := by
  obtain ⟨m1, e1⟩ := may_at h1.has
  obtain ⟨m2, e2⟩ := may_at h2.has
  constructor
  · rintro ⟨a, b, c⟩
    rw [← e1, ← e2, a, b, c]
  · rintro rfl
    exact ⟨rfl, rfl, rfl⟩
theorem triple_zero {lo : Int} (h1 : okR lo) : (atA lo = 0 ∧ atB lo = 0 ∧ atC lo = 0) ↔ lo = 0 := by
  obtain ⟨m1, e1⟩ := may_at h1.has
  constructor
  · rintro ⟨a, b, c⟩
    rw [← e1, a, b, c]; exact rank_000
  · rintro rfl
    decide +kernel
theorem triple_last {hi : Int} (h1 : okR hi) : (atA hi = 999 ∧ atB hi = 999 ∧ atC hi = 999) ↔ hi = 999999999 := by
  obtain ⟨m1, e1⟩ := may_at h1.has
  constructor
  · rintro ⟨a, b, c⟩
    rw [← e1, a, b, c]; exact rank_999
  · rintro rfl
    decide +kernel
theorem spT_is {lo hi : Int} (h1 : okR lo) (h2 : okR hi) : spT (lo, hi) = if lo = hi then textV (atA lo) (atB lo) (atC lo) else if lo = 0 ∧ hi = 999999999 then ⟨#[42]⟩ else if lo = 0 then ⟨#[60, 61]⟩ ++ textV (atA hi) (atB hi) (atC hi) else
    if hi = 999999999 then ⟨#[62, 61]⟩ ++ textV (atA lo) (atB lo) (atC lo) else ((⟨#[62, 61]⟩ ++ textV (atA lo) (atB lo) (atC lo)) ++ ⟨#[32, 60, 61]⟩) ++ textV (atA hi) (atB hi) (atC hi) := by
  unfold spT spanT
  simp only [triple_eq h1 h2, triple_zero h1, triple_last h2]

theorem range_ok {A : Rg} {k M : Int} (h : RiseR k M A) (hk : 0 ≤ k) : ∀ p ∈ A, 0 ≤ p.1 ∧ p.1 ≤ p.2 ∧ p.2 ≤ M := by
  induction A generalizing k with
  | nil => intro p hp; cases hp
  | cons q A ih =>
    obtain ⟨q1, q2, q3, q4⟩ := rise_head h
    intro p hp
    rcases List.mem_cons.1 hp with rfl | hp
    · exact ⟨by omega, q2, q3⟩
    · exact ih q4 (by omega) p hp

set_option maxHeartbeats 12800000 in
theorem rPrint_walk (A : Rg) (hA : RangeR A) (h0 : A ≠ []) (g o cap : Nat) (w : World) (hlen : A.length ≤ 64) (hg : g < w.heap.size) (hl : ∀ i (h : i < A.length), SpAt w g (o + i * 6) (spR A[i]))
    (HMay : Hid (Calls Tryz.prog 39 #[.slice (some ⟨g, o, none⟩) A.length cap] w fun e w' => e = .returned (.bool true) ∧ Below w.heap.size w w')) :
    Calls Tryz.prog 20 #[.slice (some ⟨g, o, none⟩) A.length cap] w fun e w' => e = .returned (.string (printR A)) ∧ Below w.heap.size w w' := by
  have HL : Hid (∀ w1, Below w.heap.size w w1 → ∀ i (h : i < A.length), SpIn w1 g (o + i * 6) (spR A[i])) := fun w1 hb i hi => ⟨(hl i hi).below hb hg, Nat.lt_of_lt_of_le hg hb.size⟩
  have HPJ := hide3 (printR_join h0)
  have HRO : Hid (∀ p ∈ A, 0 ≤ p.1 ∧ p.1 ≤ p.2 ∧ p.2 ≤ 999999999) := range_ok hA (Int.le_refl 0)
  have hl0 : ((A.length : Int) == 0) = false := by
    rw [beq_eq_false_iff_ne]
    have := List.length_pos_iff.2 h0
    omega
  have hgd := guardV
  clear hl hA
  go_enter Tryz.func20, Tryz.ntmps20
  go_wp2_with (go_at_call 39; refine HMay.out.mono ?_; rintro e w1 ⟨rfl, ok1⟩; have HO1 := hide3 ok1; clear ok1)
  go_loopw [3, 4] (fun out i wr => ∃ k : Nat, k ≤ A.length ∧ i = .int .i64 k ∧ out = .string (joinT (A.take k)) ∧ Below w.heap.size w wr) (fun _ i _ => A.length - (intOf i).toNat)
  case atStart => exact ⟨0, Nat.zero_le _, rfl, by rw [List.take_zero]; rfl, HO1.out⟩
  case round =>
    obtain ⟨k, hk, rfl, rfl, hb⟩ := hrel
    have HB := hide3 hb
    by_cases hlt : k < A.length
    · have hs := HL.out wr hb k hlt
      obtain ⟨ok1, ok2, ok3⟩ := HRO.out _ (List.getElem_mem hlt)
      have hyz := joinT_size hlen k
      have HN0 : Hid (k = 0 → joinT (A.take (k + 1)) = joinT (A.take k) ++ spT A[k]) := by
        intro e
        subst e
        rw [joinT_zero hlt]
        exact (empty_cat _).symm
      have HN1 : Hid (k ≠ 0 → joinT (A.take (k + 1)) = (joinT (A.take k) ++ ⟨#[32, 124, 124, 32]⟩) ++ spT A[k]) := joinT_more hlt
      have HO : Hid (Below w.heap.size w wr ∧ SpIn wr g (o + k * 6) (spR A[k])) := ⟨hb, hs⟩
      have HK : Hid (KeepP fun w1 => Below w.heap.size w w1 ∧ SpIn w1 g (o + k * 6) (spR A[k])) := (keepBelow w).and (keepSp _ _ _)
      clear hb
      generalize A[k] = p at *
      obtain ⟨lo, hi⟩ := p
      simp only at ok1 ok2 ok3
      have h1 : okR lo := ⟨ok1, by omega⟩
      have h2 : okR hi := ⟨by omega, ok3⟩
      have hsp := spT_is h1 h2
      obtain ⟨m1, q1⟩ := may_at h1.has
      obtain ⟨m2, q2⟩ := may_at h2.has
      have zL := text_size (atA lo) (atB lo) (atC lo)
      have zH := text_size (atA hi) (atB hi) (atC hi)
      have e1 := eqlV (atA lo) (atB lo) (atC lo) (atA hi) (atB hi) (atC hi)
      have HPL : Hid (∀ w1, Calls Tryz.prog 40 #[.agg #[.int .i64 (atA lo), .int .i64 (atB lo), .int .i64 (atC lo)]] w1 fun e w' => e = .returned (.string (textV (atA lo) (atB lo) (atC lo))) ∧ Below w1.heap.size w1 w') := rPrint_any _ _ _
      have HPH : Hid (∀ w1, Calls Tryz.prog 40 #[.agg #[.int .i64 (atA hi), .int .i64 (atB hi), .int .i64 (atC hi)]] w1 fun e w' => e = .returned (.string (textV (atA hi) (atB hi) (atC hi))) ∧ Below w1.heap.size w1 w') := rPrint_any _ _ _
      have HRL : Hid (∀ w1, Calls Tryz.prog 41 #[.agg #[.int .i64 (atA lo), .int .i64 (atB lo), .int .i64 (atC lo)]] w1 fun e w' => e = .returned (.int .i64 lo) ∧ Below w1.heap.size w1 w') := fun w1 => by have := rrank_any (atA lo) (atB lo) (atC lo) w1; rw [q1] at this; exact this
      have HRH : Hid (∀ w1, Calls Tryz.prog 41 #[.agg #[.int .i64 (atA hi), .int .i64 (atB hi), .int .i64 (atC hi)]] w1 fun e w' => e = .returned (.int .i64 hi) ∧ Below w1.heap.size w1 w') := fun w1 => by have := rrank_any (atA hi) (atB hi) (atC hi) w1; rw [q2] at this; exact this
      simp only [triple_eq h1 h2] at e1
      simp only [spR] at HO HK hs
      clear m1 m2 q1 q2 h1 h2
      generalize textV (atA lo) (atB lo) (atC lo) = TL at *
      generalize textV (atA hi) (atB hi) (atC hi) = TH at *
      generalize joinT (A.take k) = y at *
      generalize spT (lo, hi) = S at *
      generalize atA lo = a at *
      generalize atB lo = b at *
      generalize atC lo = c at *
      generalize atA hi = x at *
      generalize atB hi = y' at *
      generalize atC hi = z at *
      obtain ⟨⟨p0, p1, p2, p3, p4, p5⟩, p6⟩ := hs
      simp only at p0 p1 p2 p3 p4 p5
      have z1 : (⟨#[32, 124, 124, 32]⟩ : ByteArray).size = 4 := rfl
      have z2 : (⟨#[60, 61]⟩ : ByteArray).size = 2 := rfl
      have z3 : (⟨#[62, 61]⟩ : ByteArray).size = 2 := rfl
      have z4 : (⟨#[42]⟩ : ByteArray).size = 1 := rfl
      have z5 : (⟨#[32]⟩ : ByteArray).size = 1 := rfl
      have t1 : True := trivial
      have t2 : True := trivial
      have t3 : True := trivial
      have t4 : True := trivial
      have t5 : True := trivial
      by_cases c1 : lo = hi
      · rw [decide_eq_true c1] at e1
        rw [if_pos c1] at hsp
        clear c1
        by_cases hk0 : k = 0
        · have HX : Hid (y ++ TL = joinT (A.take (k + 1))) := by
            unfold Hid
            rw [HN0.out hk0, hsp]
          have hkk : ¬ (0 : Int) < (k : Int) := by omega
          clear hsp hk0 HN0 HN1
          go_wp2_with (first | (have _h := t1; go_at_call 40; refine (HPL.out _).mono ?_; rintro e wz ⟨rfl, ok⟩; have HO9 := hide3 (HK.out _ _ HO.out ok); clear ok HO t1 p0 p1 p2 p3 p4 p5 p6; have HO := HO9; clear HO9; obtain ⟨_, ⟨p0, p1, p2, p3, p4, p5⟩, p6⟩ := HO.out) | (have _h := t2; go_at_call 40; refine (HPH.out _).mono ?_; rintro e wz ⟨rfl, ok⟩; have HO9 := hide3 (HK.out _ _ HO.out ok); clear ok HO t2 p0 p1 p2 p3 p4 p5 p6; have HO := HO9; clear HO9; obtain ⟨_, ⟨p0, p1, p2, p3, p4, p5⟩, p6⟩ := HO.out) | (have _h := t3; go_at_call 41; refine (HRL.out _).mono ?_; rintro e wz ⟨rfl, ok⟩; have HO9 := hide3 (HK.out _ _ HO.out ok); clear ok HO t3 p0 p1 p2 p3 p4 p5 p6; have HO := HO9; clear HO9; obtain ⟨_, ⟨p0, p1, p2, p3, p4, p5⟩, p6⟩ := HO.out) | (have _h := t4; go_at_call 41; refine (HRH.out _).mono ?_; rintro e wz ⟨rfl, ok⟩; have HO9 := hide3 (HK.out _ _ HO.out ok); clear ok HO t4 p0 p1 p2 p3 p4 p5 p6; have HO := HO9; clear HO9; obtain ⟨_, ⟨p0, p1, p2, p3, p4, p5⟩, p6⟩ := HO.out))
          refine wp_region_keep HK.out (by kernel_rfl) (by kernel_rfl) (by first | exact HO.out | exact HK.out.drew HO.out) ?_
          intro C hin hout
          have HIN := hide3 hin
          have HOUT := hide3 hout
          clear hin hout HO
          repeat
            (with_reducible refine wpQuiet_step (fun K hK => ?_)
             go_simp
             first
               | (refine hK _ ?_; clear hK K)
               | (apply Exists.intro; refine ⟨fun w1 hC => ?_, hK _ ?_⟩; (focus ((first | (exact rfl) | (obtain ⟨hb1, ⟨p0, p1, p2, p3, p4, p5⟩, p6⟩ := HOUT.out w1 hC; clear hC; go_simp; first | done | exact rfl)); done)); clear hK K))
          refine wpQuiet_nil ?_
          intro wn hC
          have HO := hide3 (HOUT.out _ hC)
          clear hC HIN HOUT C
          obtain ⟨hb1, ⟨p0, p1, p2, p3, p4, p5⟩, p6⟩ := HO.out
          go_wp2_with (have _h := t5; go_at_call 40; refine (HPL.out _).mono ?_; rintro e wz ⟨rfl, ok⟩; have HO9 := hide3 (HK.out _ _ HO.out ok); clear ok HO t5 p0 p1 p2 p3 p4 p5 p6; have HO := HO9; clear HO9; obtain ⟨_, ⟨p0, p1, p2, p3, p4, p5⟩, p6⟩ := HO.out)
          exact ⟨⟨k + 1, by omega, by go_num, by rw [HX.out], HO.out.1⟩, by simp [intOf]; omega⟩
        · have HX : Hid ((y ++ ⟨#[32, 124, 124, 32]⟩) ++ TL = joinT (A.take (k + 1))) := by
            unfold Hid
            rw [HN1.out hk0, hsp]
          have hkk : (0 : Int) < (k : Int) := by omega
          clear hsp hk0 HN0 HN1
          go_wp2_with (first | (have _h := t1; go_at_call 40; refine (HPL.out _).mono ?_; rintro e wz ⟨rfl, ok⟩; have HO9 := hide3 (HK.out _ _ HO.out ok); clear ok HO t1 p0 p1 p2 p3 p4 p5 p6; have HO := HO9; clear HO9; obtain ⟨_, ⟨p0, p1, p2, p3, p4, p5⟩, p6⟩ := HO.out) | (have _h := t2; go_at_call 40; refine (HPH.out _).mono ?_; rintro e wz ⟨rfl, ok⟩; have HO9 := hide3 (HK.out _ _ HO.out ok); clear ok HO t2 p0 p1 p2 p3 p4 p5 p6; have HO := HO9; clear HO9; obtain ⟨_, ⟨p0, p1, p2, p3, p4, p5⟩, p6⟩ := HO.out) | (have _h := t3; go_at_call 41; refine (HRL.out _).mono ?_; rintro e wz ⟨rfl, ok⟩; have HO9 := hide3 (HK.out _ _ HO.out ok); clear ok HO t3 p0 p1 p2 p3 p4 p5 p6; have HO := HO9; clear HO9; obtain ⟨_, ⟨p0, p1, p2, p3, p4, p5⟩, p6⟩ := HO.out) | (have _h := t4; go_at_call 41; refine (HRH.out _).mono ?_; rintro e wz ⟨rfl, ok⟩; have HO9 := hide3 (HK.out _ _ HO.out ok); clear ok HO t4 p0 p1 p2 p3 p4 p5 p6; have HO := HO9; clear HO9; obtain ⟨_, ⟨p0, p1, p2, p3, p4, p5⟩, p6⟩ := HO.out))
          refine wp_region_keep HK.out (by kernel_rfl) (by kernel_rfl) (by first | exact HO.out | exact HK.out.drew HO.out) ?_
          intro C hin hout
          have HIN := hide3 hin
          have HOUT := hide3 hout
          clear hin hout HO
          repeat
            (with_reducible refine wpQuiet_step (fun K hK => ?_)
             go_simp
             first
               | (refine hK _ ?_; clear hK K)
               | (apply Exists.intro; refine ⟨fun w1 hC => ?_, hK _ ?_⟩; (focus ((first | (exact rfl) | (obtain ⟨hb1, ⟨p0, p1, p2, p3, p4, p5⟩, p6⟩ := HOUT.out w1 hC; clear hC; go_simp; first | done | exact rfl)); done)); clear hK K))
          refine wpQuiet_nil ?_
          intro wn hC
          have HO := hide3 (HOUT.out _ hC)
          clear hC HIN HOUT C
          obtain ⟨hb1, ⟨p0, p1, p2, p3, p4, p5⟩, p6⟩ := HO.out
          go_wp2_with (have _h := t5; go_at_call 40; refine (HPL.out _).mono ?_; rintro e wz ⟨rfl, ok⟩; have HO9 := hide3 (HK.out _ _ HO.out ok); clear ok HO t5 p0 p1 p2 p3 p4 p5 p6; have HO := HO9; clear HO9; obtain ⟨_, ⟨p0, p1, p2, p3, p4, p5⟩, p6⟩ := HO.out)
          exact ⟨⟨k + 1, by omega, by go_num, by rw [HX.out], HO.out.1⟩, by simp [intOf]; omega⟩
      · rw [decide_eq_false c1] at e1
        rw [if_neg c1] at hsp
        clear c1
        by_cases c2 : lo = 0
        · have f1 : (lo == 0) = true := by rw [beq_iff_eq]; exact c2
          by_cases c3 : hi = 999999999
          · have f2 : (hi == 999999999) = true := by rw [beq_iff_eq]; exact c3
            rw [if_pos ⟨c2, c3⟩] at hsp
            clear c2 c3
            by_cases hk0 : k = 0
            · have HX : Hid (y ++ ⟨#[42]⟩ = joinT (A.take (k + 1))) := by
                unfold Hid
                rw [HN0.out hk0, hsp]
              have hkk : ¬ (0 : Int) < (k : Int) := by omega
              clear hsp hk0 HN0 HN1 t5
              go_wp2_with (first | (have _h := t1; go_at_call 40; refine (HPL.out _).mono ?_; rintro e wz ⟨rfl, ok⟩; have HO9 := hide3 (HK.out _ _ HO.out ok); clear ok HO t1 p0 p1 p2 p3 p4 p5 p6; have HO := HO9; clear HO9; obtain ⟨_, ⟨p0, p1, p2, p3, p4, p5⟩, p6⟩ := HO.out) | (have _h := t2; go_at_call 40; refine (HPH.out _).mono ?_; rintro e wz ⟨rfl, ok⟩; have HO9 := hide3 (HK.out _ _ HO.out ok); clear ok HO t2 p0 p1 p2 p3 p4 p5 p6; have HO := HO9; clear HO9; obtain ⟨_, ⟨p0, p1, p2, p3, p4, p5⟩, p6⟩ := HO.out) | (have _h := t3; go_at_call 41; refine (HRL.out _).mono ?_; rintro e wz ⟨rfl, ok⟩; have HO9 := hide3 (HK.out _ _ HO.out ok); clear ok HO t3 p0 p1 p2 p3 p4 p5 p6; have HO := HO9; clear HO9; obtain ⟨_, ⟨p0, p1, p2, p3, p4, p5⟩, p6⟩ := HO.out) | (have _h := t4; go_at_call 41; refine (HRH.out _).mono ?_; rintro e wz ⟨rfl, ok⟩; have HO9 := hide3 (HK.out _ _ HO.out ok); clear ok HO t4 p0 p1 p2 p3 p4 p5 p6; have HO := HO9; clear HO9; obtain ⟨_, ⟨p0, p1, p2, p3, p4, p5⟩, p6⟩ := HO.out))
              refine wp_region_keep HK.out (by kernel_rfl) (by kernel_rfl) (by first | exact HO.out | exact HK.out.drew HO.out) ?_
              intro C hin hout
              have HIN := hide3 hin
              have HOUT := hide3 hout
              clear hin hout HO
              repeat
                (with_reducible refine wpQuiet_step (fun K hK => ?_)
                 go_simp
                 first
                   | (refine hK _ ?_; clear hK K)
                   | (apply Exists.intro; refine ⟨fun w1 hC => ?_, hK _ ?_⟩; (focus ((first | (exact rfl) | (obtain ⟨hb1, ⟨p0, p1, p2, p3, p4, p5⟩, p6⟩ := HOUT.out w1 hC; clear hC; go_simp; first | done | exact rfl)); done)); clear hK K))
              refine wpQuiet_nil ?_
              intro wn hC
              have HO := hide3 (HOUT.out _ hC)
              clear hC HIN HOUT C
              obtain ⟨hb1, ⟨p0, p1, p2, p3, p4, p5⟩, p6⟩ := HO.out
              go_wp2
              exact ⟨⟨k + 1, by omega, by go_num, by rw [HX.out], HO.out.1⟩, by simp [intOf]; omega⟩
            · have HX : Hid ((y ++ ⟨#[32, 124, 124, 32]⟩) ++ ⟨#[42]⟩ = joinT (A.take (k + 1))) := by
                unfold Hid
                rw [HN1.out hk0, hsp]
              have hkk : (0 : Int) < (k : Int) := by omega
              clear hsp hk0 HN0 HN1 t5
              go_wp2_with (first | (have _h := t1; go_at_call 40; refine (HPL.out _).mono ?_; rintro e wz ⟨rfl, ok⟩; have HO9 := hide3 (HK.out _ _ HO.out ok); clear ok HO t1 p0 p1 p2 p3 p4 p5 p6; have HO := HO9; clear HO9; obtain ⟨_, ⟨p0, p1, p2, p3, p4, p5⟩, p6⟩ := HO.out) | (have _h := t2; go_at_call 40; refine (HPH.out _).mono ?_; rintro e wz ⟨rfl, ok⟩; have HO9 := hide3 (HK.out _ _ HO.out ok); clear ok HO t2 p0 p1 p2 p3 p4 p5 p6; have HO := HO9; clear HO9; obtain ⟨_, ⟨p0, p1, p2, p3, p4, p5⟩, p6⟩ := HO.out) | (have _h := t3; go_at_call 41; refine (HRL.out _).mono ?_; rintro e wz ⟨rfl, ok⟩; have HO9 := hide3 (HK.out _ _ HO.out ok); clear ok HO t3 p0 p1 p2 p3 p4 p5 p6; have HO := HO9; clear HO9; obtain ⟨_, ⟨p0, p1, p2, p3, p4, p5⟩, p6⟩ := HO.out) | (have _h := t4; go_at_call 41; refine (HRH.out _).mono ?_; rintro e wz ⟨rfl, ok⟩; have HO9 := hide3 (HK.out _ _ HO.out ok); clear ok HO t4 p0 p1 p2 p3 p4 p5 p6; have HO := HO9; clear HO9; obtain ⟨_, ⟨p0, p1, p2, p3, p4, p5⟩, p6⟩ := HO.out))
              refine wp_region_keep HK.out (by kernel_rfl) (by kernel_rfl) (by first | exact HO.out | exact HK.out.drew HO.out) ?_
              intro C hin hout
              have HIN := hide3 hin
              have HOUT := hide3 hout
              clear hin hout HO
              repeat
                (with_reducible refine wpQuiet_step (fun K hK => ?_)
                 go_simp
                 first
                   | (refine hK _ ?_; clear hK K)
                   | (apply Exists.intro; refine ⟨fun w1 hC => ?_, hK _ ?_⟩; (focus ((first | (exact rfl) | (obtain ⟨hb1, ⟨p0, p1, p2, p3, p4, p5⟩, p6⟩ := HOUT.out w1 hC; clear hC; go_simp; first | done | exact rfl)); done)); clear hK K))
              refine wpQuiet_nil ?_
              intro wn hC
              have HO := hide3 (HOUT.out _ hC)
              clear hC HIN HOUT C
              obtain ⟨hb1, ⟨p0, p1, p2, p3, p4, p5⟩, p6⟩ := HO.out
              go_wp2
              exact ⟨⟨k + 1, by omega, by go_num, by rw [HX.out], HO.out.1⟩, by simp [intOf]; omega⟩
          · have f2 : (hi == 999999999) = false := by rw [beq_eq_false_iff_ne]; exact c3
            rw [if_neg (fun h => c3 h.2), if_pos c2] at hsp
            clear c2 c3
            by_cases hk0 : k = 0
            · have HX : Hid (y ++ (⟨#[60, 61]⟩ ++ TH) = joinT (A.take (k + 1))) := by
                unfold Hid
                rw [HN0.out hk0, hsp]
              have hkk : ¬ (0 : Int) < (k : Int) := by omega
              clear hsp hk0 HN0 HN1 t5
              go_wp2_with (first | (have _h := t1; go_at_call 40; refine (HPL.out _).mono ?_; rintro e wz ⟨rfl, ok⟩; have HO9 := hide3 (HK.out _ _ HO.out ok); clear ok HO t1 p0 p1 p2 p3 p4 p5 p6; have HO := HO9; clear HO9; obtain ⟨_, ⟨p0, p1, p2, p3, p4, p5⟩, p6⟩ := HO.out) | (have _h := t2; go_at_call 40; refine (HPH.out _).mono ?_; rintro e wz ⟨rfl, ok⟩; have HO9 := hide3 (HK.out _ _ HO.out ok); clear ok HO t2 p0 p1 p2 p3 p4 p5 p6; have HO := HO9; clear HO9; obtain ⟨_, ⟨p0, p1, p2, p3, p4, p5⟩, p6⟩ := HO.out) | (have _h := t3; go_at_call 41; refine (HRL.out _).mono ?_; rintro e wz ⟨rfl, ok⟩; have HO9 := hide3 (HK.out _ _ HO.out ok); clear ok HO t3 p0 p1 p2 p3 p4 p5 p6; have HO := HO9; clear HO9; obtain ⟨_, ⟨p0, p1, p2, p3, p4, p5⟩, p6⟩ := HO.out) | (have _h := t4; go_at_call 41; refine (HRH.out _).mono ?_; rintro e wz ⟨rfl, ok⟩; have HO9 := hide3 (HK.out _ _ HO.out ok); clear ok HO t4 p0 p1 p2 p3 p4 p5 p6; have HO := HO9; clear HO9; obtain ⟨_, ⟨p0, p1, p2, p3, p4, p5⟩, p6⟩ := HO.out))
              refine wp_region_keep HK.out (by kernel_rfl) (by kernel_rfl) (by first | exact HO.out | exact HK.out.drew HO.out) ?_
              intro C hin hout
              have HIN := hide3 hin
              have HOUT := hide3 hout
              clear hin hout HO
              repeat
                (with_reducible refine wpQuiet_step (fun K hK => ?_)
                 go_simp
                 first
                   | (refine hK _ ?_; clear hK K)
                   | (apply Exists.intro; refine ⟨fun w1 hC => ?_, hK _ ?_⟩; (focus ((first | (exact rfl) | (obtain ⟨hb1, ⟨p0, p1, p2, p3, p4, p5⟩, p6⟩ := HOUT.out w1 hC; clear hC; go_simp; first | done | exact rfl)); done)); clear hK K))
              refine wpQuiet_nil ?_
              intro wn hC
              have HO := hide3 (HOUT.out _ hC)
              clear hC HIN HOUT C
              obtain ⟨hb1, ⟨p0, p1, p2, p3, p4, p5⟩, p6⟩ := HO.out
              go_wp2
              exact ⟨⟨k + 1, by omega, by go_num, by rw [HX.out], HO.out.1⟩, by simp [intOf]; omega⟩
            · have HX : Hid ((y ++ ⟨#[32, 124, 124, 32]⟩) ++ (⟨#[60, 61]⟩ ++ TH) = joinT (A.take (k + 1))) := by
                unfold Hid
                rw [HN1.out hk0, hsp]
              have hkk : (0 : Int) < (k : Int) := by omega
              clear hsp hk0 HN0 HN1 t5
              go_wp2_with (first | (have _h := t1; go_at_call 40; refine (HPL.out _).mono ?_; rintro e wz ⟨rfl, ok⟩; have HO9 := hide3 (HK.out _ _ HO.out ok); clear ok HO t1 p0 p1 p2 p3 p4 p5 p6; have HO := HO9; clear HO9; obtain ⟨_, ⟨p0, p1, p2, p3, p4, p5⟩, p6⟩ := HO.out) | (have _h := t2; go_at_call 40; refine (HPH.out _).mono ?_; rintro e wz ⟨rfl, ok⟩; have HO9 := hide3 (HK.out _ _ HO.out ok); clear ok HO t2 p0 p1 p2 p3 p4 p5 p6; have HO := HO9; clear HO9; obtain ⟨_, ⟨p0, p1, p2, p3, p4, p5⟩, p6⟩ := HO.out) | (have _h := t3; go_at_call 41; refine (HRL.out _).mono ?_; rintro e wz ⟨rfl, ok⟩; have HO9 := hide3 (HK.out _ _ HO.out ok); clear ok HO t3 p0 p1 p2 p3 p4 p5 p6; have HO := HO9; clear HO9; obtain ⟨_, ⟨p0, p1, p2, p3, p4, p5⟩, p6⟩ := HO.out) | (have _h := t4; go_at_call 41; refine (HRH.out _).mono ?_; rintro e wz ⟨rfl, ok⟩; have HO9 := hide3 (HK.out _ _ HO.out ok); clear ok HO t4 p0 p1 p2 p3 p4 p5 p6; have HO := HO9; clear HO9; obtain ⟨_, ⟨p0, p1, p2, p3, p4, p5⟩, p6⟩ := HO.out))
              refine wp_region_keep HK.out (by kernel_rfl) (by kernel_rfl) (by first | exact HO.out | exact HK.out.drew HO.out) ?_
              intro C hin hout
              have HIN := hide3 hin
              have HOUT := hide3 hout
              clear hin hout HO
              repeat
                (with_reducible refine wpQuiet_step (fun K hK => ?_)
                 go_simp
                 first
                   | (refine hK _ ?_; clear hK K)
                   | (apply Exists.intro; refine ⟨fun w1 hC => ?_, hK _ ?_⟩; (focus ((first | (exact rfl) | (obtain ⟨hb1, ⟨p0, p1, p2, p3, p4, p5⟩, p6⟩ := HOUT.out w1 hC; clear hC; go_simp; first | done | exact rfl)); done)); clear hK K))
              refine wpQuiet_nil ?_
              intro wn hC
              have HO := hide3 (HOUT.out _ hC)
              clear hC HIN HOUT C
              obtain ⟨hb1, ⟨p0, p1, p2, p3, p4, p5⟩, p6⟩ := HO.out
              go_wp2
              exact ⟨⟨k + 1, by omega, by go_num, by rw [HX.out], HO.out.1⟩, by simp [intOf]; omega⟩
        · have f1 : (lo == 0) = false := by rw [beq_eq_false_iff_ne]; exact c2
          by_cases c3 : hi = 999999999
          · have f2 : (hi == 999999999) = true := by rw [beq_iff_eq]; exact c3
            rw [if_neg (fun h => c2 h.1), if_neg c2, if_pos c3] at hsp
            clear c2 c3
            by_cases hk0 : k = 0
            · have HX : Hid (y ++ (⟨#[62, 61]⟩ ++ TL) = joinT (A.take (k + 1))) := by
                unfold Hid
                rw [HN0.out hk0, hsp]
              have hkk : ¬ (0 : Int) < (k : Int) := by omega
              clear hsp hk0 HN0 HN1 t5
              go_wp2_with (first | (have _h := t1; go_at_call 40; refine (HPL.out _).mono ?_; rintro e wz ⟨rfl, ok⟩; have HO9 := hide3 (HK.out _ _ HO.out ok); clear ok HO t1 p0 p1 p2 p3 p4 p5 p6; have HO := HO9; clear HO9; obtain ⟨_, ⟨p0, p1, p2, p3, p4, p5⟩, p6⟩ := HO.out) | (have _h := t2; go_at_call 40; refine (HPH.out _).mono ?_; rintro e wz ⟨rfl, ok⟩; have HO9 := hide3 (HK.out _ _ HO.out ok); clear ok HO t2 p0 p1 p2 p3 p4 p5 p6; have HO := HO9; clear HO9; obtain ⟨_, ⟨p0, p1, p2, p3, p4, p5⟩, p6⟩ := HO.out) | (have _h := t3; go_at_call 41; refine (HRL.out _).mono ?_; rintro e wz ⟨rfl, ok⟩; have HO9 := hide3 (HK.out _ _ HO.out ok); clear ok HO t3 p0 p1 p2 p3 p4 p5 p6; have HO := HO9; clear HO9; obtain ⟨_, ⟨p0, p1, p2, p3, p4, p5⟩, p6⟩ := HO.out) | (have _h := t4; go_at_call 41; refine (HRH.out _).mono ?_; rintro e wz ⟨rfl, ok⟩; have HO9 := hide3 (HK.out _ _ HO.out ok); clear ok HO t4 p0 p1 p2 p3 p4 p5 p6; have HO := HO9; clear HO9; obtain ⟨_, ⟨p0, p1, p2, p3, p4, p5⟩, p6⟩ := HO.out))
              refine wp_region_keep HK.out (by kernel_rfl) (by kernel_rfl) (by first | exact HO.out | exact HK.out.drew HO.out) ?_
              intro C hin hout
              have HIN := hide3 hin
              have HOUT := hide3 hout
              clear hin hout HO
              repeat
                (with_reducible refine wpQuiet_step (fun K hK => ?_)
                 go_simp
                 first
                   | (refine hK _ ?_; clear hK K)
                   | (apply Exists.intro; refine ⟨fun w1 hC => ?_, hK _ ?_⟩; (focus ((first | (exact rfl) | (obtain ⟨hb1, ⟨p0, p1, p2, p3, p4, p5⟩, p6⟩ := HOUT.out w1 hC; clear hC; go_simp; first | done | exact rfl)); done)); clear hK K))
              refine wpQuiet_nil ?_
              intro wn hC
              have HO := hide3 (HOUT.out _ hC)
              clear hC HIN HOUT C
              obtain ⟨hb1, ⟨p0, p1, p2, p3, p4, p5⟩, p6⟩ := HO.out
              go_wp2
              exact ⟨⟨k + 1, by omega, by go_num, by rw [HX.out], HO.out.1⟩, by simp [intOf]; omega⟩
            · have HX : Hid ((y ++ ⟨#[32, 124, 124, 32]⟩) ++ (⟨#[62, 61]⟩ ++ TL) = joinT (A.take (k + 1))) := by
                unfold Hid
                rw [HN1.out hk0, hsp]
              have hkk : (0 : Int) < (k : Int) := by omega
              clear hsp hk0 HN0 HN1 t5
              go_wp2_with (first | (have _h := t1; go_at_call 40; refine (HPL.out _).mono ?_; rintro e wz ⟨rfl, ok⟩; have HO9 := hide3 (HK.out _ _ HO.out ok); clear ok HO t1 p0 p1 p2 p3 p4 p5 p6; have HO := HO9; clear HO9; obtain ⟨_, ⟨p0, p1, p2, p3, p4, p5⟩, p6⟩ := HO.out) | (have _h := t2; go_at_call 40; refine (HPH.out _).mono ?_; rintro e wz ⟨rfl, ok⟩; have HO9 := hide3 (HK.out _ _ HO.out ok); clear ok HO t2 p0 p1 p2 p3 p4 p5 p6; have HO := HO9; clear HO9; obtain ⟨_, ⟨p0, p1, p2, p3, p4, p5⟩, p6⟩ := HO.out) | (have _h := t3; go_at_call 41; refine (HRL.out _).mono ?_; rintro e wz ⟨rfl, ok⟩; have HO9 := hide3 (HK.out _ _ HO.out ok); clear ok HO t3 p0 p1 p2 p3 p4 p5 p6; have HO := HO9; clear HO9; obtain ⟨_, ⟨p0, p1, p2, p3, p4, p5⟩, p6⟩ := HO.out) | (have _h := t4; go_at_call 41; refine (HRH.out _).mono ?_; rintro e wz ⟨rfl, ok⟩; have HO9 := hide3 (HK.out _ _ HO.out ok); clear ok HO t4 p0 p1 p2 p3 p4 p5 p6; have HO := HO9; clear HO9; obtain ⟨_, ⟨p0, p1, p2, p3, p4, p5⟩, p6⟩ := HO.out))
              refine wp_region_keep HK.out (by kernel_rfl) (by kernel_rfl) (by first | exact HO.out | exact HK.out.drew HO.out) ?_
              intro C hin hout
              have HIN := hide3 hin
              have HOUT := hide3 hout
              clear hin hout HO
              repeat
                (with_reducible refine wpQuiet_step (fun K hK => ?_)
                 go_simp
                 first
                   | (refine hK _ ?_; clear hK K)
                   | (apply Exists.intro; refine ⟨fun w1 hC => ?_, hK _ ?_⟩; (focus ((first | (exact rfl) | (obtain ⟨hb1, ⟨p0, p1, p2, p3, p4, p5⟩, p6⟩ := HOUT.out w1 hC; clear hC; go_simp; first | done | exact rfl)); done)); clear hK K))
              refine wpQuiet_nil ?_
              intro wn hC
              have HO := hide3 (HOUT.out _ hC)
              clear hC HIN HOUT C
              obtain ⟨hb1, ⟨p0, p1, p2, p3, p4, p5⟩, p6⟩ := HO.out
              go_wp2
              exact ⟨⟨k + 1, by omega, by go_num, by rw [HX.out], HO.out.1⟩, by simp [intOf]; omega⟩
          · have f2 : (hi == 999999999) = false := by rw [beq_eq_false_iff_ne]; exact c3
            rw [if_neg (fun h => c2 h.1), if_neg c2, if_neg c3] at hsp
            clear c2 c3
            by_cases hk0 : k = 0
            · have HX : Hid (((y ++ (⟨#[62, 61]⟩ ++ TL)) ++ ⟨#[32]⟩) ++ (⟨#[60, 61]⟩ ++ TH) = joinT (A.take (k + 1))) := by
                unfold Hid
                rw [HN0.out hk0, hsp]
                refine same_list ?_
                simp only [cat_list]
                simp
              have hkk : ¬ (0 : Int) < (k : Int) := by omega
              clear hsp hk0 HN0 HN1 t5
              go_wp2_with (first | (have _h := t1; go_at_call 40; refine (HPL.out _).mono ?_; rintro e wz ⟨rfl, ok⟩; have HO9 := hide3 (HK.out _ _ HO.out ok); clear ok HO t1 p0 p1 p2 p3 p4 p5 p6; have HO := HO9; clear HO9; obtain ⟨_, ⟨p0, p1, p2, p3, p4, p5⟩, p6⟩ := HO.out) | (have _h := t2; go_at_call 40; refine (HPH.out _).mono ?_; rintro e wz ⟨rfl, ok⟩; have HO9 := hide3 (HK.out _ _ HO.out ok); clear ok HO t2 p0 p1 p2 p3 p4 p5 p6; have HO := HO9; clear HO9; obtain ⟨_, ⟨p0, p1, p2, p3, p4, p5⟩, p6⟩ := HO.out) | (have _h := t3; go_at_call 41; refine (HRL.out _).mono ?_; rintro e wz ⟨rfl, ok⟩; have HO9 := hide3 (HK.out _ _ HO.out ok); clear ok HO t3 p0 p1 p2 p3 p4 p5 p6; have HO := HO9; clear HO9; obtain ⟨_, ⟨p0, p1, p2, p3, p4, p5⟩, p6⟩ := HO.out) | (have _h := t4; go_at_call 41; refine (HRH.out _).mono ?_; rintro e wz ⟨rfl, ok⟩; have HO9 := hide3 (HK.out _ _ HO.out ok); clear ok HO t4 p0 p1 p2 p3 p4 p5 p6; have HO := HO9; clear HO9; obtain ⟨_, ⟨p0, p1, p2, p3, p4, p5⟩, p6⟩ := HO.out))
              refine wp_region_keep HK.out (by kernel_rfl) (by kernel_rfl) (by first | exact HO.out | exact HK.out.drew HO.out) ?_
              intro C hin hout
              have HIN := hide3 hin
              have HOUT := hide3 hout
              clear hin hout HO
              repeat
                (with_reducible refine wpQuiet_step (fun K hK => ?_)
                 go_simp
                 first
                   | (refine hK _ ?_; clear hK K)
                   | (apply Exists.intro; refine ⟨fun w1 hC => ?_, hK _ ?_⟩; (focus ((first | (exact rfl) | (obtain ⟨hb1, ⟨p0, p1, p2, p3, p4, p5⟩, p6⟩ := HOUT.out w1 hC; clear hC; go_simp; first | done | exact rfl)); done)); clear hK K))
              refine wpQuiet_nil ?_
              intro wn hC
              have HO := hide3 (HOUT.out _ hC)
              clear hC HIN HOUT C
              obtain ⟨hb1, ⟨p0, p1, p2, p3, p4, p5⟩, p6⟩ := HO.out
              go_wp2
              exact ⟨⟨k + 1, by omega, by go_num, by rw [HX.out], HO.out.1⟩, by simp [intOf]; omega⟩
            · have HX : Hid ((((y ++ ⟨#[32, 124, 124, 32]⟩) ++ (⟨#[62, 61]⟩ ++ TL)) ++ ⟨#[32]⟩) ++ (⟨#[60, 61]⟩ ++ TH) = joinT (A.take (k + 1))) := by
                unfold Hid
                rw [HN1.out hk0, hsp]
                refine same_list ?_
                simp only [cat_list]
                simp
              have hkk : (0 : Int) < (k : Int) := by omega
              clear hsp hk0 HN0 HN1 t5
              go_wp2_with (first | (have _h := t1; go_at_call 40; refine (HPL.out _).mono ?_; rintro e wz ⟨rfl, ok⟩; have HO9 := hide3 (HK.out _ _ HO.out ok); clear ok HO t1 p0 p1 p2 p3 p4 p5 p6; have HO := HO9; clear HO9; obtain ⟨_, ⟨p0, p1, p2, p3, p4, p5⟩, p6⟩ := HO.out) | (have _h := t2; go_at_call 40; refine (HPH.out _).mono ?_; rintro e wz ⟨rfl, ok⟩; have HO9 := hide3 (HK.out _ _ HO.out ok); clear ok HO t2 p0 p1 p2 p3 p4 p5 p6; have HO := HO9; clear HO9; obtain ⟨_, ⟨p0, p1, p2, p3, p4, p5⟩, p6⟩ := HO.out) | (have _h := t3; go_at_call 41; refine (HRL.out _).mono ?_; rintro e wz ⟨rfl, ok⟩; have HO9 := hide3 (HK.out _ _ HO.out ok); clear ok HO t3 p0 p1 p2 p3 p4 p5 p6; have HO := HO9; clear HO9; obtain ⟨_, ⟨p0, p1, p2, p3, p4, p5⟩, p6⟩ := HO.out) | (have _h := t4; go_at_call 41; refine (HRH.out _).mono ?_; rintro e wz ⟨rfl, ok⟩; have HO9 := hide3 (HK.out _ _ HO.out ok); clear ok HO t4 p0 p1 p2 p3 p4 p5 p6; have HO := HO9; clear HO9; obtain ⟨_, ⟨p0, p1, p2, p3, p4, p5⟩, p6⟩ := HO.out))
              refine wp_region_keep HK.out (by kernel_rfl) (by kernel_rfl) (by first | exact HO.out | exact HK.out.drew HO.out) ?_
              intro C hin hout
              have HIN := hide3 hin
              have HOUT := hide3 hout
              clear hin hout HO
              repeat
                (with_reducible refine wpQuiet_step (fun K hK => ?_)
                 go_simp
                 first
                   | (refine hK _ ?_; clear hK K)
                   | (apply Exists.intro; refine ⟨fun w1 hC => ?_, hK _ ?_⟩; (focus ((first | (exact rfl) | (obtain ⟨hb1, ⟨p0, p1, p2, p3, p4, p5⟩, p6⟩ := HOUT.out w1 hC; clear hC; go_simp; first | done | exact rfl)); done)); clear hK K))
              refine wpQuiet_nil ?_
              intro wn hC
              have HO := hide3 (HOUT.out _ hC)
              clear hC HIN HOUT C
              obtain ⟨hb1, ⟨p0, p1, p2, p3, p4, p5⟩, p6⟩ := HO.out
              go_wp2
              exact ⟨⟨k + 1, by omega, by go_num, by rw [HX.out], HO.out.1⟩, by simp [intOf]; omega⟩
    · have hke : k = A.length := by omega
      subst hke
      have HX : Hid (joinT (A.take A.length) = printR A) := by unfold Hid; rw [List.take_length, HPJ.out]
      clear hb
      go_wp2
      go_ret
      exact ⟨by rw [HX.out]; rfl, HB.out⟩
end Go.Proofs.YtabocemcbekioaaGreatDoor
