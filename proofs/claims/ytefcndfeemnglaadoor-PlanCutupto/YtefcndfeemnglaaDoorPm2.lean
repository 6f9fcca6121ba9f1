/- A plan's text that is cut: plain facts. No condition. -/
import Derived.Test.YtefcndfeemnglaaDoorPe3
namespace Go.Proofs.YtefcndfeemnglaaDoor
open Go.RowKit Dk
set_option maxRecDepth 100000

/-- Behind a line's end what was read stands. -/
theorem scan_cut : ∀ (P Q cur : Sc.Bs) (ws : List Sc.Bs) (ls L : List (List Sc.Bs)), Sc.scanR (P ++ 10 :: Q) cur ws ls = .ok L → ∃ A, Sc.scanR (P ++ [10]) cur ws ls = .ok A
  | [], Q, cur, ws, ls, L, h => by
    rw [List.nil_append] at h ⊢
    by_cases hc : cur = []
    · subst hc
      rw [Sc.scan_none (by decide)] at h
      cases h
    · rw [Sc.scan_10 hc]
      exact ⟨_, rfl⟩
  | b :: P, Q, cur, ws, ls, L, h => by
    rw [List.cons_append] at h ⊢
    by_cases hb : Sc.wB b = true
    · rw [Sc.scan_b hb] at h ⊢
      exact scan_cut P Q _ _ _ L h
    · have hb' : Sc.wB b = false := by simpa using hb
      by_cases hc : cur = []
      · subst hc
        rw [Sc.scan_none hb'] at h
        cases h
      · by_cases h32 : b = 32
        · subst h32
          rw [Sc.scan_32 hc] at h ⊢
          exact scan_cut P Q _ _ _ L h
        · by_cases h10 : b = 10
          · subst h10
            rw [Sc.scan_10 hc] at h ⊢
            exact scan_cut P Q _ _ _ L h
          · rw [Sc.scan_bad hb' h32 h10] at h
            cases h
theorem nls_w {x : Sc.Bs} (h : Sc.isW x = true) : Sc.nls x = 0 := by
  unfold Sc.isW at h
  rw [Bool.and_eq_true, List.all_eq_true] at h
  unfold Sc.nls
  rw [List.countP_eq_zero]
  intro b hb q
  have e : b = 10 := by simpa using q
  have := h.1 b hb
  rw [e] at this
  cases this
theorem nls_app (a b : Sc.Bs) : Sc.nls (a ++ b) = Sc.nls a + Sc.nls b := by unfold Sc.nls; rw [List.countP_append]
theorem nls_line : ∀ (l : List Sc.Bs), l.all Sc.isW = true → l ≠ [] → Sc.nls (Sc.lineT l) = 1
  | [], _, h => absurd rfl h
  | [x], h, _ => by
    rw [List.all_cons, Bool.and_eq_true] at h
    show Sc.nls (x ++ [10]) = 1
    rw [nls_app, nls_w h.1]
    rfl
  | x :: y :: r, h, _ => by
    rw [List.all_cons, Bool.and_eq_true] at h
    show Sc.nls (x ++ [32] ++ Sc.lineT (y :: r)) = 1
    rw [nls_app, nls_app, nls_w h.1, nls_line (y :: r) h.2 (by simp)]
    rfl
theorem isL_parts {l : List Sc.Bs} (h : Sc.isL l = true) : l.all Sc.isW = true ∧ l ≠ [] := by
  unfold Sc.isL at h
  rw [Bool.and_eq_true] at h
  exact ⟨h.1, fun e => by rw [e] at h; cases h.2⟩
theorem nls_text : ∀ (L : List (List Sc.Bs)), L.all Sc.isL = true → Sc.nls (Sc.textT L) = L.length
  | [], _ => rfl
  | l :: L, h => by
    rw [List.all_cons, Bool.and_eq_true] at h
    obtain ⟨h1, h2⟩ := isL_parts h.1
    show Sc.nls (Sc.lineT l ++ Sc.textT L) = _
    rw [nls_app, nls_line l h1 h2, nls_text L h.2, List.length_cons]
    omega
theorem line_last : ∀ (l : List Sc.Bs), (Sc.lineT l).getLast? = some 10
  | [] => rfl
  | [x] => by show (x ++ [10]).getLast? = _; rw [List.getLast?_append]; rfl
  | x :: y :: r => by
    show (x ++ [32] ++ Sc.lineT (y :: r)).getLast? = _
    rw [List.getLast?_append, line_last (y :: r)]
    rfl
theorem text_last : ∀ (L : List (List Sc.Bs)), L ≠ [] → (Sc.textT L).getLast? = some 10
  | [], h => absurd rfl h
  | l :: L, _ => by
    show (Sc.lineT l ++ Sc.textT L).getLast? = _
    rw [List.getLast?_append]
    by_cases h : L = []
    · subst h
      rw [line_last]
      rfl
    · rw [text_last L h]
      rfl
theorem take_last {T : Sc.Bs} {k : Nat} (h0 : 0 < k) (hk : k ≤ T.length) : (T.take k).getLast? = some (T[k - 1]'(by omega)) := by
  obtain ⟨j, rfl⟩ : ∃ j, k = j + 1 := ⟨k - 1, by omega⟩
  rw [List.take_succ_eq_append_getElem (by omega : j < T.length), List.getLast?_append]
  rfl
theorem Plan.take {l : List De} (h : Plan l) (j : Nat) : Plan (l.take j) := by
  intro i hi
  have hi' : i < l.length := by rw [List.length_take] at hi; omega
  have hij : i ≤ j := by rw [List.length_take] at hi; omega
  have := h i hi'
  rw [List.take_take, Nat.min_eq_left hij, List.getElem_take]
  exact this
theorem linesP_take (l : List De) (j : Nat) : (linesP l).take (j + 1) = linesP (l.take j) := by
  unfold linesP
  rw [List.take_succ_cons, List.map_take]
/-- A text that is cut behind a whole line. -/
theorem cut_yes {l : List De} (hp : Plan l) {k : Nat} (h0 : 0 < k) (hk : k ≤ (textD l).size) (h10 : (textD l).data.toList[k - 1]'(by rw [size_list]; omega) = 10) :
    ∃ j, j ≤ l.length ∧ Sc.nls ((textD l).data.toList.take k) = j + 1 ∧ parO ((textD l).extract 0 k) = (0, l.take j) := by
  obtain ⟨i, rfl⟩ : ∃ i, k = i + 1 := ⟨k - 1, by omega⟩
  have hil : i < (textD l).data.toList.length := by rw [size_list]; omega
  have hsp : (textD l).data.toList.take (i + 1) = (textD l).data.toList.take i ++ [10] := by
    rw [List.take_succ_eq_append_getElem hil]
    congr 2
  have hT : Sc.scanR (textD l).data.toList [] [] [] = .ok (linesP l) := by rw [textD_list, Sc.scan_text _ _ hp.lines]; rfl
  have hsplit : (textD l).data.toList = (textD l).data.toList.take i ++ 10 :: (textD l).data.toList.drop (i + 1) := by
    conv => lhs; rw [← List.take_append_drop (i + 1) (textD l).data.toList, hsp]
    simp
  have hT2 := hT
  rw [hsplit] at hT2
  obtain ⟨A, hA⟩ := scan_cut _ _ _ _ _ _ hT2
  rw [← hsp] at hA
  obtain ⟨hal, htx⟩ := Sc.scan_back _ _ _ _ A hA rfl rfl rfl
  have htx' : Sc.textT A = (textD l).data.toList.take (i + 1) := by rw [htx]; simp [Sc.pend, Sc.textT]
  have hL : ∃ R, linesP l = A ++ R := by
    have h1 := Sc.scan_then _ ((textD l).data.toList.drop (i + 1)) _ _ _ _ hA
    rw [List.take_append_drop, hT] at h1
    have h2 := Sc.scan_shift A ((textD l).data.toList.drop (i + 1)) [] [] []
    rw [List.append_nil, ← h1] at h2
    cases hR : Sc.scanR ((textD l).data.toList.drop (i + 1)) [] [] [] with
    | error n => rw [hR] at h2; cases h2
    | ok R =>
      rw [hR] at h2
      simp only [Sc.shiftE, Except.ok.injEq] at h2
      exact ⟨R, h2⟩
  obtain ⟨R, hR⟩ := hL
  have hAl : A ≠ [] := by
    rintro rfl
    have := congrArg List.length htx'
    rw [List.length_take] at this
    simp [Sc.textT] at this
    omega
  obtain ⟨j, hj⟩ : ∃ j, A.length = j + 1 := ⟨A.length - 1, by have := List.length_pos_iff.2 hAl; omega⟩
  have hAt : A = linesP (l.take j) := by
    rw [← linesP_take, hR, ← hj, List.take_left']
    rfl
  have hjl : j ≤ l.length := by
    have := congrArg List.length hR
    rw [List.length_append, hj] at this
    unfold linesP at this
    rw [List.length_cons, List.length_map] at this
    omega
  refine ⟨j, hjl, by rw [← htx', nls_text A hal, hj], ?_⟩
  have : (textD l).extract 0 (i + 1) = textD (l.take j) := by
    rw [← textD_ba (l.take j), ← hAt, htx', ← Sc.ba_of ((textD l).extract 0 (i + 1)), ext_list]
  rw [this]
  exact parO_text (hp.take j)
/-- A text that is cut elsewhere. -/
theorem cut_no {l : List De} {k : Nat} (hk : k ≤ (textD l).size) (h : k = 0 ∨ ∃ h0 : 0 < k, (textD l).data.toList[k - 1]'(by rw [size_list]; omega) ≠ 10) : parO ((textD l).extract 0 k) = (44, []) ∨ parO ((textD l).extract 0 k) = (22, []) := by
  rcases h with rfl | ⟨h0, hn⟩
  · refine Or.inl (parO_head (L := []) ?_ (by simp))
    rw [ext_list, List.take_zero]
    rfl
  · refine Or.inr ?_
    cases hA : Sc.scanR ((textD l).extract 0 k).data.toList [] [] [] with
    | error n => exact parO_err hA
    | ok A =>
      exfalso
      obtain ⟨hal, htx⟩ := Sc.scan_back _ _ _ _ A hA rfl rfl rfl
      have htx' : Sc.textT A = (textD l).data.toList.take k := by rw [htx, ext_list]; simp [Sc.pend, Sc.textT]
      have hl := take_last (T := (textD l).data.toList) h0 (by rw [size_list]; exact hk)
      rw [← htx'] at hl
      by_cases e : A = []
      · subst e; simp [Sc.textT] at hl
      · rw [text_last A e] at hl
        exact hn (Option.some.inj hl).symm
end Go.Proofs.YtefcndfeemnglaaDoor
