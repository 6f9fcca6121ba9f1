/- Texts as lines of words, in plain words: the scanner, the document's pieces, and what follows. No condition. -/
import Derived.Test.YtefcndfeemnglaaGreatDoorProg
namespace Go.Proofs.YtefcndfeemnglaaGreatDoor.Sc
set_option maxRecDepth 100000

abbrev Bs := List UInt8
/-- A byte that a word may have. -/
def wB (b : UInt8) : Bool := decide (33 ≤ b.toNat) && decide (b.toNat ≤ 126)
/-- A word. -/
def isW (w : Bs) : Bool := w.all wB && !w.isEmpty
/-- A line. -/
def isL (ws : List Bs) : Bool := ws.all isW && !ws.isEmpty

/-- The scanner: what is left, the word under way, the line under way, the lines. -/
def scanR : Bs → Bs → List Bs → List (List Bs) → Except Nat (List (List Bs))
  | [], cur, ws, ls => if cur = [] ∧ ws = [] then .ok ls else .error (ls.length + 1)
  | b :: r, cur, ws, ls =>
    if wB b = true then scanR r (cur ++ [b]) ws ls
    else if cur = [] then .error (ls.length + 1)
    else if b = 32 then scanR r [] (ws ++ [cur]) ls
    else if b = 10 then scanR r [] [] (ls ++ [ws ++ [cur]])
    else .error (ls.length + 1)

/-- What stands between a byte. -/
def cutF (by_ : UInt8) : Bs → Bs → List Bs
  | cur, [] => [cur]
  | cur, b :: r => if b = by_ then cur :: cutF by_ [] r else cutF by_ (cur ++ [b]) r
theorem cutF_hit (s : UInt8) (c r : Bs) : cutF s c (s :: r) = c :: cutF s [] r := by conv => lhs; unfold cutF; rw [if_pos rfl]
theorem cutF_go {s b : UInt8} (h : b ≠ s) (c r : Bs) : cutF s c (b :: r) = cutF s (c ++ [b]) r := by conv => lhs; unfold cutF; rw [if_neg h]
theorem cutF_ne (s : UInt8) : ∀ (t cur : Bs), cutF s cur t ≠ []
  | [], _ => by simp [cutF]
  | b :: r, cur => by
    unfold cutF
    split
    · simp
    · exact cutF_ne s r _

def lineR (s : Bs) : Option (List Bs) := if (cutF 32 [] s).all isW = true then some (cutF 32 [] s) else none

def refR : List (List Bs) → List Bs → Except Nat (List (List Bs))
  | ls, [] => .ok ls
  | ls, [p] => if p = [] then .ok ls else .error (ls.length + 1)
  | ls, p :: q :: r => match lineR p with
    | none => .error (ls.length + 1)
    | some w => refR (ls ++ [w]) (q :: r)

theorem refR_no {p : Bs} (h : lineR p = none) (ls : List (List Bs)) (q : Bs) (r : List Bs) : refR ls (p :: q :: r) = .error (ls.length + 1) := by conv => lhs; unfold refR; rw [h]
theorem refR_ok {p : Bs} {w : List Bs} (h : lineR p = some w) (ls : List (List Bs)) (q : Bs) (r : List Bs) : refR ls (p :: q :: r) = refR (ls ++ [w]) (q :: r) := by conv => lhs; unfold refR; rw [h]
theorem scan_b {b : UInt8} (h : wB b = true) (r cur : Bs) (ws : List Bs) (ls : List (List Bs)) : scanR (b :: r) cur ws ls = scanR r (cur ++ [b]) ws ls := by conv => lhs; unfold scanR; rw [if_pos h]
theorem scan_none {b : UInt8} (h : wB b = false) (r : Bs) (ws : List Bs) (ls : List (List Bs)) : scanR (b :: r) [] ws ls = .error (ls.length + 1) := by conv => lhs; unfold scanR; rw [if_neg (by simp [h]), if_pos rfl]
theorem scan_32 {cur : Bs} (hc : cur ≠ []) (r : Bs) (ws : List Bs) (ls : List (List Bs)) : scanR (32 :: r) cur ws ls = scanR r [] (ws ++ [cur]) ls := by conv => lhs; unfold scanR; rw [if_neg (by decide), if_neg hc, if_pos rfl]
theorem scan_10 {cur : Bs} (hc : cur ≠ []) (r : Bs) (ws : List Bs) (ls : List (List Bs)) : scanR (10 :: r) cur ws ls = scanR r [] [] (ls ++ [ws ++ [cur]]) := by conv => lhs; unfold scanR; rw [if_neg (by decide), if_neg hc, if_neg (by decide), if_pos rfl]
theorem scan_bad {b : UInt8} (h : wB b = false) (h32 : b ≠ 32) (h10 : b ≠ 10) (r cur : Bs) (ws : List Bs) (ls : List (List Bs)) : scanR (b :: r) cur ws ls = .error (ls.length + 1) := by conv => lhs; unfold scanR; rw [if_neg (by simp [h]), if_neg h32, if_neg h10, ite_self]
theorem scan_end {cur : Bs} {ws : List Bs} (h : cur ≠ [] ∨ ws ≠ []) (ls : List (List Bs)) : scanR [] cur ws ls = .error (ls.length + 1) := by unfold scanR; rw [if_neg]; rintro ⟨rfl, rfl⟩; simp at h

theorem cutF_append {s : UInt8} : ∀ {a c : Bs} {pre : List Bs} {last : Bs} (b : Bs), cutF s c a = pre ++ [last] → cutF s c (a ++ b) = pre ++ cutF s last b
  | [], c, pre, last, b, h => by
    simp only [cutF] at h
    cases pre with
    | nil => simp at h; subst h; rfl
    | cons x l => simp at h
  | x :: a, c, pre, last, b, h => by
    rw [List.cons_append]
    by_cases hx : x = s
    · subst hx
      rw [cutF_hit] at h ⊢
      cases pre with
      | nil =>
        simp only [List.nil_append, List.cons.injEq] at h
        exact absurd h.2 (cutF_ne _ _ _)
      | cons p l =>
        simp only [List.cons_append, List.cons.injEq] at h
        rw [h.1, cutF_append b h.2]; rfl
    · rw [cutF_go hx] at h ⊢
      exact cutF_append b h

theorem cutF_head (s : UInt8) : ∀ (t c : Bs), ∃ Y rest, cutF s c t = (c ++ Y) :: rest
  | [], c => ⟨[], [], by simp [cutF]⟩
  | b :: r, c => by
    by_cases hx : b = s
    · subst hx
      rw [cutF_hit]
      exact ⟨[], cutF b [] r, by simp⟩
    · rw [cutF_go hx]
      obtain ⟨Y, rest, h⟩ := cutF_head s r (c ++ [b])
      exact ⟨b :: Y, rest, by rw [h]; simp⟩

theorem cutF_nil {s : UInt8} {t c : Bs} (h : cutF s c t = [[]]) : t = [] ∧ c = [] := by
  cases t with
  | nil => simp [cutF] at h; exact ⟨rfl, h⟩
  | cons b r =>
    unfold cutF at h
    split at h
    · simp only [List.cons.injEq] at h; exact absurd h.2 (cutF_ne _ _ _)
    · obtain ⟨Y, rest, h2⟩ := cutF_head s r (c ++ [b])
      rw [h2] at h
      simp at h

theorem bad_line {ls : List (List Bs)} {X : Bs} (h : ∀ Y, lineR (X ++ Y) = none) (hX : X ≠ []) (r : Bs) : refR ls (cutF 10 X r) = .error (ls.length + 1) := by
  obtain ⟨Y, rest, e⟩ := cutF_head 10 r X
  rw [e]
  cases rest with
  | nil => unfold refR; rw [if_neg (by simp [hX])]
  | cons q r => unfold refR; rw [h Y]

theorem lineR_of {s : Bs} {l : List Bs} (h : cutF 32 [] s = l) : lineR s = if l.all isW = true then some l else none := by unfold lineR; rw [h]

/-- The scanner is the document's answer. -/
theorem scan_ref : ∀ (t cur : Bs) (ws : List Bs) (ls : List (List Bs)) (X : Bs), cutF 32 [] X = ws ++ [cur] → ws.all isW = true → cur.all wB = true → scanR t cur ws ls = refR ls (cutF 10 X t)
  | [], cur, ws, ls, X, hX, hw, hc => by
    unfold scanR cutF refR
    by_cases hx : X = []
    · subst hx
      have : ws = [] ∧ cur = [] := by
        cases ws with
        | nil => simp [cutF] at hX; exact ⟨rfl, hX⟩
        | cons a l => simp [cutF] at hX
      rw [if_pos ⟨this.2, this.1⟩, if_pos rfl]
    · rw [if_neg hx, if_neg]
      rintro ⟨rfl, rfl⟩
      exact hx (cutF_nil hX).1
  | b :: r, cur, ws, ls, X, hX, hw, hc => by
    by_cases hb : wB b = true
    · have n10 : b ≠ 10 := by rintro rfl; revert hb; decide
      have n32 : b ≠ 32 := by rintro rfl; revert hb; decide
      rw [scan_b hb, cutF_go n10]
      refine scan_ref r _ ws ls (X ++ [b]) ?_ hw ?_
      · rw [cutF_append [b] hX]; simp [cutF, n32]
      · simp [hc, hb]
    · by_cases h10 : b = 10
      · subst h10
        rw [cutF_hit]
        obtain ⟨Y, rest, e⟩ := cutF_head 10 r []
        have hl : lineR X = if (ws ++ [cur]).all isW = true then some (ws ++ [cur]) else none := lineR_of hX
        by_cases hcur : cur = []
        · subst hcur
          rw [if_neg (by simp [isW])] at hl
          rw [scan_none (by decide), e, refR_no hl]
        · have hall : (ws ++ [cur]).all isW = true := by
            simp only [List.all_append, List.all_cons, List.all_nil, Bool.and_true, hw, Bool.true_and, isW, hc]
            cases cur with
            | nil => exact absurd rfl hcur
            | cons _ _ => rfl
          rw [if_pos hall] at hl
          rw [scan_10 hcur, scan_ref r [] [] (ls ++ [ws ++ [cur]]) [] rfl rfl rfl, e, refR_ok hl]
      · by_cases h32 : b = 32
        · subst h32
          have e1 : cutF 10 X (32 :: r) = cutF 10 (X ++ [32]) r := cutF_go (by decide) _ _
          have e2 : cutF 32 [] (X ++ [32]) = ws ++ [cur] ++ [[]] := by rw [cutF_append [32] hX]; simp [cutF]
          by_cases hcur : cur = []
          · subst hcur
            rw [scan_none (by decide), e1, bad_line (fun Y => ?_) (by simp)]
            rw [lineR_of (cutF_append Y e2), if_neg (by simp [isW])]
          · rw [scan_32 hcur, e1]
            refine scan_ref r [] (ws ++ [cur]) ls (X ++ [32]) e2 ?_ rfl
            simp only [List.all_append, List.all_cons, List.all_nil, Bool.and_true, hw, Bool.true_and, isW, hc]
            cases cur with
            | nil => exact absurd rfl hcur
            | cons _ _ => rfl
        · have e1 : cutF 10 X (b :: r) = cutF 10 (X ++ [b]) r := cutF_go h10 _ _
          have e2 : cutF 32 [] (X ++ [b]) = ws ++ [cur ++ [b]] := by rw [cutF_append [b] hX]; simp [cutF, h32]
          rw [scan_bad (by simpa using hb) h32 h10, e1, bad_line (fun Y => ?_) (by simp)]
          rw [lineR_of (cutF_append Y e2), if_neg]
          obtain ⟨Z, rest, e⟩ := cutF_head 32 Y (cur ++ [b])
          rw [e]
          simp [isW, hb]

/-- A line's text. -/
def pend (ws : List Bs) (cur : Bs) : Bs := ws.flatMap (· ++ [32]) ++ cur
def lineT : List Bs → Bs
  | [] => [10]
  | [w] => w ++ [10]
  | w :: q :: r => w ++ [32] ++ lineT (q :: r)
def textT (ls : List (List Bs)) : Bs := ls.flatMap lineT
theorem lineT_snoc (ws : List Bs) (cur : Bs) : lineT (ws ++ [cur]) = pend ws cur ++ [10] := by
  induction ws with
  | nil => rfl
  | cons w l ih =>
    cases l with
    | nil => simp [lineT, pend]
    | cons q r =>
      have : lineT (w :: q :: r ++ [cur]) = w ++ [32] ++ lineT (q :: r ++ [cur]) := rfl
      rw [this, ih]
      simp [pend]
theorem textT_snoc (ls : List (List Bs)) (l : List Bs) : textT (ls ++ [l]) = textT ls ++ lineT l := by simp [textT]

theorem wB_not {b : UInt8} (h : wB b = true) : b ≠ 10 ∧ b ≠ 32 := ⟨by rintro rfl; revert h; decide, by rintro rfl; revert h; decide⟩
theorem isW_of {cur : Bs} (hc : cur.all wB = true) (h : cur ≠ []) : isW cur = true := by
  unfold isW
  rw [hc]
  cases cur with
  | nil => exact absurd rfl h
  | cons _ _ => rfl

/-- What is taken is the lines of that text. -/
theorem scan_back : ∀ (t cur : Bs) (ws : List Bs) (ls L : List (List Bs)), scanR t cur ws ls = .ok L → cur.all wB = true → ws.all isW = true → ls.all isL = true → L.all isL = true ∧ textT L = textT ls ++ pend ws cur ++ t
  | [], cur, ws, ls, L, h, hc, hw, hl => by
    unfold scanR at h
    split at h
    · rename_i hq
      cases h
      rw [hq.1, hq.2]
      exact ⟨hl, by simp [pend]⟩
    · cases h
  | b :: r, cur, ws, ls, L, h, hc, hw, hl => by
    unfold scanR at h
    split at h
    · rename_i hb
      obtain ⟨h1, h2⟩ := scan_back r _ ws ls L h (by simp [hc, hb]) hw hl
      exact ⟨h1, by rw [h2]; simp [pend]⟩
    · split at h
      · cases h
      · rename_i hb hcur
        split at h
        · rename_i h32
          obtain ⟨h1, h2⟩ := scan_back r [] (ws ++ [cur]) ls L h rfl (by simp [hw, isW_of hc hcur]) hl
          exact ⟨h1, by rw [h2, h32]; simp [pend]⟩
        · split at h
          · rename_i h32 h10
            obtain ⟨h1, h2⟩ := scan_back r [] [] (ls ++ [ws ++ [cur]]) L h rfl rfl (by simp [hl, isL, hw, isW_of hc hcur])
            exact ⟨h1, by rw [h2, h10, textT_snoc, lineT_snoc]; simp [pend]⟩
          · cases h

theorem scan_word : ∀ (x r cur : Bs) (ws : List Bs) (ls : List (List Bs)), x.all wB = true → scanR (x ++ r) cur ws ls = scanR r (cur ++ x) ws ls
  | [], r, cur, ws, ls, _ => by simp
  | b :: x, r, cur, ws, ls, h => by
    simp only [List.all_cons, Bool.and_eq_true] at h
    rw [List.cons_append]
    conv => lhs; unfold scanR; rw [if_pos h.1]
    rw [scan_word x r _ ws ls h.2]; simp

theorem scan_line : ∀ (l : List Bs) (ws : List Bs) (r : Bs) (ls : List (List Bs)), l.all isW = true → l ≠ [] → scanR (lineT l ++ r) [] ws ls = scanR r [] [] (ls ++ [ws ++ l])
  | [], _, _, _, _, h => absurd rfl h
  | [w], ws, r, ls, h, _ => by
    simp only [List.all_cons, List.all_nil, Bool.and_true, isW, Bool.and_eq_true] at h
    have hne : w ≠ [] := by rintro rfl; simp at h
    show scanR (w ++ [10] ++ r) [] ws ls = _
    rw [List.append_assoc, scan_word w _ [] ws ls h.1]
    show scanR (10 :: r) ([] ++ w) ws ls = _
    conv => lhs; unfold scanR; rw [if_neg (by decide), if_neg (by simpa using hne), if_neg (by decide), if_pos rfl]
    simp
  | w :: q :: l, ws, r, ls, h, _ => by
    rw [List.all_cons, Bool.and_eq_true] at h
    obtain ⟨h1, h2⟩ := h
    simp only [isW, Bool.and_eq_true] at h1
    have hne : w ≠ [] := by rintro rfl; simp at h1
    show scanR (w ++ [32] ++ lineT (q :: l) ++ r) [] ws ls = _
    have e : w ++ [32] ++ lineT (q :: l) ++ r = w ++ (32 :: (lineT (q :: l) ++ r)) := by simp
    rw [e, scan_word w _ [] ws ls h1.1]
    conv => lhs; unfold scanR; rw [if_neg (by decide), if_neg (by simpa using hne), if_pos rfl]
    rw [List.nil_append, scan_line (q :: l) (ws ++ [w]) r ls h2 (by simp)]
    simp

/-- Lines of Join. -/
theorem scan_text : ∀ (L : List (List Bs)) (ls : List (List Bs)), L.all isL = true → scanR (textT L) [] [] ls = .ok (ls ++ L)
  | [], ls, _ => by simp [textT, scanR]
  | l :: L, ls, h => by
    simp only [List.all_cons, Bool.and_eq_true, isL] at h
    have hne : l ≠ [] := by rintro rfl; simp at h
    show scanR (lineT l ++ textT L) [] [] ls = _
    rw [scan_line l [] _ ls h.1.1 hne, scan_text L _ h.2]
    simp

/-- More lines ahead. -/
def shiftE (A : List (List Bs)) : Except Nat (List (List Bs)) → Except Nat (List (List Bs))
  | .ok L => .ok (A ++ L)
  | .error n => .error (n + A.length)
theorem scan_shift (A : List (List Bs)) : ∀ (t cur : Bs) (ws : List Bs) (ls : List (List Bs)), scanR t cur ws (A ++ ls) = shiftE A (scanR t cur ws ls)
  | [], cur, ws, ls => by
    unfold scanR
    split
    · rfl
    · simp [shiftE]; omega
  | b :: r, cur, ws, ls => by
    unfold scanR
    split
    · exact scan_shift A r _ ws ls
    · split
      · simp [shiftE]; omega
      · split
        · exact scan_shift A r _ _ ls
        · split
          · rw [List.append_assoc]; exact scan_shift A r _ _ _
          · simp [shiftE]; omega
theorem scan_then : ∀ (s t cur : Bs) (ws : List Bs) (ls A : List (List Bs)), scanR s cur ws ls = .ok A → scanR (s ++ t) cur ws ls = scanR t [] [] A
  | [], t, cur, ws, ls, A, h => by
    unfold scanR at h
    split at h
    · rename_i hq; cases h; rw [hq.1, hq.2]; rfl
    · cases h
  | b :: r, t, cur, ws, ls, A, h => by
    rw [List.cons_append]
    by_cases hb : wB b = true
    · rw [scan_b hb] at h ⊢; exact scan_then r t _ _ _ _ h
    · have hb' : wB b = false := by simpa using hb
      by_cases hc : cur = []
      · subst hc; rw [scan_none hb'] at h; cases h
      · by_cases h32 : b = 32
        · subst h32; rw [scan_32 hc] at h ⊢; exact scan_then r t _ _ _ _ h
        · by_cases h10 : b = 10
          · subst h10; rw [scan_10 hc] at h ⊢; exact scan_then r t _ _ _ _ h
          · rw [scan_bad hb' h32 h10] at h; cases h

/-- What stands up to and with the m-th byte 10. -/
def aheadN : Nat → Bs → Bs
  | 0, _ => []
  | _ + 1, [] => []
  | m + 1, b :: r => b :: aheadN (if b = 10 then m else m + 1) r
def nls (t : Bs) : Nat := t.countP (· = 10)

theorem scan_wrong : ∀ (t cur : Bs) (ws : List Bs) (ls : List (List Bs)) (n : Nat), scanR t cur ws ls = .error n →
    ∃ m, n = ls.length + 1 + m ∧ m ≤ nls t ∧ (0 < m → ∃ L, scanR (aheadN m t) cur ws ls = .ok L ∧ L.length + 1 = n)
  | [], cur, ws, ls, n, h => by
    unfold scanR at h
    split at h
    · cases h
    · cases h; exact ⟨0, rfl, Nat.zero_le _, fun q => absurd q (by omega)⟩
  | b :: r, cur, ws, ls, n, h => by
    unfold scanR at h
    split at h
    · rename_i hb
      obtain ⟨m, h1, h2, h3⟩ := scan_wrong r _ ws ls n h
      have h10 := (wB_not hb).1
      refine ⟨m, h1, by unfold nls at *; rw [List.countP_cons_of_neg (by simpa using h10)]; exact h2, fun hm => ?_⟩
      obtain ⟨L, e, el⟩ := h3 hm
      obtain ⟨k, rfl⟩ : ∃ k, m = k + 1 := ⟨m - 1, by omega⟩
      refine ⟨L, ?_, el⟩
      unfold aheadN
      rw [if_neg h10]
      unfold scanR
      rw [if_pos hb]; exact e
    · rename_i hb
      split at h
      · cases h; exact ⟨0, rfl, Nat.zero_le _, fun q => absurd q (by omega)⟩
      · rename_i hcur
        split at h
        · rename_i h32
          subst h32
          obtain ⟨m, h1, h2, h3⟩ := scan_wrong r _ _ ls n h
          refine ⟨m, h1, by unfold nls at *; rw [List.countP_cons_of_neg (by decide)]; exact h2, fun hm => ?_⟩
          obtain ⟨L, e, el⟩ := h3 hm
          obtain ⟨k, rfl⟩ : ∃ k, m = k + 1 := ⟨m - 1, by omega⟩
          refine ⟨L, ?_, el⟩
          unfold aheadN
          rw [if_neg (by decide)]
          unfold scanR
          rw [if_neg hb, if_neg hcur, if_pos rfl]; exact e
        · rename_i h32
          split at h
          · rename_i h10
            subst h10
            obtain ⟨m, h1, h2, h3⟩ := scan_wrong r [] [] (ls ++ [ws ++ [cur]]) n h
            refine ⟨m + 1, by rw [h1]; simp; omega, by unfold nls at *; rw [List.countP_cons_of_pos (by decide)]; omega, fun _ => ?_⟩
            have key : ∃ L, scanR (aheadN m r) [] [] (ls ++ [ws ++ [cur]]) = .ok L ∧ L.length + 1 = n := by
              cases m with
              | zero => exact ⟨ls ++ [ws ++ [cur]], by unfold aheadN scanR; rfl, by rw [h1]⟩
              | succ k => exact h3 (by omega)
            obtain ⟨L, e, el⟩ := key
            refine ⟨L, ?_, el⟩
            unfold aheadN
            rw [if_pos rfl]
            unfold scanR
            rw [if_neg hb, if_neg hcur, if_neg (by decide), if_pos rfl]; exact e
          · cases h; exact ⟨0, rfl, Nat.zero_le _, fun q => absurd q (by omega)⟩
end Go.Proofs.YtefcndfeemnglaaGreatDoor.Sc
