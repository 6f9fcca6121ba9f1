/- ScPl1, ScBa1, ScLi1, ScNm1, ScNm2, ScNm3, Tw2, laid in one text. -/
import Derived.Test.YtogpkhpephhbiaaGreatDoorProg
import Derived.Test.YtogpkhpephhbiaaGreatDoorRows
import Derived.WalkKit
import Derived.WalkSpells
import Derived.WalkLawsBesides
import Derived.Deep.QuietTactic
import Derived.BigQuiet
import Derived.Maps.AppendAt
import Derived.Deep.AppendLies
import Derived.Laws.OwnMore
import Derived.Laws.AppendOwn
import Derived.OwnWalk
import Derived.WalkMore
import Derived.Scope
import Derived.Deep.LoopGhost
import Derived.Test.YtogpkhpephhbiaaGreatDoorMg04
namespace Go.Proofs.YtogpkhpephhbiaaGreatDoor.Sc
set_option maxRecDepth 100000

abbrev Bs := List UInt8
/-- A byte that a word may have. -/
def wB (b : UInt8) : Bool := decide (33 ≤ b.toNat) && decide (b.toNat ≤ 126)
/-- A word. -/
def isW (w : Bs) : Bool := w.all wB && !w.isEmpty
/-- A line. -/
def isL (ws : List Bs) : Bool := ws.all isW && !ws.isEmpty

/-- The scanner: what is left, the word under way, the line under way, the lines. -/
def scanR : Bs → Bs → List Bs → List (List Bs) → Except Nat (List (List Bs))
  | [], cur, ws, ls => if cur = [] ∧ ws = [] then .ok ls else .error (ls.length + 1)
  | b :: r, cur, ws, ls =>
    if wB b = true then scanR r (cur ++ [b]) ws ls
    else if cur = [] then .error (ls.length + 1)
    else if b = 32 then scanR r [] (ws ++ [cur]) ls
    else if b = 10 then scanR r [] [] (ls ++ [ws ++ [cur]])
    else .error (ls.length + 1)

/-- What stands between a byte. -/
def cutF (by_ : UInt8) : Bs → Bs → List Bs
  | cur, [] => [cur]
  | cur, b :: r => if b = by_ then cur :: cutF by_ [] r else cutF by_ (cur ++ [b]) r
theorem cutF_hit (s : UInt8) (c r : Bs) : cutF s c (s :: r) = c :: cutF s [] r := by conv => lhs; unfold cutF; rw [if_pos rfl]
theorem cutF_go {s b : UInt8} (h : b ≠ s) (c r : Bs) : cutF s c (b :: r) = cutF s (c ++ [b]) r := by conv => lhs; unfold cutF; rw [if_neg h]
theorem cutF_ne (s : UInt8) : ∀ (t cur : Bs), cutF s cur t ≠ []
  | [], _ => by simp [cutF]
  | b :: r, cur => by
    unfold cutF
    split
    · simp
    · exact cutF_ne s r _

def lineR (s : Bs) : Option (List Bs) := if (cutF 32 [] s).all isW = true then some (cutF 32 [] s) else none

def refR : List (List Bs) → List Bs → Except Nat (List (List Bs))
  | ls, [] => .ok ls
  | ls, [p] => if p = [] then .ok ls else .error (ls.length + 1)
  | ls, p :: q :: r => match lineR p with
    | none => .error (ls.length + 1)
    | some w => refR (ls ++ [w]) (q :: r)

theorem refR_no {p : Bs} (h : lineR p = none) (ls : List (List Bs)) (q : Bs) (r : List Bs) : refR ls (p :: q :: r) = .error (ls.length + 1) := by conv => lhs; unfold refR; rw [h]
theorem refR_ok {p : Bs} {w : List Bs} (h : lineR p = some w) (ls : List (List Bs)) (q : Bs) (r : List Bs) : refR ls (p :: q :: r) = refR (ls ++ [w]) (q :: r) := by conv => lhs; unfold refR; rw [h]
theorem scan_b {b : UInt8} (h : wB b = true) (r cur : Bs) (ws : List Bs) (ls : List (List Bs)) : scanR (b :: r) cur ws ls = scanR r (cur ++ [b]) ws ls := by conv => lhs; unfold scanR; rw [if_pos h]
theorem scan_none {b : UInt8} (h : wB b = false) (r : Bs) (ws : List Bs) (ls : List (List Bs)) : scanR (b :: r) [] ws ls = .error (ls.length + 1) := by conv => lhs; unfold scanR; rw [if_neg (by simp [h]), if_pos rfl]
theorem scan_32 {cur : Bs} (hc : cur ≠ []) (r : Bs) (ws : List Bs) (ls : List (List Bs)) : scanR (32 :: r) cur ws ls = scanR r [] (ws ++ [cur]) ls := by conv => lhs; unfold scanR; rw [if_neg (by decide), if_neg hc, if_pos rfl]
theorem scan_10 {cur : Bs} (hc : cur ≠ []) (r : Bs) (ws : List Bs) (ls : List (List Bs)) : scanR (10 :: r) cur ws ls = scanR r [] [] (ls ++ [ws ++ [cur]]) := by conv => lhs; unfold scanR; rw [if_neg (by decide), if_neg hc, if_neg (by decide), if_pos rfl]
theorem scan_bad {b : UInt8} (h : wB b = false) (h32 : b ≠ 32) (h10 : b ≠ 10) (r cur : Bs) (ws : List Bs) (ls : List (List Bs)) : scanR (b :: r) cur ws ls = .error (ls.length + 1) := by conv => lhs; unfold scanR; rw [if_neg (by simp [h]), if_neg h32, if_neg h10, ite_self]
theorem scan_end {cur : Bs} {ws : List Bs} (h : cur ≠ [] ∨ ws ≠ []) (ls : List (List Bs)) : scanR [] cur ws ls = .error (ls.length + 1) := by unfold scanR; rw [if_neg]; rintro ⟨rfl, rfl⟩; simp at h

theorem cutF_append {s : UInt8} : ∀ {a c : Bs} {pre : List Bs} {last : Bs} (b : Bs), cutF s c a = pre ++ [last] → cutF s c (a ++ b) = pre ++ cutF s last b
  | [], c, pre, last, b, h => by
    simp only [cutF] at h
    cases pre with
    | nil => simp at h; subst h; rfl
    | cons x l => simp at h
  | x :: a, c, pre, last, b, h => by
    rw [List.cons_append]
    by_cases hx : x = s
    · subst hx
      rw [cutF_hit] at h ⊢
      cases pre with
      | nil =>
        simp only [List.nil_append, List.cons.injEq] at h
        exact absurd h.2 (cutF_ne _ _ _)
      | cons p l =>
        simp only [List.cons_append, List.cons.injEq] at h
        rw [h.1, cutF_append b h.2]; rfl
    · rw [cutF_go hx] at h ⊢
      exact cutF_append b h

theorem cutF_head (s : UInt8) : ∀ (t c : Bs), ∃ Y rest, cutF s c t = (c ++ Y) :: rest
  | [], c => ⟨[], [], by simp [cutF]⟩
  | b :: r, c => by
    by_cases hx : b = s
    · subst hx
      rw [cutF_hit]
      exact ⟨[], cutF b [] r, by simp⟩
    · rw [cutF_go hx]
      obtain ⟨Y, rest, h⟩ := cutF_head s r (c ++ [b])
      exact ⟨b :: Y, rest, by rw [h]; simp⟩

theorem cutF_nil {s : UInt8} {t c : Bs} (h : cutF s c t = [[]]) : t = [] ∧ c = [] := by
  cases t with
  | nil => simp [cutF] at h; exact ⟨rfl, h⟩
  | cons b r =>
    unfold cutF at h
    split at h
    · simp only [List.cons.injEq] at h; exact absurd h.2 (cutF_ne _ _ _)
    · obtain ⟨Y, rest, h2⟩ := cutF_head s r (c ++ [b])
      rw [h2] at h
      simp at h

theorem bad_line {ls : List (List Bs)} {X : Bs} (h : ∀ Y, lineR (X ++ Y) = none) (hX : X ≠ []) (r : Bs) : refR ls (cutF 10 X r) = .error (ls.length + 1) := by
  obtain ⟨Y, rest, e⟩ := cutF_head 10 r X
  rw [e]
  cases rest with
  | nil => unfold refR; rw [if_neg (by simp [hX])]
  | cons q r => unfold refR; rw [h Y]

theorem lineR_of {s : Bs} {l : List Bs} (h : cutF 32 [] s = l) : lineR s = if l.all isW = true then some l else none := by unfold lineR; rw [h]

/-- The scanner is the document's answer. -/
theorem scan_ref : ∀ (t cur : Bs) (ws : List Bs) (ls : List (List Bs)) (X : Bs), cutF 32 [] X = ws ++ [cur] → ws.all isW = true → cur.all wB = true → scanR t cur ws ls = refR ls (cutF 10 X t)
  | [], cur, ws, ls, X, hX, hw, hc => by
    unfold scanR cutF refR
    by_cases hx : X = []
    · subst hx
      have : ws = [] ∧ cur = [] := by
        cases ws with
        | nil => simp [cutF] at hX; exact ⟨rfl, hX⟩
        | cons a l => simp [cutF] at hX
      rw [if_pos ⟨this.2, this.1⟩, if_pos rfl]
    · rw [if_neg hx, if_neg]
      rintro ⟨rfl, rfl⟩
      exact hx (cutF_nil hX).1
  | b :: r, cur, ws, ls, X, hX, hw, hc => by
    by_cases hb : wB b = true
    · have n10 : b ≠ 10 := by rintro rfl; revert hb; decide
      have n32 : b ≠ 32 := by rintro rfl; revert hb; decide
      rw [scan_b hb, cutF_go n10]
      refine scan_ref r _ ws ls (X ++ [b]) ?_ hw ?_
      · rw [cutF_append [b] hX]; simp [cutF, n32]
      · simp [hc, hb]
    · by_cases h10 : b = 10
      · subst h10
        rw [cutF_hit]
        obtain ⟨Y, rest, e⟩ := cutF_head 10 r []
        have hl : lineR X = if (ws ++ [cur]).all isW = true then some (ws ++ [cur]) else none := lineR_of hX
        by_cases hcur : cur = []
        · subst hcur
          rw [if_neg (by simp [isW])] at hl
          rw [scan_none (by decide), e, refR_no hl]
        · have hall : (ws ++ [cur]).all isW = true := by
            simp only [List.all_append, List.all_cons, List.all_nil, Bool.and_true, hw, Bool.true_and, isW, hc]
            cases cur with
            | nil => exact absurd rfl hcur
            | cons _ _ => rfl
          rw [if_pos hall] at hl
          rw [scan_10 hcur, scan_ref r [] [] (ls ++ [ws ++ [cur]]) [] rfl rfl rfl, e, refR_ok hl]
      · by_cases h32 : b = 32
        · subst h32
          have e1 : cutF 10 X (32 :: r) = cutF 10 (X ++ [32]) r := cutF_go (by decide) _ _
          have e2 : cutF 32 [] (X ++ [32]) = ws ++ [cur] ++ [[]] := by rw [cutF_append [32] hX]; simp [cutF]
          by_cases hcur : cur = []
          · subst hcur
            rw [scan_none (by decide), e1, bad_line (fun Y => ?_) (by simp)]
            rw [lineR_of (cutF_append Y e2), if_neg (by simp [isW])]
          · rw [scan_32 hcur, e1]
            refine scan_ref r [] (ws ++ [cur]) ls (X ++ [32]) e2 ?_ rfl
            simp only [List.all_append, List.all_cons, List.all_nil, Bool.and_true, hw, Bool.true_and, isW, hc]
            cases cur with
            | nil => exact absurd rfl hcur
            | cons _ _ => rfl
        · have e1 : cutF 10 X (b :: r) = cutF 10 (X ++ [b]) r := cutF_go h10 _ _
          have e2 : cutF 32 [] (X ++ [b]) = ws ++ [cur ++ [b]] := by rw [cutF_append [b] hX]; simp [cutF, h32]
          rw [scan_bad (by simpa using hb) h32 h10, e1, bad_line (fun Y => ?_) (by simp)]
          rw [lineR_of (cutF_append Y e2), if_neg]
          obtain ⟨Z, rest, e⟩ := cutF_head 32 Y (cur ++ [b])
          rw [e]
          simp [isW, hb]

/-- A line's text. -/
def pend (ws : List Bs) (cur : Bs) : Bs := ws.flatMap (· ++ [32]) ++ cur
def lineT : List Bs → Bs
  | [] => [10]
  | [w] => w ++ [10]
  | w :: q :: r => w ++ [32] ++ lineT (q :: r)
def textT (ls : List (List Bs)) : Bs := ls.flatMap lineT
theorem lineT_snoc (ws : List Bs) (cur : Bs) : lineT (ws ++ [cur]) = pend ws cur ++ [10] := by
  induction ws with
  | nil => rfl
  | cons w l ih =>
    cases l with
    | nil => simp [lineT, pend]
    | cons q r =>
      have : lineT (w :: q :: r ++ [cur]) = w ++ [32] ++ lineT (q :: r ++ [cur]) := rfl
      rw [this, ih]
      simp [pend]
theorem textT_snoc (ls : List (List Bs)) (l : List Bs) : textT (ls ++ [l]) = textT ls ++ lineT l := by simp [textT]

theorem wB_not {b : UInt8} (h : wB b = true) : b ≠ 10 ∧ b ≠ 32 := ⟨by rintro rfl; revert h; decide, by rintro rfl; revert h; decide⟩
theorem isW_of {cur : Bs} (hc : cur.all wB = true) (h : cur ≠ []) : isW cur = true := by
  unfold isW
  rw [hc]
  cases cur with
  | nil => exact absurd rfl h
  | cons _ _ => rfl

/-- What is taken is the lines of that text. -/
theorem scan_back : ∀ (t cur : Bs) (ws : List Bs) (ls L : List (List Bs)), scanR t cur ws ls = .ok L → cur.all wB = true → ws.all isW = true → ls.all isL = true → L.all isL = true ∧ textT L = textT ls ++ pend ws cur ++ t
  | [], cur, ws, ls, L, h, hc, hw, hl => by
    unfold scanR at h
    split at h
    · rename_i hq
      cases h
      rw [hq.1, hq.2]
      exact ⟨hl, by simp [pend]⟩
    · cases h
  | b :: r, cur, ws, ls, L, h, hc, hw, hl => by
    unfold scanR at h
    split at h
    · rename_i hb
      obtain ⟨h1, h2⟩ := scan_back r _ ws ls L h (by simp [hc, hb]) hw hl
      exact ⟨h1, by rw [h2]; simp [pend]⟩
    · split at h
      · cases h
      · rename_i hb hcur
        split at h
        · rename_i h32
          obtain ⟨h1, h2⟩ := scan_back r [] (ws ++ [cur]) ls L h rfl (by simp [hw, isW_of hc hcur]) hl
          exact ⟨h1, by rw [h2, h32]; simp [pend]⟩
        · split at h
          · rename_i h32 h10
            obtain ⟨h1, h2⟩ := scan_back r [] [] (ls ++ [ws ++ [cur]]) L h rfl rfl (by simp [hl, isL, hw, isW_of hc hcur])
            exact ⟨h1, by rw [h2, h10, textT_snoc, lineT_snoc]; simp [pend]⟩
          · cases h

theorem scan_word : ∀ (x r cur : Bs) (ws : List Bs) (ls : List (List Bs)), x.all wB = true → scanR (x ++ r) cur ws ls = scanR r (cur ++ x) ws ls
  | [], r, cur, ws, ls, _ => by simp
  | b :: x, r, cur, ws, ls, h => by
    simp only [List.all_cons, Bool.and_eq_true] at h
    rw [List.cons_append]
    conv => lhs; unfold scanR; rw [if_pos h.1]
    rw [scan_word x r _ ws ls h.2]; simp

theorem scan_line : ∀ (l : List Bs) (ws : List Bs) (r : Bs) (ls : List (List Bs)), l.all isW = true → l ≠ [] → scanR (lineT l ++ r) [] ws ls = scanR r [] [] (ls ++ [ws ++ l])
  | [], _, _, _, _, h => absurd rfl h
  | [w], ws, r, ls, h, _ => by
    simp only [List.all_cons, List.all_nil, Bool.and_true, isW, Bool.and_eq_true] at h
    have hne : w ≠ [] := by rintro rfl; simp at h
    show scanR (w ++ [10] ++ r) [] ws ls = _
    rw [List.append_assoc, scan_word w _ [] ws ls h.1]
    show scanR (10 :: r) ([] ++ w) ws ls = _
    conv => lhs; unfold scanR; rw [if_neg (by decide), if_neg (by simpa using hne), if_neg (by decide), if_pos rfl]
    simp
  | w :: q :: l, ws, r, ls, h, _ => by
    rw [List.all_cons, Bool.and_eq_true] at h
    obtain ⟨h1, h2⟩ := h
    simp only [isW, Bool.and_eq_true] at h1
    have hne : w ≠ [] := by rintro rfl; simp at h1
    show scanR (w ++ [32] ++ lineT (q :: l) ++ r) [] ws ls = _
    have e : w ++ [32] ++ lineT (q :: l) ++ r = w ++ (32 :: (lineT (q :: l) ++ r)) := by simp
    rw [e, scan_word w _ [] ws ls h1.1]
    conv => lhs; unfold scanR; rw [if_neg (by decide), if_neg (by simpa using hne), if_pos rfl]
    rw [List.nil_append, scan_line (q :: l) (ws ++ [w]) r ls h2 (by simp)]
    simp

/-- Lines of Join. -/
theorem scan_text : ∀ (L : List (List Bs)) (ls : List (List Bs)), L.all isL = true → scanR (textT L) [] [] ls = .ok (ls ++ L)
  | [], ls, _ => by simp [textT, scanR]
  | l :: L, ls, h => by
    simp only [List.all_cons, Bool.and_eq_true, isL] at h
    have hne : l ≠ [] := by rintro rfl; simp at h
    show scanR (lineT l ++ textT L) [] [] ls = _
    rw [scan_line l [] _ ls h.1.1 hne, scan_text L _ h.2]
    simp

/-- More lines ahead. -/
def shiftE (A : List (List Bs)) : Except Nat (List (List Bs)) → Except Nat (List (List Bs))
  | .ok L => .ok (A ++ L)
  | .error n => .error (n + A.length)
theorem scan_shift (A : List (List Bs)) : ∀ (t cur : Bs) (ws : List Bs) (ls : List (List Bs)), scanR t cur ws (A ++ ls) = shiftE A (scanR t cur ws ls)
  | [], cur, ws, ls => by
    unfold scanR
    split
    · rfl
    · simp [shiftE]; omega
  | b :: r, cur, ws, ls => by
    unfold scanR
    split
    · exact scan_shift A r _ ws ls
    · split
      · simp [shiftE]; omega
      · split
        · exact scan_shift A r _ _ ls
        · split
          · rw [List.append_assoc]; exact scan_shift A r _ _ _
          · simp [shiftE]; omega
theorem scan_then : ∀ (s t cur : Bs) (ws : List Bs) (ls A : List (List Bs)), scanR s cur ws ls = .ok A → scanR (s ++ t) cur ws ls = scanR t [] [] A
  | [], t, cur, ws, ls, A, h => by
    unfold scanR at h
    split at h
    · rename_i hq; cases h; rw [hq.1, hq.2]; rfl
    · cases h
  | b :: r, t, cur, ws, ls, A, h => by
    rw [List.cons_append]
    by_cases hb : wB b = true
    · rw [scan_b hb] at h ⊢; exact scan_then r t _ _ _ _ h
    · have hb' : wB b = false := by simpa using hb
      by_cases hc : cur = []
      · subst hc; rw [scan_none hb'] at h; cases h
      · by_cases h32 : b = 32
        · subst h32; rw [scan_32 hc] at h ⊢; exact scan_then r t _ _ _ _ h
        · by_cases h10 : b = 10
          · subst h10; rw [scan_10 hc] at h ⊢; exact scan_then r t _ _ _ _ h
          · rw [scan_bad hb' h32 h10] at h; cases h

/-- What stands up to and with the m-th byte 10. -/
def aheadN : Nat → Bs → Bs
  | 0, _ => []
  | _ + 1, [] => []
  | m + 1, b :: r => b :: aheadN (if b = 10 then m else m + 1) r
def nls (t : Bs) : Nat := t.countP (· = 10)

theorem scan_wrong : ∀ (t cur : Bs) (ws : List Bs) (ls : List (List Bs)) (n : Nat), scanR t cur ws ls = .error n →
    ∃ m, n = ls.length + 1 + m ∧ m ≤ nls t ∧ (0 < m → ∃ L, scanR (aheadN m t) cur ws ls = .ok L ∧ L.length + 1 = n)
  | [], cur, ws, ls, n, h => by
    unfold scanR at h
    split at h
    · cases h
    · cases h; exact ⟨0, rfl, Nat.zero_le _, fun q => absurd q (by omega)⟩
  | b :: r, cur, ws, ls, n, h => by
    unfold scanR at h
    split at h
    · rename_i hb
      obtain ⟨m, h1, h2, h3⟩ := scan_wrong r _ ws ls n h
      have h10 := (wB_not hb).1
      refine ⟨m, h1, by unfold nls at *; rw [List.countP_cons_of_neg (by simpa using h10)]; exact h2, fun hm => ?_⟩
      obtain ⟨L, e, el⟩ := h3 hm
      obtain ⟨k, rfl⟩ : ∃ k, m = k + 1 := ⟨m - 1, by omega⟩
      refine ⟨L, ?_, el⟩
      unfold aheadN
      rw [if_neg h10]
      unfold scanR
      rw [if_pos hb]; exact e
    · rename_i hb
      split at h
      · cases h; exact ⟨0, rfl, Nat.zero_le _, fun q => absurd q (by omega)⟩
      · rename_i hcur
        split at h
        · rename_i h32
          subst h32
          obtain ⟨m, h1, h2, h3⟩ := scan_wrong r _ _ ls n h
          refine ⟨m, h1, by unfold nls at *; rw [List.countP_cons_of_neg (by decide)]; exact h2, fun hm => ?_⟩
          obtain ⟨L, e, el⟩ := h3 hm
          obtain ⟨k, rfl⟩ : ∃ k, m = k + 1 := ⟨m - 1, by omega⟩
          refine ⟨L, ?_, el⟩
          unfold aheadN
          rw [if_neg (by decide)]
          unfold scanR
          rw [if_neg hb, if_neg hcur, if_pos rfl]; exact e
        · rename_i h32
          split at h
          · rename_i h10
            subst h10
            obtain ⟨m, h1, h2, h3⟩ := scan_wrong r [] [] (ls ++ [ws ++ [cur]]) n h
            refine ⟨m + 1, by rw [h1]; simp; omega, by unfold nls at *; rw [List.countP_cons_of_pos (by decide)]; omega, fun _ => ?_⟩
            have key : ∃ L, scanR (aheadN m r) [] [] (ls ++ [ws ++ [cur]]) = .ok L ∧ L.length + 1 = n := by
              cases m with
              | zero => exact ⟨ls ++ [ws ++ [cur]], by unfold aheadN scanR; rfl, by rw [h1]⟩
              | succ k => exact h3 (by omega)
            obtain ⟨L, e, el⟩ := key
            refine ⟨L, ?_, el⟩
            unfold aheadN
            rw [if_pos rfl]
            unfold scanR
            rw [if_neg hb, if_neg hcur, if_neg (by decide), if_pos rfl]; exact e
          · cases h; exact ⟨0, rfl, Nat.zero_le _, fun q => absurd q (by omega)⟩
end Go.Proofs.YtogpkhpephhbiaaGreatDoor.Sc
namespace Go.Proofs.YtogpkhpephhbiaaGreatDoor.Sc
open Go.RowKit
set_option maxRecDepth 100000

theorem hide3 {p : Prop} (h : p) : Hid p := h
theorem ret_bool {a b : Bool} (h : a = b) : Ending.returned (.bool a) = .returned (.bool b) := by rw [h]
theorem ret_int {a b : Int} (h : a = b) : Ending.returned (.int .i64 a) = .returned (.int .i64 b) := by rw [h]
theorem boxB (w : World) (o : Obj) : Below w.heap.size w (w.alloc o) := (Below.refl _ _).alloc (Nat.le_refl _) _
theorem below_then {w w1 w' : World} (h : Below w.heap.size w w1) (hb : Below w1.heap.size w1 w') : Below w.heap.size w w' := h.trans (hb.mono h.size)
theorem bytes_same {s t : ByteArray} (h : s.toList = t.toList) : s = t := by
  rw [ByteArray.toList_eq, ByteArray.toList_eq] at h
  cases s; cases t
  simp only [ByteArray.mk.injEq]
  exact Array.toList_inj.1 h
theorem list_size (s : ByteArray) : s.data.toList.length = s.size := rfl
theorem cell_in {W : World} {a : Addr} {v : Value} (h : W.cell? a = some v) : a.block < W.heap.size := by
  rcases Nat.lt_or_ge a.block W.heap.size with h' | h'
  · exact h'
  · simp [World.cell?, Array.getElem?_eq_none h'] at h
theorem info_parts {e : TypeId} {z : Value} {n b : Nat} (h : (Tryz.prog.info? e).map (fun i => (i.zero, i.size, i.bytes)) = some (some z, n, b)) : ∃ i, Tryz.prog.info? e = some i ∧ i.zero = some z ∧ i.size = n ∧ i.bytes = b := by
  cases hi : Tryz.prog.info? e with
  | none => rw [hi] at h; cases h
  | some i =>
    rw [hi] at h
    simp only [Option.map_some, Option.some.injEq, Prod.mk.injEq] at h
    exact ⟨i, rfl, h.1, h.2.1, h.2.2⟩
theorem infoStr : (Tryz.prog.info? 9).map (fun i => (i.zero, i.size, i.bytes)) = some (some (.string ByteArray.empty), 1, 16) := by kernel_rfl
theorem infoStrs : (Tryz.prog.info? 53).map (fun i => (i.zero, i.size, i.bytes)) = some (some (.slice none 0 0), 1, 24) := by kernel_rfl

/-- As Q; by a goto to a label: J. -/
def jumpM (J : Nat → Act → World → Prop) (Q : Exit → Act → World → Prop) : Exit → Act → World → Prop
  | .goto l, a, w => J l a w
  | e, a, w => Q e a w
section
variable {J : Nat → Act → World → Prop} {Q : Exit → Act → World → Prop} {a : Act} {w : World}
theorem jumpM_normal : jumpM J Q .normal a w = Q .normal a w := rfl
theorem jumpM_exit (id : Nat) : jumpM J Q (.exit id) a w = Q (.exit id) a w := rfl
theorem jumpM_ret : jumpM J Q .ret a w = Q .ret a w := rfl
theorem jumpM_goto (l : Nat) : jumpM J Q (.goto l) a w = J l a w := rfl
end
/-- A scope in which the run jumps among labels: what holds at each jump, and a measure that every pass lowers. -/
theorem wp_scope_many {P : Program} {a : Act} {w : World} {Q : Exit → Act → World → Prop} {c : Code} (J : Nat → Act → World → Prop) (μ : Nat → Act → World → Nat)
    (first : c.wp P (jumpM J Q) a w)
    (pass : ∀ l a w, J l a w → ∃ rest, findLabel c l = some rest ∧ rest.wp P (jumpM (fun l' a' w' => J l' a' w' ∧ μ l' a' w' < μ l a w) Q) a w) : (Code.scope c).wp P Q a w := by
  intro b k cs
  have key : ∀ n l a w, μ l a w = n → J l a w → ∃ rest, findLabel c l = some rest ∧ ∃ e a' w', Q e a' w' ∧ Arrives P (lone (b.at a (.code rest :: .inScope c :: k)) cs w) b k cs e a' w' := by
    intro n
    induction n using Nat.strongRecOn with
    | _ n ih =>
      intro l a w hn hJ
      obtain ⟨rest, hf, hp⟩ := pass l a w hJ
      refine ⟨rest, hf, ?_⟩
      obtain ⟨e, a₁, w₁, hq, harr⟩ := hp b (.inScope c :: k) cs
      cases e with
      | normal => exact ⟨.normal, a₁, w₁, hq, Steps.trans harr (.one step_inScope)⟩
      | exit id => exact ⟨.exit id, a₁, w₁, hq, fun k' hk => harr k' (by simp [exitTo, hk])⟩
      | goto l' =>
        obtain ⟨hJ', hlt⟩ := hq
        obtain ⟨rest', hf', e₂, a₂, w₂, hq₂, harr₂⟩ := ih _ (by omega) l' a₁ w₁ rfl hJ'
        have hg : gotoIn l' (.inScope c :: k) = some (.code rest' :: .inScope c :: k) := by simp [gotoIn, hf']
        exact ⟨e₂, a₂, w₂, hq₂, .of_steps (harr _ hg) harr₂⟩
      | ret => exact ⟨_, a₁, w₁, hq, harr⟩
      | panic ch => exact ⟨_, a₁, w₁, hq, harr⟩
      | outgrown => exact ⟨_, a₁, w₁, hq, harr⟩
  obtain ⟨e, a₁, w₁, hq, harr⟩ := first b (.inScope c :: k) cs
  cases e with
  | normal => exact ⟨.normal, a₁, w₁, hq, .head step_scope (Steps.trans harr (.one step_inScope))⟩
  | exit id => exact ⟨.exit id, a₁, w₁, hq, fun k' hk => .head step_scope (harr k' (by simp [exitTo, hk]))⟩
  | goto l' =>
    obtain ⟨rest', hf', e₂, a₂, w₂, hq₂, harr₂⟩ := key _ l' a₁ w₁ rfl hq
    have hg : gotoIn l' (.inScope c :: k) = some (.code rest' :: .inScope c :: k) := by simp [gotoIn, hf']
    exact ⟨e₂, a₂, w₂, hq₂, .of_steps (.head step_scope (harr _ hg)) harr₂⟩
  | ret => exact ⟨_, a₁, w₁, hq, .of_steps (.one step_scope) harr⟩
  | panic ch => exact ⟨_, a₁, w₁, hq, .of_steps (.one step_scope) harr⟩
  | outgrown => exact ⟨_, a₁, w₁, hq, .of_steps (.one step_scope) harr⟩

/-- Bytes as a text. -/
def ba (l : Bs) : ByteArray := ⟨l.toArray⟩
theorem ba_list (l : Bs) : (ba l).data.toList = l := by simp [ba]
theorem ba_of (s : ByteArray) : ba s.data.toList = s := by cases s; simp [ba]
theorem ba_inj {a b : Bs} (h : ba a = ba b) : a = b := by rw [← ba_list a, h, ba_list]
theorem ba_size (l : Bs) : (ba l).size = l.length := by show l.toArray.size = _; simp
theorem ba_extract (s : ByteArray) (f k : Nat) : s.extract f k = ba ((s.data.toList.take k).drop f) := by
  have : (s.extract f k).data.toList = (s.data.toList.take k).drop f := by
    rw [ByteArray.data_extract, Array.toList_extract, List.extract_eq_take_drop, List.drop_take]
  rw [← this, ba_of]

/-- Words as cells. -/
def strs (ws : List Bs) : List Value := ws.map fun w => .string (ba w)
theorem strs_length (ws : List Bs) : (strs ws).length = ws.length := by simp [strs]
theorem strs_snoc (ws : List Bs) (x : Bs) : strs (ws ++ [x]) = strs ws ++ [.string (ba x)] := by simp [strs]

/-- Words that lie in memory, wherever. -/
def WordsAt (w : World) (v : Value) (ws : List Bs) : Prop := ∃ ad cap, v = .slice ad ws.length cap ∧ ws.length ≤ cap ∧ (ws = [] ∨ ∃ g o, ad = some ⟨g, o, none⟩ ∧ g < w.heap.size ∧ ∀ i (h : i < ws.length), w.cell? ⟨g, o + i, none⟩ = some (.string (ba ws[i])))
/-- Lines that lie in memory. -/
def LinesAt (w : World) (v : Value) (L : List (List Bs)) : Prop := ∃ ad cap, v = .slice ad L.length cap ∧ L.length ≤ cap ∧ (L = [] ∨ ∃ g o, ad = some ⟨g, o, none⟩ ∧ g < w.heap.size ∧ ∀ i (h : i < L.length), ∃ u, w.cell? ⟨g, o + i, none⟩ = some u ∧ WordsAt w u L[i])

theorem WordsAt.below {w w' : World} {v : Value} {ws : List Bs} (h : WordsAt w v ws) (hb : Below w.heap.size w w') : WordsAt w' v ws := by
  obtain ⟨ad, cap, hv, hc, hl⟩ := h
  refine ⟨ad, cap, hv, hc, hl.imp id ?_⟩
  rintro ⟨g, o, ha, hg, hs⟩
  exact ⟨g, o, ha, Nat.lt_of_lt_of_le hg hb.size, fun i hi => (hb.cell (p := ⟨g, o + i, none⟩) hg).trans (hs i hi)⟩
theorem LinesAt.below {w w' : World} {v : Value} {L : List (List Bs)} (h : LinesAt w v L) (hb : Below w.heap.size w w') : LinesAt w' v L := by
  obtain ⟨ad, cap, hv, hc, hl⟩ := h
  refine ⟨ad, cap, hv, hc, hl.imp id ?_⟩
  rintro ⟨g, o, ha, hg, hs⟩
  refine ⟨g, o, ha, Nat.lt_of_lt_of_le hg hb.size, fun i hi => ?_⟩
  obtain ⟨u, h1, h2⟩ := hs i hi
  exact ⟨u, (hb.cell (p := ⟨g, o + i, none⟩) hg).trans h1, h2.below hb⟩

/-- Words of one's own. -/
def OwnW (w : World) (B : Nat) (v : Value) (ws : List Bs) : Prop := w.ownsRow B 9 1 v ws.length (strs ws)
theorem OwnW.nil (w : World) (B : Nat) : OwnW w B (.slice none 0 0) [] := ⟨rfl, Or.inl ⟨rfl, rfl⟩⟩
theorem OwnW.block {w : World} {B : Nat} {v : Value} {ws : List Bs} (h : OwnW w B v ws) (hne : ws ≠ []) : ∃ g, v.ownBlock = some g := by
  rcases h.2 with ⟨_, h0⟩ | ⟨g, cap, cur, rfl, _⟩
  · exact absurd (List.eq_nil_of_length_eq_zero h0) hne
  · exact ⟨g, rfl⟩
theorem OwnW.at {w : World} {B : Nat} {v : Value} {ws : List Bs} (h : OwnW w B v ws) : WordsAt w v ws := by
  have h0 := h
  rcases h.2 with ⟨rfl, hn⟩ | ⟨g, cap, cur, rfl, hB, hg, hc, _⟩
  · exact ⟨none, 0, by rw [hn], by omega, Or.inl (List.eq_nil_of_length_eq_zero hn)⟩
  · refine ⟨_, cap, rfl, hc, Or.inr ⟨g, 0, rfl, (Array.getElem?_eq_some_iff.1 hg).1, fun i hi => ?_⟩⟩
    have := World.ownsRow.cellAt h0 i (by omega)
    rw [Nat.zero_add, this]
    simp [strs, hi]

/-- Lines of one's own: no two of their rows are one. -/
def LL (w : World) (B : Nat) (vl : Value) (ps : List (Value × List Bs)) : Prop :=
  w.ownsRow B 53 1 vl ps.length (ps.map (·.1)) ∧ (∀ p ∈ ps, OwnW w B p.1 p.2 ∧ p.2 ≠ []) ∧ (ps.map (·.1.ownBlock)).Nodup ∧ (∀ p ∈ ps, vl.ownBlock ≠ p.1.ownBlock) ∧ (ps = [] → vl = .slice none 0 0)
theorem LL.nil (w : World) (B : Nat) : LL w B (.slice none 0 0) [] := ⟨⟨rfl, Or.inl ⟨rfl, rfl⟩⟩, (fun p hp => by cases hp), List.nodup_nil, (fun p hp => by cases hp), fun _ => rfl⟩
theorem LL.len {w : World} {B : Nat} {vl : Value} {ps : List (Value × List Bs)} (h : LL w B vl ps) : ∃ ad cap, vl = .slice ad ps.length cap := by
  rcases h.1.2 with ⟨rfl, hn⟩ | ⟨g, cap, cur, rfl, _⟩
  · exact ⟨none, 0, by rw [hn]⟩
  · exact ⟨_, cap, rfl⟩
theorem LL.kept {w w' : World} {B : Nat} {vl : Value} {ps : List (Value × List Bs)} {row : Option Nat} (h : LL w B vl ps) (hg : w.grownBy w' row) (h1 : vl.ownBlock = none ∨ vl.ownBlock ≠ row) (h2 : ∀ p ∈ ps, p.1.ownBlock ≠ row) : LL w' B vl ps :=
  ⟨h.1.kept hg h1, fun p hp => ⟨(h.2.1 p hp).1.kept hg (Or.inr (h2 p hp)), (h.2.1 p hp).2⟩, h.2.2.1, h.2.2.2⟩
theorem LL.at {w : World} {B : Nat} {vl : Value} {ps : List (Value × List Bs)} (h : LL w B vl ps) : LinesAt w vl (ps.map (·.2)) := by
  have h0 := h.1
  rcases h.1.2 with ⟨rfl, hn⟩ | ⟨g, cap, cur, rfl, hB, hg, hc, _⟩
  · have : ps = [] := List.eq_nil_of_length_eq_zero hn
    subst this
    exact ⟨none, 0, rfl, Nat.le_refl _, Or.inl rfl⟩
  · refine ⟨_, cap, by rw [List.length_map], by rw [List.length_map]; exact hc, Or.inr ⟨g, 0, rfl, (Array.getElem?_eq_some_iff.1 hg).1, fun i hi => ?_⟩⟩
    have hi' : i < ps.length := by simpa using hi
    have := World.ownsRow.cellAt h0 i (by omega)
    refine ⟨ps[i].1, by rw [Nat.zero_add, this]; simp [hi'], ?_⟩
    rw [List.getElem_map]
    exact (h.2.1 _ (List.getElem_mem hi')).1.at

/-- What the scanner has made: lines, and a line under way. -/
def St (w0 : World) (vl vw : Value) (ps : List (Value × List Bs)) (ws : List Bs) (w : World) : Prop :=
  LL w w0.heap.size vl ps ∧ OwnW w w0.heap.size vw ws ∧ (∀ p ∈ ps, vw.ownBlock ≠ p.1.ownBlock) ∧ (vw.ownBlock = none ∨ vw.ownBlock ≠ vl.ownBlock) ∧ Below w0.heap.size w0 w
theorem St.start (w : World) : St w (.slice none 0 0) (.slice none 0 0) [] [] w := ⟨LL.nil _ _, OwnW.nil _ _, (fun p hp => by cases hp), Or.inl rfl, Below.refl _ _⟩
theorem LL.below {w w' : World} {B : Nat} {vl : Value} {ps : List (Value × List Bs)} (h : LL w B vl ps) (hb : Below w.heap.size w w') : LL w' B vl ps := by
  have own : ∀ {e : TypeId} {v : Value} {n : Nat} {xs : List Value}, w.ownsRow B e 1 v n xs → w'.ownsRow B e 1 v n xs := by
    intro e v n xs ho
    refine ⟨ho.1, ?_⟩
    rcases ho.2 with hn | ⟨g, cap, cur, rfl, hB, hgg, r⟩
    · exact Or.inl hn
    · exact Or.inr ⟨g, cap, cur, rfl, hB, (hb.block g (Array.getElem?_eq_some_iff.1 hgg).1).trans hgg, r⟩
  exact ⟨own h.1, fun p hp => ⟨own (h.2.1 p hp).1, (h.2.1 p hp).2⟩, h.2.2.1, h.2.2.2⟩
theorem OwnW.below {w w' : World} {B : Nat} {v : Value} {ws : List Bs} (h : OwnW w B v ws) (hb : Below w.heap.size w w') : OwnW w' B v ws := by
  refine ⟨h.1, ?_⟩
  rcases h.2 with hn | ⟨g, cap, cur, rfl, hB, hgg, r⟩
  · exact Or.inl hn
  · exact Or.inr ⟨g, cap, cur, rfl, hB, (hb.block g (Array.getElem?_eq_some_iff.1 hgg).1).trans hgg, r⟩
theorem St.below {w0 : World} {vl vw : Value} {ps : List (Value × List Bs)} {ws : List Bs} {w w' : World} (h : St w0 vl vw ps ws w) (hb : Below w.heap.size w w') : St w0 vl vw ps ws w' :=
  ⟨h.1.below hb, h.2.1.below hb, h.2.2.1, h.2.2.2.1, below_then h.2.2.2.2 hb⟩

theorem St.word {w0 : World} {vl vw : Value} {ps : List (Value × List Bs)} {ws : List Bs} {w w' : World} {v' : Value} (x : Bs) (h : St w0 vl vw ps ws w) (ho : w'.ownsRow w0.heap.size 9 1 v' (ws.length + 1) (strs ws ++ [.string (ba x)])) (hg : w.grownBy w' vw.ownBlock) (hat : v'.ownBlock = vw.ownBlock ∨ v'.ownBlock = some w.heap.size) : St w0 vl v' ps (ws ++ [x]) w' := by
  obtain ⟨h1, h2, h3, h4, h5⟩ := h
  have hs := h5.size
  refine ⟨h1.kept hg ?_ fun p hp => (h3 p hp).symm, ?_, ?_, ?_, ?_⟩
  · rcases h4 with h4 | h4
    · rw [h4]
      cases hv : vl.ownBlock with
      | none => exact Or.inl rfl
      | some _ => exact Or.inr (by simp)
    · exact Or.inr h4.symm
  · unfold OwnW; rw [strs_snoc, List.length_append]; exact ho
  · intro p hp
    rcases hat with e | e
    · rw [e]; exact h3 p hp
    · rw [e]
      intro e2
      have := (World.ownsRow.lt (h1.2.1 p hp).1 _ e2.symm).2
      omega
  · rcases hat with e | e
    · rw [e]; exact h4
    · refine Or.inr ?_
      rw [e]
      intro e2
      have := (World.ownsRow.lt h1.1 _ e2.symm).2
      omega
  · exact h5.grown hg hs fun k hk => (World.ownsRow.lt h2 k hk).1

theorem St.line {w0 : World} {vl vw : Value} {ps : List (Value × List Bs)} {ws : List Bs} {w w' : World} {v' : Value} (h : St w0 vl vw ps ws w) (hne : ws ≠ []) (ho : w'.ownsRow w0.heap.size 53 1 v' (ps.length + 1) (ps.map (·.1) ++ [vw])) (hg : w.grownBy w' vl.ownBlock) (hat : v'.ownBlock = vl.ownBlock ∨ v'.ownBlock = some w.heap.size) : St w0 v' (.slice none 0 0) (ps ++ [(vw, ws)]) [] w' := by
  obtain ⟨h1, h2, h3, h4, h5⟩ := h
  have hs := h5.size
  obtain ⟨g, hgb⟩ := h2.block hne
  have hvw : vw.ownBlock ≠ vl.ownBlock := by
    rcases h4 with h4 | h4
    · rw [hgb] at h4; cases h4
    · exact h4
  have hlt := (World.ownsRow.lt h2 g hgb).2
  refine ⟨⟨?_, ?_, ?_, ?_, fun e => absurd e (by simp)⟩, OwnW.nil _ _, ?_, Or.inl rfl, ?_⟩
  · rw [List.length_append, List.map_append]; exact ho
  · intro p hp
    rcases List.mem_append.1 hp with hp | hp
    · exact ⟨(h1.2.1 p hp).1.kept hg (Or.inr (h1.2.2.2.1 p hp).symm), (h1.2.1 p hp).2⟩
    · obtain rfl : p = (vw, ws) := by simpa using hp
      exact ⟨h2.kept hg (Or.inr hvw), hne⟩
  · rw [List.map_append, List.nodup_append]
    refine ⟨h1.2.2.1, by simp, ?_⟩
    intro x hx y hy
    obtain ⟨p, hp, rfl⟩ := List.mem_map.1 hx
    simp only [List.map_cons, List.map_nil, List.mem_singleton] at hy
    rw [hy]
    exact (h3 p hp).symm
  · intro p hp
    have hold : ∀ k, p.1.ownBlock = some k → k < w.heap.size := by
      intro k hk
      rcases List.mem_append.1 hp with hp | hp
      · exact (World.ownsRow.lt (h1.2.1 p hp).1 k hk).2
      · obtain rfl : p = (vw, ws) := by simpa using hp
        exact (World.ownsRow.lt h2 k hk).2
    rcases hat with e | e
    · rw [e]
      rcases List.mem_append.1 hp with hp | hp
      · exact h1.2.2.2.1 p hp
      · obtain rfl : p = (vw, ws) := by simpa using hp
        exact hvw.symm
    · rw [e]
      intro e2
      have := hold _ e2.symm
      omega
  · intro p hp
    rcases List.mem_append.1 hp with hp | hp
    · obtain ⟨k, hk⟩ := (h1.2.1 p hp).1.block (h1.2.1 p hp).2
      rw [hk]; simp [Value.ownBlock]
    · obtain rfl : p = (vw, ws) := by simpa using hp
      show _ ≠ vw.ownBlock
      rw [hgb]; simp [Value.ownBlock]
  · exact h5.grown hg hs fun k hk => (World.ownsRow.lt h1.1 k hk).1
/-- What stays behind a call that writes new blocks alone. -/
def KeepP (K : World → Prop) : Prop := ∀ w w', K w → Below w.heap.size w w' → K w'
theorem KeepP.and {K M : World → Prop} (hk : KeepP K) (hm : KeepP M) : KeepP fun w => K w ∧ M w := fun _ _ h hb => ⟨hk _ _ h.1 hb, hm _ _ h.2 hb⟩
theorem KeepP.drew {K : World → Prop} (hk : KeepP K) {w : World} (h : K w) : K w.drew := hk _ _ h (Below.refl _ _).drew
theorem keepBelow (w : World) : KeepP fun w1 => Below w.heap.size w w1 := fun _ _ h hb => below_then h hb
def CellK (w : World) (g i : Nat) (v : Value) : Prop := w.cell? ⟨g, i, none⟩ = some v ∧ g < w.heap.size
theorem keepCell (g i : Nat) (v : Value) : KeepP fun w1 => CellK w1 g i v := fun _ _ h hb => ⟨(hb.cell (p := ⟨g, i, none⟩) h.2).trans h.1, Nat.lt_of_lt_of_le h.2 hb.size⟩
theorem keepWords (v : Value) (ws : List Bs) : KeepP fun w1 => WordsAt w1 v ws := fun _ _ h hb => h.below hb
theorem keepLines (v : Value) (L : List (List Bs)) : KeepP fun w1 => LinesAt w1 v L := fun _ _ h hb => h.below hb
theorem liftK {K : World → Prop} (hk : KeepP K) {P : Program} {f : Nat} {args : Array Value} {R : Ending} (h : ∀ w1, Calls P f args w1 fun e w' => e = R ∧ Below w1.heap.size w1 w') (w1 : World) (ok : K w1) :
    Calls P f args w1 fun e w' => e = R ∧ K w' := by
  refine (h w1).mono ?_
  rintro e w' ⟨rfl, hb⟩
  exact ⟨rfl, hk _ _ ok hb⟩
theorem liftK' {K : World → Prop} (hk : KeepP K) {P : Program} {f : Nat} {args : Array Value} {R : Ending} (h : ∀ w1, K w1 → Calls P f args w1 fun e w' => e = R ∧ Below w1.heap.size w1 w') (w1 : World) (ok : K w1) :
    Calls P f args w1 fun e w' => e = R ∧ K w' := by
  refine (h w1 ok).mono ?_
  rintro e w' ⟨rfl, hb⟩
  exact ⟨rfl, hk _ _ ok hb⟩
/-- A region that draws its order, whose operations read, and whose calls keep K: one walk in the order of the text serves. -/
theorem wp_region_keep {K : World → Prop} (hk : KeepP K) {P : Program} {id : Nat} {Q : Exit → Act → World → Prop} {a : Act} {w : World} {l : List Oper} (hm : P.follows .mixedOrders = true) (hB : Region.lexB .any l.toArray = true) (hC : K w)
    (h : ∀ C : World → Prop, (∀ w, K w → C w) → (∀ w, C w → K w) → wpQuiet P l.toArray C (fun a' => ∀ w', C w' → Q .normal a' w') l a) : (Code.region id l.toArray true).wp P Q a w :=
  wp_region_quiet (C := K) hm hB (hk.drew hC) (by simpa using h K (fun _ h => h) (fun _ h => h))
theorem callC {C K : World → Prop} (hin : ∀ w, K w → C w) (hout : ∀ w, C w → K w) (hk : KeepP K) {P : Program} {f : Nat} {args : Array Value} {v : Value} (h : ∀ w1, Calls P f args w1 fun e w' => e = .returned v ∧ Below w1.heap.size w1 w') (w1 : World) (hC : C w1) :
    Calls P f args w1 fun e w' => e = .returned v ∧ C w' := by
  refine (h w1).mono ?_
  rintro e w' ⟨rfl, hb⟩
  exact ⟨rfl, hin _ (hk _ _ (hout _ hC) hb)⟩
theorem callC' {C K : World → Prop} (hin : ∀ w, K w → C w) (hout : ∀ w, C w → K w) (hk : KeepP K) {P : Program} {f : Nat} {args : Array Value} {v : Value} (h : ∀ w1, K w1 → Calls P f args w1 fun e w' => e = .returned v ∧ Below w1.heap.size w1 w') (w1 : World) (hC : C w1) :
    Calls P f args w1 fun e w' => e = .returned v ∧ C w' := by
  refine (h w1 (hout _ hC)).mono ?_
  rintro e w' ⟨rfl, hb⟩
  exact ⟨rfl, hin _ (hk _ _ (hout _ hC) hb)⟩
end Go.Proofs.YtogpkhpephhbiaaGreatDoor.Sc
namespace Go.Proofs.YtogpkhpephhbiaaGreatDoor.Sc
open Go.RowKit
set_option maxRecDepth 100000

end Go.Proofs.YtogpkhpephhbiaaGreatDoor.Sc
namespace Go.Proofs.YtogpkhpephhbiaaGreatDoor.Sc
open Go.RowKit
set_option maxRecDepth 100000

def ltB (b : UInt8) : Bool := decide (97 ≤ b.toNat) && decide (b.toNat ≤ 122)
def dgB (b : UInt8) : Bool := decide (48 ≤ b.toNat) && decide (b.toNat ≤ 57)
def nmB (b : UInt8) : Bool := ltB b || dgB b || decide (b.toNat = 45)
/-- A name. -/
def nameR : Bs → Bool
  | [] => false
  | b :: r => ltB b && r.all nmB && decide (r.length < 16)

theorem letter_any (b : UInt8) (w : World) : Calls Tryz.prog 34 #[.int .u8 (b.toNat : Int)] w fun e w' => e = .returned (.bool (ltB b)) ∧ w' = w := by
  go_enter Tryz.func34, Tryz.ntmps34
  go_wp2
  all_goals
    go_ret
    refine ⟨ret_bool ?_, rfl⟩
    rw [Bool.eq_iff_iff]
    simp [ltB]
    omega
theorem digit_any (b : UInt8) (w : World) : Calls Tryz.prog 35 #[.int .u8 (b.toNat : Int)] w fun e w' => e = .returned (.bool (dgB b)) ∧ w' = w := by
  go_enter Tryz.func35, Tryz.ntmps35
  go_wp2
  all_goals
    go_ret
    refine ⟨ret_bool ?_, rfl⟩
    rw [Bool.eq_iff_iff]
    simp [dgB]
    omega
end Go.Proofs.YtogpkhpephhbiaaGreatDoor.Sc
namespace Go.Proofs.YtogpkhpephhbiaaGreatDoor.Sc
open Go.RowKit
set_option maxRecDepth 100000

def headB : Bs → Bool
  | [] => false
  | b :: _ => ltB b
/-- A name. -/
def nameA (t : Bs) : Bool := headB t && t.all nmB && decide (t.length ≤ 16)
theorem empty_is {p : ByteArray} : p.toList.isEmpty = p.data.toList.isEmpty := by rw [ByteArray.toList_eq]
theorem nameA_empty {t : Bs} (h : t.isEmpty = true) : nameA t = false := by cases t <;> simp_all [nameA, headB]
theorem head_at {s : ByteArray} (h : 0 < s.size) : headB s.data.toList = ltB s[0] := by
  have : s.data.toList = s[0] :: s.data.toList.drop 1 := by
    have := List.drop_eq_getElem_cons (l := s.data.toList) (i := 0) (by rw [list_size]; exact h)
    rw [List.drop_zero] at this
    exact this
  rw [this]
  rfl
theorem size_pos {s : ByteArray} (h : s.toList.isEmpty = false) : 0 < s.size := by
  rw [empty_is] at h
  rw [← list_size]
  cases hs : s.data.toList with
  | nil => rw [hs] at h; cases h
  | cons _ _ => simp
theorem all_bad {s : ByteArray} {k : Nat} (hk : k < s.size) {f : UInt8 → Bool} (h : f s[k] = false) : s.data.toList.all f = false := by
  rw [Bool.eq_false_iff]
  intro ha
  rw [List.all_eq_true] at ha
  have := ha s[k] (List.getElem_mem (l := s.data.toList) (n := k) (by rw [list_size]; exact hk))
  rw [h] at this; cases this
theorem all_more {s : ByteArray} {k : Nat} (hk : k < s.size) {f : UInt8 → Bool} (h : (s.data.toList.take k).all f = true) (hb : f s[k] = true) : (s.data.toList.take (k + 1)).all f = true := by
  rw [List.take_succ_eq_append_getElem (by rw [list_size]; exact hk), List.all_append, h]
  simp only [List.all_cons, List.all_nil, Bool.and_true, Bool.true_and]
  exact hb
theorem all_end {s : ByteArray} {f : UInt8 → Bool} (h : (s.data.toList.take s.size).all f = true) : s.data.toList.all f = true := by
  rw [List.take_of_length_le (by rw [list_size]; exact Nat.le_refl _)] at h
  exact h

set_option maxHeartbeats 3200000 in
theorem Name_any (s : ByteArray) (w : World) : Calls Tryz.prog 20 #[.string s] w fun e w' => e = .returned (.bool (nameA s.data.toList)) ∧ w' = w := by
  cases he : s.toList.isEmpty
  · have h0 := size_pos he
    by_cases h16 : s.size ≤ 16
    · have HH := hide3 (head_at h0)
      have HL := hide3 (letter_any s[0])
      cases hl : ltB s[0]
      · have HR : Hid (nameA s.data.toList = false) := by unfold Hid nameA; rw [HH.out, hl]; rfl
        rw [hl] at HL
        clear hl
        go_enter Tryz.func20, Tryz.ntmps20
        go_wp2_with (go_at_call 34; refine (HL.out _).mono ?_; rintro e w1 ⟨rfl, hw1⟩; subst hw1)
        go_ret
        exact ⟨ret_bool HR.out.symm, rfl⟩
      · rw [hl] at HL HH
        clear hl
        have HLT : Hid (∀ b : UInt8, ∀ w1, Calls Tryz.prog 34 #[.int .u8 (b.toNat : Int)] w1 fun e w' => e = .returned (.bool (ltB b)) ∧ w' = w1) := letter_any
        have HDG : Hid (∀ b : UInt8, ∀ w1, Calls Tryz.prog 35 #[.int .u8 (b.toNat : Int)] w1 fun e w' => e = .returned (.bool (dgB b)) ∧ w' = w1) := digit_any
        go_enter Tryz.func20, Tryz.ntmps20
        go_wp2_with (go_at_call 34; refine (HL.out _).mono ?_; rintro e w1 ⟨rfl, hw1⟩; subst hw1; clear HL)
        go_loop [19] (fun i => ∃ k : Nat, k ≤ s.size ∧ i = .int .i64 k ∧ (s.data.toList.take k).all nmB = true) (fun i => s.size - (intOf i).toNat)
        case atStart => exact ⟨0, Nat.zero_le _, rfl, rfl⟩
        case round =>
          obtain ⟨k, hk, rfl, hal⟩ := hrel
          have HA := hide3 hal
          clear hal
          by_cases hlt : k < s.size
          · have HLk := hide3 (HLT.out s[k])
            have HDk := hide3 (HDG.out s[k])
            cases h1 : ltB s[k]
            · cases h2 : dgB s[k]
              · by_cases h3 : s[k].toNat = 45
                · have hn : nmB s[k] = true := by unfold nmB; rw [h1, h2, decide_eq_true h3]; rfl
                  have HA2 := hide3 (all_more hlt HA.out hn)
                  have e3 : ((s[k].toNat : Int) == 45) = true := by rw [beq_iff_eq]; omega
                  rw [h1] at HLk
                  rw [h2] at HDk
                  clear h1 h2 h3 hn
                  go_wp2_with (first | (go_at_call 34; refine (HLk.out _).mono ?_; rintro e w1 ⟨rfl, hw1⟩; subst hw1) | (go_at_call 35; refine (HDk.out _).mono ?_; rintro e w1 ⟨rfl, hw1⟩; subst hw1))
                  exact ⟨⟨k + 1, by omega, by go_num, HA2.out⟩, by simp [intOf]; omega⟩
                · have hn : nmB s[k] = false := by unfold nmB; rw [h1, h2, decide_eq_false h3]; rfl
                  have HR : Hid (nameA s.data.toList = false) := by unfold Hid nameA; rw [all_bad hlt hn]; simp
                  have e3 : ((s[k].toNat : Int) == 45) = false := by rw [beq_eq_false_iff_ne]; omega
                  rw [h1] at HLk
                  rw [h2] at HDk
                  clear h1 h2 h3 hn
                  go_wp2_with (first | (go_at_call 34; refine (HLk.out _).mono ?_; rintro e w1 ⟨rfl, hw1⟩; subst hw1) | (go_at_call 35; refine (HDk.out _).mono ?_; rintro e w1 ⟨rfl, hw1⟩; subst hw1))
                  go_ret
                  exact ⟨ret_bool HR.out.symm, rfl⟩
              · have hn : nmB s[k] = true := by unfold nmB; rw [h1, h2]; rfl
                have HA2 := hide3 (all_more hlt HA.out hn)
                rw [h1] at HLk
                rw [h2] at HDk
                clear h1 h2 hn
                go_wp2_with (first | (go_at_call 34; refine (HLk.out _).mono ?_; rintro e w1 ⟨rfl, hw1⟩; subst hw1) | (go_at_call 35; refine (HDk.out _).mono ?_; rintro e w1 ⟨rfl, hw1⟩; subst hw1))
                exact ⟨⟨k + 1, by omega, by go_num, HA2.out⟩, by simp [intOf]; omega⟩
            · have hn : nmB s[k] = true := by unfold nmB; rw [h1]; rfl
              have HA2 := hide3 (all_more hlt HA.out hn)
              rw [h1] at HLk
              clear h1 hn
              go_wp2_with (go_at_call 34; refine (HLk.out _).mono ?_; rintro e w1 ⟨rfl, hw1⟩; subst hw1)
              exact ⟨⟨k + 1, by omega, by go_num, HA2.out⟩, by simp [intOf]; omega⟩
          · have hke : k = s.size := by omega
            subst hke
            have HR : Hid (nameA s.data.toList = true) := by unfold Hid nameA; rw [HH.out, all_end HA.out, list_size, decide_eq_true h16]; rfl
            go_wp2
            go_ret
            exact ⟨ret_bool HR.out.symm, rfl⟩
    · have HR : Hid (nameA s.data.toList = false) := by unfold Hid nameA; rw [list_size, decide_eq_false h16]; simp
      go_enter Tryz.func20, Tryz.ntmps20
      go_wp2
      go_ret
      exact ⟨ret_bool HR.out.symm, rfl⟩
  · have HR : Hid (nameA s.data.toList = false) := nameA_empty (by rw [← empty_is]; exact he)
    go_enter Tryz.func20, Tryz.ntmps20
    go_wp2
    go_ret
    exact ⟨ret_bool HR.out.symm, rfl⟩
end Go.Proofs.YtogpkhpephhbiaaGreatDoor.Sc
namespace Go.Proofs.YtogpkhpephhbiaaGreatDoor.Sc
open Go.RowKit
set_option maxRecDepth 100000

theorem ltB_iff (b : UInt8) : ltB b = true ↔ 97 ≤ b.toNat ∧ b.toNat ≤ 122 := by simp [ltB]
theorem dgB_iff (b : UInt8) : dgB b = true ↔ 48 ≤ b.toNat ∧ b.toNat ≤ 57 := by simp [dgB]
theorem nmB_iff (b : UInt8) : nmB b = true ↔ (97 ≤ b.toNat ∧ b.toNat ≤ 122) ∨ (48 ≤ b.toNat ∧ b.toNat ≤ 57) ∨ b.toNat = 45 := by
  unfold nmB
  rw [Bool.or_eq_true, Bool.or_eq_true, ltB_iff, dgB_iff, decide_eq_true_eq, or_assoc]

set_option maxHeartbeats 6400000 in
theorem rName_any (s : ByteArray) (hs : s.size ≤ 9223372036854775807) (w : World) : Calls Tryz.prog 26 #[.string s] w fun e w' => e = .returned (.bool (nameA s.data.toList)) ∧ w' = w := by
  go_enter Tryz.func26, Tryz.ntmps26
  go_wp2
  go_loop [3] (fun i => ∃ k : Nat, k ≤ s.size ∧ i = .int .i64 k ∧ (s.data.toList.take k).all nmB = true ∧ (k = 0 ∨ headB s.data.toList = true)) (fun i => s.size - (intOf i).toNat)
  case atStart => exact ⟨0, Nat.zero_le _, rfl, rfl, Or.inl rfl⟩
  case round =>
    obtain ⟨k, hk, rfl, hal, hhd⟩ := hrel
    have HA := hide3 hal
    have HH := hide3 hhd
    clear hal hhd
    by_cases hlt : k < s.size
    · by_cases h1 : 97 ≤ s[k].toNat ∧ s[k].toNat ≤ 122
      · have HA2 := hide3 (all_more hlt HA.out ((nmB_iff _).2 (Or.inl h1)))
        have HH2 : Hid (k + 1 = 0 ∨ headB s.data.toList = true) := by
          rcases HH.out with rfl | h
          · exact Or.inr (by rw [head_at hlt]; exact (ltB_iff _).2 h1)
          · exact Or.inr h
        obtain ⟨a1, a2⟩ := h1
        have b2 : decide ((s[k].toNat : Int) ≤ 122) = true := decide_eq_true (by omega)
        have b4 : decide ((s[k].toNat : Int) ≤ 57) = false := decide_eq_false (by omega)
        go_wp2
        exact ⟨⟨k + 1, by omega, by go_num, HA2.out, HH2.out⟩, by simp [intOf]; omega⟩
      · by_cases hz : k = 0
        · have HR : Hid (nameA s.data.toList = false) := by
            unfold Hid nameA
            subst hz
            rw [head_at hlt]
            have : ltB s[0] = false := by rw [Bool.eq_false_iff]; intro h; exact h1 ((ltB_iff _).1 h)
            rw [this]; rfl
          have ez : ((k : Int) == 0) = true := by rw [hz]; rfl
          by_cases h2 : 97 ≤ s[k].toNat
          · have h3 : 122 < s[k].toNat := by omega
            have b2 : decide ((s[k].toNat : Int) ≤ 122) = false := decide_eq_false (by omega)
            have b4 : decide ((s[k].toNat : Int) ≤ 57) = false := decide_eq_false (by omega)
            clear h1 hz
            go_wp2
            go_ret
            exact ⟨ret_bool HR.out.symm, rfl⟩
          · clear h1 hz
            by_cases d1 : 48 ≤ s[k].toNat
            · by_cases d2 : s[k].toNat ≤ 57
              · have b4 : decide ((s[k].toNat : Int) ≤ 57) = true := decide_eq_true (by omega)
                go_wp2
                go_ret
                exact ⟨ret_bool HR.out.symm, rfl⟩
              · have b4 : decide ((s[k].toNat : Int) ≤ 57) = false := decide_eq_false (by omega)
                go_wp2
                go_ret
                exact ⟨ret_bool HR.out.symm, rfl⟩
            · go_wp2
              all_goals
                go_ret
                exact ⟨ret_bool HR.out.symm, rfl⟩
        · have ez : ((k : Int) == 0) = false := by rw [beq_eq_false_iff_ne]; omega
          have HH2 : Hid (k + 1 = 0 ∨ headB s.data.toList = true) := Or.inr (HH.out.resolve_left hz)
          by_cases h2 : (48 ≤ s[k].toNat ∧ s[k].toNat ≤ 57) ∨ s[k].toNat = 45
          · have HA2 := hide3 (all_more hlt HA.out ((nmB_iff _).2 (Or.inr h2)))
            by_cases hm : s[k].toNat = 45
            · have em : ((s[k].toNat : Int) == 45) = true := by rw [beq_iff_eq]; omega
              have c1 : ¬ 97 ≤ s[k].toNat := by omega
              have c2 : ¬ 48 ≤ s[k].toNat := by omega
              clear h1 h2 hz hm
              go_wp2
              exact ⟨⟨k + 1, by omega, by go_num, HA2.out, HH2.out⟩, by simp [intOf]; omega⟩
            · obtain ⟨d1, d2⟩ := h2.resolve_right hm
              have c1 : ¬ 97 ≤ s[k].toNat := by omega
              have b4 : decide ((s[k].toNat : Int) ≤ 57) = true := decide_eq_true (by omega)
              clear h1 h2 hz hm
              go_wp2
              exact ⟨⟨k + 1, by omega, by go_num, HA2.out, HH2.out⟩, by simp [intOf]; omega⟩
          · have hn : nmB s[k] = false := by rw [Bool.eq_false_iff]; intro h; rcases (nmB_iff _).1 h with h | h; exact h1 h; exact h2 h
            have HR : Hid (nameA s.data.toList = false) := by unfold Hid nameA; rw [all_bad hlt hn]; simp
            have em : ((s[k].toNat : Int) == 45) = false := by rw [beq_eq_false_iff_ne]; omega
            by_cases c1 : 97 ≤ s[k].toNat
            · have c2 : 122 < s[k].toNat := by omega
              have b2 : decide ((s[k].toNat : Int) ≤ 122) = false := decide_eq_false (by omega)
              have b4 : decide ((s[k].toNat : Int) ≤ 57) = false := decide_eq_false (by omega)
              clear h1 h2 hz hn
              go_wp2
              go_ret
              exact ⟨ret_bool HR.out.symm, rfl⟩
            · by_cases d1 : 48 ≤ s[k].toNat
              · have d2 : 57 < s[k].toNat := by omega
                have b4 : decide ((s[k].toNat : Int) ≤ 57) = false := decide_eq_false (by omega)
                clear h1 h2 hz hn
                go_wp2
                go_ret
                exact ⟨ret_bool HR.out.symm, rfl⟩
              · clear h1 h2 hz hn
                go_wp2
                go_ret
                exact ⟨ret_bool HR.out.symm, rfl⟩
    · have hke : k = s.size := by omega
      subst hke
      cases he : s.toList.isEmpty
      · have h0 := size_pos he
        have hh := HH.out.resolve_left (by omega)
        by_cases h16 : s.size ≤ 16
        · have HR : Hid (nameA s.data.toList = true) := by unfold Hid nameA; rw [hh, all_end HA.out, list_size, decide_eq_true h16]; rfl
          clear hh
          go_wp2
          go_ret
          exact ⟨ret_bool ((decide_eq_true (by omega)).trans HR.out.symm), rfl⟩
        · have HR : Hid (nameA s.data.toList = false) := by unfold Hid nameA; rw [list_size, decide_eq_false h16]; simp
          clear hh
          go_wp2
          go_ret
          exact ⟨ret_bool ((decide_eq_false (by omega)).trans HR.out.symm), rfl⟩
      · have HR : Hid (nameA s.data.toList = false) := nameA_empty (by rw [← empty_is]; exact he)
        go_wp2
        go_ret
        exact ⟨ret_bool HR.out.symm, rfl⟩
end Go.Proofs.YtogpkhpephhbiaaGreatDoor.Sc
namespace Go.Proofs.YtogpkhpephhbiaaGreatDoor
open Go.RowKit
set_option maxRecDepth 100000

/-- The place of the first directory with a path; -1: none. -/
noncomputable def findV (L : List Dr) (p : List ByteArray) : Int := match L.findIdx? (fun d => eqB d.pa p) with
  | some i => (i : Int)
  | none => -1
theorem findV_at {L : List Dr} {p : List ByteArray} {k : Nat} (hk : k < L.length) (h : L[k].pa = p) (hall : ∀ j (_ : j < k) (h1 : j < L.length), L[j].pa ≠ p) : findV L p = k := by
  have e : L.findIdx? (fun d => eqB d.pa p) = some k := by
    rw [List.findIdx?_eq_some_iff_getElem]
    refine ⟨hk, eqB_yes h, fun j hj => ?_⟩
    rw [eqB_no (hall j hj (by omega))]
    simp
  unfold findV
  rw [e]
theorem findV_no {L : List Dr} {p : List ByteArray} (hall : ∀ j (h1 : j < L.length), L[j].pa ≠ p) : findV L p = -1 := by
  have e : L.findIdx? (fun d => eqB d.pa p) = none := by
    rw [List.findIdx?_eq_none_iff]
    intro d hd
    obtain ⟨i, hi, rfl⟩ := List.getElem_of_mem hd
    exact eqB_no (hall i hi)
  unfold findV
  rw [e]
theorem findV_or (L : List Dr) (p : List ByteArray) : (findV L p = -1 ∧ ∀ j (h1 : j < L.length), L[j].pa ≠ p) ∨ ∃ k, ∃ hk : k < L.length, findV L p = (k : Int) ∧ L[k].pa = p ∧ ∀ j (_ : j < k) (h1 : j < L.length), L[j].pa ≠ p := by
  cases e : L.findIdx? (fun d => eqB d.pa p) with
  | none =>
    rw [List.findIdx?_eq_none_iff] at e
    have hall : ∀ j (h1 : j < L.length), L[j].pa ≠ p := fun j h1 h => by
      have := e _ (List.getElem_mem h1)
      rw [eqB_yes h] at this
      cases this
    exact Or.inl ⟨findV_no hall, hall⟩
  | some k =>
    rw [List.findIdx?_eq_some_iff_getElem] at e
    obtain ⟨hk, h, hall⟩ := e
    have h1 : L[k].pa = p := eqB_iff.1 h
    have h2 : ∀ j (_ : j < k) (h1 : j < L.length), L[j].pa ≠ p := fun j hj h1 h => hall j hj (eqB_yes h)
    exact Or.inr ⟨k, hk, findV_at hk h1 h2, h1, h2⟩
theorem findV_lt (L : List Dr) (p : List ByteArray) : findV L p < L.length := by
  rcases findV_or L p with ⟨h, _⟩ | ⟨k, hk, h, _⟩ <;> rw [h] <;> omega
theorem findV_ge (L : List Dr) (p : List ByteArray) : -1 ≤ findV L p := by
  rcases findV_or L p with ⟨h, _⟩ | ⟨k, hk, h, _⟩ <;> rw [h] <;> omega

/-- What a lookup finds from the first k names of a path upwards. -/
noncomputable def lookN (L : List Dr) (p : List ByteArray) (s : ByteArray) : Nat → Int
  | 0 => findV L (p.take 0 ++ [s])
  | k + 1 => if findV L (p.take (k + 1) ++ [s]) = -1 then lookN L p s k else findV L (p.take (k + 1) ++ [s])
/-- What a lookup finds. -/
noncomputable def lookV (L : List Dr) (f : Int) (s : ByteArray) : Int := if h : 0 ≤ f ∧ f.toNat < L.length ∧ Sc.nameA s.data.toList = true then lookN L (L[f.toNat]'h.2.1).pa s (L[f.toNat]'h.2.1).pa.length else -1
theorem look_hit {L : List Dr} {p : List ByteArray} {s : ByteArray} {k : Nat} (h : findV L (p.take k ++ [s]) ≠ -1) : lookN L p s k = findV L (p.take k ++ [s]) := by
  cases k with
  | zero => rfl
  | succ k => unfold lookN; rw [if_neg h]
theorem look_miss {L : List Dr} {p : List ByteArray} {s : ByteArray} {k : Nat} (h : findV L (p.take (k + 1) ++ [s]) = -1) : lookN L p s (k + 1) = lookN L p s k := by
  rw [lookN, if_pos h]
theorem look_end {L : List Dr} {p : List ByteArray} {s : ByteArray} : lookN L p s 0 = findV L (p.take 0 ++ [s]) := rfl
theorem lookN_lt (L : List Dr) (p : List ByteArray) (s : ByteArray) : ∀ k, lookN L p s k < L.length ∧ -1 ≤ lookN L p s k
  | 0 => ⟨findV_lt _ _, findV_ge _ _⟩
  | k + 1 => by
    unfold lookN
    split
    · exact lookN_lt L p s k
    · exact ⟨findV_lt _ _, findV_ge _ _⟩
theorem lookV_lt (L : List Dr) (f : Int) (s : ByteArray) : lookV L f s < L.length ∧ -1 ≤ lookV L f s := by
  unfold lookV
  split
  · exact lookN_lt _ _ _ _
  · omega

/-- A tree's variable. -/
def BxT (w : World) (N : Nat) (v : Value) : Prop := w.cell? ⟨N, 0, none⟩ = some v ∧ N < w.heap.size
theorem keepBxT (N : Nat) (v : Value) : KeepP fun w1 => BxT w1 N v := fun _ _ h hb => ⟨(hb.cell (p := ⟨N, 0, none⟩) h.2).trans h.1, Nat.lt_of_lt_of_le h.2 hb.size⟩
theorem BxT.new (w : World) (v : Value) : BxT (w.alloc (.cells #[v] 67)) w.heap.size v := ⟨by simp, by simp⟩

set_option maxHeartbeats 1600000 in
theorem tFind_any {L : List Dr} {v : Value} {p : List ByteArray} {vp : Value} {w : World} (h : DirsAt w v L) (hz : L.length ≤ 9223372036854775807) (hf : FitD L) (hp : PathAt w vp p) :
    Calls Tryz.prog 43 #[.agg #[v], vp] w fun e w' => e = .returned (.int .i64 (findV L p)) ∧ Below w.heap.size w w' := by
  have HE : Hid (∀ w1, Below w.heap.size w w1 → ∀ u A, PathAt w1 u A → A.length ≤ 9223372036854775807 → Calls Tryz.prog 55 #[u, vp] w1 fun e w' => e = .returned (.bool (eqB A p)) ∧ Below w1.heap.size w1 w') := fun w1 hb u A hu hl => EqualS_any hu (hp.below hb) hl
  obtain ⟨ad, cap, rfl, hc, hsl⟩ := h.sl
  have HS : Hid (∀ w1, Below w.heap.size w w1 → ∀ i (_ : i < L.length), ∃ g o, ad = some ⟨g, o, none⟩ ∧ ∃ u v1 v2 v3, DrIn w1 g (o + i * 9) L[i] u v1 v2 v3) := fun w1 hb i hi => by
    obtain ⟨g, o, e, u, v1, v2, v3, hd⟩ := hsl i hi
    exact ⟨g, o, e, u, v1, v2, v3, hd.below hb⟩
  have HF := hide3 hf
  obtain ⟨pd, pc, rfl⟩ := hp.sl
  clear h hp hsl hf
  go_enter Tryz.func43, Tryz.ntmps43
  go_wp2_with fail
  go_loopw [9] (fun i wr => ∃ k : Nat, k ≤ L.length ∧ i = .int .i64 k ∧ (Below w.heap.size w wr ∧ BxT wr w.heap.size (.slice ad L.length cap)) ∧ ∀ j (_ : j < k) (h1 : j < L.length), L[j].pa ≠ p) (fun i _ => L.length - (intOf i).toNat)
  case atStart => exact ⟨0, Nat.zero_le _, rfl, ⟨boxB _ _, BxT.new _ _⟩, fun j h => by omega⟩
  case round =>
    obtain ⟨k, hk, rfl, ⟨hb, bx0, bx1⟩, hall⟩ := hrel
    have HALL := hide3 hall
    have HB := hide3 hb
    clear hall
    by_cases hlt : k < L.length
    · obtain ⟨g, o, rfl, u, v1, v2, v3, ⟨c0, c1, c2, c3, c4, c5, c6, c7, c8⟩, ⟨hpa, hpk⟩, hg⟩ := HS.out wr hb k hlt
      have HC := hide3 (HE.out wr hb u _ hpa (HF.out _ (List.getElem_mem hlt)))
      have HY : Hid (L[k].pa = p → findV L p = k) := fun h => findV_at hlt h HALL.out
      have HN : Hid (L[k].pa ≠ p → ∀ j (_ : j < k + 1) (h1 : j < L.length), L[j].pa ≠ p) := fun h j hj h1 => by
        rcases Nat.lt_or_ge j k with hjk | hjk
        · exact HALL.out j hjk h1
        · obtain rfl : j = k := by omega
          exact h
      obtain ⟨ua, uc, rfl⟩ := hpa.sl
      clear c1 c2 c3 c4 c5 c6 c7 c8 hpk hpa hb
      have HBX : Hid (BxT wr w.heap.size (.slice (some ⟨g, o, none⟩) L.length cap)) := ⟨bx0, bx1⟩
      generalize L[k].pa.length = n at *
      by_cases hq : L[k].pa = p
      · have HR := hide3 (HY.out hq)
        rw [eqB_yes hq] at HC
        clear HY HN HALL hq
        go_wp2_with (go_at_call 55; refine HC.out.mono ?_; rintro x w1 ⟨rfl, ok⟩)
        go_ret
        exact ⟨Sc.ret_int HR.out.symm, below_then HB.out ok⟩
      · have HR := hide3 (HN.out hq)
        rw [eqB_no hq] at HC
        clear HY HN HALL hq
        go_wp2_with (go_at_call 55; refine HC.out.mono ?_; rintro x w1 ⟨rfl, ok⟩)
        exact ⟨⟨k + 1, by omega, by go_num, ⟨below_then HB.out ok, keepBxT _ _ _ _ HBX.out ok⟩, HR.out⟩, by simp [intOf]; omega⟩
    · have hke : k = L.length := by omega
      subst hke
      have HR : Hid (findV L p = -1) := findV_no fun j h1 => HALL.out j h1 h1
      clear hb
      go_wp2
      go_ret
      exact ⟨Sc.ret_int HR.out.symm, HB.out⟩
end Go.Proofs.YtogpkhpephhbiaaGreatDoor
