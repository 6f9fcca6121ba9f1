/- Rd0, ScPl1, ScBa1, Ct0, Srt, laid in one text. -/
import Derived.Test.YtjpmlagofcgheaaGreatDoorProg
import Derived.Test.YtjpmlagofcgheaaGreatDoorRows
import Derived.WalkKit
import Derived.WalkSpells
import Derived.WalkLawsBesides
import Derived.Deep.QuietTactic
import Derived.BigQuiet
import Derived.Maps.AppendAt
import Derived.Deep.AppendLies
import Derived.Laws.OwnMore
import Derived.Laws.AppendOwn
import Derived.OwnWalk
import Derived.WalkMore
import Derived.Scope
import Derived.Deep.LoopGhost
import Derived.OneCell
import Derived.Shelf.SlSortCmp.NoneTotal
import Derived.Sort.OwnSorted
import Derived.Test.YtjpmlagofcgheaaGreatDoorMg04
namespace Go.Proofs.YtjpmlagofcgheaaGreatDoor
open Go.RowKit
set_option maxRecDepth 100000

/-- Dependencies as cells, with their ranges' slices. -/
def dpCells (ps : List (Dp × Value)) : List Value := ps.flatMap fun p => [.string p.1.nm, p.2]
theorem dpCells_length (ps : List (Dp × Value)) : (dpCells ps).length = ps.length * 2 := by
  induction ps with
  | nil => rfl
  | cons p ps ih => unfold dpCells at *; simp only [List.flatMap_cons, List.length_append, List.length_cons, List.length_nil, ih]; omega
theorem dpCells_snoc (ps : List (Dp × Value)) (p : Dp × Value) : dpCells (ps ++ [p]) = dpCells ps ++ [.string p.1.nm, p.2] := by simp [dpCells]
theorem dpCells_at : ∀ (ps : List (Dp × Value)) (i : Nat) (h : i < ps.length), (dpCells ps)[i * 2]? = some (.string ps[i].1.nm) ∧ (dpCells ps)[i * 2 + 1]? = some ps[i].2
  | [], i, h => by simp at h
  | p :: ps, 0, _ => by simp [dpCells]
  | p :: ps, i + 1, h => by
    have := dpCells_at ps i (by simpa using h)
    have e : dpCells (p :: ps) = .string p.1.nm :: p.2 :: dpCells ps := by simp [dpCells]
    rw [e, show (i + 1) * 2 = i * 2 + 1 + 1 by omega]
    simpa using this

/-- Dependencies of one's own, with ranges of one's own. -/
def OwnD (w : World) (B : Nat) (v : Value) (ps : List (Dp × Value)) : Prop := w.ownsRow B 70 2 v ps.length (dpCells ps) ∧ ∀ p ∈ ps, OwnS w B p.2 p.1.rg
theorem OwnD.nil (w : World) (B : Nat) : OwnD w B (.slice none 0 0) [] := ⟨⟨rfl, Or.inl ⟨rfl, rfl⟩⟩, fun p hp => by cases hp⟩
theorem own_of {w w' : World} {B : Nat} {e : TypeId} {z : Nat} {v : Value} {n : Nat} {xs : List Value} (h : w.ownsRow B e z v n xs) (hk : ∀ g, v.ownBlock = some g → w'.heap[g]? = w.heap[g]?) : w'.ownsRow B e z v n xs := by
  refine ⟨h.1, ?_⟩
  rcases h.2 with hn | ⟨g, cap, cur, rfl, hB, hgg, r⟩
  · exact Or.inl hn
  · exact Or.inr ⟨g, cap, cur, rfl, hB, (hk g rfl).trans hgg, r⟩
theorem own_below {w w' : World} {B : Nat} {e : TypeId} {z : Nat} {v : Value} {n : Nat} {xs : List Value} (h : w.ownsRow B e z v n xs) (hb : Below w.heap.size w w') : w'.ownsRow B e z v n xs := own_of h fun g hg => hb.block g (h.lt g hg).2
theorem own_base {w : World} {B C : Nat} {e : TypeId} {z : Nat} {v : Value} {n : Nat} {xs : List Value} (h : w.ownsRow B e z v n xs) (hc : C ≤ B) : w.ownsRow C e z v n xs := by
  refine ⟨h.1, ?_⟩
  rcases h.2 with hn | ⟨g, cap, cur, hv, hB, r⟩
  · exact Or.inl hn
  · exact Or.inr ⟨g, cap, cur, hv, Nat.le_trans hc hB, r⟩
/-- Rows of other types are other rows. -/
theorem own_ne {w : World} {B B' : Nat} {e e' : TypeId} {z z' : Nat} {v v' : Value} {n n' : Nat} {xs xs' : List Value} (h : w.ownsRow B e z v n xs) (h' : w.ownsRow B' e' z' v' n' xs') (hne : e ≠ e') {g : Nat} (hg : v.ownBlock = some g) : v'.ownBlock ≠ some g := by
  intro hg'
  rcases h.2 with ⟨rfl, _⟩ | ⟨g1, cap, cur, rfl, _, hgg, _⟩
  · cases hg
  · rcases h'.2 with ⟨rfl, _⟩ | ⟨g2, cap', cur', rfl, _, hgg', _⟩
    · cases hg'
    · cases hg
      cases hg'
      rw [hgg] at hgg'
      injection hgg' with e1
      injection e1 with _ e2 _
      exact hne e2
theorem OwnD.below {w w' : World} {B : Nat} {v : Value} {ps : List (Dp × Value)} (h : OwnD w B v ps) (hb : Below w.heap.size w w') : OwnD w' B v ps := ⟨own_below h.1 hb, fun p hp => (h.2 p hp).below hb⟩
theorem OwnD.base {w : World} {B C : Nat} {v : Value} {ps : List (Dp × Value)} (h : OwnD w B v ps) (hc : C ≤ B) : OwnD w C v ps := ⟨own_base h.1 hc, fun p hp => (h.2 p hp).base hc⟩
theorem OwnS.at {w : World} {B : Nat} {v : Value} {L : List Sp} (h : OwnS w B v L) : SpansC w v L ∧ L.length ≤ 9223372036854775807 := by
  have h0 := h
  obtain ⟨ad, cap, rfl, hc, hl⟩ := h.sp
  refine ⟨⟨⟨ad, cap, rfl, hl⟩, ad, _, cap, rfl, hc⟩, ?_⟩
  rcases h0.2 with ⟨_, hn⟩ | ⟨g, cap', cur, _, _, _, h1, h2, _⟩
  · omega
  · unfold maxLen at h2; omega
theorem OwnD.at {w : World} {B : Nat} {v : Value} {ps : List (Dp × Value)} (h : OwnD w B v ps) : DepsAt w v (ps.map (·.1)) := by
  have h0 := h.1
  rcases h.1.2 with ⟨rfl, hn⟩ | ⟨g, cap, cur, rfl, hB, hg, hc, hm, _⟩
  · have : ps = [] := List.eq_nil_of_length_eq_zero hn
    subst this
    exact ⟨none, 0, rfl, Nat.le_refl _, Or.inl rfl⟩
  · have hlt := (Array.getElem?_eq_some_iff.1 hg).1
    refine ⟨_, cap, by rw [List.length_map], by rw [List.length_map]; exact hc, Or.inr ⟨g, 0, rfl, hlt, fun i hi => ?_⟩⟩
    have hi' : i < ps.length := by simpa using hi
    have c0 := World.ownsRow.cellAt h0 (i * 2) (by omega)
    have c1 := World.ownsRow.cellAt h0 (i * 2 + 1) (by omega)
    rw [(dpCells_at ps i hi').1] at c0
    rw [(dpCells_at ps i hi').2] at c1
    refine ⟨ps[i].2, ?_⟩
    rw [List.getElem_map, Nat.zero_add]
    exact ⟨c0, c1, (h.2 _ (List.getElem_mem hi')).at, hlt⟩
theorem OwnD.len {w : World} {B : Nat} {v : Value} {ps : List (Dp × Value)} (h : OwnD w B v ps) : ∃ ad cap, v = .slice ad ps.length cap := by
  rcases h.1.2 with ⟨rfl, hn⟩ | ⟨g, cap, cur, rfl, _⟩
  · exact ⟨none, 0, by rw [hn]⟩
  · exact ⟨_, cap, rfl⟩
end Go.Proofs.YtjpmlagofcgheaaGreatDoor
namespace Go.Proofs.YtjpmlagofcgheaaGreatDoor.Sc
set_option maxRecDepth 100000

abbrev Bs := List UInt8
/-- A byte that a word may have. -/
def wB (b : UInt8) : Bool := decide (33 ≤ b.toNat) && decide (b.toNat ≤ 126)
/-- A word. -/
def isW (w : Bs) : Bool := w.all wB && !w.isEmpty
/-- A line. -/
def isL (ws : List Bs) : Bool := ws.all isW && !ws.isEmpty

/-- The scanner: what is left, the word under way, the line under way, the lines. -/
def scanR : Bs → Bs → List Bs → List (List Bs) → Except Nat (List (List Bs))
  | [], cur, ws, ls => if cur = [] ∧ ws = [] then .ok ls else .error (ls.length + 1)
  | b :: r, cur, ws, ls =>
    if wB b = true then scanR r (cur ++ [b]) ws ls
    else if cur = [] then .error (ls.length + 1)
    else if b = 32 then scanR r [] (ws ++ [cur]) ls
    else if b = 10 then scanR r [] [] (ls ++ [ws ++ [cur]])
    else .error (ls.length + 1)

/-- What stands between a byte. -/
def cutF (by_ : UInt8) : Bs → Bs → List Bs
  | cur, [] => [cur]
  | cur, b :: r => if b = by_ then cur :: cutF by_ [] r else cutF by_ (cur ++ [b]) r
theorem cutF_hit (s : UInt8) (c r : Bs) : cutF s c (s :: r) = c :: cutF s [] r := by conv => lhs; unfold cutF; rw [if_pos rfl]
theorem cutF_go {s b : UInt8} (h : b ≠ s) (c r : Bs) : cutF s c (b :: r) = cutF s (c ++ [b]) r := by conv => lhs; unfold cutF; rw [if_neg h]
theorem cutF_ne (s : UInt8) : ∀ (t cur : Bs), cutF s cur t ≠ []
  | [], _ => by simp [cutF]
  | b :: r, cur => by
    unfold cutF
    split
    · simp
    · exact cutF_ne s r _

def lineR (s : Bs) : Option (List Bs) := if (cutF 32 [] s).all isW = true then some (cutF 32 [] s) else none

def refR : List (List Bs) → List Bs → Except Nat (List (List Bs))
  | ls, [] => .ok ls
  | ls, [p] => if p = [] then .ok ls else .error (ls.length + 1)
  | ls, p :: q :: r => match lineR p with
    | none => .error (ls.length + 1)
    | some w => refR (ls ++ [w]) (q :: r)

theorem refR_no {p : Bs} (h : lineR p = none) (ls : List (List Bs)) (q : Bs) (r : List Bs) : refR ls (p :: q :: r) = .error (ls.length + 1) := by conv => lhs; unfold refR; rw [h]
theorem refR_ok {p : Bs} {w : List Bs} (h : lineR p = some w) (ls : List (List Bs)) (q : Bs) (r : List Bs) : refR ls (p :: q :: r) = refR (ls ++ [w]) (q :: r) := by conv => lhs; unfold refR; rw [h]
theorem scan_b {b : UInt8} (h : wB b = true) (r cur : Bs) (ws : List Bs) (ls : List (List Bs)) : scanR (b :: r) cur ws ls = scanR r (cur ++ [b]) ws ls := by conv => lhs; unfold scanR; rw [if_pos h]
theorem scan_none {b : UInt8} (h : wB b = false) (r : Bs) (ws : List Bs) (ls : List (List Bs)) : scanR (b :: r) [] ws ls = .error (ls.length + 1) := by conv => lhs; unfold scanR; rw [if_neg (by simp [h]), if_pos rfl]
theorem scan_32 {cur : Bs} (hc : cur ≠ []) (r : Bs) (ws : List Bs) (ls : List (List Bs)) : scanR (32 :: r) cur ws ls = scanR r [] (ws ++ [cur]) ls := by conv => lhs; unfold scanR; rw [if_neg (by decide), if_neg hc, if_pos rfl]
theorem scan_10 {cur : Bs} (hc : cur ≠ []) (r : Bs) (ws : List Bs) (ls : List (List Bs)) : scanR (10 :: r) cur ws ls = scanR r [] [] (ls ++ [ws ++ [cur]]) := by conv => lhs; unfold scanR; rw [if_neg (by decide), if_neg hc, if_neg (by decide), if_pos rfl]
theorem scan_bad {b : UInt8} (h : wB b = false) (h32 : b ≠ 32) (h10 : b ≠ 10) (r cur : Bs) (ws : List Bs) (ls : List (List Bs)) : scanR (b :: r) cur ws ls = .error (ls.length + 1) := by conv => lhs; unfold scanR; rw [if_neg (by simp [h]), if_neg h32, if_neg h10, ite_self]
theorem scan_end {cur : Bs} {ws : List Bs} (h : cur ≠ [] ∨ ws ≠ []) (ls : List (List Bs)) : scanR [] cur ws ls = .error (ls.length + 1) := by unfold scanR; rw [if_neg]; rintro ⟨rfl, rfl⟩; simp at h

theorem cutF_append {s : UInt8} : ∀ {a c : Bs} {pre : List Bs} {last : Bs} (b : Bs), cutF s c a = pre ++ [last] → cutF s c (a ++ b) = pre ++ cutF s last b
  | [], c, pre, last, b, h => by
    simp only [cutF] at h
    cases pre with
    | nil => simp at h; subst h; rfl
    | cons x l => simp at h
  | x :: a, c, pre, last, b, h => by
    rw [List.cons_append]
    by_cases hx : x = s
    · subst hx
      rw [cutF_hit] at h ⊢
      cases pre with
      | nil =>
        simp only [List.nil_append, List.cons.injEq] at h
        exact absurd h.2 (cutF_ne _ _ _)
      | cons p l =>
        simp only [List.cons_append, List.cons.injEq] at h
        rw [h.1, cutF_append b h.2]; rfl
    · rw [cutF_go hx] at h ⊢
      exact cutF_append b h

theorem cutF_head (s : UInt8) : ∀ (t c : Bs), ∃ Y rest, cutF s c t = (c ++ Y) :: rest
  | [], c => ⟨[], [], by simp [cutF]⟩
  | b :: r, c => by
    by_cases hx : b = s
    · subst hx
      rw [cutF_hit]
      exact ⟨[], cutF b [] r, by simp⟩
    · rw [cutF_go hx]
      obtain ⟨Y, rest, h⟩ := cutF_head s r (c ++ [b])
      exact ⟨b :: Y, rest, by rw [h]; simp⟩

theorem cutF_nil {s : UInt8} {t c : Bs} (h : cutF s c t = [[]]) : t = [] ∧ c = [] := by
  cases t with
  | nil => simp [cutF] at h; exact ⟨rfl, h⟩
  | cons b r =>
    unfold cutF at h
    split at h
    · simp only [List.cons.injEq] at h; exact absurd h.2 (cutF_ne _ _ _)
    · obtain ⟨Y, rest, h2⟩ := cutF_head s r (c ++ [b])
      rw [h2] at h
      simp at h

theorem bad_line {ls : List (List Bs)} {X : Bs} (h : ∀ Y, lineR (X ++ Y) = none) (hX : X ≠ []) (r : Bs) : refR ls (cutF 10 X r) = .error (ls.length + 1) := by
  obtain ⟨Y, rest, e⟩ := cutF_head 10 r X
  rw [e]
  cases rest with
  | nil => unfold refR; rw [if_neg (by simp [hX])]
  | cons q r => unfold refR; rw [h Y]

theorem lineR_of {s : Bs} {l : List Bs} (h : cutF 32 [] s = l) : lineR s = if l.all isW = true then some l else none := by unfold lineR; rw [h]

/-- The scanner is the document's answer. -/
theorem scan_ref : ∀ (t cur : Bs) (ws : List Bs) (ls : List (List Bs)) (X : Bs), cutF 32 [] X = ws ++ [cur] → ws.all isW = true → cur.all wB = true → scanR t cur ws ls = refR ls (cutF 10 X t)
  | [], cur, ws, ls, X, hX, hw, hc => by
    unfold scanR cutF refR
    by_cases hx : X = []
    · subst hx
      have : ws = [] ∧ cur = [] := by
        cases ws with
        | nil => simp [cutF] at hX; exact ⟨rfl, hX⟩
        | cons a l => simp [cutF] at hX
      rw [if_pos ⟨this.2, this.1⟩, if_pos rfl]
    · rw [if_neg hx, if_neg]
      rintro ⟨rfl, rfl⟩
      exact hx (cutF_nil hX).1
  | b :: r, cur, ws, ls, X, hX, hw, hc => by
    by_cases hb : wB b = true
    · have n10 : b ≠ 10 := by rintro rfl; revert hb; decide
      have n32 : b ≠ 32 := by rintro rfl; revert hb; decide
      rw [scan_b hb, cutF_go n10]
      refine scan_ref r _ ws ls (X ++ [b]) ?_ hw ?_
      · rw [cutF_append [b] hX]; simp [cutF, n32]
      · simp [hc, hb]
    · by_cases h10 : b = 10
      · subst h10
        rw [cutF_hit]
        obtain ⟨Y, rest, e⟩ := cutF_head 10 r []
        have hl : lineR X = if (ws ++ [cur]).all isW = true then some (ws ++ [cur]) else none := lineR_of hX
        by_cases hcur : cur = []
        · subst hcur
          rw [if_neg (by simp [isW])] at hl
          rw [scan_none (by decide), e, refR_no hl]
        · have hall : (ws ++ [cur]).all isW = true := by
            simp only [List.all_append, List.all_cons, List.all_nil, Bool.and_true, hw, Bool.true_and, isW, hc]
            cases cur with
            | nil => exact absurd rfl hcur
            | cons _ _ => rfl
          rw [if_pos hall] at hl
          rw [scan_10 hcur, scan_ref r [] [] (ls ++ [ws ++ [cur]]) [] rfl rfl rfl, e, refR_ok hl]
      · by_cases h32 : b = 32
        · subst h32
          have e1 : cutF 10 X (32 :: r) = cutF 10 (X ++ [32]) r := cutF_go (by decide) _ _
          have e2 : cutF 32 [] (X ++ [32]) = ws ++ [cur] ++ [[]] := by rw [cutF_append [32] hX]; simp [cutF]
          by_cases hcur : cur = []
          · subst hcur
            rw [scan_none (by decide), e1, bad_line (fun Y => ?_) (by simp)]
            rw [lineR_of (cutF_append Y e2), if_neg (by simp [isW])]
          · rw [scan_32 hcur, e1]
            refine scan_ref r [] (ws ++ [cur]) ls (X ++ [32]) e2 ?_ rfl
            simp only [List.all_append, List.all_cons, List.all_nil, Bool.and_true, hw, Bool.true_and, isW, hc]
            cases cur with
            | nil => exact absurd rfl hcur
            | cons _ _ => rfl
        · have e1 : cutF 10 X (b :: r) = cutF 10 (X ++ [b]) r := cutF_go h10 _ _
          have e2 : cutF 32 [] (X ++ [b]) = ws ++ [cur ++ [b]] := by rw [cutF_append [b] hX]; simp [cutF, h32]
          rw [scan_bad (by simpa using hb) h32 h10, e1, bad_line (fun Y => ?_) (by simp)]
          rw [lineR_of (cutF_append Y e2), if_neg]
          obtain ⟨Z, rest, e⟩ := cutF_head 32 Y (cur ++ [b])
          rw [e]
          simp [isW, hb]

/-- A line's text. -/
def pend (ws : List Bs) (cur : Bs) : Bs := ws.flatMap (· ++ [32]) ++ cur
def lineT : List Bs → Bs
  | [] => [10]
  | [w] => w ++ [10]
  | w :: q :: r => w ++ [32] ++ lineT (q :: r)
def textT (ls : List (List Bs)) : Bs := ls.flatMap lineT
theorem lineT_snoc (ws : List Bs) (cur : Bs) : lineT (ws ++ [cur]) = pend ws cur ++ [10] := by
  induction ws with
  | nil => rfl
  | cons w l ih =>
    cases l with
    | nil => simp [lineT, pend]
    | cons q r =>
      have : lineT (w :: q :: r ++ [cur]) = w ++ [32] ++ lineT (q :: r ++ [cur]) := rfl
      rw [this, ih]
      simp [pend]
theorem textT_snoc (ls : List (List Bs)) (l : List Bs) : textT (ls ++ [l]) = textT ls ++ lineT l := by simp [textT]

theorem wB_not {b : UInt8} (h : wB b = true) : b ≠ 10 ∧ b ≠ 32 := ⟨by rintro rfl; revert h; decide, by rintro rfl; revert h; decide⟩
theorem isW_of {cur : Bs} (hc : cur.all wB = true) (h : cur ≠ []) : isW cur = true := by
  unfold isW
  rw [hc]
  cases cur with
  | nil => exact absurd rfl h
  | cons _ _ => rfl

/-- What is taken is the lines of that text. -/
theorem scan_back : ∀ (t cur : Bs) (ws : List Bs) (ls L : List (List Bs)), scanR t cur ws ls = .ok L → cur.all wB = true → ws.all isW = true → ls.all isL = true → L.all isL = true ∧ textT L = textT ls ++ pend ws cur ++ t
  | [], cur, ws, ls, L, h, hc, hw, hl => by
    unfold scanR at h
    split at h
    · rename_i hq
      cases h
      rw [hq.1, hq.2]
      exact ⟨hl, by simp [pend]⟩
    · cases h
  | b :: r, cur, ws, ls, L, h, hc, hw, hl => by
    unfold scanR at h
    split at h
    · rename_i hb
      obtain ⟨h1, h2⟩ := scan_back r _ ws ls L h (by simp [hc, hb]) hw hl
      exact ⟨h1, by rw [h2]; simp [pend]⟩
    · split at h
      · cases h
      · rename_i hb hcur
        split at h
        · rename_i h32
          obtain ⟨h1, h2⟩ := scan_back r [] (ws ++ [cur]) ls L h rfl (by simp [hw, isW_of hc hcur]) hl
          exact ⟨h1, by rw [h2, h32]; simp [pend]⟩
        · split at h
          · rename_i h32 h10
            obtain ⟨h1, h2⟩ := scan_back r [] [] (ls ++ [ws ++ [cur]]) L h rfl rfl (by simp [hl, isL, hw, isW_of hc hcur])
            exact ⟨h1, by rw [h2, h10, textT_snoc, lineT_snoc]; simp [pend]⟩
          · cases h

theorem scan_word : ∀ (x r cur : Bs) (ws : List Bs) (ls : List (List Bs)), x.all wB = true → scanR (x ++ r) cur ws ls = scanR r (cur ++ x) ws ls
  | [], r, cur, ws, ls, _ => by simp
  | b :: x, r, cur, ws, ls, h => by
    simp only [List.all_cons, Bool.and_eq_true] at h
    rw [List.cons_append]
    conv => lhs; unfold scanR; rw [if_pos h.1]
    rw [scan_word x r _ ws ls h.2]; simp

theorem scan_line : ∀ (l : List Bs) (ws : List Bs) (r : Bs) (ls : List (List Bs)), l.all isW = true → l ≠ [] → scanR (lineT l ++ r) [] ws ls = scanR r [] [] (ls ++ [ws ++ l])
  | [], _, _, _, _, h => absurd rfl h
  | [w], ws, r, ls, h, _ => by
    simp only [List.all_cons, List.all_nil, Bool.and_true, isW, Bool.and_eq_true] at h
    have hne : w ≠ [] := by rintro rfl; simp at h
    show scanR (w ++ [10] ++ r) [] ws ls = _
    rw [List.append_assoc, scan_word w _ [] ws ls h.1]
    show scanR (10 :: r) ([] ++ w) ws ls = _
    conv => lhs; unfold scanR; rw [if_neg (by decide), if_neg (by simpa using hne), if_neg (by decide), if_pos rfl]
    simp
  | w :: q :: l, ws, r, ls, h, _ => by
    rw [List.all_cons, Bool.and_eq_true] at h
    obtain ⟨h1, h2⟩ := h
    simp only [isW, Bool.and_eq_true] at h1
    have hne : w ≠ [] := by rintro rfl; simp at h1
    show scanR (w ++ [32] ++ lineT (q :: l) ++ r) [] ws ls = _
    have e : w ++ [32] ++ lineT (q :: l) ++ r = w ++ (32 :: (lineT (q :: l) ++ r)) := by simp
    rw [e, scan_word w _ [] ws ls h1.1]
    conv => lhs; unfold scanR; rw [if_neg (by decide), if_neg (by simpa using hne), if_pos rfl]
    rw [List.nil_append, scan_line (q :: l) (ws ++ [w]) r ls h2 (by simp)]
    simp

/-- Lines of Join. -/
theorem scan_text : ∀ (L : List (List Bs)) (ls : List (List Bs)), L.all isL = true → scanR (textT L) [] [] ls = .ok (ls ++ L)
  | [], ls, _ => by simp [textT, scanR]
  | l :: L, ls, h => by
    simp only [List.all_cons, Bool.and_eq_true, isL] at h
    have hne : l ≠ [] := by rintro rfl; simp at h
    show scanR (lineT l ++ textT L) [] [] ls = _
    rw [scan_line l [] _ ls h.1.1 hne, scan_text L _ h.2]
    simp

/-- More lines ahead. -/
def shiftE (A : List (List Bs)) : Except Nat (List (List Bs)) → Except Nat (List (List Bs))
  | .ok L => .ok (A ++ L)
  | .error n => .error (n + A.length)
theorem scan_shift (A : List (List Bs)) : ∀ (t cur : Bs) (ws : List Bs) (ls : List (List Bs)), scanR t cur ws (A ++ ls) = shiftE A (scanR t cur ws ls)
  | [], cur, ws, ls => by
    unfold scanR
    split
    · rfl
    · simp [shiftE]; omega
  | b :: r, cur, ws, ls => by
    unfold scanR
    split
    · exact scan_shift A r _ ws ls
    · split
      · simp [shiftE]; omega
      · split
        · exact scan_shift A r _ _ ls
        · split
          · rw [List.append_assoc]; exact scan_shift A r _ _ _
          · simp [shiftE]; omega
theorem scan_then : ∀ (s t cur : Bs) (ws : List Bs) (ls A : List (List Bs)), scanR s cur ws ls = .ok A → scanR (s ++ t) cur ws ls = scanR t [] [] A
  | [], t, cur, ws, ls, A, h => by
    unfold scanR at h
    split at h
    · rename_i hq; cases h; rw [hq.1, hq.2]; rfl
    · cases h
  | b :: r, t, cur, ws, ls, A, h => by
    rw [List.cons_append]
    by_cases hb : wB b = true
    · rw [scan_b hb] at h ⊢; exact scan_then r t _ _ _ _ h
    · have hb' : wB b = false := by simpa using hb
      by_cases hc : cur = []
      · subst hc; rw [scan_none hb'] at h; cases h
      · by_cases h32 : b = 32
        · subst h32; rw [scan_32 hc] at h ⊢; exact scan_then r t _ _ _ _ h
        · by_cases h10 : b = 10
          · subst h10; rw [scan_10 hc] at h ⊢; exact scan_then r t _ _ _ _ h
          · rw [scan_bad hb' h32 h10] at h; cases h

/-- What stands up to and with the m-th byte 10. -/
def aheadN : Nat → Bs → Bs
  | 0, _ => []
  | _ + 1, [] => []
  | m + 1, b :: r => b :: aheadN (if b = 10 then m else m + 1) r
def nls (t : Bs) : Nat := t.countP (· = 10)

theorem scan_wrong : ∀ (t cur : Bs) (ws : List Bs) (ls : List (List Bs)) (n : Nat), scanR t cur ws ls = .error n →
    ∃ m, n = ls.length + 1 + m ∧ m ≤ nls t ∧ (0 < m → ∃ L, scanR (aheadN m t) cur ws ls = .ok L ∧ L.length + 1 = n)
  | [], cur, ws, ls, n, h => by
    unfold scanR at h
    split at h
    · cases h
    · cases h; exact ⟨0, rfl, Nat.zero_le _, fun q => absurd q (by omega)⟩
  | b :: r, cur, ws, ls, n, h => by
    unfold scanR at h
    split at h
    · rename_i hb
      obtain ⟨m, h1, h2, h3⟩ := scan_wrong r _ ws ls n h
      have h10 := (wB_not hb).1
      refine ⟨m, h1, by unfold nls at *; rw [List.countP_cons_of_neg (by simpa using h10)]; exact h2, fun hm => ?_⟩
      obtain ⟨L, e, el⟩ := h3 hm
      obtain ⟨k, rfl⟩ : ∃ k, m = k + 1 := ⟨m - 1, by omega⟩
      refine ⟨L, ?_, el⟩
      unfold aheadN
      rw [if_neg h10]
      unfold scanR
      rw [if_pos hb]; exact e
    · rename_i hb
      split at h
      · cases h; exact ⟨0, rfl, Nat.zero_le _, fun q => absurd q (by omega)⟩
      · rename_i hcur
        split at h
        · rename_i h32
          subst h32
          obtain ⟨m, h1, h2, h3⟩ := scan_wrong r _ _ ls n h
          refine ⟨m, h1, by unfold nls at *; rw [List.countP_cons_of_neg (by decide)]; exact h2, fun hm => ?_⟩
          obtain ⟨L, e, el⟩ := h3 hm
          obtain ⟨k, rfl⟩ : ∃ k, m = k + 1 := ⟨m - 1, by omega⟩
          refine ⟨L, ?_, el⟩
          unfold aheadN
          rw [if_neg (by decide)]
          unfold scanR
          rw [if_neg hb, if_neg hcur, if_pos rfl]; exact e
        · rename_i h32
          split at h
          · rename_i h10
            subst h10
            obtain ⟨m, h1, h2, h3⟩ := scan_wrong r [] [] (ls ++ [ws ++ [cur]]) n h
            refine ⟨m + 1, by rw [h1]; simp; omega, by unfold nls at *; rw [List.countP_cons_of_pos (by decide)]; omega, fun _ => ?_⟩
            have key : ∃ L, scanR (aheadN m r) [] [] (ls ++ [ws ++ [cur]]) = .ok L ∧ L.length + 1 = n := by
              cases m with
              | zero => exact ⟨ls ++ [ws ++ [cur]], by unfold aheadN scanR; rfl, by rw [h1]⟩
              | succ k => exact h3 (by omega)
            obtain ⟨L, e, el⟩ := key
            refine ⟨L, ?_, el⟩
            unfold aheadN
            rw [if_pos rfl]
            unfold scanR
            rw [if_neg hb, if_neg hcur, if_neg (by decide), if_pos rfl]; exact e
          · cases h; exact ⟨0, rfl, Nat.zero_le _, fun q => absurd q (by omega)⟩
end Go.Proofs.YtjpmlagofcgheaaGreatDoor.Sc
namespace Go.Proofs.YtjpmlagofcgheaaGreatDoor.Sc
open Go.RowKit
set_option maxRecDepth 100000

theorem hide3 {p : Prop} (h : p) : Hid p := h
theorem ret_bool {a b : Bool} (h : a = b) : Ending.returned (.bool a) = .returned (.bool b) := by rw [h]
theorem ret_int {a b : Int} (h : a = b) : Ending.returned (.int .i64 a) = .returned (.int .i64 b) := by rw [h]
theorem boxB (w : World) (o : Obj) : Below w.heap.size w (w.alloc o) := (Below.refl _ _).alloc (Nat.le_refl _) _
theorem below_then {w w1 w' : World} (h : Below w.heap.size w w1) (hb : Below w1.heap.size w1 w') : Below w.heap.size w w' := h.trans (hb.mono h.size)
theorem bytes_same {s t : ByteArray} (h : s.toList = t.toList) : s = t := by
  rw [ByteArray.toList_eq, ByteArray.toList_eq] at h
  cases s; cases t
  simp only [ByteArray.mk.injEq]
  exact Array.toList_inj.1 h
theorem list_size (s : ByteArray) : s.data.toList.length = s.size := rfl
theorem cell_in {W : World} {a : Addr} {v : Value} (h : W.cell? a = some v) : a.block < W.heap.size := by
  rcases Nat.lt_or_ge a.block W.heap.size with h' | h'
  · exact h'
  · simp [World.cell?, Array.getElem?_eq_none h'] at h
theorem info_parts {e : TypeId} {z : Value} {n b : Nat} (h : (Tryz.prog.info? e).map (fun i => (i.zero, i.size, i.bytes)) = some (some z, n, b)) : ∃ i, Tryz.prog.info? e = some i ∧ i.zero = some z ∧ i.size = n ∧ i.bytes = b := by
  cases hi : Tryz.prog.info? e with
  | none => rw [hi] at h; cases h
  | some i =>
    rw [hi] at h
    simp only [Option.map_some, Option.some.injEq, Prod.mk.injEq] at h
    exact ⟨i, rfl, h.1, h.2.1, h.2.2⟩
theorem infoStr : (Tryz.prog.info? 9).map (fun i => (i.zero, i.size, i.bytes)) = some (some (.string ByteArray.empty), 1, 16) := by kernel_rfl
theorem infoStrs : (Tryz.prog.info? 143).map (fun i => (i.zero, i.size, i.bytes)) = some (some (.slice none 0 0), 1, 24) := by kernel_rfl

/-- As Q; by a goto to a label: J. -/
def jumpM (J : Nat → Act → World → Prop) (Q : Exit → Act → World → Prop) : Exit → Act → World → Prop
  | .goto l, a, w => J l a w
  | e, a, w => Q e a w
section
variable {J : Nat → Act → World → Prop} {Q : Exit → Act → World → Prop} {a : Act} {w : World}
theorem jumpM_normal : jumpM J Q .normal a w = Q .normal a w := rfl
theorem jumpM_exit (id : Nat) : jumpM J Q (.exit id) a w = Q (.exit id) a w := rfl
theorem jumpM_ret : jumpM J Q .ret a w = Q .ret a w := rfl
theorem jumpM_goto (l : Nat) : jumpM J Q (.goto l) a w = J l a w := rfl
end
/-- A scope in which the run jumps among labels: what holds at each jump, and a measure that every pass lowers. -/
theorem wp_scope_many {P : Program} {a : Act} {w : World} {Q : Exit → Act → World → Prop} {c : Code} (J : Nat → Act → World → Prop) (μ : Nat → Act → World → Nat)
    (first : c.wp P (jumpM J Q) a w)
    (pass : ∀ l a w, J l a w → ∃ rest, findLabel c l = some rest ∧ rest.wp P (jumpM (fun l' a' w' => J l' a' w' ∧ μ l' a' w' < μ l a w) Q) a w) : (Code.scope c).wp P Q a w := by
  intro b k cs
  have key : ∀ n l a w, μ l a w = n → J l a w → ∃ rest, findLabel c l = some rest ∧ ∃ e a' w', Q e a' w' ∧ Arrives P (lone (b.at a (.code rest :: .inScope c :: k)) cs w) b k cs e a' w' := by
    intro n
    induction n using Nat.strongRecOn with
    | _ n ih =>
      intro l a w hn hJ
      obtain ⟨rest, hf, hp⟩ := pass l a w hJ
      refine ⟨rest, hf, ?_⟩
      obtain ⟨e, a₁, w₁, hq, harr⟩ := hp b (.inScope c :: k) cs
      cases e with
      | normal => exact ⟨.normal, a₁, w₁, hq, Steps.trans harr (.one step_inScope)⟩
      | exit id => exact ⟨.exit id, a₁, w₁, hq, fun k' hk => harr k' (by simp [exitTo, hk])⟩
      | goto l' =>
        obtain ⟨hJ', hlt⟩ := hq
        obtain ⟨rest', hf', e₂, a₂, w₂, hq₂, harr₂⟩ := ih _ (by omega) l' a₁ w₁ rfl hJ'
        have hg : gotoIn l' (.inScope c :: k) = some (.code rest' :: .inScope c :: k) := by simp [gotoIn, hf']
        exact ⟨e₂, a₂, w₂, hq₂, .of_steps (harr _ hg) harr₂⟩
      | ret => exact ⟨_, a₁, w₁, hq, harr⟩
      | panic ch => exact ⟨_, a₁, w₁, hq, harr⟩
      | outgrown => exact ⟨_, a₁, w₁, hq, harr⟩
  obtain ⟨e, a₁, w₁, hq, harr⟩ := first b (.inScope c :: k) cs
  cases e with
  | normal => exact ⟨.normal, a₁, w₁, hq, .head step_scope (Steps.trans harr (.one step_inScope))⟩
  | exit id => exact ⟨.exit id, a₁, w₁, hq, fun k' hk => .head step_scope (harr k' (by simp [exitTo, hk]))⟩
  | goto l' =>
    obtain ⟨rest', hf', e₂, a₂, w₂, hq₂, harr₂⟩ := key _ l' a₁ w₁ rfl hq
    have hg : gotoIn l' (.inScope c :: k) = some (.code rest' :: .inScope c :: k) := by simp [gotoIn, hf']
    exact ⟨e₂, a₂, w₂, hq₂, .of_steps (.head step_scope (harr _ hg)) harr₂⟩
  | ret => exact ⟨_, a₁, w₁, hq, .of_steps (.one step_scope) harr⟩
  | panic ch => exact ⟨_, a₁, w₁, hq, .of_steps (.one step_scope) harr⟩
  | outgrown => exact ⟨_, a₁, w₁, hq, .of_steps (.one step_scope) harr⟩

/-- Bytes as a text. -/
def ba (l : Bs) : ByteArray := ⟨l.toArray⟩
theorem ba_list (l : Bs) : (ba l).data.toList = l := by simp [ba]
theorem ba_of (s : ByteArray) : ba s.data.toList = s := by cases s; simp [ba]
theorem ba_inj {a b : Bs} (h : ba a = ba b) : a = b := by rw [← ba_list a, h, ba_list]
theorem ba_size (l : Bs) : (ba l).size = l.length := by show l.toArray.size = _; simp
theorem ba_extract (s : ByteArray) (f k : Nat) : s.extract f k = ba ((s.data.toList.take k).drop f) := by
  have : (s.extract f k).data.toList = (s.data.toList.take k).drop f := by
    rw [ByteArray.data_extract, Array.toList_extract, List.extract_eq_take_drop, List.drop_take]
  rw [← this, ba_of]

/-- Words as cells. -/
def strs (ws : List Bs) : List Value := ws.map fun w => .string (ba w)
theorem strs_length (ws : List Bs) : (strs ws).length = ws.length := by simp [strs]
theorem strs_snoc (ws : List Bs) (x : Bs) : strs (ws ++ [x]) = strs ws ++ [.string (ba x)] := by simp [strs]

/-- Words that lie in memory, wherever. -/
def WordsAt (w : World) (v : Value) (ws : List Bs) : Prop := ∃ ad cap, v = .slice ad ws.length cap ∧ ws.length ≤ cap ∧ (ws = [] ∨ ∃ g o, ad = some ⟨g, o, none⟩ ∧ g < w.heap.size ∧ ∀ i (h : i < ws.length), w.cell? ⟨g, o + i, none⟩ = some (.string (ba ws[i])))
/-- Lines that lie in memory. -/
def LinesAt (w : World) (v : Value) (L : List (List Bs)) : Prop := ∃ ad cap, v = .slice ad L.length cap ∧ L.length ≤ cap ∧ (L = [] ∨ ∃ g o, ad = some ⟨g, o, none⟩ ∧ g < w.heap.size ∧ ∀ i (h : i < L.length), ∃ u, w.cell? ⟨g, o + i, none⟩ = some u ∧ WordsAt w u L[i])

theorem WordsAt.below {w w' : World} {v : Value} {ws : List Bs} (h : WordsAt w v ws) (hb : Below w.heap.size w w') : WordsAt w' v ws := by
  obtain ⟨ad, cap, hv, hc, hl⟩ := h
  refine ⟨ad, cap, hv, hc, hl.imp id ?_⟩
  rintro ⟨g, o, ha, hg, hs⟩
  exact ⟨g, o, ha, Nat.lt_of_lt_of_le hg hb.size, fun i hi => (hb.cell (p := ⟨g, o + i, none⟩) hg).trans (hs i hi)⟩
theorem LinesAt.below {w w' : World} {v : Value} {L : List (List Bs)} (h : LinesAt w v L) (hb : Below w.heap.size w w') : LinesAt w' v L := by
  obtain ⟨ad, cap, hv, hc, hl⟩ := h
  refine ⟨ad, cap, hv, hc, hl.imp id ?_⟩
  rintro ⟨g, o, ha, hg, hs⟩
  refine ⟨g, o, ha, Nat.lt_of_lt_of_le hg hb.size, fun i hi => ?_⟩
  obtain ⟨u, h1, h2⟩ := hs i hi
  exact ⟨u, (hb.cell (p := ⟨g, o + i, none⟩) hg).trans h1, h2.below hb⟩

/-- Words of one's own. -/
def OwnW (w : World) (B : Nat) (v : Value) (ws : List Bs) : Prop := w.ownsRow B 9 1 v ws.length (strs ws)
theorem OwnW.nil (w : World) (B : Nat) : OwnW w B (.slice none 0 0) [] := ⟨rfl, Or.inl ⟨rfl, rfl⟩⟩
theorem OwnW.block {w : World} {B : Nat} {v : Value} {ws : List Bs} (h : OwnW w B v ws) (hne : ws ≠ []) : ∃ g, v.ownBlock = some g := by
  rcases h.2 with ⟨_, h0⟩ | ⟨g, cap, cur, rfl, _⟩
  · exact absurd (List.eq_nil_of_length_eq_zero h0) hne
  · exact ⟨g, rfl⟩
theorem OwnW.at {w : World} {B : Nat} {v : Value} {ws : List Bs} (h : OwnW w B v ws) : WordsAt w v ws := by
  have h0 := h
  rcases h.2 with ⟨rfl, hn⟩ | ⟨g, cap, cur, rfl, hB, hg, hc, _⟩
  · exact ⟨none, 0, by rw [hn], by omega, Or.inl (List.eq_nil_of_length_eq_zero hn)⟩
  · refine ⟨_, cap, rfl, hc, Or.inr ⟨g, 0, rfl, (Array.getElem?_eq_some_iff.1 hg).1, fun i hi => ?_⟩⟩
    have := World.ownsRow.cellAt h0 i (by omega)
    rw [Nat.zero_add, this]
    simp [strs, hi]

/-- Lines of one's own: no two of their rows are one. -/
def LL (w : World) (B : Nat) (vl : Value) (ps : List (Value × List Bs)) : Prop :=
  w.ownsRow B 143 1 vl ps.length (ps.map (·.1)) ∧ (∀ p ∈ ps, OwnW w B p.1 p.2 ∧ p.2 ≠ []) ∧ (ps.map (·.1.ownBlock)).Nodup ∧ (∀ p ∈ ps, vl.ownBlock ≠ p.1.ownBlock) ∧ (ps = [] → vl = .slice none 0 0)
theorem LL.nil (w : World) (B : Nat) : LL w B (.slice none 0 0) [] := ⟨⟨rfl, Or.inl ⟨rfl, rfl⟩⟩, (fun p hp => by cases hp), List.nodup_nil, (fun p hp => by cases hp), fun _ => rfl⟩
theorem LL.len {w : World} {B : Nat} {vl : Value} {ps : List (Value × List Bs)} (h : LL w B vl ps) : ∃ ad cap, vl = .slice ad ps.length cap := by
  rcases h.1.2 with ⟨rfl, hn⟩ | ⟨g, cap, cur, rfl, _⟩
  · exact ⟨none, 0, by rw [hn]⟩
  · exact ⟨_, cap, rfl⟩
theorem LL.kept {w w' : World} {B : Nat} {vl : Value} {ps : List (Value × List Bs)} {row : Option Nat} (h : LL w B vl ps) (hg : w.grownBy w' row) (h1 : vl.ownBlock = none ∨ vl.ownBlock ≠ row) (h2 : ∀ p ∈ ps, p.1.ownBlock ≠ row) : LL w' B vl ps :=
  ⟨h.1.kept hg h1, fun p hp => ⟨(h.2.1 p hp).1.kept hg (Or.inr (h2 p hp)), (h.2.1 p hp).2⟩, h.2.2.1, h.2.2.2⟩
theorem LL.at {w : World} {B : Nat} {vl : Value} {ps : List (Value × List Bs)} (h : LL w B vl ps) : LinesAt w vl (ps.map (·.2)) := by
  have h0 := h.1
  rcases h.1.2 with ⟨rfl, hn⟩ | ⟨g, cap, cur, rfl, hB, hg, hc, _⟩
  · have : ps = [] := List.eq_nil_of_length_eq_zero hn
    subst this
    exact ⟨none, 0, rfl, Nat.le_refl _, Or.inl rfl⟩
  · refine ⟨_, cap, by rw [List.length_map], by rw [List.length_map]; exact hc, Or.inr ⟨g, 0, rfl, (Array.getElem?_eq_some_iff.1 hg).1, fun i hi => ?_⟩⟩
    have hi' : i < ps.length := by simpa using hi
    have := World.ownsRow.cellAt h0 i (by omega)
    refine ⟨ps[i].1, by rw [Nat.zero_add, this]; simp [hi'], ?_⟩
    rw [List.getElem_map]
    exact (h.2.1 _ (List.getElem_mem hi')).1.at

/-- What the scanner has made: lines, and a line under way. -/
def St (w0 : World) (vl vw : Value) (ps : List (Value × List Bs)) (ws : List Bs) (w : World) : Prop :=
  LL w w0.heap.size vl ps ∧ OwnW w w0.heap.size vw ws ∧ (∀ p ∈ ps, vw.ownBlock ≠ p.1.ownBlock) ∧ (vw.ownBlock = none ∨ vw.ownBlock ≠ vl.ownBlock) ∧ Below w0.heap.size w0 w
theorem St.start (w : World) : St w (.slice none 0 0) (.slice none 0 0) [] [] w := ⟨LL.nil _ _, OwnW.nil _ _, (fun p hp => by cases hp), Or.inl rfl, Below.refl _ _⟩
theorem LL.below {w w' : World} {B : Nat} {vl : Value} {ps : List (Value × List Bs)} (h : LL w B vl ps) (hb : Below w.heap.size w w') : LL w' B vl ps := by
  have own : ∀ {e : TypeId} {v : Value} {n : Nat} {xs : List Value}, w.ownsRow B e 1 v n xs → w'.ownsRow B e 1 v n xs := by
    intro e v n xs ho
    refine ⟨ho.1, ?_⟩
    rcases ho.2 with hn | ⟨g, cap, cur, rfl, hB, hgg, r⟩
    · exact Or.inl hn
    · exact Or.inr ⟨g, cap, cur, rfl, hB, (hb.block g (Array.getElem?_eq_some_iff.1 hgg).1).trans hgg, r⟩
  exact ⟨own h.1, fun p hp => ⟨own (h.2.1 p hp).1, (h.2.1 p hp).2⟩, h.2.2.1, h.2.2.2⟩
theorem OwnW.below {w w' : World} {B : Nat} {v : Value} {ws : List Bs} (h : OwnW w B v ws) (hb : Below w.heap.size w w') : OwnW w' B v ws := by
  refine ⟨h.1, ?_⟩
  rcases h.2 with hn | ⟨g, cap, cur, rfl, hB, hgg, r⟩
  · exact Or.inl hn
  · exact Or.inr ⟨g, cap, cur, rfl, hB, (hb.block g (Array.getElem?_eq_some_iff.1 hgg).1).trans hgg, r⟩
theorem St.below {w0 : World} {vl vw : Value} {ps : List (Value × List Bs)} {ws : List Bs} {w w' : World} (h : St w0 vl vw ps ws w) (hb : Below w.heap.size w w') : St w0 vl vw ps ws w' :=
  ⟨h.1.below hb, h.2.1.below hb, h.2.2.1, h.2.2.2.1, below_then h.2.2.2.2 hb⟩

theorem St.word {w0 : World} {vl vw : Value} {ps : List (Value × List Bs)} {ws : List Bs} {w w' : World} {v' : Value} (x : Bs) (h : St w0 vl vw ps ws w) (ho : w'.ownsRow w0.heap.size 9 1 v' (ws.length + 1) (strs ws ++ [.string (ba x)])) (hg : w.grownBy w' vw.ownBlock) (hat : v'.ownBlock = vw.ownBlock ∨ v'.ownBlock = some w.heap.size) : St w0 vl v' ps (ws ++ [x]) w' := by
  obtain ⟨h1, h2, h3, h4, h5⟩ := h
  have hs := h5.size
  refine ⟨h1.kept hg ?_ fun p hp => (h3 p hp).symm, ?_, ?_, ?_, ?_⟩
  · rcases h4 with h4 | h4
    · rw [h4]
      cases hv : vl.ownBlock with
      | none => exact Or.inl rfl
      | some _ => exact Or.inr (by simp)
    · exact Or.inr h4.symm
  · unfold OwnW; rw [strs_snoc, List.length_append]; exact ho
  · intro p hp
    rcases hat with e | e
    · rw [e]; exact h3 p hp
    · rw [e]
      intro e2
      have := (World.ownsRow.lt (h1.2.1 p hp).1 _ e2.symm).2
      omega
  · rcases hat with e | e
    · rw [e]; exact h4
    · refine Or.inr ?_
      rw [e]
      intro e2
      have := (World.ownsRow.lt h1.1 _ e2.symm).2
      omega
  · exact h5.grown hg hs fun k hk => (World.ownsRow.lt h2 k hk).1

theorem St.line {w0 : World} {vl vw : Value} {ps : List (Value × List Bs)} {ws : List Bs} {w w' : World} {v' : Value} (h : St w0 vl vw ps ws w) (hne : ws ≠ []) (ho : w'.ownsRow w0.heap.size 143 1 v' (ps.length + 1) (ps.map (·.1) ++ [vw])) (hg : w.grownBy w' vl.ownBlock) (hat : v'.ownBlock = vl.ownBlock ∨ v'.ownBlock = some w.heap.size) : St w0 v' (.slice none 0 0) (ps ++ [(vw, ws)]) [] w' := by
  obtain ⟨h1, h2, h3, h4, h5⟩ := h
  have hs := h5.size
  obtain ⟨g, hgb⟩ := h2.block hne
  have hvw : vw.ownBlock ≠ vl.ownBlock := by
    rcases h4 with h4 | h4
    · rw [hgb] at h4; cases h4
    · exact h4
  have hlt := (World.ownsRow.lt h2 g hgb).2
  refine ⟨⟨?_, ?_, ?_, ?_, fun e => absurd e (by simp)⟩, OwnW.nil _ _, ?_, Or.inl rfl, ?_⟩
  · rw [List.length_append, List.map_append]; exact ho
  · intro p hp
    rcases List.mem_append.1 hp with hp | hp
    · exact ⟨(h1.2.1 p hp).1.kept hg (Or.inr (h1.2.2.2.1 p hp).symm), (h1.2.1 p hp).2⟩
    · obtain rfl : p = (vw, ws) := by simpa using hp
      exact ⟨h2.kept hg (Or.inr hvw), hne⟩
  · rw [List.map_append, List.nodup_append]
    refine ⟨h1.2.2.1, by simp, ?_⟩
    intro x hx y hy
    obtain ⟨p, hp, rfl⟩ := List.mem_map.1 hx
    simp only [List.map_cons, List.map_nil, List.mem_singleton] at hy
    rw [hy]
    exact (h3 p hp).symm
  · intro p hp
    have hold : ∀ k, p.1.ownBlock = some k → k < w.heap.size := by
      intro k hk
      rcases List.mem_append.1 hp with hp | hp
      · exact (World.ownsRow.lt (h1.2.1 p hp).1 k hk).2
      · obtain rfl : p = (vw, ws) := by simpa using hp
        exact (World.ownsRow.lt h2 k hk).2
    rcases hat with e | e
    · rw [e]
      rcases List.mem_append.1 hp with hp | hp
      · exact h1.2.2.2.1 p hp
      · obtain rfl : p = (vw, ws) := by simpa using hp
        exact hvw.symm
    · rw [e]
      intro e2
      have := hold _ e2.symm
      omega
  · intro p hp
    rcases List.mem_append.1 hp with hp | hp
    · obtain ⟨k, hk⟩ := (h1.2.1 p hp).1.block (h1.2.1 p hp).2
      rw [hk]; simp [Value.ownBlock]
    · obtain rfl : p = (vw, ws) := by simpa using hp
      show _ ≠ vw.ownBlock
      rw [hgb]; simp [Value.ownBlock]
  · exact h5.grown hg hs fun k hk => (World.ownsRow.lt h1.1 k hk).1
/-- What stays behind a call that writes new blocks alone. -/
def KeepP (K : World → Prop) : Prop := ∀ w w', K w → Below w.heap.size w w' → K w'
theorem KeepP.and {K M : World → Prop} (hk : KeepP K) (hm : KeepP M) : KeepP fun w => K w ∧ M w := fun _ _ h hb => ⟨hk _ _ h.1 hb, hm _ _ h.2 hb⟩
theorem KeepP.drew {K : World → Prop} (hk : KeepP K) {w : World} (h : K w) : K w.drew := hk _ _ h (Below.refl _ _).drew
theorem keepBelow (w : World) : KeepP fun w1 => Below w.heap.size w w1 := fun _ _ h hb => below_then h hb
def CellK (w : World) (g i : Nat) (v : Value) : Prop := w.cell? ⟨g, i, none⟩ = some v ∧ g < w.heap.size
theorem keepCell (g i : Nat) (v : Value) : KeepP fun w1 => CellK w1 g i v := fun _ _ h hb => ⟨(hb.cell (p := ⟨g, i, none⟩) h.2).trans h.1, Nat.lt_of_lt_of_le h.2 hb.size⟩
theorem keepWords (v : Value) (ws : List Bs) : KeepP fun w1 => WordsAt w1 v ws := fun _ _ h hb => h.below hb
theorem keepLines (v : Value) (L : List (List Bs)) : KeepP fun w1 => LinesAt w1 v L := fun _ _ h hb => h.below hb
theorem liftK {K : World → Prop} (hk : KeepP K) {P : Program} {f : Nat} {args : Array Value} {R : Ending} (h : ∀ w1, Calls P f args w1 fun e w' => e = R ∧ Below w1.heap.size w1 w') (w1 : World) (ok : K w1) :
    Calls P f args w1 fun e w' => e = R ∧ K w' := by
  refine (h w1).mono ?_
  rintro e w' ⟨rfl, hb⟩
  exact ⟨rfl, hk _ _ ok hb⟩
theorem liftK' {K : World → Prop} (hk : KeepP K) {P : Program} {f : Nat} {args : Array Value} {R : Ending} (h : ∀ w1, K w1 → Calls P f args w1 fun e w' => e = R ∧ Below w1.heap.size w1 w') (w1 : World) (ok : K w1) :
    Calls P f args w1 fun e w' => e = R ∧ K w' := by
  refine (h w1 ok).mono ?_
  rintro e w' ⟨rfl, hb⟩
  exact ⟨rfl, hk _ _ ok hb⟩
/-- A region that draws its order, whose operations read, and whose calls keep K: one walk in the order of the text serves. -/
theorem wp_region_keep {K : World → Prop} (hk : KeepP K) {P : Program} {id : Nat} {Q : Exit → Act → World → Prop} {a : Act} {w : World} {l : List Oper} (hm : P.follows .mixedOrders = true) (hB : Region.lexB .any l.toArray = true) (hC : K w)
    (h : ∀ C : World → Prop, (∀ w, K w → C w) → (∀ w, C w → K w) → wpQuiet P l.toArray C (fun a' => ∀ w', C w' → Q .normal a' w') l a) : (Code.region id l.toArray true).wp P Q a w :=
  wp_region_quiet (C := K) hm hB (hk.drew hC) (by simpa using h K (fun _ h => h) (fun _ h => h))
theorem callC {C K : World → Prop} (hin : ∀ w, K w → C w) (hout : ∀ w, C w → K w) (hk : KeepP K) {P : Program} {f : Nat} {args : Array Value} {v : Value} (h : ∀ w1, Calls P f args w1 fun e w' => e = .returned v ∧ Below w1.heap.size w1 w') (w1 : World) (hC : C w1) :
    Calls P f args w1 fun e w' => e = .returned v ∧ C w' := by
  refine (h w1).mono ?_
  rintro e w' ⟨rfl, hb⟩
  exact ⟨rfl, hin _ (hk _ _ (hout _ hC) hb)⟩
theorem callC' {C K : World → Prop} (hin : ∀ w, K w → C w) (hout : ∀ w, C w → K w) (hk : KeepP K) {P : Program} {f : Nat} {args : Array Value} {v : Value} (h : ∀ w1, K w1 → Calls P f args w1 fun e w' => e = .returned v ∧ Below w1.heap.size w1 w') (w1 : World) (hC : C w1) :
    Calls P f args w1 fun e w' => e = .returned v ∧ C w' := by
  refine (h w1 (hout _ hC)).mono ?_
  rintro e w' ⟨rfl, hb⟩
  exact ⟨rfl, hin _ (hk _ _ (hout _ hC) hb)⟩
end Go.Proofs.YtjpmlagofcgheaaGreatDoor.Sc
namespace Go.Proofs.YtjpmlagofcgheaaGreatDoor
open Go.RowKit
set_option maxRecDepth 100000

/-- Rows of different kinds share no block. -/
theorem own_apart {w : World} {B B' : Nat} {e e' : TypeId} {z z' : Nat} {v v' : Value} {n n' : Nat} {xs xs' : List Value} (h : w.ownsRow B e z v n xs) (h' : w.ownsRow B' e' z' v' n' xs') (hne : e ≠ e') : v.ownBlock = none ∨ v.ownBlock ≠ v'.ownBlock := by
  cases hv : v.ownBlock with
  | none => exact Or.inl rfl
  | some g => exact Or.inr fun e => own_ne h h' hne hv e.symm

theorem grown_pre {w w' w1 : World} {row : Option Nat} (hb : Below w.heap.size w w') (hg : w'.grownBy w1 row) : w.grownBy w1 row :=
  ⟨hg.os.trans hb.os, hg.tape.trans hb.tape, hg.output.trans hb.output, Nat.le_trans hb.size hg.size, fun k hk hn => (hg.block k (Nat.lt_of_lt_of_le hk hb.size) hn).trans (hb.block k hk)⟩

theorem below_grown {B : Nat} {w w1 : World} {own : Option Nat} (hg : w.grownBy w1 own) (h : ∀ g, own = some g → B ≤ g) (hB : B ≤ w.heap.size) : Below B w w1 := ⟨hg.os, hg.tape, hg.output, hg.size, fun k hk => hg.block k (by omega) (fun e => by have := h k e.symm; omega)⟩

/-- One thing is put behind a row of one's own, in a region that draws its order. -/
theorem step_own {B : Nat} {wx : World} {elt slt : TypeId} {z : Value} {sz bs n : Nat} {v : Value} {xs : List Value} {ops : Array Oper} {o : Oper} {f : Act} {K : Act → World → Prop} {Q : Exit → Act → World → Prop} {E : Prop}
    (hinfo : (Tryz.prog.info? elt).map (fun i => (i.zero, i.size, i.bytes)) = some (some z, sz, bs)) (hund : Tryz.prog.underlying slt = some (.slice elt)) (hzc : z.cells.size = sz) (hsz : 0 < sz) (hbs : bs ≤ 1000)
    (hgd : o.guard = none) (s t : Operand) (ho : o.op = .call { callee := .builtin .append, args := #[s, t], argTypes := #[slt, slt] }) (hs : f.eval s = v)
    (hown : wx.ownsRow B elt sz v n xs) (hB : B ≤ wx.heap.size) (cs : Array Value) (hcs : cs.size = sz) (hone : ∀ u ∈ cs.toList, u.oneCell' = true) {M : Nat} (hM : wx.heap.size = M) (hx : f.eval t = .slice (some ⟨M, 0, none⟩) 1 1) (hlen : n ≤ 1000000000)
    (h : ∀ v1 w1, w1.ownsRow B elt sz v1 (n + 1) (xs ++ cs.toList) → (wx.alloc (.cells cs elt)).grownBy w1 v.ownBlock → (v1.ownBlock = v.ownBlock ∨ v1.ownBlock = some (wx.heap.size + 1)) → K (f.put o.dst v1) w1) :
    if Region.wanted o (yielded ops f.tmps) = true then Oper.wp Tryz.prog o f (wx.alloc (.cells cs elt)) K Q else E := by
  have hw : Region.wanted o (yielded ops f.tmps) = true := by simp [Region.wanted, hgd]
  rw [if_pos hw]
  subst hM
  obtain ⟨i0, hi, hz0, hz1, hz2⟩ := Sc.info_parts hinfo
  have hsz1 : (wx.alloc (.cells cs elt)).heap.size = wx.heap.size + 1 := by simp
  have hbb : (n + 1) * bs ≤ 140737488355328 := by
    have := Nat.mul_le_mul (show n + 1 ≤ 1000000001 by omega) hbs
    omega
  obtain ⟨v1, w1, hr, hown1, hg1, _, hat⟩ := run_append_own_at (P := Tryz.prog) (wx.alloc (.cells cs elt)) B slt o.type elt i0 z sz bs hund hi hz0 hz1 hz2 hzc hsz v n xs (hown.alloc _) ⟨wx.heap.size, 0, none⟩ 1 1 cs.toList (by rw [Array.length_toList, hcs, Nat.one_mul])
    (World.news_of_block (cs := cs) (t := elt) (fr := (0, 0)) (by show (wx.heap.push _)[wx.heap.size]? = _; rw [Array.getElem?_push, if_pos rfl])) hone (by unfold maxLen; omega) hbb (by omega)
  unfold Oper.wp execOp
  simp only [ho, resolve, invoke, builtin, Sem.run_bind, Sem.run_pure, Result.andThen_ok, List.map_toArray, List.map_cons, List.map_nil, hs, hx, hr]
  exact h v1 w1 hown1 hg1 (by rw [hsz1] at hat; exact hat)

/-- Things are put behind a row of one's own, in a region that keeps its order. -/
theorem wp_ownN {B : Nat} {wx : World} {elt slt : TypeId} {z : Value} {sz bs n m c : Nat} {v : Value} {xs news : List Value} {ad : Addr} {ops : Array Oper} {rest : List Oper} {o : Oper} {f : Act} {Q : Exit → Act → World → Prop}
    (hinfo : (Tryz.prog.info? elt).map (fun i => (i.zero, i.size, i.bytes)) = some (some z, sz, bs)) (hund : Tryz.prog.underlying slt = some (.slice elt)) (hzc : z.cells.size = sz) (hsz : 0 < sz) (hbs : bs ≤ 1000)
    (hgd : o.guard = none) (s t : Operand) (ho : o.op = .call { callee := .builtin .append, args := #[s, t], argTypes := #[slt, slt] }) (hs : f.eval s = v)
    (hown : wx.ownsRow B elt sz v n xs) (hB : B ≤ wx.heap.size) (hx : f.eval t = .slice (some ad) m c) (hl : news.length = m * sz) (hnews : ∀ j u, news[j]? = some u → wx.cell? (ad.add j) = some u) (hone : ∀ u ∈ news, u.oneCell' = true) (hlen : n + m ≤ 1000000000)
    (h : ∀ v1 w1, w1.ownsRow B elt sz v1 (n + m) (xs ++ news) → wx.grownBy w1 v.ownBlock → (v1.ownBlock = v.ownBlock ∨ v1.ownBlock = some wx.heap.size) → wpList Tryz.prog ops Q rest (f.put o.dst v1) w1) :
    wpList Tryz.prog ops Q (o :: rest) f wx := by
  obtain ⟨i0, hi, hz0, hz1, hz2⟩ := Sc.info_parts hinfo
  have hbb : (n + m) * bs ≤ 140737488355328 := by
    have := Nat.mul_le_mul hlen hbs
    omega
  refine wpList_append_own_at _ hgd s t slt ho B elt i0 z sz bs hund hi hz0 hz1 hz2 hzc hsz v n xs hs hown ad m c news hx hl hnews hone (by unfold maxLen; omega) hbb hB ?_
  intro v1 w1 hown1 hg1 _ hat
  exact h v1 w1 hown1 hg1 hat
end Go.Proofs.YtjpmlagofcgheaaGreatDoor
namespace Go.Proofs.YtjpmlagofcgheaaGreatDoor
open Go.Shelf Go.RowKit Go.Lib Go.Sort
set_option maxRecDepth 100000
theorem flatMap_len {α : Type} (enc : α → List Value) (k : Nat) (hk : ∀ x, (enc x).length = k) (l : List α) : (l.flatMap enc).length = l.length * k := by
  induction l with
  | nil => simp
  | cons x t ih => rw [List.flatMap_cons, List.length_append, hk, ih, List.length_cons, Nat.succ_mul]; omega
variable {α : Type} [Inhabited α]

theorem flatMap_get (enc : α → List Value) (k : Nat) (hk : ∀ x, (enc x).length = k) : ∀ (l : List α) (i r : Nat), i < l.length → r < k → (l.flatMap enc)[i * k + r]? = (enc (l[i]!))[r]?
  | [], i, r, h, _ => by cases h
  | x :: t, 0, r, _, hr => by
    rw [List.flatMap_cons, List.getElem?_append_left (by rw [hk]; omega)]
    simp
  | x :: t, i + 1, r, h, hr => by
    rw [List.flatMap_cons, List.getElem?_append_right (by rw [hk, Nat.succ_mul]; omega), hk]
    have e : (i + 1) * k + r - k = i * k + r := by rw [Nat.succ_mul]; omega
    rw [e, flatMap_get enc k hk t i r (by simpa using h) hr]
    simp
theorem flat_gen (enc : α → List Value) (k : Nat) (hk : ∀ x, (enc x).length = k) (hk0 : 0 < k) (d : Array α) : (flatK enc k d).toList = d.toList.flatMap enc := by
  apply List.ext_getElem?
  intro t
  by_cases ht : t < d.size * k
  · have hq : t / k < d.toList.length := by rw [Array.length_toList]; exact (Nat.div_lt_iff_lt_mul hk0).2 ht
    have hr := Nat.mod_lt t hk0
    have hf : (flatK enc k d).toList[t]? = some ((enc d[t / k]!)[t % k]!) := by
      rw [Array.getElem?_toList]
      have : (flatK enc k d)[t]! = (enc d[t / k]!)[t % k]! := get_flatK _ _ _ _ ht
      rw [← this, getElem!_pos _ t (by simpa using ht)]
      exact Array.getElem?_eq_getElem (by simpa using ht)
    have hg := flatMap_get enc k hk d.toList (t / k) (t % k) hq hr
    rw [Nat.mul_comm, Nat.div_add_mod] at hg
    have hd : d.toList[t / k]! = d[t / k]! := by rw [getElem!_pos d (t / k) (by simpa using hq), getElem!_pos d.toList (t / k) hq]; simp
    rw [hf, hg, hd, List.getElem?_eq_getElem (by rw [hk]; exact hr), getElem!_pos _ (t % k) (by rw [hk]; exact hr)]
  · rw [List.getElem?_eq_none (by simp; omega), List.getElem?_eq_none (by rw [flatMap_len enc k hk]; simp; omega)]

theorem holds_gen (enc : α → List Value) (k : Nat) (hk : ∀ x, (enc x).length = k) (hk0 : 0 < k) {w : World} {g : Nat} {cur : Array Value} {e : TypeId} {fs : List α} (hb : w.heap[g]? = some (.cells cur e (0, 0))) (ht : cur.toList.take (fs.length * k) = fs.flatMap enc) : HoldsK enc k w g 0 fs.toArray := by
  intro j hj
  have hj' : j < fs.length * k := by simpa using hj
  refine ⟨?_, by simp [World.frozen?, hb]⟩
  have h1 : (cur.toList.take (fs.length * k))[j]? = (fs.flatMap enc)[j]? := by rw [ht]
  rw [List.getElem?_take_of_lt hj'] at h1
  simp only [World.cell?, hb, Nat.zero_add]
  simp only [Option.isSome_none, Bool.false_eq_true, if_false]
  rw [← Array.getElem?_toList, h1]
  have e := flat_gen enc k hk hk0 fs.toArray
  rw [List.toList_toArray] at e
  rw [← e, Array.getElem?_toList, getElem!_pos _ j hj]
  exact Array.getElem?_eq_getElem hj

theorem heap_gen (enc : α → List Value) (k : Nat) {w : World} {g n : Nat} {os : Array Obj} {cur : Array Value} {e : TypeId} {fr : Nat × Nat} (d : Array α) (hb : w.heap[g]? = some (.cells cur e fr)) :
    (sortWorldK enc k w g 0 n d os).heap[g]? = some (.cells (putCells id 0 (flatK enc k d) cur) e fr) := by
  have hg : g < w.heap.size := (Array.getElem?_eq_some_iff.1 hb).1
  unfold sortWorldK putRowK
  rw [heap_grow_old _ _ (by simpa using hg)]
  simp [putRow, mapBlock, Sort.ahead, Array.getElem?_modify, hb, onCells]
theorem grown_gen (enc : α → List Value) (k : Nat) {w : World} {g n : Nat} {os : Array Obj} (d : Array α) : w.grownBy (sortWorldK enc k w g 0 n d os) (some g) := by
  unfold sortWorldK putRowK
  refine ⟨rfl, rfl, rfl, by simp, fun j hj hne => ?_⟩
  rw [heap_grow_old _ _ (by simpa using hj)]
  have : g ≠ j := fun e => hne (by rw [e])
  simp [putRow, mapBlock, Sort.ahead, Array.getElem?_modify, this]
theorem take_put (cur : Array Value) (F : Array Value) (h : F.size ≤ cur.size) : (putCells id 0 F cur).toList.take F.size = F.toList := by
  apply List.ext_getElem?
  intro j
  by_cases hj : j < F.size
  · rw [List.getElem?_take_of_lt hj, Array.getElem?_toList, Array.getElem?_toList]
    simp [putCells, hj, show j < cur.size by omega]
  · rw [List.getElem?_take_eq_none (by omega), List.getElem?_eq_none (by simp; omega)]
theorem perm_list {d d' : Array α} (h : PermIn 0 d.size d d') : d'.toList.Perm d.toList := by
  obtain ⟨hsz, _, hperm⟩ := h
  have e1 : d'.extract 0 d.size = d' := by rw [← hsz]; exact Array.extract_size
  rw [e1, Array.extract_size] at hperm
  exact hperm
theorem sorted_list {lt : α → α → Bool} {d d' : Array α} (h : PermIn 0 d.size d d') (hS : SortedIn lt 0 d.size d') : d'.toList.Pairwise fun x y => lt y x = false := by
  have hsz := h.1
  rw [List.pairwise_iff_getElem]
  intro i j hi hj hij
  have hi' : i < d'.size := by simpa using hi
  have hj' : j < d'.size := by simpa using hj
  have := hS i j (Nat.zero_le _) hij (by omega)
  rw [getElem!_pos d' j hj', getElem!_pos d' i hi'] at this
  simpa using this
/-- Sorting a row of one's own by a function that may read what lies elsewhere. -/
theorem sort_mem {ρ : Ren} (L : SlLaysF0.n6 Tryz.prog ρ) (k : Nat) (hk0 : 0 < k) (aE : ∀ w, (isAgg (ρ.t 24)).run Tryz.prog w = .ok true w) (zE : ∀ w, (Go.sizeOf (ρ.t 24)).run Tryz.prog w = .ok k w) (enc : α → List Value) (hk : ∀ x, (enc x).length = k) (h1 : ∀ x, ∀ v ∈ enc x, v.oneCell' = true) (cf : α → α → Int) (hO : SWO (ltOf cf)) (g : Nat) (cb : Array Value)
    (eg : ∀ args w, (callFunc g args).run Tryz.prog w = .ok (.enter g args) w)
    {w : World} {base : Nat} {T : TypeId} {v : Value} {fs : List α} (hown : w.ownsRow base T k v fs.length (fs.flatMap enc)) (hz : fs.length < 4611686018427387904)
    (hcmp : ∀ W, w.grownBy W v.ownBlock → ∀ (x y : α), Calls Tryz.prog g (#[.agg (enc x).toArray, .agg (enc y).toArray] ++ cb) W fun e w' => e = .returned (.int .i64 (cf x y)) ∧ ∃ q os', w' = grow (W.drewN q) os') :
    Calls Tryz.prog (ρ.f 6) #[v, .func (.func g) #[] cb] w fun e w' => e = .returned (.tuple #[]) ∧ ∃ ts : List α, ts.Perm fs ∧ (ts.Pairwise fun x y => ltOf cf y x = false) ∧ w'.ownsRow base T k v ts.length (ts.flatMap enc) ∧ w.grownBy w' v.ownBlock := by
  rcases hown.2 with ⟨hv, hn⟩ | ⟨b, cap, cur, hv, hB, hgg, hc1, hc2, hc3, hc4⟩
  · obtain rfl : fs = [] := List.length_eq_zero_iff.1 hn
    subst hv
    refine (AnyF.slices_SortFunc_none L none 0 (.func (.func g) #[] cb) w).mono ?_
    rintro e w' ⟨rfl, rfl⟩
    exact ⟨rfl, [], List.Perm.refl _, List.Pairwise.nil, hown, ⟨rfl, rfl, rfl, Nat.le_refl _, fun _ _ _ => rfl⟩⟩
  · subst hv
    have hH := holds_gen enc k hk hk0 hgg hc4
    have hcon := AnyQ.slices_SortFunc L k aE zE enc hk h1 cf hO g cb b 0 cap fs.toArray w eg (fun m os dk _ x y => hcmp _ (grown_gen enc k dk) x y) hH (Array.getElem?_eq_some_iff.1 hgg).1 (by simp; omega)
    simp only [List.size_toArray] at hcon
    refine hcon.mono ?_
    rintro e w' ⟨rfl, d', n, os, hp, hs, rfl⟩
    have hp' : PermIn 0 fs.toArray.size fs.toArray d' := by simpa using hp
    have hs' : SortedIn (ltOf cf) 0 fs.toArray.size d' := by simpa using hs
    have hpl := perm_list hp'
    rw [List.toList_toArray] at hpl
    refine ⟨rfl, d'.toList, hpl, sorted_list hp' hs', ⟨by rw [flatMap_len enc k hk], .inr ⟨b, cap, _, by rw [hpl.length_eq], hB, heap_gen enc k d' hgg, by rw [hpl.length_eq]; exact hc1, hc2, by simp [putCells, hc3], ?_⟩⟩, grown_gen enc k d'⟩
    have e := flat_gen enc k hk hk0 d'
    have hsz : (flatK enc k d').size = d'.toList.length * k := by simp
    rw [← hsz, take_put cur _ (by rw [hsz, hc3, hpl.length_eq]; exact Nat.mul_le_mul_right k hc1), e]

/-- Sorting a row of one's own. -/
theorem sort_own {ρ : Ren} (L : SlLaysF0.n6 Tryz.prog ρ) (k : Nat) (hk0 : 0 < k) (aE : ∀ w, (isAgg (ρ.t 24)).run Tryz.prog w = .ok true w) (zE : ∀ w, (Go.sizeOf (ρ.t 24)).run Tryz.prog w = .ok k w) (enc : α → List Value) (hk : ∀ x, (enc x).length = k) (h1 : ∀ x, ∀ v ∈ enc x, v.oneCell' = true) (cf : α → α → Int) (hO : SWO (ltOf cf)) (g : Nat)
    (eg : ∀ args w, (callFunc g args).run Tryz.prog w = .ok (.enter g args) w) (hcmp : ∀ (x y : α) (W : World), Calls Tryz.prog g #[.agg (enc x).toArray, .agg (enc y).toArray] W fun e w' => e = .returned (.int .i64 (cf x y)) ∧ ∃ q os', w' = grow (W.drewN q) os')
    {w : World} {base : Nat} {T : TypeId} {v : Value} {fs : List α} (hown : w.ownsRow base T k v fs.length (fs.flatMap enc)) (hz : fs.length < 4611686018427387904) :
    Calls Tryz.prog (ρ.f 6) #[v, .func (.func g) #[] #[]] w fun e w' => e = .returned (.tuple #[]) ∧ ∃ ts : List α, ts.Perm fs ∧ (ts.Pairwise fun x y => ltOf cf y x = false) ∧ w'.ownsRow base T k v ts.length (ts.flatMap enc) ∧ w.grownBy w' v.ownBlock := by
  rcases hown.2 with ⟨hv, hn⟩ | ⟨b, cap, cur, hv, hB, hgg, hc1, hc2, hc3, hc4⟩
  · obtain rfl : fs = [] := List.length_eq_zero_iff.1 hn
    subst hv
    refine (AnyF.slices_SortFunc_none L none 0 (.func (.func g) #[] #[]) w).mono ?_
    rintro e w' ⟨rfl, rfl⟩
    exact ⟨rfl, [], List.Perm.refl _, List.Pairwise.nil, hown, ⟨rfl, rfl, rfl, Nat.le_refl _, fun _ _ _ => rfl⟩⟩
  · subst hv
    have hH := holds_gen enc k hk hk0 hgg hc4
    have hcon := AnyQ.slices_SortFunc L k aE zE enc hk h1 cf hO g #[] b 0 cap fs.toArray w eg (fun m os dk _ x y => by simpa using hcmp x y _) hH (Array.getElem?_eq_some_iff.1 hgg).1 (by simp; omega)
    simp only [List.size_toArray] at hcon
    refine hcon.mono ?_
    rintro e w' ⟨rfl, d', n, os, hp, hs, rfl⟩
    have hp' : PermIn 0 fs.toArray.size fs.toArray d' := by simpa using hp
    have hs' : SortedIn (ltOf cf) 0 fs.toArray.size d' := by simpa using hs
    have hpl := perm_list hp'
    rw [List.toList_toArray] at hpl
    refine ⟨rfl, d'.toList, hpl, sorted_list hp' hs', ⟨by rw [flatMap_len enc k hk], .inr ⟨b, cap, _, by rw [hpl.length_eq], hB, heap_gen enc k d' hgg, by rw [hpl.length_eq]; exact hc1, hc2, by simp [putCells, hc3], ?_⟩⟩, grown_gen enc k d'⟩
    have e := flat_gen enc k hk hk0 d'
    have hsz : (flatK enc k d').size = d'.toList.length * k := by simp
    rw [← hsz, take_put cur _ (by rw [hsz, hc3, hpl.length_eq]; exact Nat.mul_le_mul_right k hc1), e]
end Go.Proofs.YtjpmlagofcgheaaGreatDoor
