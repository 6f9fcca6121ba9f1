/- Parse of package vers of any text: a version and true just where the text is that version's. -/
import Derived.Test.YtkmgfemhfibikaaGreatDoorParse2
namespace Go.Proofs.YtkmgfemhfibikaaGreatDoor
open Go.RowKit
set_option maxRecDepth 100000

def pA (l : List UInt8) : Int := numV (Lib.cut l [46]).1
def pB (l : List UInt8) : Int := numV (Lib.cut (Lib.cut l [46]).2.1 [46]).1
def pC (l : List UInt8) : Int := numV (Lib.cut (Lib.cut l [46]).2.1 [46]).2.1
/-- Is a text a version's? -/
def okP (s : ByteArray) : Bool := mayV (pA s.data.toList) (pB s.data.toList) (pC s.data.toList) && decide (textV (pA s.data.toList) (pB s.data.toList) (pC s.data.toList) = s)
def resA (s : ByteArray) : Int := if okP s then pA s.data.toList else 0
def resB (s : ByteArray) : Int := if okP s then pB s.data.toList else 0
def resC (s : ByteArray) : Int := if okP s then pC s.data.toList else 0

theorem cut_le (l sep : List UInt8) : (Lib.cut l sep).1.length ≤ l.length ∧ (Lib.cut l sep).2.1.length ≤ l.length := by
  unfold Lib.cut
  split
  · simp; omega
  · simp

theorem bytes_list (l : List UInt8) : (⟨l.toArray⟩ : ByteArray).data.toList = l := by simp
theorem bytes_size (l : List UInt8) : (⟨l.toArray⟩ : ByteArray).size = l.length := by show l.toArray.size = _; simp
theorem list_size (s : ByteArray) : s.data.toList.length = s.size := rfl

theorem Cut_on {W : World} (he : Env W) (s : ByteArray) (hs : s.size < 4294967281) (w1 : World) (hb : Below W.heap.size W w1) :
    Calls Tryz.prog 86 #[.string s, .string ⟨#[46]⟩] w1 fun e w' => e = .returned (.tuple #[.string ⟨(Lib.cut s.data.toList [46]).1.toArray⟩, .string ⟨(Lib.cut s.data.toList [46]).2.1.toArray⟩, .bool (Lib.cut s.data.toList [46]).2.2]) ∧ Below w1.heap.size w1 w' := by
  obtain ⟨m, hm⟩ := (he.below hb).max
  refine (Tryz.strings_Cut s ⟨#[46]⟩ m w1 hs hm).mono ?_
  rintro e w' ⟨rfl, n, rfl⟩
  exact ⟨rfl, below_draws (Below.refl _ _) n⟩

theorem bytes_same {s t : ByteArray} (h : s.toList = t.toList) : s = t := by
  rw [ByteArray.toList_eq, ByteArray.toList_eq] at h
  cases s; cases t
  simp only [ByteArray.mk.injEq]
  exact Array.toList_inj.1 h

theorem Parse_any (s : ByteArray) (hs : s.size < 4294967281) (w : World) (he : Env w) :
    Calls Tryz.prog 67 #[.string s] w fun e w' => e = .returned (.tuple #[.agg #[.int .i64 (resA s), .int .i64 (resB s), .int .i64 (resC s)], .bool (okP s)]) ∧ Below w.heap.size w w' := by
  have hl := list_size s
  have l1 := cut_le s.data.toList [46]
  have l2 := cut_le (Lib.cut s.data.toList [46]).2.1 [46]
  have HC := Cut_on he s hs
  have HD := Cut_on he ⟨(Lib.cut s.data.toList [46]).2.1.toArray⟩ (by rw [bytes_size]; omega)
  have HX := fun w1 hb => number_any ⟨(Lib.cut s.data.toList [46]).1.toArray⟩ (by rw [bytes_size]; omega) w1 (he.below hb)
  have HY := fun w1 hb => number_any ⟨(Lib.cut (Lib.cut s.data.toList [46]).2.1 [46]).1.toArray⟩ (by rw [bytes_size]; omega) w1 (he.below hb)
  have HZ := fun w1 hb => number_any ⟨(Lib.cut (Lib.cut s.data.toList [46]).2.1 [46]).2.1.toArray⟩ (by rw [bytes_size]; omega) w1 (he.below hb)
  rw [bytes_list] at HD HX HY HZ
  have HM := fun w1 (_ : Below w.heap.size w w1) => May_any (pA s.data.toList) (pB s.data.toList) (pC s.data.toList) w1
  have HP := fun w1 hb => print_on he.tab (pA s.data.toList) (pB s.data.toList) (pC s.data.toList) w1 hb
  cases hm : mayV (pA s.data.toList) (pB s.data.toList) (pC s.data.toList)
  · have ho : okP s = false := by unfold okP; rw [hm]; rfl
    unfold resA resB resC
    rw [ho]
    rw [hm] at HM
    exact Parse_no s _ _ _ _ _ _ _ _ _ w HC HD HX HY HZ HM
  · rw [hm] at HM
    by_cases ht : textV (pA s.data.toList) (pB s.data.toList) (pC s.data.toList) = s
    · have ho : okP s = true := by unfold okP; rw [hm, decide_eq_true ht]; rfl
      unfold resA resB resC
      rw [ho]
      rw [ht] at HP
      exact Parse_ok s _ _ _ _ _ _ _ _ _ w HC HD HX HY HZ HM HP
    · have ho : okP s = false := by unfold okP; rw [hm, decide_eq_false ht]; rfl
      unfold resA resB resC
      rw [ho]
      exact Parse_other s _ _ _ _ _ _ _ _ _ _ w (fun e => ht (bytes_same e)) HC HD HX HY HZ HM HP

/-- What is told is a version's text. -/
theorem okP_text {s : ByteArray} (h : okP s = true) : mayV (resA s) (resB s) (resC s) = true ∧ s = textV (resA s) (resB s) (resC s) := by
  unfold resA resB resC
  rw [h]
  unfold okP at h
  simp only [Bool.and_eq_true, decide_eq_true_eq] at h
  exact ⟨h.1, h.2.symm⟩

theorem cut_dot (l r : List UInt8) (h : (46 : UInt8) ∉ l) : Lib.cut (l ++ 46 :: r) [46] = (l, r, true) := by
  have hi : Lib.index (l ++ 46 :: r) [46] = l.length := by
    refine Lib.index_first (by simp) (by simp [Lib.occAt]) ?_
    intro j hj
    unfold Lib.occAt
    rw [List.drop_append_of_le_length (by omega)]
    have hd : l.drop j = l[j] :: l.drop (j + 1) := List.drop_eq_getElem_cons hj
    rw [hd]
    simp only [List.cons_append, List.isPrefixOf, Bool.and_true]
    rw [beq_eq_false_iff_ne]
    intro e
    exact h (by rw [e]; exact List.getElem_mem hj)
  unfold Lib.cut
  rw [hi, if_pos (by omega)]
  simp

theorem dec_from (l : List UInt8) (h : ∀ d ∈ l, 48 ≤ d.toNat ∧ d.toNat ≤ 57) (acc : Nat) : Lib.decFrom acc l = some (l.foldl (fun n d => n * 10 + (d.toNat - 48)) acc) := by
  induction l generalizing acc with
  | nil => rfl
  | cons d l ih =>
    have hd := h d (List.mem_cons_self)
    unfold Lib.decFrom
    have : Lib.digitVal d = some (d.toNat - 48) := by
      unfold Lib.digitVal; simp; omega
    rw [this]
    simp only [List.foldl_cons]
    exact ih (fun x hx => h x (List.mem_cons_of_mem _ hx)) _

/-- The numeral of a part is read as that part. -/
theorem num_itoa {n : Int} (h0 : 0 ≤ n) (h1 : n ≤ 999) : numV (Lib.itoa n) = n := by
  have e := itoa_of h0
  have hl : (Lib.itoa n).length ≤ 3 := by have := itoa_three h0 h1; rw [bytes_size] at this; exact this
  have hd := dec_digits n.toNat
  have hv := val_dec n.toNat
  have ha : Lib.atoi (Lib.itoa n) = some n := by
    rw [e]
    cases hc : Lib.decDigits n.toNat with
    | nil => exact absurd hc (dec_ne _)
    | cons b r =>
      rw [hc] at hd hv
      have hb := hd b (List.mem_cons_self)
      have n45 : (b == 45) = false := by rw [beq_eq_false_iff_ne]; rintro rfl; revert hb; decide
      have n43 : (b == 43) = false := by rw [beq_eq_false_iff_ne]; rintro rfl; revert hb; decide
      unfold Lib.atoi
      simp only [n45, n43, Bool.false_eq_true, if_false]
      unfold Lib.decNat
      simp only [List.isEmpty_cons, Bool.false_eq_true, if_false]
      rw [dec_from _ hd]
      unfold valOf at hv
      rw [hv]
      simp
      omega
  unfold numV
  rw [Lib.atoiAll_short _ (by omega), ha]
  rfl

theorem parts_text {a b c : Int} (h : mayV a b c = true) : pA (textV a b c).data.toList = a ∧ pB (textV a b c).data.toList = b ∧ pC (textV a b c).data.toList = c := by
  obtain ⟨a0, a1, b0, b1, c0, c1⟩ := may_all h
  unfold pA pB pC
  rw [text_list h, cut_dot _ _ (no_dot a0)]
  simp only
  rw [cut_dot _ _ (no_dot b0)]
  exact ⟨num_itoa a0 a1, num_itoa b0 b1, num_itoa c0 c1⟩

/-- A version's text is told, as that version. -/
theorem okP_of {a b c : Int} (h : mayV a b c = true) : okP (textV a b c) = true ∧ resA (textV a b c) = a ∧ resB (textV a b c) = b ∧ resC (textV a b c) = c := by
  obtain ⟨e1, e2, e3⟩ := parts_text h
  have ho : okP (textV a b c) = true := by
    unfold okP
    rw [e1, e2, e3, h]
    simp
  unfold resA resB resC
  rw [ho]
  exact ⟨rfl, e1, e2, e3⟩

theorem okP_empty : okP ByteArray.empty = false := by
  rw [Bool.eq_false_iff]
  intro h
  obtain ⟨hm, he⟩ := okP_text h
  have := congrArg (fun s : ByteArray => s.data.toList) he
  simp only [text_list hm] at this
  have h2 := congrArg List.length this
  simp at h2
end Go.Proofs.YtkmgfemhfibikaaGreatDoor
