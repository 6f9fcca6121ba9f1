/- The document's Parse in plain words: a text gone through byte by byte. -/
import Derived.Test.YtkmgfemhfibikaaGreatDoorParse3
namespace Go.Proofs.YtkmgfemhfibikaaGreatDoor
set_option maxRecDepth 100000

/-- One byte more: the parts that are done, and the one under way. -/
def stepR (q : List Int × Int) (b : UInt8) : Option (List Int × Int) :=
  if b.toNat = 46 then some (q.1 ++ [q.2], 0) else if 48 ≤ b.toNat ∧ b.toNat ≤ 57 ∧ q.2 ≤ 999 then some (q.1, 10 * q.2 + ((b.toNat : Int) - 48)) else none
def foldR : List UInt8 → List Int × Int → Option (List Int × Int)
  | [], q => some q
  | b :: l, q => (stepR q b).bind (foldR l)

theorem fold_append (l1 l2 : List UInt8) (q : List Int × Int) : foldR (l1 ++ l2) q = (foldR l1 q).bind (foldR l2) := by
  induction l1 generalizing q with
  | nil => rfl
  | cons b l ih =>
    simp only [List.cons_append, foldR]
    cases stepR q b with
    | none => rfl
    | some r => exact ih r
theorem fold_snoc (l : List UInt8) (b : UInt8) (q : List Int × Int) : foldR (l ++ [b]) q = (foldR l q).bind (stepR · b) := by
  rw [fold_append]
  cases foldR l q with
  | none => rfl
  | some r =>
    simp only [Option.bind_some, foldR]
    cases stepR r b <;> rfl

theorem fold_dec (pre : List Int) (u : Nat) (h : u ≤ 9999) : foldR (Lib.decDigits u) (pre, 0) = some (pre, (u : Int)) := by
  induction u using Nat.strongRecOn with
  | _ u ih =>
    rw [Lib.decDigits]
    split
    · rename_i h1
      have e := digit_nat h1
      simp only [foldR, stepR]
      rw [e, if_neg (by omega), if_pos (by omega)]
      simp
      omega
    · rename_i h1
      have e := digit_nat (k := u % 10) (by omega)
      rw [fold_snoc, ih (u / 10) (by omega) (by omega)]
      simp only [Option.bind_some, stepR]
      rw [e, if_neg (by omega), if_pos (by omega)]
      congr 2
      omega
theorem fold_itoa (pre : List Int) {n : Int} (h0 : 0 ≤ n) (h1 : n ≤ 999) : foldR (Lib.itoa n) (pre, 0) = some (pre, n) := by
  rw [itoa_of h0, fold_dec pre n.toNat (by omega)]
  congr 2
  omega
theorem fold_dot (r : List UInt8) (q : List Int × Int) : foldR (46 :: r) q = foldR r (q.1 ++ [q.2], 0) := by
  show (stepR q 46).bind (foldR r) = _
  have : stepR q 46 = some (q.1 ++ [q.2], 0) := by unfold stepR; rw [if_pos (by decide)]
  rw [this]; rfl
theorem fold_text {a b c : Int} (h : mayV a b c = true) : foldR (textV a b c).data.toList ([], 0) = some ([a, b], c) := by
  obtain ⟨a0, a1, b0, b1, c0, c1⟩ := may_all h
  rw [text_list h, fold_append, fold_itoa [] a0 a1]
  simp only [Option.bind_some]
  rw [fold_dot, fold_append]
  simp only [List.nil_append]
  rw [fold_itoa [a] b0 b1]
  simp only [Option.bind_some]
  rw [fold_dot]
  simp only [List.cons_append, List.nil_append]
  exact fold_itoa [a, b] c0 c1

theorem fold_ok {s : ByteArray} (h : okP s = true) : foldR s.data.toList ([], 0) = some ([resA s, resB s], resC s) := by
  obtain ⟨hm, he⟩ := okP_text h
  have := fold_text hm
  rw [← he] at this
  exact this

theorem take_more (s : ByteArray) (k : Nat) (hk : k < s.size) : s.data.toList.take (k + 1) = s.data.toList.take k ++ [s[k]] :=
  List.take_succ_eq_append_getElem (by rw [list_size]; exact hk)

/-- A byte that doesn't serve: the text is no version's. -/
theorem fold_bad {s : ByteArray} {k : Nat} (hk : k < s.size) {q : List Int × Int} (h : foldR (s.data.toList.take k) ([], 0) = some q) (hb : stepR q s[k] = none) : okP s = false := by
  rw [Bool.eq_false_iff]
  intro ho
  have h1 := fold_ok ho
  rw [← List.take_append_drop (k + 1) s.data.toList, fold_append, take_more s k hk, fold_snoc, h] at h1
  simp only [Option.bind_some, hb, Option.bind_none] at h1
  cases h1
theorem fold_more {s : ByteArray} {k : Nat} (hk : k < s.size) {q r : List Int × Int} (h : foldR (s.data.toList.take k) ([], 0) = some q) (hb : stepR q s[k] = some r) : foldR (s.data.toList.take (k + 1)) ([], 0) = some r := by
  rw [take_more s k hk, fold_snoc, h]
  exact hb
theorem fold_end {s : ByteArray} {k : Nat} (hk : s.size ≤ k) : s.data.toList.take k = s.data.toList := List.take_of_length_le (by rw [list_size]; exact hk)

/-- What was read prints as the text: that version. -/
theorem fold_right {s : ByteArray} {x y z : Int} (hne : s ≠ ByteArray.empty) (ht : textV x y z = s) : okP s = true ∧ resA s = x ∧ resB s = y ∧ resC s = z := by
  have hm : mayV x y z = true := by
    rw [← Bool.not_eq_false]
    intro h
    apply hne
    rw [← ht]
    unfold textV
    rw [h]; rfl
  have := okP_of hm
  rw [ht] at this
  exact this
theorem fold_wrong {s : ByteArray} {x y z : Int} (h : foldR s.data.toList ([], 0) = some ([x, y], z)) (ht : textV x y z ≠ s) : okP s = false := by
  rw [Bool.eq_false_iff]
  intro ho
  have h1 := fold_ok ho
  rw [h] at h1
  simp only [Option.some.injEq, Prod.mk.injEq, List.cons.injEq, and_true] at h1
  obtain ⟨⟨rfl, rfl⟩, rfl⟩ := h1
  exact ht (okP_text ho).2.symm
theorem fold_few {s : ByteArray} {pre : List Int} {z : Int} (h : foldR s.data.toList ([], 0) = some (pre, z)) (hl : pre.length ≠ 2) : okP s = false := by
  rw [Bool.eq_false_iff]
  intro ho
  have h1 := fold_ok ho
  rw [h] at h1
  simp only [Option.some.injEq, Prod.mk.injEq] at h1
  rw [h1.1] at hl
  exact hl rfl
theorem res_no {s : ByteArray} (h : okP s = false) : resA s = 0 ∧ resB s = 0 ∧ resC s = 0 := by
  unfold resA resB resC; rw [h]; exact ⟨rfl, rfl, rfl⟩
end Go.Proofs.YtkmgfemhfibikaaGreatDoor
