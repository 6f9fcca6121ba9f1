/- Plain facts on numerals and on the texts of versions: a text tells its version. -/
import Derived.Test.YtkmgfemhfibikaaGreatDoorFacts1
namespace Go.Proofs.YtkmgfemhfibikaaGreatDoor
set_option maxRecDepth 100000

/-- The number that a row of digits spells. -/
def valOf (l : List UInt8) : Nat := l.foldl (fun n d => n * 10 + (d.toNat - 48)) 0

theorem val_snoc (l : List UInt8) (d : UInt8) : valOf (l ++ [d]) = valOf l * 10 + (d.toNat - 48) := by simp [valOf]

theorem digit_nat {k : Nat} (h : k < 10) : (UInt8.ofNat (48 + k)).toNat = 48 + k := by
  rw [UInt8.toNat_ofNat']; omega

theorem val_dec (u : Nat) : valOf (Lib.decDigits u) = u := by
  induction u using Nat.strongRecOn with
  | _ u ih =>
    rw [Lib.decDigits]
    split
    · rename_i h
      have := digit_nat h
      simp [valOf]; omega
    · rename_i h
      rw [val_snoc, ih (u / 10) (by omega)]
      have := digit_nat (k := u % 10) (by omega)
      omega

theorem dec_digits (u : Nat) : ∀ d ∈ Lib.decDigits u, 48 ≤ d.toNat ∧ d.toNat ≤ 57 := by
  induction u using Nat.strongRecOn with
  | _ u ih =>
    rw [Lib.decDigits]
    split
    · rename_i h
      intro d hd
      have := digit_nat h
      rw [List.mem_singleton] at hd; subst hd; omega
    · rename_i h
      intro d hd
      rcases List.mem_append.1 hd with h1 | h1
      · exact ih (u / 10) (by omega) d h1
      · have := digit_nat (k := u % 10) (by omega)
        rw [List.mem_singleton] at h1; subst h1; omega

theorem dec_ne (u : Nat) : Lib.decDigits u ≠ [] := by
  rw [Lib.decDigits]; split <;> simp

theorem itoa_of {n : Int} (h : 0 ≤ n) : Lib.itoa n = Lib.decDigits n.toNat := by
  obtain ⟨u, rfl⟩ : ∃ u : Nat, n = u := ⟨n.toNat, by omega⟩
  rw [Lib.itoa_nonneg]; rfl

theorem no_dot {n : Int} (h : 0 ≤ n) : (46 : UInt8) ∉ Lib.itoa n := by
  rw [itoa_of h]
  intro hd
  have := (dec_digits _ _ hd).1
  revert this; decide

theorem itoa_inj {m n : Int} (hm : 0 ≤ m) (hn : 0 ≤ n) (h : Lib.itoa m = Lib.itoa n) : m = n := by
  rw [itoa_of hm, itoa_of hn] at h
  have := congrArg valOf h
  rw [val_dec, val_dec] at this
  omega

theorem split_dot {l1 l2 r1 r2 : List UInt8} (h1 : (46 : UInt8) ∉ l1) (h2 : (46 : UInt8) ∉ l2) (h : l1 ++ 46 :: r1 = l2 ++ 46 :: r2) : l1 = l2 ∧ r1 = r2 := by
  induction l1 generalizing l2 with
  | nil =>
    cases l2 with
    | nil => simp at h; exact ⟨rfl, h⟩
    | cons x l2 => simp at h; exact absurd (by rw [h.1]; simp) h2
  | cons y l1 ih =>
    cases l2 with
    | nil => simp at h; exact absurd (by rw [h.1]; simp) h1
    | cons x l2 =>
      simp at h
      obtain ⟨e1, e2⟩ := ih (fun m => h1 (List.mem_cons_of_mem _ m)) (fun m => h2 (List.mem_cons_of_mem _ m)) h.2
      exact ⟨by rw [h.1, e1], e2⟩

theorem text_list {a b c : Int} (h : mayV a b c = true) : (textV a b c).data.toList = Lib.itoa a ++ 46 :: (Lib.itoa b ++ 46 :: Lib.itoa c) := by
  unfold textV; rw [if_pos h]
  simp [ByteArray.data_append]

theorem text_inj {a b c x y z : Int} (h : mayV a b c = true) (k : mayV x y z = true) : textV a b c = textV x y z ↔ a = x ∧ b = y ∧ c = z := by
  constructor
  · intro e
    have e1 := congrArg (fun s : ByteArray => s.data.toList) e
    simp only [text_list h, text_list k] at e1
    obtain ⟨a0, _, b0, _, c0, _⟩ := may_all h
    obtain ⟨x0, _, y0, _, z0, _⟩ := may_all k
    obtain ⟨f1, f2⟩ := split_dot (no_dot a0) (no_dot x0) e1
    obtain ⟨f3, f4⟩ := split_dot (no_dot b0) (no_dot y0) f2
    exact ⟨itoa_inj a0 x0 f1, itoa_inj b0 y0 f3, itoa_inj c0 z0 f4⟩
  · rintro ⟨rfl, rfl, rfl⟩; rfl
end Go.Proofs.YtkmgfemhfibikaaGreatDoor
