/- Numbers in plain words: decimal digits without noughts ahead. No condition. -/
import Derived.Test.YtiahoaneinojgaaDoorPl1
import Derived.Lib.AtoiAllCases
import Derived.Lib.ItoaMem
namespace Go.Proofs.YtiahoaneinojgaaDoor.Sc
set_option maxRecDepth 100000

def dgP (d : UInt8) : Prop := 48 ≤ d.toNat ∧ d.toNat ≤ 57
/-- The document's way: digit by digit, with the greatest number in sight. -/
def fitN (n d : Nat) : Bool := decide (n ≤ (9223372036854775807 - d) / 10)
theorem fitN_iff (n d : Nat) : fitN n d = true ↔ n ≤ (9223372036854775807 - d) / 10 := by unfold fitN; rw [decide_eq_true_eq]
def numF : Nat → Bs → Option Nat
  | n, [] => some n
  | n, b :: r => if 48 ≤ b.toNat ∧ b.toNat ≤ 57 ∧ fitN n (b.toNat - 48) = true then numF (10 * n + (b.toNat - 48)) r else none
def refN (T : Bs) : Option Nat := if T = [] ∨ (T.head? = some 48 ∧ 1 < T.length) then none else numF 0 T
def valFrom (n : Nat) (l : Bs) : Nat := l.foldl (fun n d => n * 10 + (d.toNat - 48)) n

theorem valFrom_cons (n : Nat) (d : UInt8) (l : Bs) : valFrom n (d :: l) = valFrom (n * 10 + (d.toNat - 48)) l := by unfold valFrom; rw [List.foldl_cons]
theorem valFrom_le : ∀ (l : Bs) (n : Nat), n ≤ valFrom n l
  | [], n => Nat.le_refl _
  | d :: l, n => by rw [valFrom_cons]; have := valFrom_le l (n * 10 + (d.toNat - 48)); omega
theorem numF_some : ∀ (l : Bs) (n v : Nat), numF n l = some v → (∀ d ∈ l, dgP d) ∧ v = valFrom n l ∧ (n ≤ 9223372036854775807 → v ≤ 9223372036854775807)
  | [], n, v, h => by simp only [numF, Option.some.injEq] at h; subst h; exact ⟨fun d hd => (by cases hd), rfl, id⟩
  | b :: r, n, v, h => by
    unfold numF at h
    split at h
    · rename_i hc
      rw [fitN_iff] at hc
      obtain ⟨h1, h2, h3⟩ := numF_some r _ v h
      refine ⟨fun d hd => ?_, ?_, fun _ => h3 (by omega)⟩
      · rcases List.mem_cons.1 hd with rfl | hd
        · exact ⟨hc.1, hc.2.1⟩
        · exact h1 d hd
      · rw [h2, valFrom_cons, Nat.mul_comm 10 n]
    · cases h
theorem numF_of : ∀ (l : Bs) (n : Nat), (∀ d ∈ l, dgP d) → valFrom n l ≤ 9223372036854775807 → numF n l = some (valFrom n l)
  | [], n, _, _ => rfl
  | b :: r, n, hd, hv => by
    rw [valFrom_cons] at hv ⊢
    have h1 := hd b (List.mem_cons_self)
    have h2 := valFrom_le r (n * 10 + (b.toNat - 48))
    unfold dgP at h1
    unfold numF
    rw [if_pos ⟨h1.1, h1.2, (fitN_iff _ _).2 (by omega)⟩, Nat.mul_comm 10 n]
    exact numF_of r _ (fun d h => hd d (List.mem_cons_of_mem _ h)) hv
theorem parse_of : ∀ (l : Bs) (n : Nat), (∀ d ∈ l, dgP d) → valFrom n l ≤ 9223372036854775807 → Lib.parseUint10 n l = .ok (valFrom n l)
  | [], n, _, _ => rfl
  | b :: r, n, hd, hv => by
    rw [valFrom_cons] at hv ⊢
    have h1 := hd b (List.mem_cons_self)
    have h2 := valFrom_le r (n * 10 + (b.toNat - 48))
    unfold dgP at h1
    unfold Lib.parseUint10
    rw [if_pos ⟨h1.1, h1.2⟩, if_neg (by omega), if_neg (by omega)]
    exact parse_of r _ (fun d h => hd d (List.mem_cons_of_mem _ h)) hv

theorem digit_nat {k : Nat} (h : k < 10) : (UInt8.ofNat (48 + k)).toNat = 48 + k := by
  rw [UInt8.toNat_ofNat']; omega
theorem dec_step {u : Nat} {d : UInt8} (hd : dgP d) (hu : 1 ≤ u) : Lib.decDigits (u * 10 + (d.toNat - 48)) = Lib.decDigits u ++ [d] := by
  unfold dgP at hd
  rw [Lib.decDigits, dif_neg (by omega)]
  have e1 : (u * 10 + (d.toNat - 48)) / 10 = u := by omega
  have e2 : (u * 10 + (d.toNat - 48)) % 10 = d.toNat - 48 := by omega
  rw [e1, e2]
  congr 2
  exact UInt8.toNat_inj.1 (by rw [digit_nat (by omega)]; omega)
theorem dec_from : ∀ (l : Bs) (u : Nat), (∀ d ∈ l, dgP d) → 1 ≤ u → Lib.decDigits (valFrom u l) = Lib.decDigits u ++ l
  | [], u, _, _ => by simp [valFrom]
  | d :: l, u, hd, hu => by
    rw [valFrom_cons, dec_from l _ (fun x h => hd x (List.mem_cons_of_mem _ h)) (by omega), dec_step (hd d List.mem_cons_self) hu]
    simp
theorem dec_one {d : UInt8} (hd : dgP d) : Lib.decDigits (d.toNat - 48) = [d] := by
  unfold dgP at hd
  rw [Lib.decDigits, dif_pos (by omega)]
  congr 1
  exact UInt8.toNat_inj.1 (by rw [digit_nat (by omega)]; omega)

theorem dec_digits (u : Nat) : ∀ d ∈ Lib.decDigits u, dgP d := by
  induction u using Nat.strongRecOn with
  | _ u ih =>
    rw [Lib.decDigits]
    split
    · rename_i h
      intro d hd
      have := digit_nat h
      unfold dgP
      rw [List.mem_singleton] at hd; subst hd; omega
    · rename_i h
      intro d hd
      rcases List.mem_append.1 hd with h1 | h1
      · exact ih (u / 10) (by omega) d h1
      · have := digit_nat (k := u % 10) (by omega)
        unfold dgP
        rw [List.mem_singleton] at h1; subst h1; omega
theorem val_snoc (n : Nat) (l : Bs) (d : UInt8) : valFrom n (l ++ [d]) = valFrom n l * 10 + (d.toNat - 48) := by simp [valFrom]
theorem val_dec (u : Nat) : valFrom 0 (Lib.decDigits u) = u := by
  induction u using Nat.strongRecOn with
  | _ u ih =>
    rw [Lib.decDigits]
    split
    · rename_i h
      have := digit_nat h
      simp [valFrom]; omega
    · rename_i h
      rw [val_snoc, ih (u / 10) (by omega)]
      have := digit_nat (k := u % 10) (by omega)
      omega
theorem dec_ne (u : Nat) : Lib.decDigits u ≠ [] := by
  rw [Lib.decDigits]; split <;> simp
theorem dec_head (u : Nat) (h : 1 ≤ u) : (Lib.decDigits u).head? ≠ some 48 := by
  induction u using Nat.strongRecOn with
  | _ u ih =>
    rw [Lib.decDigits]
    split
    · rename_i h1
      have := digit_nat h1
      simp only [List.head?_cons, ne_eq, Option.some.injEq]
      intro e
      have := congrArg UInt8.toNat e
      simp at this
      omega
    · rename_i h1
      have h2 := ih (u / 10) (by omega) (by omega)
      cases hc : Lib.decDigits (u / 10) with
      | nil => exact absurd hc (dec_ne _)
      | cons b r => rw [hc] at h2; simpa using h2
theorem dec_len {u : Nat} (h : u < 10) : (Lib.decDigits u).length = 1 := by rw [Lib.decDigits, dif_pos h]; rfl

theorem ref_dec {n : Nat} (h : n ≤ 9223372036854775807) : refN (Lib.decDigits n) = some n := by
  unfold refN
  rw [if_neg]
  · rw [numF_of _ _ (dec_digits n) (by rw [val_dec]; exact h), val_dec]
  · rintro (h1 | ⟨h1, h2⟩)
    · exact dec_ne _ h1
    · by_cases hn : n < 10
      · rw [dec_len hn] at h2; omega
      · exact dec_head n (by omega) h1
theorem ref_some {T : Bs} {n : Nat} (h : refN T = some n) : T = Lib.decDigits n ∧ n ≤ 9223372036854775807 := by
  unfold refN at h
  split at h
  · cases h
  · rename_i hc
    obtain ⟨h1, h2, h3⟩ := numF_some T 0 n h
    refine ⟨?_, h3 (by omega)⟩
    cases T with
    | nil => exact absurd (Or.inl rfl) hc
    | cons d r =>
      have hd := h1 d List.mem_cons_self
      by_cases hz : d = 48
      · cases r with
        | nil =>
          rw [h2, valFrom_cons]
          subst hz
          show [48] = Lib.decDigits (0 * 10 + ((48 : UInt8).toNat - 48))
          rw [Nat.zero_mul, Nat.zero_add]
          exact (dec_one hd).symm
        | cons e r => exact absurd (Or.inr ⟨by rw [hz]; rfl, by simp⟩) hc
      · rw [h2, valFrom_cons]
        have hne : d.toNat ≠ 48 := fun e => hz (UInt8.toNat_inj.1 e)
        unfold dgP at hd
        rw [Nat.zero_mul, Nat.zero_add, dec_from r _ (fun x hx => h1 x (List.mem_cons_of_mem _ hx)) (by omega), dec_one hd]
        rfl
theorem atoi_dec {n : Nat} (h : n ≤ 9223372036854775807) : Lib.atoiAll (Lib.decDigits n) = .ok (n : Int) := by
  have hd := dec_digits n
  have hv := val_dec n
  cases hc : Lib.decDigits n with
  | nil => exact absurd hc (dec_ne _)
  | cons b r =>
    rw [hc] at hd hv
    have hb := hd b List.mem_cons_self
    unfold dgP at hb
    rw [Lib.atoiAll_plain b r (by omega) (by omega)]
    unfold Lib.parseMag
    rw [if_neg (by simp), parse_of _ _ hd (by rw [hv]; exact h), hv]
    unfold Lib.signless
    simp only
    rw [if_neg (by omega)]

/-- The program's way: what is read must print as that text. -/
def numA (T : Bs) : Option Nat := match Lib.atoiAll T with
  | .ok v => if 0 ≤ v ∧ Lib.itoa v = T then some v.toNat else none
  | _ => none
theorem itoa_of {n : Int} (h : 0 ≤ n) : Lib.itoa n = Lib.decDigits n.toNat := by
  obtain ⟨u, rfl⟩ : ∃ u : Nat, n = u := ⟨n.toNat, by omega⟩
  rw [Lib.itoa_nonneg]; rfl
theorem numA_ref (T : Bs) : numA T = refN T := by
  cases h : refN T with
  | some n =>
    obtain ⟨rfl, hn⟩ := ref_some h
    unfold numA
    rw [atoi_dec hn]
    simp only
    rw [if_pos ⟨by omega, by rw [Lib.itoa_nonneg]⟩]
    simp
  | none =>
    unfold numA
    cases ha : Lib.atoiAll T with
    | ok v =>
      simp only
      split
      · rename_i hc
        have hb := Lib.atoiAll_bounds ha
        rw [← hc.2, itoa_of hc.1, ref_dec (by omega)] at h
        cases h
      · rfl
    | _ => rfl
end Go.Proofs.YtiahoaneinojgaaDoor.Sc
