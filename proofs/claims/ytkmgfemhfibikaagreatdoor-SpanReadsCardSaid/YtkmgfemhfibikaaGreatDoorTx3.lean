/- word and words of package span. -/
import Derived.Test.YtkmgfemhfibikaaGreatDoorTx2
import Derived.Lib.SplitLaws
namespace Go.Proofs.YtkmgfemhfibikaaGreatDoor
open Go.RowKit
set_option maxRecDepth 100000

/-- Where a word's version begins. -/
def idxK (s : ByteArray) : Nat := (max (Lib.indexAny s.data.toList [48, 49, 50, 51, 52, 53, 54, 55, 56, 57]) 0).toNat
theorem indexAny_lt (c : List UInt8) : ∀ l : List UInt8, Lib.indexAny l c < l.length ∨ Lib.indexAny l c = -1
  | [] => Or.inr rfl
  | b :: l => by
    have ih := indexAny_lt c l
    unfold Lib.indexAny
    simp only [List.length_cons]
    split
    · left; omega
    · split
      · exact Or.inr rfl
      · left
        rename_i h
        simp at h
        omega
theorem idxK_le (s : ByteArray) : idxK s ≤ s.size := by
  unfold idxK
  have h1 := indexAny_lt [48, 49, 50, 51, 52, 53, 54, 55, 56, 57] s.data.toList
  have h2 := list_size s
  have h3 := Lib.indexAny_ge [48, 49, 50, 51, 52, 53, 54, 55, 56, 57] s.data.toList
  omega

/-- A word's versions. -/
def wordR (s : ByteArray) : Option Rg := if s.data.toList = [42] then some allR else if okP (s.extract (idxK s) s.size) = true then signR (s.extract 0 (idxK s)).data.toList (plP (s.extract (idxK s) s.size)) else none
theorem word_rg {s : ByteArray} {R : Rg} (h : wordR s = some R) : RangeR R := by
  unfold wordR at h
  split at h
  · injection h with h; subst h; exact allR_ok
  · split at h
    · rename_i ho
      exact sign_ok (plP_ok ho).1 h
    · cases h

/-- A text whose bytes are all ASCII, or that is long. -/
def Plain8 (s : ByteArray) : Prop := 8 < s.size ∨ ∀ (j : Nat) b, s.data.toList[j]? = some b → b.toNat < 128

theorem zero256 (w : World) : (zeroValue 95).run Tryz.prog w = .ok (.agg (Array.replicate 256 (.bool false))) w := by kernel_rfl

theorem IndexAny_on (s : ByteArray) (hs : s.size < 4294967281) (h : Plain8 s) (w : World) :
    Calls Tryz.prog 66 #[.string s, .string ⟨#[48, 49, 50, 51, 52, 53, 54, 55, 56, 57]⟩] w fun e w' => e = .returned (.int .i64 (Lib.indexAny s.data.toList [48, 49, 50, 51, 52, 53, 54, 55, 56, 57])) ∧ Below w.heap.size w w' := by
  have hac : ∀ (j : Nat) b, (⟨#[48, 49, 50, 51, 52, 53, 54, 55, 56, 57]⟩ : ByteArray).data.toList[j]? = some b → b.toNat < 128 := by
    intro j b hj
    have hm := List.mem_of_getElem? hj
    simp at hm
    rcases hm with rfl | rfl | rfl | rfl | rfl | rfl | rfl | rfl | rfl | rfl <;> decide
  rcases h with h | h
  · refine (Tryz.strings_IndexAny_long zero256 s ⟨#[48, 49, 50, 51, 52, 53, 54, 55, 56, 57]⟩ w (by decide) h hs (by decide) hac).mono ?_
    rintro e w' ⟨rfl, rfl⟩
    exact ⟨rfl, boxB2 _ _ _⟩
  · exact Tryz.strings_IndexAny zero256 s ⟨#[48, 49, 50, 51, 52, 53, 54, 55, 56, 57]⟩ w hs (by decide) h hac

theorem word_any (s : ByteArray) (hs : s.size ≤ 4294967200) (hp : Plain8 s) (w : World) (he : Env w) (hf : FL w) :
    Calls Tryz.prog 44 #[.string s] w fun e w' => ∃ v, e = .returned (.tuple #[v, .bool (wordR s).isSome]) ∧ SpansR w' v ((wordR s).getD []) ∧ Below w.heap.size w w' := by
  unfold wordR
  by_cases h : s.data.toList = [42]
  · rw [if_pos h, of_list h]; exact word_star w hf
  · rw [if_neg h]
    have hq : max (Lib.indexAny s.data.toList [48, 49, 50, 51, 52, 53, 54, 55, 56, 57]) 0 = (idxK s : Int) := by unfold idxK; omega
    have HI := hide3 (IndexAny_on s (by omega) hp w)
    by_cases ho : okP (s.extract (idxK s) s.size) = true
    · rw [if_pos ho]
      exact word_ok s hs w he hf (beq_no h) _ _ hq (idxK_le s) HI ho
    · rw [if_neg ho]
      refine (word_no s hs w he (beq_no h) _ _ hq (idxK_le s) HI (by simpa using ho)).mono ?_
      rintro e w' ⟨rfl, hb⟩
      exact ⟨_, rfl, ⟨none, 0, rfl, Nat.le_refl _, Or.inl rfl⟩, hb⟩
end Go.Proofs.YtkmgfemhfibikaaGreatDoor
