/- word, words and Parse of package span, of any text. -/
import Derived.Test.YtkmgfemhfibikaaGreatDoorPure3
import Derived.Test.YtkmgfemhfibikaaGreatDoorIx2
namespace Go.Proofs.YtkmgfemhfibikaaGreatDoor
open Go.RowKit
set_option maxRecDepth 100000

/-- A text with a byte that is no ASCII. -/
def HighB (s : ByteArray) : Prop := ∃ x ∈ s.data.toList, 128 ≤ x.toNat
theorem plain_or (s : ByteArray) : Plain8 s ∨ (s.size ≤ 8 ∧ HighB s) := by
  by_cases h8 : 8 < s.size
  · exact Or.inl (Or.inl h8)
  · by_cases h : ∀ x ∈ s.data.toList, x.toNat < 128
    · exact Or.inl (Or.inr fun j b hj => h b (List.mem_of_getElem? hj))
    · right
      refine ⟨by omega, ?_⟩
      unfold HighB
      simp only [Classical.not_forall] at h
      obtain ⟨x, hx, h2⟩ := h
      exact ⟨x, hx, by omega⟩

theorem sign_ascii {s : List UInt8} {n : Int} (h : ∃ x ∈ s, 128 ≤ x.toNat) : signR s n = none := by
  obtain ⟨x, hx, h1⟩ := h
  have no : ∀ l : List UInt8, (∀ y ∈ l, y.toNat < 128) → ¬ s = l := fun l hl e => by subst e; have := hl x hx; omega
  unfold signR
  rw [if_neg (by rintro (e | e); exact no [] (by simp) e; exact no [61] (by decide) e), if_neg (no [60] (by decide)), if_neg (no [60, 61] (by decide)), if_neg (no [62] (by decide)), if_neg (no [62, 61] (by decide)), if_neg (no [94] (by decide)), if_neg (no [126] (by decide))]

theorem high_part {s : ByteArray} (h : HighB s) {k : Nat} (ho : okP (s.extract k s.size) = true) : ∃ x ∈ (s.extract 0 k).data.toList, 128 ≤ x.toNat := by
  obtain ⟨x, hx, h1⟩ := h
  obtain ⟨m, e⟩ := okP_text ho
  have hb := text_bytes m
  rw [← e, Lib.extract_to_end] at hb
  rw [Lib.extract_from_zero]
  rw [← List.take_append_drop k s.data.toList, List.mem_append] at hx
  rcases hx with hx | hx
  · exact ⟨x, hx, h1⟩
  · have := hb x hx; omega

theorem word_high {s : ByteArray} (h : HighB s) : wordR s = none := by
  unfold wordR
  rw [if_neg]
  · split
    · rename_i ho
      exact sign_ascii (high_part h ho)
    · rfl
  · intro e
    obtain ⟨x, hx, h1⟩ := h
    rw [e] at hx
    simp at hx
    subst hx
    exact absurd h1 (by decide)

set_option maxHeartbeats 1600000 in
theorem word_bad (s : ByteArray) (h8 : s.size ≤ 8) (hh : HighB s) (w : World) (he : Env w) (hf : FL w) :
    Calls Tryz.prog 44 #[.string s] w fun e w' => ∃ v, e = .returned (.tuple #[v, .bool false]) ∧ SpansR w' v [] ∧ Below w.heap.size w w' := by
  have h42 : (s.toList == [42]) = false := beq_no fun e => by
    obtain ⟨x, hx, h1⟩ := hh
    rw [e] at hx
    simp at hx
    subst hx
    exact absurd h1 (by decide)
  have HI := hide3 (IndexAny_gen s h8 w)
  have HP : Hid (∀ k w1, Below w.heap.size w w1 → Calls Tryz.prog 67 #[.string (s.extract k s.size)] w1 fun e w' => e = .returned (.tuple #[.agg #[.int .i64 (resA (s.extract k s.size)), .int .i64 (resB (s.extract k s.size)), .int .i64 (resC (s.extract k s.size))], .bool (okP (s.extract k s.size))]) ∧ Below w1.heap.size w1 w') := fun k w1 hb => Parse_any (s.extract k s.size) (by simp; omega) w1 (he.below hb)
  have HHH := hide3 hh
  have HFL := hide3 hf
  clear he hf hh
  go_enter Tryz.func44, Tryz.ntmps44
  go_wp2_with (go_at_call 66; refine HI.out.mono ?_; rintro e w1 ⟨q, rfl, hq, ok1⟩; have HO1 := hide3 ok1; clear ok1; obtain ⟨k, hqk, hk⟩ : ∃ k : Nat, max q 0 = (k : Int) ∧ k ≤ s.size := ⟨(max q 0).toNat, by omega, by omega⟩; clear hq)
  by_cases ho : okP (s.extract k s.size) = true
  · obtain ⟨hn, e1, e2, e3⟩ := plP_ok ho
    have HPk : Hid (∀ w1, Below w.heap.size w w1 → Calls Tryz.prog 67 #[.string (s.extract k s.size)] w1 fun e w' => e = .returned (.tuple #[.agg #[.int .i64 (atA (plP (s.extract k s.size))), .int .i64 (atB (plP (s.extract k s.size))), .int .i64 (atC (plP (s.extract k s.size)))], .bool true]) ∧ Below w1.heap.size w1 w') := fun w1 hb => by
      have := HP.out k w1 hb; rw [ho, ← e1, ← e2, ← e3] at this; exact this
    have HS : Hid (∀ w1, FL w1 → Calls Tryz.prog 68 #[.string (s.extract 0 k), .agg #[.int .i64 (atA (plP (s.extract k s.size))), .int .i64 (atB (plP (s.extract k s.size))), .int .i64 (atC (plP (s.extract k s.size)))]] w1 fun e w' => ∃ v, e = .returned (.tuple #[v, .bool false]) ∧ SpansR w' v [] ∧ Below w1.heap.size w1 w') := fun w1 h => by
      have := signed_any (s.extract 0 k) hn w1 h
      rw [sign_ascii (high_part HHH.out ho)] at this
      exact this
    clear ho e1 e2 e3 hn HP
    generalize plP (s.extract k s.size) = n at *
    go_wp2_with (go_at_call 67; refine (HPk.out _ HO1.out).mono ?_; rintro e w2 ⟨rfl, ok2⟩; have HO2 := hide3 (below_then HO1.out ok2); clear ok2)
    have HB : Hid (Below w.heap.size w (w2.alloc (.cells #[.int .i64 (atA n), .int .i64 (atB n), .int .i64 (atC n)] 35)) ∧ BxAt (w2.alloc (.cells #[.int .i64 (atA n), .int .i64 (atB n), .int .i64 (atC n)] 35)) ⟨w2.heap.size, .int .i64 (atA n), .int .i64 (atB n), .int .i64 (atC n)⟩) := ⟨below_then HO2.out (boxB _ _), ((OKs.nil w2).box rfl _ _ _).one⟩
    obtain ⟨_, b0, b1, b2, b3⟩ := HB.out
    have HK : Hid (KeepP fun w1 => Below w.heap.size w w1 ∧ BxAt w1 ⟨w2.heap.size, .int .i64 (atA n), .int .i64 (atB n), .int .i64 (atC n)⟩) := (keepBelow w).and (keepV3 _)
    go_region_held3 (fun w' => w'.cell? ⟨w2.heap.size, 0, none⟩ = some (.int .i64 (atA n)) ∧ w'.cell? ⟨w2.heap.size, 1, none⟩ = some (.int .i64 (atB n)) ∧ w'.cell? ⟨w2.heap.size, 2, none⟩ = some (.int .i64 (atC n))) (go_keep)
      (first
        | (go_at_call 68; refine (HS.out _ (HFL.out.below (HK.out.drew HB.out).1)).mono ?_; rintro e w3 ⟨v3, rfl, ok3⟩; have HO3 := hide3 ok3; have HO4 := hide3 (HK.out _ _ (HK.out.drew HB.out) ok3.2); clear ok3 b0 b1 b2 b3; obtain ⟨_, b0, b1, b2, b3⟩ := HO4.out))
    all_goals go_wp2
    all_goals go_ret2
    all_goals exact ⟨v3, rfl, HO3.out.1, HO4.out.1⟩
  · have HPk : Hid (∀ w1, Below w.heap.size w w1 → Calls Tryz.prog 67 #[.string (s.extract k s.size)] w1 fun e w' => e = .returned (.tuple #[.agg #[.int .i64 (resA (s.extract k s.size)), .int .i64 (resB (s.extract k s.size)), .int .i64 (resC (s.extract k s.size))], .bool false]) ∧ Below w1.heap.size w1 w') := fun w1 hb => by
      have := HP.out k w1 hb; rw [show okP (s.extract k s.size) = false by simpa using ho] at this; exact this
    clear ho HP
    go_wp2_with (go_at_call 67; refine (HPk.out _ HO1.out).mono ?_; rintro e w2 ⟨rfl, ok2⟩; have HO2 := hide3 (below_then HO1.out ok2); clear ok2)
    go_ret2
    exact ⟨_, rfl, ⟨none, 0, rfl, Nat.le_refl _, Or.inl rfl⟩, below_then HO2.out (boxB _ _)⟩

theorem word_all (s : ByteArray) (hs : s.size ≤ 4294967200) (w : World) (he : Env w) (hf : FL w) :
    Calls Tryz.prog 44 #[.string s] w fun e w' => ∃ v, e = .returned (.tuple #[v, .bool (wordR s).isSome]) ∧ SpansR w' v ((wordR s).getD []) ∧ Below w.heap.size w w' := by
  rcases plain_or s with hp | ⟨h8, hh⟩
  · exact word_any s hs hp w he hf
  · rw [word_high hh]
    exact word_bad s h8 hh w he hf

theorem sWords_all (s : ByteArray) (hs : s.size ≤ 4096) (w : World) (he : Env w) (hf : FL w) :
    Calls Tryz.prog 26 #[.string s] w fun e w' => ∃ v, e = .returned (.tuple #[v, .bool (wordsB (piecesB s ⟨#[32]⟩))]) ∧ SpansR w' v (wordsL (piecesB s ⟨#[32]⟩)) ∧ Below w.heap.size w w' := by
  have hl := pieces_len s ⟨#[32]⟩ (by decide)
  have hc := Lib.countB_le ⟨#[32]⟩ (by decide) s.size s (Nat.le_refl _)
  refine words_walk s _ (by omega) w hf (fun w1 hb => Split_on he s ⟨#[32]⟩ (by omega) (by decide) w1 hb) ?_
  intro p hm h0 w1 hb
  have := pieces_size _ _ _ p hm
  exact word_all p (by omega) w1 (he.below hb) (hf.below hb)

/-- What Parse makes of a text of any length. -/
def parR (s : ByteArray) : Option Rg := if s.size ≤ 4096 then altR s else none
theorem sParse_all (s : ByteArray) (w : World) (he : Env w) (hf : FL w) :
    Calls Tryz.prog 14 #[.string s] w fun e w' => ∃ v, e = .returned (.tuple #[v, .int .i64 (parE (parR s))]) ∧ OwnS w' w.heap.size v ((parL (parR s)).map spR) ∧ Below w.heap.size w w' := by
  unfold parR
  by_cases hs : s.size ≤ 4096
  · rw [if_pos hs]
    have hl := pieces_len s ⟨#[124, 124]⟩ (by decide)
    have hc := Lib.countB_le ⟨#[124, 124]⟩ (by decide) s.size s (Nat.le_refl _)
    refine sParse_walk s _ (by omega) (by omega) w hf (Split_on he s ⟨#[124, 124]⟩ (by omega) (by decide) w (Below.refl _ _)) ?_
    intro a hm w1 hb
    have := pieces_size _ _ _ a hm
    exact sWords_all a (by omega) w1 (he.below hb) (hf.below hb)
  · rw [if_neg hs]
    refine (sParse_long s (by omega) w).mono ?_
    rintro e w' ⟨rfl, hb⟩
    exact ⟨_, rfl, OwnS.nil _ _, hb⟩
end Go.Proofs.YtkmgfemhfibikaaGreatDoor
