/- signed of package span, of any sign; word. -/
import Derived.Test.YtkmgfemhfibikaaGreatDoorTx1
import Derived.Test.YtkmgfemhfibikaaGreatDoorParse3
import Derived.Test.YtkmgfemhfibikaaGreatDoorShelfC
namespace Go.Proofs.YtkmgfemhfibikaaGreatDoor
open Go.RowKit
set_option maxRecDepth 100000

set_option maxHeartbeats 800000 in
theorem signed_other (s : ByteArray) (w : World) (h0 : s.toList.isEmpty = false) (h1 : (s.toList == [61]) = false) (h2 : (s.toList == [60]) = false) (h3 : (s.toList == [60, 61]) = false) (h4 : (s.toList == [62]) = false) (h5 : (s.toList == [62, 61]) = false) (h6 : (s.toList == [94]) = false) (h7 : (s.toList == [126]) = false) {a b c : Int} :
    Calls Tryz.prog 68 #[.string s, .agg #[.int .i64 a, .int .i64 b, .int .i64 c]] w fun e w' => e = .returned (.tuple #[.slice none 0 0, .bool false]) ∧ Below w.heap.size w w' := by
  go_enter Tryz.func68, Tryz.ntmps68
  go_wp2_with fail
  go_ret2
  exact ⟨rfl, boxB _ _⟩

theorem of_list {s : ByteArray} {l : List UInt8} (h : s.data.toList = l) : s = ⟨l.toArray⟩ := by
  cases s with
  | mk d => simp only at h; subst h; simp
theorem beq_no {s : ByteArray} {l : List UInt8} (h : ¬ s.data.toList = l) : (s.toList == l) = false := by
  rw [ByteArray.toList_eq]; simpa using h

theorem signed_any (s : ByteArray) {n : Int} (hn : okR n) (w : World) (hf : FL w) :
    Calls Tryz.prog 68 #[.string s, .agg #[.int .i64 (atA n), .int .i64 (atB n), .int .i64 (atC n)]] w fun e w' => ∃ v, e = .returned (.tuple #[v, .bool (signR s.data.toList n).isSome]) ∧ SpansR w' v ((signR s.data.toList n).getD []) ∧ Below w.heap.size w w' := by
  by_cases h0 : s.data.toList = []
  · rw [of_list h0]; exact signed_none w hf
  by_cases h1 : s.data.toList = [61]
  · rw [of_list h1]; exact signed_eq w hf
  by_cases h2 : s.data.toList = [60]
  · rw [of_list h2]; exact signed_lt hn w hf
  by_cases h3 : s.data.toList = [60, 61]
  · rw [of_list h3]; exact signed_le w hf
  by_cases h4 : s.data.toList = [62]
  · rw [of_list h4]; exact signed_gt hn w hf
  by_cases h5 : s.data.toList = [62, 61]
  · rw [of_list h5]; exact signed_ge w hf
  by_cases h6 : s.data.toList = [94]
  · rw [of_list h6]; exact signed_caret hn w hf
  by_cases h7 : s.data.toList = [126]
  · rw [of_list h7]; exact signed_tilde hn w hf
  have e : signR s.data.toList n = none := by
    unfold signR
    rw [if_neg (by simp [h0, h1]), if_neg h2, if_neg h3, if_neg h4, if_neg h5, if_neg h6, if_neg h7]
  rw [e]
  refine (signed_other s w ?_ (beq_no h1) (beq_no h2) (beq_no h3) (beq_no h4) (beq_no h5) (beq_no h6) (beq_no h7)).mono ?_
  · rw [ByteArray.toList_eq]
    cases hd : s.data.toList with
    | nil => exact (h0 hd).elim
    | cons _ _ => rfl
  · rintro e w' ⟨rfl, hb⟩
    exact ⟨_, rfl, ⟨none, 0, rfl, Nat.le_refl _, Or.inl rfl⟩, hb⟩

theorem word_star (w : World) (hf : FL w) :
    Calls Tryz.prog 44 #[.string ⟨#[42]⟩] w fun e w' => ∃ v, e = .returned (.tuple #[v, .bool true]) ∧ SpansR w' v allR ∧ Below w.heap.size w w' := by
  have H := hide3 (All_rg hf)
  clear hf
  go_enter Tryz.func44, Tryz.ntmps44
  go_wp2_with (go_at_call 23; refine H.out.mono ?_; rintro e w1 ⟨v1, rfl, ok1⟩; have HO := hide3 ok1; clear ok1)
  go_ret2
  exact ⟨v1, rfl, HO.out⟩

set_option maxHeartbeats 800000 in
theorem word_no (s : ByteArray) (hs : s.size ≤ 4294967200) (w : World) (he : Env w) (h42 : (s.toList == [42]) = false) (q : Int) (k : Nat) (hq : max q 0 = (k : Int)) (hk : k ≤ s.size)
    (HI : Hid (Calls Tryz.prog 66 #[.string s, .string ⟨#[48, 49, 50, 51, 52, 53, 54, 55, 56, 57]⟩] w fun e w' => e = .returned (.int .i64 q) ∧ Below w.heap.size w w')) (ho : okP (s.extract k s.size) = false) :
    Calls Tryz.prog 44 #[.string s] w fun e w' => e = .returned (.tuple #[.slice none 0 0, .bool false]) ∧ Below w.heap.size w w' := by
  have HP : Hid (∀ w1, Below w.heap.size w w1 → Calls Tryz.prog 67 #[.string (s.extract k s.size)] w1 fun e w' => e = .returned (.tuple #[.agg #[.int .i64 (resA (s.extract k s.size)), .int .i64 (resB (s.extract k s.size)), .int .i64 (resC (s.extract k s.size))], .bool false]) ∧ Below w1.heap.size w1 w') := fun w1 hb => by
    have := Parse_any (s.extract k s.size) (by simp; omega) w1 (he.below hb); rw [ho] at this; exact this
  clear he ho
  go_enter Tryz.func44, Tryz.ntmps44
  go_wp2_with (first
    | (go_at_call 66; refine HI.out.mono ?_; rintro e w1 ⟨rfl, ok1⟩; have HO1 := hide3 ok1; clear ok1)
    | (go_at_call 67; refine (HP.out _ HO1.out).mono ?_; rintro e w2 ⟨rfl, ok2⟩; have HO2 := hide3 ok2; clear ok2))
  go_ret2
  exact ⟨rfl, below_then (below_then HO1.out HO2.out) (boxB _ _)⟩

/-- The place of the version that a text is. -/
def plP (t : ByteArray) : Int := rankV (resA t) (resB t) (resC t)
theorem plP_ok {t : ByteArray} (h : okP t = true) : okR (plP t) ∧ atA (plP t) = resA t ∧ atB (plP t) = resB t ∧ atC (plP t) = resC t := by
  have m := (okP_text h).1
  have l := rank_low m
  exact ⟨by unfold okR plP; omega, at_rank m⟩

set_option maxHeartbeats 1600000 in
theorem word_ok (s : ByteArray) (hs : s.size ≤ 4294967200) (w : World) (he : Env w) (hf : FL w) (h42 : (s.toList == [42]) = false) (q : Int) (k : Nat) (hq : max q 0 = (k : Int)) (hk : k ≤ s.size)
    (HI : Hid (Calls Tryz.prog 66 #[.string s, .string ⟨#[48, 49, 50, 51, 52, 53, 54, 55, 56, 57]⟩] w fun e w' => e = .returned (.int .i64 q) ∧ Below w.heap.size w w')) (ho : okP (s.extract k s.size) = true) :
    Calls Tryz.prog 44 #[.string s] w fun e w' => ∃ v, e = .returned (.tuple #[v, .bool (signR (s.extract 0 k).data.toList (plP (s.extract k s.size))).isSome]) ∧ SpansR w' v ((signR (s.extract 0 k).data.toList (plP (s.extract k s.size))).getD []) ∧ Below w.heap.size w w' := by
  obtain ⟨hn, e1, e2, e3⟩ := plP_ok ho
  have HP : Hid (∀ w1, Below w.heap.size w w1 → Calls Tryz.prog 67 #[.string (s.extract k s.size)] w1 fun e w' => e = .returned (.tuple #[.agg #[.int .i64 (atA (plP (s.extract k s.size))), .int .i64 (atB (plP (s.extract k s.size))), .int .i64 (atC (plP (s.extract k s.size)))], .bool true]) ∧ Below w1.heap.size w1 w') := fun w1 hb => by
    have := Parse_any (s.extract k s.size) (by simp; omega) w1 (he.below hb); rw [ho, ← e1, ← e2, ← e3] at this; exact this
  have HS : Hid (∀ w1, FL w1 → Calls Tryz.prog 68 #[.string (s.extract 0 k), .agg #[.int .i64 (atA (plP (s.extract k s.size))), .int .i64 (atB (plP (s.extract k s.size))), .int .i64 (atC (plP (s.extract k s.size)))]] w1 fun e w' => ∃ v, e = .returned (.tuple #[v, .bool (signR (s.extract 0 k).data.toList (plP (s.extract k s.size))).isSome]) ∧ SpansR w' v ((signR (s.extract 0 k).data.toList (plP (s.extract k s.size))).getD []) ∧ Below w1.heap.size w1 w') := fun w1 h => signed_any _ hn w1 h
  have HFL := hide3 hf
  clear he ho hf e1 e2 e3 hn
  generalize plP (s.extract k s.size) = n at *
  generalize (signR (s.extract 0 k).data.toList n).isSome = b at *
  generalize (signR (s.extract 0 k).data.toList n).getD [] = R at *
  go_enter Tryz.func44, Tryz.ntmps44
  go_wp2_with (first
    | (go_at_call 66; refine HI.out.mono ?_; rintro e w1 ⟨rfl, ok1⟩; have HO1 := hide3 ok1; clear ok1)
    | (go_at_call 67; refine (HP.out _ HO1.out).mono ?_; rintro e w2 ⟨rfl, ok2⟩; have HO2 := hide3 (below_then HO1.out ok2); clear ok2))
  have HB : Hid (Below w.heap.size w (w2.alloc (.cells #[.int .i64 (atA n), .int .i64 (atB n), .int .i64 (atC n)] 35)) ∧ BxAt (w2.alloc (.cells #[.int .i64 (atA n), .int .i64 (atB n), .int .i64 (atC n)] 35)) ⟨w2.heap.size, .int .i64 (atA n), .int .i64 (atB n), .int .i64 (atC n)⟩) := ⟨below_then HO2.out (boxB _ _), ((OKs.nil w2).box rfl _ _ _).one⟩
  obtain ⟨_, b0, b1, b2, b3⟩ := HB.out
  have HK : Hid (KeepP fun w1 => Below w.heap.size w w1 ∧ BxAt w1 ⟨w2.heap.size, .int .i64 (atA n), .int .i64 (atB n), .int .i64 (atC n)⟩) := (keepBelow w).and (keepV3 _)
  go_region_held3 (fun w' => w'.cell? ⟨w2.heap.size, 0, none⟩ = some (.int .i64 (atA n)) ∧ w'.cell? ⟨w2.heap.size, 1, none⟩ = some (.int .i64 (atB n)) ∧ w'.cell? ⟨w2.heap.size, 2, none⟩ = some (.int .i64 (atC n))) (go_keep)
    (first
      | (go_at_call 68; refine (HS.out _ (HFL.out.below (HK.out.drew HB.out).1)).mono ?_; rintro e w3 ⟨v3, rfl, ok3⟩; have HO3 := hide3 ok3; have HO4 := hide3 (HK.out _ _ (HK.out.drew HB.out) ok3.2); clear ok3 b0 b1 b2 b3; obtain ⟨_, b0, b1, b2, b3⟩ := HO4.out))
  all_goals go_wp2
  all_goals go_ret2
  all_goals exact ⟨v3, rfl, HO3.out.1, HO4.out.1⟩
end Go.Proofs.YtkmgfemhfibikaaGreatDoor
