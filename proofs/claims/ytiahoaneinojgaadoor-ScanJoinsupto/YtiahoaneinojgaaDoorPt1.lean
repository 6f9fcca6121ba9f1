/- ScanParts: the walk. -/
import Derived.Test.YtiahoaneinojgaaDoorBk1
namespace Go.Proofs.YtiahoaneinojgaaDoor.Sc
open Go.RowKit
set_option maxRecDepth 100000

theorem cat_list (s t : ByteArray) : (s ++ t).data.toList = s.data.toList ++ t.data.toList := by simp
theorem cat_size (s t : ByteArray) : (s ++ t).size = s.size + t.size := ByteArray.size_append

theorem row_below {w w' : World} {B n : Nat} {e : TypeId} {v : Value} {xs : List Value} (h : w.ownsRow B e 1 v n xs) (hb : Below w.heap.size w w') : w'.ownsRow B e 1 v n xs := by
  refine ⟨h.1, ?_⟩
  rcases h.2 with hn | ⟨g, cap, cur, rfl, hB, hgg, r⟩
  · exact Or.inl hn
  · exact Or.inr ⟨g, cap, cur, rfl, hB, (hb.block g (Array.getElem?_eq_some_iff.1 hgg).1).trans hgg, r⟩

/-- What a call of Lines gives, where it is taken and where not. -/
def Took (t : ByteArray) (n : Int) (L : List (List Bs)) (w : World) : Prop := Calls Tryd.prog 9 #[.string t, .int .i64 n] w fun e w' => ∃ v, e = .returned (.tuple #[v, .int .i64 0, .int .i64 0]) ∧ OwnLL w' w.heap.size v L ∧ Below w.heap.size w w'
def Fell (t : ByteArray) (n : Int) (k : Nat) (w : World) : Prop := Calls Tryd.prog 9 #[.string t, .int .i64 n] w fun e w' => ∃ ad cap, e = .returned (.tuple #[.slice ad 0 cap, .int .i64 22, .int .i64 (k : Int)]) ∧ Below w.heap.size w w'
theorem took {t : ByteArray} (hs : t.size ≤ 4194304) {n : Int} (hn : n = (t.size : Int)) {L : List (List Bs)} (h : scanR t.data.toList [] [] [] = .ok L) (w : World) : Took t n L w := by
  refine (Lines_len t w hs hn).mono ?_
  rintro e w' ⟨v, rfl, ho, hb⟩
  rw [h] at ho ⊢
  exact ⟨v, rfl, ho, hb⟩
theorem fell {t : ByteArray} (hs : t.size ≤ 4194304) {n : Int} (hn : n = (t.size : Int)) {k : Nat} (h : scanR t.data.toList [] [] [] = .error k) (w : World) : Fell t n k w := by
  refine (Lines_len t w hs hn).mono ?_
  rintro e w' ⟨v, rfl, ho, hb⟩
  rw [h] at ho ⊢
  obtain ⟨ad, cap, rfl⟩ := ho.nil
  exact ⟨ad, cap, rfl, hb⟩
def Kno (w : World) : Prop := ∀ w1, Below w.heap.size w w1 → Calls Tryd.prog 11 #[] w1 fun e w' => e = .returned (.bool true) ∧ Below w1.heap.size w1 w'

set_option maxHeartbeats 3200000 in
/-- The first text is not taken: nothing is asked. -/
theorem parts_first (s t : ByteArray) (hs : s.size ≤ 1048576) (ht : t.size ≤ 1048576) (k : Nat) (h1 : scanR s.data.toList [] [] [] = .error k) (w : World) (he : EnvS w) : Calls Tryd.prog 7 #[.string s, .string t] w fun e w' => e = .returned (.bool true) ∧ Below w.heap.size w w' := by
  have HA : Hid (Fell s (s.size : Int) k w) := fell (by omega) rfl h1 w
  have HB : Hid (∀ w1, Calls Tryd.prog 9 #[.string t, .int .i64 (t.size : Int)] w1 fun e w' => ∃ v x y, e = .returned (.tuple #[v, .int .i64 x, .int .i64 y]) ∧ Below w1.heap.size w1 w') := by
    intro w1
    refine (Lines_len t w1 (by omega) rfl).mono ?_
    rintro e w' ⟨v, rfl, _, hb⟩
    exact ⟨v, _, _, rfl, hb⟩
  have HC : Hid (∀ w1, Calls Tryd.prog 9 #[.string (s ++ t), .int .i64 ((s.size : Int) + (t.size : Int))] w1 fun e w' => ∃ v x y, e = .returned (.tuple #[v, .int .i64 x, .int .i64 y]) ∧ Below w1.heap.size w1 w') := by
    intro w1
    refine (Lines_len (s ++ t) w1 (by rw [cat_size]; omega) (by rw [cat_size]; omega)).mono ?_
    rintro e w' ⟨v, rfl, _, hb⟩
    exact ⟨v, _, _, rfl, hb⟩
  have HK : Hid (Kno w) := fun w1 hb => known_any w1 (he.below hb)
  have t1 : True := trivial
  have t2 : True := trivial
  clear h1 he
  unfold Fell at HA
  go_enter Tryd.func7, Tryd.ntmps7
  go_wp2_with (first
    | (have _t := t1; go_at_call 9; refine HA.out.mono ?_; rintro e w1 ⟨ad1, cap1, rfl, hb1⟩; have HB1 := hide3 hb1; clear hb1 t1)
    | (have _t := t2; go_at_call 9; refine (HB.out _).mono ?_; rintro e w2 ⟨v2, x2, y2, rfl, hb2⟩; have HB2 : Hid (Below w.heap.size w w2) := below_then HB1.out hb2; clear hb2 t2)
    | (go_at_call 9; refine (HC.out _).mono ?_; rintro e w3 ⟨v3, x3, y3, rfl, hb3⟩; have HB3 : Hid (Below w.heap.size w w3) := below_then HB2.out hb3; clear hb3)
    | (go_at_call 11; refine (HK.out _ HB3.out).mono ?_; rintro e w4 ⟨rfl, hb4⟩; have HB4 : Hid (Below w.heap.size w w4) := below_then HB3.out hb4; clear hb4))
  go_ret
  exact ⟨rfl, HB4.out⟩

set_option maxHeartbeats 3200000 in
/-- The second text is not taken. -/
theorem parts_second (s t : ByteArray) (hs : s.size ≤ 1048576) (ht : t.size ≤ 1048576) (A : List (List Bs)) (k : Nat) (h1 : scanR s.data.toList [] [] [] = .ok A) (h2 : scanR t.data.toList [] [] [] = .error k) (w : World) (he : EnvS w) : Calls Tryd.prog 7 #[.string s, .string t] w fun e w' => e = .returned (.bool true) ∧ Below w.heap.size w w' := by
  have hA : A.length ≤ s.size := by have := (lin_fits s).1; rw [h1] at this; exact this
  have hk : k ≤ t.size + 1 := by
    obtain ⟨m, e1, e2, _⟩ := scan_wrong _ _ _ _ k h2
    have := nls_le t.data.toList
    rw [list_size] at this
    rw [e1]; simp; omega
  have h3 : scanR (s ++ t).data.toList [] [] [] = .error (k + A.length) := by
    rw [cat_list, scan_then _ _ _ _ _ A h1]
    have := scan_shift A t.data.toList [] [] []
    rw [List.append_nil, h2] at this
    exact this
  have HA : Hid (Calls Tryd.prog 9 #[.string s, .int .i64 (s.size : Int)] w fun e w' => ∃ ad cap, e = .returned (.tuple #[.slice ad A.length cap, .int .i64 0, .int .i64 0]) ∧ Below w.heap.size w w') := by
    refine (took (by omega) rfl h1 w).mono ?_
    rintro e w' ⟨v, rfl, ho, hb⟩
    obtain ⟨ad, cap, rfl⟩ := ho.at.slice
    exact ⟨ad, cap, rfl, hb⟩
  have HB : Hid (∀ w1, Fell t (t.size : Int) k w1) := fun w1 => fell (by omega) rfl h2 w1
  have HC : Hid (∀ w1, Fell (s ++ t) ((s.size : Int) + (t.size : Int)) (k + A.length) w1) := fun w1 => fell (by rw [cat_size]; omega) (by rw [cat_size]; omega) h3 w1
  have HK : Hid (Kno w) := fun w1 hb => known_any w1 (he.below hb)
  have t1 : True := trivial
  have t2 : True := trivial
  clear h1 h2 h3 he
  unfold Fell at HB HC
  go_enter Tryd.func7, Tryd.ntmps7
  go_wp2_with (first
    | (have _t := t1; go_at_call 9; refine HA.out.mono ?_; rintro e w1 ⟨ad1, cap1, rfl, hb1⟩; have HB1 := hide3 hb1; clear hb1 t1)
    | (have _t := t2; go_at_call 9; refine (HB.out _).mono ?_; rintro e w2 ⟨ad2, cap2, rfl, hb2⟩; have HB2 : Hid (Below w.heap.size w w2) := below_then HB1.out hb2; clear hb2 t2)
    | (go_at_call 9; refine (HC.out _).mono ?_; rintro e w3 ⟨ad3, cap3, rfl, hb3⟩; have HB3 : Hid (Below w.heap.size w w3) := below_then HB2.out hb3; clear hb3)
    | (go_at_call 11; refine (HK.out _ HB3.out).mono ?_; rintro e w4 ⟨rfl, hb4⟩; have HB4 : Hid (Below w.heap.size w w4) := below_then HB3.out hb4; clear hb4))
  go_ret
  exact ⟨rfl, HB4.out⟩

/-- A row of lines, each of which lies somewhere. -/
def RowL (w : World) (B : Nat) (v : Value) (ps : List (Value × List Bs)) : Prop := w.ownsRow B 27 1 v ps.length (ps.map (·.1)) ∧ ∀ p ∈ ps, WordsAt w p.1 p.2
theorem RowL.lines {w : World} {B : Nat} {v : Value} {ps : List (Value × List Bs)} (h : RowL w B v ps) : LinesAt w v (ps.map (·.2)) := by
  have h0 := h.1
  rcases h.1.2 with ⟨rfl, hn⟩ | ⟨g, cap, cur, rfl, hB, hg, hc, _⟩
  · have : ps = [] := List.eq_nil_of_length_eq_zero hn
    subst this
    exact ⟨none, 0, rfl, Nat.le_refl _, Or.inl rfl⟩
  · refine ⟨_, cap, by rw [List.length_map], by rw [List.length_map]; exact hc, Or.inr ⟨g, 0, rfl, (Array.getElem?_eq_some_iff.1 hg).1, fun i hi => ?_⟩⟩
    have hi' : i < ps.length := by simpa using hi
    have := World.ownsRow.cellAt h0 i (by omega)
    refine ⟨ps[i].1, by rw [Nat.zero_add, this]; simp [hi'], ?_⟩
    rw [List.getElem_map]
    exact h.2 _ (List.getElem_mem hi')
theorem LL.row {w : World} {B : Nat} {v : Value} {ps : List (Value × List Bs)} (h : LL w B v ps) : RowL w B v ps := ⟨h.1, fun p hp => (h.2.1 p hp).1.at⟩
end Go.Proofs.YtiahoaneinojgaaDoor.Sc
