/- ScanParts: both texts are taken. -/
import Derived.Test.YtiahoaneinojgaaDoorPt1
namespace Go.Proofs.YtiahoaneinojgaaDoor.Sc
open Go.RowKit
set_option maxRecDepth 100000

theorem row_one {w : World} {B : Nat} {v : Value} {ps : List (Value × List Bs)} (h : LL w B v ps) : ∀ u ∈ ps.map (·.1), u.oneCell' = true := by
  intro u hu
  obtain ⟨p, hp, rfl⟩ := List.mem_map.1 hu
  exact own_one (h.2.1 p hp).1
theorem LL.form {w : World} {B : Nat} {v : Value} {ps : List (Value × List Bs)} (h : LL w B v ps) : (v = .slice none 0 0 ∧ ps = []) ∨ (0 < ps.length ∧ ∃ g cap, v = .slice (some ⟨g, 0, none⟩) ps.length cap) := by
  by_cases he : ps = []
  · exact Or.inl ⟨h.2.2.2.2 he, he⟩
  · rcases h.1.2 with ⟨rfl, hn⟩ | ⟨g, cap, cur, rfl, _⟩
    · exact absurd (List.eq_nil_of_length_eq_zero hn) he
    · exact Or.inr ⟨List.length_pos_iff.2 he, g, cap, rfl⟩
theorem row_form {w : World} {B n : Nat} {e : TypeId} {v : Value} {xs : List Value} (h : w.ownsRow B e 1 v n xs) (hn : 0 < n) : ∃ g cap, v = .slice (some ⟨g, 0, none⟩) n cap ∧ n ≤ cap := by
  rcases h.2 with ⟨_, h0⟩ | ⟨g, cap, cur, rfl, _, _, hc, _⟩
  · omega
  · exact ⟨g, cap, rfl, hc⟩
theorem below_none {w w' : World} (h : w.grownBy w' none) : Below w.heap.size w w' := (Below.refl _ _).grown h (Nat.le_refl _) (fun k hk => by cases hk)

/-- A text of no line, and one of some. -/
def TookN (t : ByteArray) (n : Int) (w : World) : Prop := Calls Tryd.prog 9 #[.string t, .int .i64 n] w fun e w' => e = .returned (.tuple #[.slice none 0 0, .int .i64 0, .int .i64 0]) ∧ Below w.heap.size w w'
def TookS (t : ByteArray) (n : Int) (L : List (List Bs)) (w : World) : Prop := Calls Tryd.prog 9 #[.string t, .int .i64 n] w fun e w' => ∃ (ps : List (Value × List Bs)) (g cap : Nat), e = .returned (.tuple #[.slice (some ⟨g, 0, none⟩) ps.length cap, .int .i64 0, .int .i64 0]) ∧ ps.map (·.2) = L ∧ 0 < ps.length ∧ LL w' w.heap.size (.slice (some ⟨g, 0, none⟩) ps.length cap) ps ∧ Below w.heap.size w w'
theorem tookN {t : ByteArray} (hs : t.size ≤ 4194304) {n : Int} (hn : n = (t.size : Int)) (h : scanR t.data.toList [] [] [] = .ok []) (w : World) : TookN t n w := by
  refine (took hs hn h w).mono ?_
  rintro e w' ⟨v, rfl, ⟨ps, hp, hl⟩, hb⟩
  rcases hl.form with ⟨rfl, _⟩ | ⟨h0, _⟩
  · exact ⟨rfl, hb⟩
  · have := congrArg List.length hp
    simp at this
    rw [this] at h0
    simp at h0
theorem tookS {t : ByteArray} (hs : t.size ≤ 4194304) {n : Int} (hn : n = (t.size : Int)) {L : List (List Bs)} (h : scanR t.data.toList [] [] [] = .ok L) (hL : L ≠ []) (w : World) : TookS t n L w := by
  refine (took hs hn h w).mono ?_
  rintro e w' ⟨v, rfl, ⟨ps, hp, hl⟩, hb⟩
  rcases hl.form with ⟨_, rfl⟩ | ⟨h0, g, cap, rfl⟩
  · exact absurd hp.symm hL
  · exact ⟨ps, g, cap, rfl, hp, h0, hl, hb⟩

set_option maxHeartbeats 3200000 in
theorem parts_NN (hf : Fits ([])) (s t : ByteArray) (hs : s.size ≤ 1048576) (ht : t.size ≤ 1048576) (w : World) (HA : Hid (TookN s (s.size : Int) w)) (HB : Hid (∀ w1, TookN t (t.size : Int) w1))
    (HC : Hid (∀ w1, Took (s ++ t) ((s.size : Int) + (t.size : Int)) ([]) w1)) (HK : Hid (Kno w)) :
    Calls Tryd.prog 7 #[.string s, .string t] w fun e w' => e = .returned (.bool true) ∧ Below w.heap.size w w' := by
  obtain ⟨i1, hj, hy0, hy1, hy2⟩ := info_parts infoStrs
  have t1 : True := trivial
  have t2 : True := trivial
  have HF := hide3 hf
  clear hf
  unfold TookN at HA
  unfold TookN at HB
  unfold Took at HC
  go_enter Tryd.func7, Tryd.ntmps7
  go_wp2_with (first
    | (have _t := t1; go_at_call 9; refine HA.out.mono ?_; rintro e w1 ⟨rfl, hb1⟩; have HA1 := hide3 hb1; clear hb1 t1)
    | (have _t := t2; go_at_call 9; refine (HB.out _).mono ?_; rintro e w2 ⟨rfl, hb2⟩; have HB1 := hide3 hb2; clear hb2 t2)
    | (go_at_call 9; refine (HC.out _).mono ?_; rintro e w3 ⟨v3, rfl, ho3, hb3⟩; have HC1 : Hid (LinesAt w3 v3 ([]) ∧ Below w2.heap.size w2 w3) := ⟨ho3.at, hb3⟩; clear ho3 hb3)
    | (go_at_call 11; refine (HK.out _ (below_then (below_then HA1.out HB1.out) HC1.out.2)).mono ?_; rintro e wc ⟨rfl, hb4⟩; have HW : Hid (LinesAt wc v3 ([]) ∧ Below w.heap.size w wc) := ⟨HC1.out.1.below hb4, below_then (below_then (below_then HA1.out HB1.out) HC1.out.2) hb4⟩; clear hb4)
    | (go_at_call 10; refine (same_yes (L := []) (HW.out.1.below (Below.refl _ _)) (⟨none, 0, rfl, Nat.le_refl _, Or.inl rfl⟩) HF.out).mono ?_; rintro e w7 ⟨rfl, hb7⟩; have HB7 : Hid (Below w.heap.size w w7) := below_then (below_then HW.out.2 (Below.refl _ _)) hb7; clear hb7))
  go_ret
  exact ⟨rfl, HB7.out⟩

set_option maxHeartbeats 3200000 in
theorem parts_NS (B : List (List Bs)) (hf : Fits (B)) (s t : ByteArray) (hs : s.size ≤ 1048576) (ht : t.size ≤ 1048576) (w : World) (HA : Hid (TookN s (s.size : Int) w)) (HB : Hid (∀ w1, TookS t (t.size : Int) B w1))
    (HC : Hid (∀ w1, Took (s ++ t) ((s.size : Int) + (t.size : Int)) (B) w1)) (HK : Hid (Kno w)) :
    Calls Tryd.prog 7 #[.string s, .string t] w fun e w' => e = .returned (.bool true) ∧ Below w.heap.size w w' := by
  obtain ⟨i1, hj, hy0, hy1, hy2⟩ := info_parts infoStrs
  have t1 : True := trivial
  have t2 : True := trivial
  have t3 : True := trivial
  have hlB : B.length ≤ 1000000000 := by have := hf.1; first | exact this | (rw [List.length_append] at this; omega)
  have HF := hide3 hf
  clear hf
  unfold TookN at HA
  unfold TookS at HB
  unfold Took at HC
  go_enter Tryd.func7, Tryd.ntmps7
  go_wp2_with (first
    | (have _t := t1; go_at_call 9; refine HA.out.mono ?_; rintro e w1 ⟨rfl, hb1⟩; have HA1 := hide3 hb1; clear hb1 t1)
    | (have _t := t2; go_at_call 9; refine (HB.out _).mono ?_; rintro e w2 ⟨psB, g2, cap2, rfl, mB, hpB, llB, hb2⟩; have hqB : psB.length ≤ 1000000000 := (by rw [← mB, List.length_map] at hlB; exact hlB); have HB1 : Hid (psB.map (·.2) = B ∧ LL w2 w1.heap.size (.slice (some ⟨g2, 0, none⟩) psB.length cap2) psB ∧ Below w1.heap.size w1 w2) := ⟨mB, llB, hb2⟩; clear mB llB hb2 t2)
    | (go_at_call 9; refine (HC.out _).mono ?_; rintro e w3 ⟨v3, rfl, ho3, hb3⟩; have HC1 : Hid (LinesAt w3 v3 (B) ∧ Below w2.heap.size w2 w3) := ⟨ho3.at, hb3⟩; clear ho3 hb3)
    | (go_at_call 11; refine (HK.out _ (below_then (below_then HA1.out HB1.out.2.2) HC1.out.2)).mono ?_; rintro e wc ⟨rfl, hb4⟩; have HW : Hid (LL wc w1.heap.size (.slice (some ⟨g2, 0, none⟩) psB.length cap2) psB ∧ LinesAt wc v3 (B) ∧ Below w.heap.size w wc) := ⟨(HB1.out.2.1.below HC1.out.2).below hb4, HC1.out.1.below hb4, below_then (below_then (below_then HA1.out HB1.out.2.2) HC1.out.2) hb4⟩; clear hb4)
    | (have _t := t3; at_builtin; refine wpList_append_own_at _ rfl _ _ 22 rfl wc.heap.size 27 i1 _ 1 24 Tryd.underlying22 hj hy0 hy1 hy2 rfl (by decide) _ 0 [] rfl (World.ownsRow_nil _ _ _ _) ⟨g2, 0, none⟩ psB.length cap2 (psB.map (·.1)) rfl (by simp) (World.ownsRow.cells HW.out.1.1 rfl) (row_one HW.out.1) (by unfold maxLen; omega) (by omega) (Nat.le_refl _) ?_; intro v5 w5 hown5 hg5 hnil5 hat5; have HR5 : Hid (w5.ownsRow wc.heap.size 27 1 v5 psB.length (psB.map (·.1)) ∧ Below wc.heap.size wc w5) := ⟨by simpa using hown5, below_none hg5⟩; clear hown5 hg5 hnil5 hat5 t3; go_frame)
    | (go_at_call 10; refine (same_yes (L := B) (HW.out.2.1.below (HR5.out.2)) (by rw [← HB1.out.1]; exact RowL.lines (ps := psB) (B := wc.heap.size) ⟨HR5.out.1, fun p h => ((HW.out.1.2.1 p h).1.at).below HR5.out.2⟩) HF.out).mono ?_; rintro e w7 ⟨rfl, hb7⟩; have HB7 : Hid (Below w.heap.size w w7) := below_then (below_then HW.out.2.2 (HR5.out.2)) hb7; clear hb7))
  go_ret
  exact ⟨rfl, HB7.out⟩

set_option maxHeartbeats 3200000 in
theorem parts_SN (A : List (List Bs)) (hf : Fits (A)) (s t : ByteArray) (hs : s.size ≤ 1048576) (ht : t.size ≤ 1048576) (w : World) (HA : Hid (TookS s (s.size : Int) A w)) (HB : Hid (∀ w1, TookN t (t.size : Int) w1))
    (HC : Hid (∀ w1, Took (s ++ t) ((s.size : Int) + (t.size : Int)) (A) w1)) (HK : Hid (Kno w)) :
    Calls Tryd.prog 7 #[.string s, .string t] w fun e w' => e = .returned (.bool true) ∧ Below w.heap.size w w' := by
  obtain ⟨i1, hj, hy0, hy1, hy2⟩ := info_parts infoStrs
  have t1 : True := trivial
  have t2 : True := trivial
  have t3 : True := trivial
  have hlA : A.length ≤ 1000000000 := by have := hf.1; first | exact this | (rw [List.length_append] at this; omega)
  have HF := hide3 hf
  clear hf
  unfold TookS at HA
  unfold TookN at HB
  unfold Took at HC
  go_enter Tryd.func7, Tryd.ntmps7
  go_wp2_with (first
    | (have _t := t1; go_at_call 9; refine HA.out.mono ?_; rintro e w1 ⟨psA, g1, cap1, rfl, mA, hpA, llA, hb1⟩; have hqA : psA.length ≤ 1000000000 := (by rw [← mA, List.length_map] at hlA; exact hlA); have HA1 : Hid (psA.map (·.2) = A ∧ LL w1 w.heap.size (.slice (some ⟨g1, 0, none⟩) psA.length cap1) psA ∧ Below w.heap.size w w1) := ⟨mA, llA, hb1⟩; clear mA llA hb1 t1)
    | (have _t := t2; go_at_call 9; refine (HB.out _).mono ?_; rintro e w2 ⟨rfl, hb2⟩; have HB1 := hide3 hb2; clear hb2 t2)
    | (go_at_call 9; refine (HC.out _).mono ?_; rintro e w3 ⟨v3, rfl, ho3, hb3⟩; have HC1 : Hid (LinesAt w3 v3 (A) ∧ Below w2.heap.size w2 w3) := ⟨ho3.at, hb3⟩; clear ho3 hb3)
    | (go_at_call 11; refine (HK.out _ (below_then (below_then HA1.out.2.2 HB1.out) HC1.out.2)).mono ?_; rintro e wc ⟨rfl, hb4⟩; have HW : Hid (LL wc w.heap.size (.slice (some ⟨g1, 0, none⟩) psA.length cap1) psA ∧ LinesAt wc v3 (A) ∧ Below w.heap.size w wc) := ⟨((HA1.out.2.1.below HB1.out).below HC1.out.2).below hb4, HC1.out.1.below hb4, below_then (below_then (below_then HA1.out.2.2 HB1.out) HC1.out.2) hb4⟩; clear hb4)
    | (have _t := t3; at_builtin; refine wpList_append_own_at _ rfl _ _ 22 rfl wc.heap.size 27 i1 _ 1 24 Tryd.underlying22 hj hy0 hy1 hy2 rfl (by decide) _ 0 [] rfl (World.ownsRow_nil _ _ _ _) ⟨g1, 0, none⟩ psA.length cap1 (psA.map (·.1)) rfl (by simp) (World.ownsRow.cells HW.out.1.1 rfl) (row_one HW.out.1) (by unfold maxLen; omega) (by omega) (Nat.le_refl _) ?_; intro v5 w5 hown5 hg5 hnil5 hat5; have HR5 : Hid (w5.ownsRow wc.heap.size 27 1 v5 psA.length (psA.map (·.1)) ∧ Below wc.heap.size wc w5) := ⟨by simpa using hown5, below_none hg5⟩; clear hown5 hg5 hnil5 hat5 t3; obtain ⟨g5, cap5, rfl, hc5⟩ := row_form HR5.out.1 hpA; have hd5 : ¬ ¬ psA.length ≤ cap5 := fun h => h hc5; go_frame)
    | (go_at_call 10; refine (same_yes (L := A) (HW.out.2.1.below (HR5.out.2)) (by rw [← HA1.out.1]; exact RowL.lines (ps := psA) (B := wc.heap.size) ⟨HR5.out.1, fun p h => ((HW.out.1.2.1 p h).1.at).below HR5.out.2⟩) HF.out).mono ?_; rintro e w7 ⟨rfl, hb7⟩; have HB7 : Hid (Below w.heap.size w w7) := below_then (below_then HW.out.2.2 (HR5.out.2)) hb7; clear hb7))
  go_ret
  exact ⟨rfl, HB7.out⟩

set_option maxHeartbeats 3200000 in
theorem parts_SS (A : List (List Bs)) (B : List (List Bs)) (hf : Fits (A ++ B)) (s t : ByteArray) (hs : s.size ≤ 1048576) (ht : t.size ≤ 1048576) (w : World) (HA : Hid (TookS s (s.size : Int) A w)) (HB : Hid (∀ w1, TookS t (t.size : Int) B w1))
    (HC : Hid (∀ w1, Took (s ++ t) ((s.size : Int) + (t.size : Int)) (A ++ B) w1)) (HK : Hid (Kno w)) :
    Calls Tryd.prog 7 #[.string s, .string t] w fun e w' => e = .returned (.bool true) ∧ Below w.heap.size w w' := by
  obtain ⟨i1, hj, hy0, hy1, hy2⟩ := info_parts infoStrs
  have t1 : True := trivial
  have t2 : True := trivial
  have t3 : True := trivial
  have hlA : A.length ≤ 1000000000 := by have := hf.1; first | exact this | (rw [List.length_append] at this; omega)
  have hlB : B.length ≤ 1000000000 := by have := hf.1; first | exact this | (rw [List.length_append] at this; omega)
  have HF := hide3 hf
  clear hf
  unfold TookS at HA
  unfold TookS at HB
  unfold Took at HC
  go_enter Tryd.func7, Tryd.ntmps7
  go_wp2_with (first
    | (have _t := t1; go_at_call 9; refine HA.out.mono ?_; rintro e w1 ⟨psA, g1, cap1, rfl, mA, hpA, llA, hb1⟩; have hqA : psA.length ≤ 1000000000 := (by rw [← mA, List.length_map] at hlA; exact hlA); have HA1 : Hid (psA.map (·.2) = A ∧ LL w1 w.heap.size (.slice (some ⟨g1, 0, none⟩) psA.length cap1) psA ∧ Below w.heap.size w w1) := ⟨mA, llA, hb1⟩; clear mA llA hb1 t1)
    | (have _t := t2; go_at_call 9; refine (HB.out _).mono ?_; rintro e w2 ⟨psB, g2, cap2, rfl, mB, hpB, llB, hb2⟩; have hqB : psB.length ≤ 1000000000 := (by rw [← mB, List.length_map] at hlB; exact hlB); have HB1 : Hid (psB.map (·.2) = B ∧ LL w2 w1.heap.size (.slice (some ⟨g2, 0, none⟩) psB.length cap2) psB ∧ Below w1.heap.size w1 w2) := ⟨mB, llB, hb2⟩; clear mB llB hb2 t2)
    | (go_at_call 9; refine (HC.out _).mono ?_; rintro e w3 ⟨v3, rfl, ho3, hb3⟩; have HC1 : Hid (LinesAt w3 v3 (A ++ B) ∧ Below w2.heap.size w2 w3) := ⟨ho3.at, hb3⟩; clear ho3 hb3)
    | (go_at_call 11; refine (HK.out _ (below_then (below_then HA1.out.2.2 HB1.out.2.2) HC1.out.2)).mono ?_; rintro e wc ⟨rfl, hb4⟩; have HW : Hid (LL wc w.heap.size (.slice (some ⟨g1, 0, none⟩) psA.length cap1) psA ∧ LL wc w1.heap.size (.slice (some ⟨g2, 0, none⟩) psB.length cap2) psB ∧ LinesAt wc v3 (A ++ B) ∧ Below w.heap.size w wc) := ⟨((HA1.out.2.1.below HB1.out.2.2).below HC1.out.2).below hb4, (HB1.out.2.1.below HC1.out.2).below hb4, HC1.out.1.below hb4, below_then (below_then (below_then HA1.out.2.2 HB1.out.2.2) HC1.out.2) hb4⟩; clear hb4)
    | (have _t := t3; at_builtin; refine wpList_append_own_at _ rfl _ _ 22 rfl wc.heap.size 27 i1 _ 1 24 Tryd.underlying22 hj hy0 hy1 hy2 rfl (by decide) _ 0 [] rfl (World.ownsRow_nil _ _ _ _) ⟨g1, 0, none⟩ psA.length cap1 (psA.map (·.1)) rfl (by simp) (World.ownsRow.cells HW.out.1.1 rfl) (row_one HW.out.1) (by unfold maxLen; omega) (by omega) (Nat.le_refl _) ?_; intro v5 w5 hown5 hg5 hnil5 hat5; have HR5 : Hid (w5.ownsRow wc.heap.size 27 1 v5 psA.length (psA.map (·.1)) ∧ Below wc.heap.size wc w5) := ⟨by simpa using hown5, below_none hg5⟩; clear hown5 hg5 hnil5 hat5 t3; go_frame)
    | (have _h := HR5; at_builtin; refine wpList_append_own_at _ rfl _ _ 22 rfl wc.heap.size 27 i1 _ 1 24 Tryd.underlying22 hj hy0 hy1 hy2 rfl (by decide) v5 psA.length (psA.map fun x : Value × List Bs => x.1) rfl HR5.out.1 ⟨g2, 0, none⟩ psB.length cap2 (psB.map fun x : Value × List Bs => x.1) rfl (by simp) (World.ownsRow.cells (HW.out.2.1.below HR5.out.2).1 rfl) (row_one HW.out.2.1) (by unfold maxLen; omega) (by omega) HR5.out.2.size ?_; intro v6 w6 hown6 hg6 hnil6 hat6; have HR6 : Hid (w6.ownsRow wc.heap.size 27 1 v6 (psA.length + psB.length) (psA.map (·.1) ++ psB.map (·.1)) ∧ Below wc.heap.size wc w6) := ⟨hown6, HR5.out.2.grown hg6 HR5.out.2.size fun k hk => (World.ownsRow.lt HR5.out.1 k hk).1⟩; clear hown6 hg6 hnil6 hat6; go_frame)
    | (go_at_call 10; refine (same_yes (L := A ++ B) (HW.out.2.2.1.below (HR6.out.2)) (by rw [← HA1.out.1, ← HB1.out.1, ← List.map_append]; exact RowL.lines (ps := psA ++ psB) (B := wc.heap.size) ⟨by rw [List.length_append, List.map_append]; exact HR6.out.1, fun p hp => (List.mem_append.1 hp).elim (fun h => ((HW.out.1.2.1 p h).1.at).below HR6.out.2) (fun h => ((HW.out.2.1.2.1 p h).1.at).below HR6.out.2)⟩) HF.out).mono ?_; rintro e w7 ⟨rfl, hb7⟩; have HB7 : Hid (Below w.heap.size w w7) := below_then (below_then HW.out.2.2.2 (HR6.out.2)) hb7; clear hb7))
  go_ret
  exact ⟨rfl, HB7.out⟩

theorem scanParts_walk (s t : ByteArray) (hs : s.size ≤ 1048576) (ht : t.size ≤ 1048576) (w : World) (he : EnvS w) : Calls Tryd.prog 7 #[.string s, .string t] w fun e w' => e = .returned (.bool true) ∧ Below w.heap.size w w' := by
  cases h1 : scanR s.data.toList [] [] [] with
  | error k => exact parts_first s t hs ht k h1 w he
  | ok A =>
    cases h2 : scanR t.data.toList [] [] [] with
    | error k => exact parts_second s t hs ht A k h1 h2 w he
    | ok B =>
      have h3 : scanR (s ++ t).data.toList [] [] [] = .ok (A ++ B) := by
        rw [cat_list, scan_then _ _ _ _ _ A h1]
        have := scan_shift A t.data.toList [] [] []
        rw [List.append_nil, h2] at this
        exact this
      have hk : Kno w := fun w1 hb => known_any w1 (he.below hb)
      have hz : (s ++ t).size ≤ 2097152 := by rw [cat_size]; omega
      have hf : Fits (A ++ B) := by
        have := lin_fits (s ++ t)
        rw [h3] at this
        exact ⟨Nat.le_trans this.1 (by omega), fun l hl => Nat.le_trans (this.2 l hl) (by omega)⟩
      have hC : ∀ w1, Took (s ++ t) ((s.size : Int) + (t.size : Int)) (A ++ B) w1 := fun w1 => took (by omega) (by rw [cat_size]; omega) h3 w1
      by_cases hA : A = []
      · subst hA
        by_cases hB : B = []
        · subst hB
          exact parts_NN hf s t hs ht w (tookN (by omega) rfl h1 w) (fun w1 => tookN (by omega) rfl h2 w1) hC hk
        · exact parts_NS B hf s t hs ht w (tookN (by omega) rfl h1 w) (fun w1 => tookS (by omega) rfl h2 hB w1) hC hk
      · by_cases hB : B = []
        · subst hB
          rw [List.append_nil] at hf hC
          exact parts_SN A hf s t hs ht w (tookS (by omega) rfl h1 hA w) (fun w1 => tookN (by omega) rfl h2 w1) hC hk
        · exact parts_SS A B hf s t hs ht w (tookS (by omega) rfl h1 hA w) (fun w1 => tookS (by omega) rfl h2 hB w1) hC hk
end Go.Proofs.YtiahoaneinojgaaDoor.Sc
