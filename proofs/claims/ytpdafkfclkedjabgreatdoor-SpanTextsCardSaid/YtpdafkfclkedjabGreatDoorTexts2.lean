/- SpanTexts of any texts. -/
import Derived.Test.YtpdafkfclkedjabGreatDoorSh1
import Derived.Test.YtpdafkfclkedjabGreatDoorTexts1
namespace Go.Proofs.YtpdafkfclkedjabGreatDoor
open Go.RowKit
set_option maxRecDepth 100000

/-- Parse of a text answers with an error and a range. -/
def ParsesTo (s : ByteArray) (w : World) (er : Int) (X : Rg) : Prop := Calls Tryz.prog 10 #[.string s] w fun e w' => ∃ v, e = .returned (.tuple #[v, .int .i64 er]) ∧ SpansR w' v X ∧ Below w.heap.size w w'

theorem texts_e (s t : ByteArray) (A B : Rg) (e f : Int) (w : World) (HA : Hid (∀ w1, Below w.heap.size w w1 → ParsesTo s w1 e A)) (HB : Hid (∀ w1, Below w.heap.size w w1 → ParsesTo t w1 f B)) (HKn : Hid (∀ w1, Below w.heap.size w w1 → Says 6 #[] w1 true)) (hne : (e != 0) = true) :
    Calls Tryz.prog 5 #[.string s, .string t] w fun e w' => e = .returned (.bool true) ∧ Below w.heap.size w w' := by
  have HK0 : Hid (KeepP fun w1 => Below w.heap.size w w1) := keepBelow w
  have HO0 : Hid (Below w.heap.size w w) := Below.refl _ _
  go_enter Tryz.func5, Tryz.ntmps5
  go_wp2_with (first
    | (have _h := HO0; go_at_call 10; refine (HA.out _ (HO0.out)).mono ?_; rintro e y1 ⟨va, rfl, ok⟩; have HK1 := hide3 (HK0.out.and (keepSpR va A)); have HO1 : Hid ((Below w.heap.size w y1) ∧ SpansR y1 va A) := ⟨HK0.out _ _ HO0.out ok.2, ok.1⟩; clear ok HO0)
    | (have _h := HO1; go_at_call 10; refine (HB.out _ (HO1.out.1)).mono ?_; rintro e y2 ⟨vb, rfl, ok⟩; have HK2 := hide3 (HK1.out.and (keepSpR vb B)); have HO2 : Hid (((Below w.heap.size w y2) ∧ SpansR y2 va A) ∧ SpansR y2 vb B) := ⟨HK1.out _ _ HO1.out ok.2, ok.1⟩; clear ok HO1)
    | (have _h := HO2; go_at_call 6; refine (HKn.out _ (HO2.out.1.1)).mono ?_; rintro e y3 ⟨rfl, ok⟩; have HO3 : Hid (((Below w.heap.size w y3) ∧ SpansR y3 va A) ∧ SpansR y3 vb B) := HK2.out _ _ HO2.out ok; clear ok HO2))
  go_ret
  exact ⟨rfl, HO3.out.1.1⟩

theorem texts_f (s t : ByteArray) (A B : Rg) (f : Int) (w : World) (HA : Hid (∀ w1, Below w.heap.size w w1 → ParsesTo s w1 0 A)) (HB : Hid (∀ w1, Below w.heap.size w w1 → ParsesTo t w1 f B)) (HKn : Hid (∀ w1, Below w.heap.size w w1 → Says 6 #[] w1 true)) (hne : (f != 0) = true) :
    Calls Tryz.prog 5 #[.string s, .string t] w fun e w' => e = .returned (.bool true) ∧ Below w.heap.size w w' := by
  have HK0 : Hid (KeepP fun w1 => Below w.heap.size w w1) := keepBelow w
  have HO0 : Hid (Below w.heap.size w w) := Below.refl _ _
  go_enter Tryz.func5, Tryz.ntmps5
  go_wp2_with (first
    | (have _h := HO0; go_at_call 10; refine (HA.out _ (HO0.out)).mono ?_; rintro e y1 ⟨va, rfl, ok⟩; have HK1 := hide3 (HK0.out.and (keepSpR va A)); have HO1 : Hid ((Below w.heap.size w y1) ∧ SpansR y1 va A) := ⟨HK0.out _ _ HO0.out ok.2, ok.1⟩; clear ok HO0)
    | (have _h := HO1; go_at_call 10; refine (HB.out _ (HO1.out.1)).mono ?_; rintro e y2 ⟨vb, rfl, ok⟩; have HK2 := hide3 (HK1.out.and (keepSpR vb B)); have HO2 : Hid (((Below w.heap.size w y2) ∧ SpansR y2 va A) ∧ SpansR y2 vb B) := ⟨HK1.out _ _ HO1.out ok.2, ok.1⟩; clear ok HO1)
    | (have _h := HO2; go_at_call 6; refine (HKn.out _ (HO2.out.1.1)).mono ?_; rintro e y3 ⟨rfl, ok⟩; have HO3 : Hid (((Below w.heap.size w y3) ∧ SpansR y3 va A) ∧ SpansR y3 vb B) := HK2.out _ _ HO2.out ok; clear ok HO2))
  go_ret
  exact ⟨rfl, HO3.out.1.1⟩

theorem texts_long (s t : ByteArray) (A B : Rg) (w : World) (HA : Hid (∀ w1, Below w.heap.size w w1 → ParsesTo s w1 0 A)) (HB : Hid (∀ w1, Below w.heap.size w w1 → ParsesTo t w1 0 B)) (HKn : Hid (∀ w1, Below w.heap.size w w1 → Says 6 #[] w1 true)) (hs : s.size ≤ 4096) (ht : t.size ≤ 4096) (hl : (4000 : Int) < (s.size : Int) + (t.size : Int)) :
    Calls Tryz.prog 5 #[.string s, .string t] w fun e w' => e = .returned (.bool true) ∧ Below w.heap.size w w' := by
  have HK0 : Hid (KeepP fun w1 => Below w.heap.size w w1) := keepBelow w
  have HO0 : Hid (Below w.heap.size w w) := Below.refl _ _
  go_enter Tryz.func5, Tryz.ntmps5
  go_wp2_with (first
    | (have _h := HO0; go_at_call 10; refine (HA.out _ (HO0.out)).mono ?_; rintro e y1 ⟨va, rfl, ok⟩; have HK1 := hide3 (HK0.out.and (keepSpR va A)); have HO1 : Hid ((Below w.heap.size w y1) ∧ SpansR y1 va A) := ⟨HK0.out _ _ HO0.out ok.2, ok.1⟩; clear ok HO0)
    | (have _h := HO1; go_at_call 10; refine (HB.out _ (HO1.out.1)).mono ?_; rintro e y2 ⟨vb, rfl, ok⟩; have HK2 := hide3 (HK1.out.and (keepSpR vb B)); have HO2 : Hid (((Below w.heap.size w y2) ∧ SpansR y2 va A) ∧ SpansR y2 vb B) := ⟨HK1.out _ _ HO1.out ok.2, ok.1⟩; clear ok HO1)
    | (have _h := HO2; go_at_call 6; refine (HKn.out _ (HO2.out.1.1)).mono ?_; rintro e y3 ⟨rfl, ok⟩; have HO3 : Hid (((Below w.heap.size w y3) ∧ SpansR y3 va A) ∧ SpansR y3 vb B) := HK2.out _ _ HO2.out ok; clear ok HO2))
  go_ret
  exact ⟨rfl, HO3.out.1.1⟩

set_option maxHeartbeats 6400000 in
theorem texts_ok (s t : ByteArray) (A B X M : Rg) (ex em : Int) (w : World) (HA : Hid (∀ w1, Below w.heap.size w w1 → ParsesTo s w1 0 A)) (HB : Hid (∀ w1, Below w.heap.size w w1 → ParsesTo t w1 0 B)) (HKn : Hid (∀ w1, Below w.heap.size w w1 → Says 6 #[] w1 true))
    (hs : s.size ≤ 4096) (ht : t.size ≤ 4096) (hl : ¬ (4000 : Int) < (s.size : Int) + (t.size : Int)) (lx : X.length ≤ 64) (lm : M.length ≤ 64)
    (HX : Hid (∀ w1, Below w.heap.size w w1 → ParsesTo ((s ++ ⟨#[124, 124]⟩) ++ t) w1 ex X)) (HJ : Hid (∀ w1 x y, Below w.heap.size w w1 → SpansR w1 x A → SpansR w1 y B → NewSp 13 x y w1 ex X))
    (HSm : Hid (∀ w1 x y (R : Rg), R.length ≤ 64 → SpansR w1 x R → SpansR w1 y R → Says 15 #[x, y] w1 true))
    (HZ : Hid ((∀ i (h : i < s.size), (s[i]'h).toNat ≠ 124) → (∀ i (h : i < t.size), (t[i]'h).toNat ≠ 124) → ∀ w1, Below w.heap.size w w1 → ParsesTo ((s ++ ⟨#[32]⟩) ++ t) w1 em M)) (HM : Hid (∀ w1 x y, Below w.heap.size w w1 → SpansR w1 x A → SpansR w1 y B → NewSp 14 x y w1 em M)) :
    Calls Tryz.prog 5 #[.string s, .string t] w fun e w' => e = .returned (.bool true) ∧ Below w.heap.size w w' := by
  have z2 : (⟨#[124, 124]⟩ : ByteArray).size = 2 := rfl
  have z1 : (⟨#[32]⟩ : ByteArray).size = 1 := rfl
  have s1 := fun W : World => run_string_add_sum (P := Tryz.prog) (w := W) s ⟨#[124, 124]⟩ (by omega)
  have s2 := fun W : World => run_string_add_sum (P := Tryz.prog) (w := W) (s ++ ⟨#[124, 124]⟩) t (by rw [size_cat]; omega)
  have s3 := fun W : World => run_string_add_sum (P := Tryz.prog) (w := W) s ⟨#[32]⟩ (by omega)
  have s4 := fun W : World => run_string_add_sum (P := Tryz.prog) (w := W) (s ++ ⟨#[32]⟩) t (by rw [size_cat]; omega)
  clear z1 z2
  have HK0 : Hid (KeepP fun w1 => Below w.heap.size w w1) := keepBelow w
  have HO0 : Hid (Below w.heap.size w w) := Below.refl _ _
  go_enter Tryz.func5, Tryz.ntmps5
  go_wp2_with (first
    | (have _h := HO0; go_at_call 10; refine (HA.out _ (HO0.out)).mono ?_; rintro e y1 ⟨va, rfl, ok⟩; have HK1 := hide3 (HK0.out.and (keepSpR va A)); have HO1 : Hid ((Below w.heap.size w y1) ∧ SpansR y1 va A) := ⟨HK0.out _ _ HO0.out ok.2, ok.1⟩; clear ok HO0)
    | (have _h := HO1; go_at_call 10; refine (HB.out _ (HO1.out.1)).mono ?_; rintro e y2 ⟨vb, rfl, ok⟩; have HK2 := hide3 (HK1.out.and (keepSpR vb B)); have HO2 : Hid (((Below w.heap.size w y2) ∧ SpansR y2 va A) ∧ SpansR y2 vb B) := ⟨HK1.out _ _ HO1.out ok.2, ok.1⟩; clear ok HO1)
    | (have _h := HO2; go_at_call 6; refine (HKn.out _ (HO2.out.1.1)).mono ?_; rintro e y3 ⟨rfl, ok⟩; have HO3 : Hid (((Below w.heap.size w y3) ∧ SpansR y3 va A) ∧ SpansR y3 vb B) := HK2.out _ _ HO2.out ok; clear ok HO2)
    | (have _h := HO3; go_at_call 10; refine (HX.out _ (HO3.out.1.1)).mono ?_; rintro e y4 ⟨vx, rfl, ok⟩; have HK3 := hide3 (HK2.out.and (keepSpR vx X)); have HO4 : Hid ((((Below w.heap.size w y4) ∧ SpansR y4 va A) ∧ SpansR y4 vb B) ∧ SpansR y4 vx X) := ⟨HK2.out _ _ HO3.out ok.2, ok.1⟩; clear ok HO3)
    | (have _h := HO4; go_at_call 13; refine (HJ.out _ _ _ (HO4.out.1.1.1) (HO4.out.1.1.2) (HO4.out.1.2)).mono ?_; rintro e y5 ⟨vy, rfl, ok⟩; have HK4 := hide3 (HK3.out.and (keepSpR vy X)); have HO5 : Hid (((((Below w.heap.size w y5) ∧ SpansR y5 va A) ∧ SpansR y5 vb B) ∧ SpansR y5 vx X) ∧ SpansR y5 vy X) := ⟨HK3.out _ _ HO4.out ok.2, ok.1⟩; clear ok HO4)
    | (have _h := HO5; go_at_call 15; refine (HSm.out _ _ _ X lx (HO5.out.1.2) (HO5.out.2)).mono ?_; rintro e y6 ⟨rfl, ok⟩; have HO6 : Hid (((((Below w.heap.size w y6) ∧ SpansR y6 va A) ∧ SpansR y6 vb B) ∧ SpansR y6 vx X) ∧ SpansR y6 vy X) := HK4.out _ _ HO5.out ok; clear ok HO5))
  have HL0 : Hid (Below w.heap.size w y6 ∧ SpansR y6 va A ∧ SpansR y6 vb B) := ⟨HO6.out.1.1.1.1, HO6.out.1.1.1.2, HO6.out.1.1.2⟩
  clear HO6
  clear HK0 HK1 HK2 HK3 HK4
  go_loopw [13] (fun i wr => ∃ k : Nat, k ≤ s.size ∧ i = .int .i64 k ∧ (Below w.heap.size w wr ∧ SpansR wr va A ∧ SpansR wr vb B) ∧ ∀ j (h : j < s.size), j < k → (s[j]'h).toNat ≠ 124) (fun i _ => s.size - (intOf i).toNat)
  case atStart => exact ⟨0, Nat.zero_le _, rfl, HL0.out, fun j _ hj => by omega⟩
  case round =>
    obtain ⟨k, hk, rfl, hk2, hno⟩ := hrel
    have HL := hide3 hk2
    have HN := hide3 hno
    clear hk2 hno
    by_cases hlt : k < s.size
    · by_cases hbar : ((s[k]'hlt).toNat : Int) = 124
      · have hb2 : (((s[k]'hlt).toNat : Int) == 124) = true := by simpa using hbar
        clear hbar
        go_wp2
        go_ret
        exact ⟨rfl, HL.out.1⟩
      · have hb2 : (((s[k]'hlt).toNat : Int) == 124) = false := by simpa using hbar
        have HNB : Hid ((s[k]'hlt).toNat ≠ 124) := fun e => hbar (by omega)
        clear hbar
        have HNN : Hid (∀ j (h : j < s.size), j < k + 1 → (s[j]'h).toNat ≠ 124) := fun j h hj => by
          rcases Nat.lt_or_ge j k with h2 | h2
          · exact HN.out j h h2
          · have : j = k := by omega
            subst this; exact HNB.out
        clear HNB
        go_wp2
        exact ⟨⟨k + 1, by omega, by go_num, HL.out, HNN.out⟩, by simp [intOf]; omega⟩
    · have hke : k = s.size := by omega
      subst hke
      have HFs : Hid (∀ j (h : j < s.size), (s[j]'h).toNat ≠ 124) := fun j h => HN.out j h h
      clear HN
      go_wp2_with fail
      have HL1 := HL
      clear HL
      go_loopw [14] (fun i wr => ∃ k : Nat, k ≤ t.size ∧ i = .int .i64 k ∧ (Below w.heap.size w wr ∧ SpansR wr va A ∧ SpansR wr vb B) ∧ ∀ j (h : j < t.size), j < k → (t[j]'h).toNat ≠ 124) (fun i _ => t.size - (intOf i).toNat)
      case atStart => exact ⟨0, Nat.zero_le _, rfl, HL1.out, fun j _ hj => by omega⟩
      case round =>
        obtain ⟨k, hk, rfl, hk2, hno⟩ := hrel
        have HL := hide3 hk2
        have HN := hide3 hno
        clear hk2 hno
        by_cases hlt : k < t.size
        · by_cases hbar : ((t[k]'hlt).toNat : Int) = 124
          · have hb2 : (((t[k]'hlt).toNat : Int) == 124) = true := by simpa using hbar
            clear hbar
            go_wp2
            go_ret
            exact ⟨rfl, HL.out.1⟩
          · have hb2 : (((t[k]'hlt).toNat : Int) == 124) = false := by simpa using hbar
            have HNB : Hid ((t[k]'hlt).toNat ≠ 124) := fun e => hbar (by omega)
            clear hbar
            have HNN : Hid (∀ j (h : j < t.size), j < k + 1 → (t[j]'h).toNat ≠ 124) := fun j h hj => by
              rcases Nat.lt_or_ge j k with h2 | h2
              · exact HN.out j h h2
              · have : j = k := by omega
                subst this; exact HNB.out
            clear HNB
            go_wp2
            exact ⟨⟨k + 1, by omega, by go_num, HL.out, HNN.out⟩, by simp [intOf]; omega⟩
        · have hke : k = t.size := by omega
          subst hke
          have HFt : Hid (∀ j (h : j < t.size), (t[j]'h).toNat ≠ 124) := fun j h => HN.out j h h
          clear HN
          have HK0 : Hid (KeepP fun w1 => ((Below w.heap.size w w1) ∧ SpansR w1 va A) ∧ SpansR w1 vb B) := (KeepP.and ((KeepP.and (keepBelow w) (keepSpR va A))) (keepSpR vb B))
          have HO0 : Hid (((Below w.heap.size w wr) ∧ SpansR wr va A) ∧ SpansR wr vb B) := ⟨⟨HL.out.1, HL.out.2.1⟩, HL.out.2.2⟩
          go_wp2_with (first
            | (have _h := HO0; go_at_call 10; refine (HZ.out HFs.out HFt.out _ (HO0.out.1.1)).mono ?_; rintro e y1 ⟨vz, rfl, ok⟩; have HK1 := hide3 (HK0.out.and (keepSpR vz M)); have HO1 : Hid ((((Below w.heap.size w y1) ∧ SpansR y1 va A) ∧ SpansR y1 vb B) ∧ SpansR y1 vz M) := ⟨HK0.out _ _ HO0.out ok.2, ok.1⟩; clear ok HO0)
            | (have _h := HO1; go_at_call 14; refine (HM.out _ _ _ (HO1.out.1.1.1) (HO1.out.1.1.2) (HO1.out.1.2)).mono ?_; rintro e y2 ⟨vu, rfl, ok⟩; have HK2 := hide3 (HK1.out.and (keepSpR vu M)); have HO2 : Hid (((((Below w.heap.size w y2) ∧ SpansR y2 va A) ∧ SpansR y2 vb B) ∧ SpansR y2 vz M) ∧ SpansR y2 vu M) := ⟨HK1.out _ _ HO1.out ok.2, ok.1⟩; clear ok HO1)
            | (have _h := HO2; go_at_call 15; refine (HSm.out _ _ _ M lm (HO2.out.1.2) (HO2.out.2)).mono ?_; rintro e y3 ⟨rfl, ok⟩; have HO3 : Hid (((((Below w.heap.size w y3) ∧ SpansR y3 va A) ∧ SpansR y3 vb B) ∧ SpansR y3 vz M) ∧ SpansR y3 vu M) := HK2.out _ _ HO2.out ok; clear ok HO2))
          go_ret
          exact ⟨rfl, HO3.out.1.1.1.1⟩

theorem texts_all {W : World} (hE : Env W ∧ FL W) (s t : ByteArray) :
    Calls Tryz.prog 5 #[.string s, .string t] W fun e w' => e = .returned (.bool true) ∧ Below W.heap.size W w' := by
  have HKn : Hid (∀ w1, Below W.heap.size W w1 → Says 6 #[] w1 true) := fun w1 h => known_any w1 (hE.1.below h) (hE.2.below h)
  have par : ∀ u : ByteArray, Hid (∀ w1, Below W.heap.size W w1 → ParsesTo u w1 (parE (parR u)) (parL (parR u))) := fun u w1 h => by
    refine (sParse_all u w1 (hE.1.below h) (hE.2.below h)).mono ?_
    rintro e w' ⟨v, rfl, ho, hb⟩
    exact ⟨v, rfl, ho.spans, hb⟩
  have okOf : ∀ u : ByteArray, (parE (parR u) != 0) = true ∨ ∃ A, altR u = some A ∧ u.size ≤ 4096 ∧ RangeR A ∧ A.length ≤ 64 ∧ parE (parR u) = 0 ∧ parL (parR u) = A := by
    intro u
    unfold parR
    by_cases hs : u.size ≤ 4096
    · rw [if_pos hs]
      cases ha : altR u with
      | none => left; rfl
      | some A =>
        by_cases hl : A.length ≤ 64
        · right
          exact ⟨A, rfl, hs, altR_rg ha, hl, full_0 hl, fit_of hl⟩
        · left
          have : parE (some A) = 26 := full_26 hl
          rw [this]; rfl
    · rw [if_neg hs]; left; rfl
  rcases okOf s with h1 | ⟨A, ha, sa, hA, la, e1, l1⟩
  · exact texts_e s t _ _ _ _ W (par s) (par t) HKn h1
  have HA := par s
  rw [e1, l1] at HA
  rcases okOf t with h2 | ⟨B, hb, sb, hB, lb, e2, l2⟩
  · exact texts_f s t _ _ _ W HA (par t) HKn h2
  have HB := par t
  rw [e2, l2] at HB
  by_cases hl : (4000 : Int) < (s.size : Int) + (t.size : Int)
  · exact texts_long s t _ _ W HA HB HKn sa sb hl
  have z2 : (⟨#[124, 124]⟩ : ByteArray).size = 2 := rfl
  have z1 : (⟨#[32]⟩ : ByteArray).size = 1 := rfl
  have HX := par ((s ++ ⟨#[124, 124]⟩) ++ t)
  have ex : parR ((s ++ ⟨#[124, 124]⟩) ++ t) = some (joinR A B) := by unfold parR; rw [if_pos (by rw [size_cat, size_cat]; omega), alt_both ha hb]
  rw [ex] at HX
  have HZ : Hid ((∀ i (h : i < s.size), (s[i]'h).toNat ≠ 124) → (∀ i (h : i < t.size), (t[i]'h).toNat ≠ 124) → ∀ w1, Below W.heap.size W w1 → ParsesTo ((s ++ ⟨#[32]⟩) ++ t) w1 (fullE (meetR A B).length) (fitR (meetR A B))) := fun h1 h2 => by
    have bars : ∀ u : ByteArray, (∀ i (h : i < u.size), (u[i]'h).toNat ≠ 124) → ∀ x ∈ u.data.toList, x ≠ 124 := fun u h x hx e => by
      obtain ⟨j, hj⟩ := List.getElem?_of_mem hx
      have hlt : j < u.size := (List.getElem?_eq_some_iff.1 hj).1
      have := h j hlt
      have e2 : u[j]'hlt = x := by
        have := Lib.data_getElem? u j hlt
        rw [hj] at this
        exact (Option.some.inj this).symm
      rw [e2, e] at this
      exact this rfl
    have h3 := par ((s ++ ⟨#[32]⟩) ++ t)
    have e3 : parR ((s ++ ⟨#[32]⟩) ++ t) = some (meetR A B) := by unfold parR; rw [if_pos (by rw [size_cat, size_cat]; omega), alt_blank (bars s h1) (bars t h2) ha hb]
    rw [e3] at h3
    exact h3.out
  exact texts_ok s t A B _ _ _ _ W HA HB HKn sa sb hl (fit_len _) (fit_len _) HX.out (fun w1 x y hbl h1 h2 => Join_new hA hB la lb (hE.2.below hbl) h1 h2) (fun w1 x y R hl h1 h2 => same_rg hl h1 h2) HZ (fun w1 x y hbl h1 h2 => Meet_new hA hB la lb h1 h2)
end Go.Proofs.YtpdafkfclkedjabGreatDoor
