/- SpanSigns of any two versions. -/
import Derived.Test.YtpdafkfclkedjabGreatDoorSigns1
import Derived.Test.YtpdafkfclkedjabGreatDoorSigns2
import Derived.Test.YtpdafkfclkedjabGreatDoorSigns3
namespace Go.Proofs.YtpdafkfclkedjabGreatDoor
open Go.RowKit
set_option maxRecDepth 100000

/-- What each sign makes of the version at a place. -/
def signRs (n : Int) (i : Nat) : Rg := match i with
  | 0 => [(n, n)]
  | 1 => [(n, n)]
  | 2 => cutR allR [(n, 999999999)]
  | 3 => [(0, n)]
  | 4 => cutR allR [(0, n)]
  | 5 => [(n, 999999999)]
  | 6 => [(n, minorR n)]
  | _ => [(n, alikeR n)]
theorem sign_some (n : Int) (i : Nat) (h : i < sgs.length) : signR sgs[i].data.toList n = some (signRs n i) := by
  have h : i = 0 ∨ i = 1 ∨ i = 2 ∨ i = 3 ∨ i = 4 ∨ i = 5 ∨ i = 6 ∨ i = 7 := by simp [sgs] at h; omega
  rcases h with rfl | rfl | rfl | rfl | rfl | rfl | rfl | rfl <;> simp [sgs, signR, signRs]
theorem sgs_sign : ∀ s ∈ sgs, SignB s ∧ s.size ≤ 10 := by
  intro s hs
  simp only [sgs, List.mem_cons, List.not_mem_nil, or_false] at hs
  rcases hs with rfl | rfl | rfl | rfl | rfl | rfl | rfl | rfl <;> refine ⟨?_, by decide⟩ <;> (unfold SignB; decide)

theorem in_one {g h n : Int} : InR [(g, h)] n ↔ g ≤ n ∧ n ≤ h := by simp [InR]

theorem signs_in {x y z n : Int} (hn : okR n) (k : mayV x y z = true) {w0 w1 w2 w3 w4 w5 w6 w7 : Bool} (h0 : w0 = true ↔ rankV x y z = n) (h1 : w1 = true ↔ rankV x y z = n) (h2 : w2 = true ↔ rankV x y z < n) (h3 : w3 = true ↔ rankV x y z ≤ n) (h4 : w4 = true ↔ n < rankV x y z) (h5 : w5 = true ↔ n ≤ rankV x y z)
    (h6 : w6 = true ↔ n ≤ rankV x y z ∧ rankV x y z ≤ minorR n) (h7 : w7 = true ↔ n ≤ rankV x y z ∧ rankV x y z ≤ alikeR n) :
    Hid (∀ i (h : i < ([w0, w1, w2, w3, w4, w5, w6, w7] : List Bool).length) w v, SpansR w v (signRs n i) → Says 11 #[v, .agg #[.int .i64 x, .int .i64 y, .int .i64 z]] w ([w0, w1, w2, w3, w4, w5, w6, w7] : List Bool)[i]) := by
  intro i h w v hs
  have hl := rank_low k
  have hi : i < sgs.length := by simpa [sgs] using h
  have hr := sign_ok hn (sign_some n i hi)
  have hll := sign_len (sign_some n i hi)
  refine Says.of (sIn_any hs.at x y z) ?_
  rw [Bool.eq_iff_iff, in_rg hr hll]
  have c1 := one_ok hn okL hn.2
  have c2 := one_ok okF hn hn.1
  have hi8 : i = 0 ∨ i = 1 ∨ i = 2 ∨ i = 3 ∨ i = 4 ∨ i = 5 ∨ i = 6 ∨ i = 7 := by simp at h; omega
  have hn2 := hn.2
  rcases hi8 with rfl | rfl | rfl | rfl | rfl | rfl | rfl | rfl
  · show _ ↔ w0 = true
    rw [h0]; show _ ∧ InR [(n, n)] _ ↔ _; rw [in_one]
    exact ⟨fun h => by omega, fun h => ⟨k, by omega⟩⟩
  · show _ ↔ w1 = true
    rw [h1]; show _ ∧ InR [(n, n)] _ ↔ _; rw [in_one]
    exact ⟨fun h => by omega, fun h => ⟨k, by omega⟩⟩
  · show _ ↔ w2 = true
    rw [h2]; show _ ∧ InR (cutR allR [(n, 999999999)]) _ ↔ _; rw [cut_in allR_ok c1, allR_in, in_one]
    exact ⟨fun h => by omega, fun h => ⟨k, by omega⟩⟩
  · show _ ↔ w3 = true
    rw [h3]; show _ ∧ InR [(0, n)] _ ↔ _; rw [in_one]
    exact ⟨fun h => by omega, fun h => ⟨k, by omega⟩⟩
  · show _ ↔ w4 = true
    rw [h4]; show _ ∧ InR (cutR allR [(0, n)]) _ ↔ _; rw [cut_in allR_ok c2, allR_in, in_one]
    exact ⟨fun h => by omega, fun h => ⟨k, by omega⟩⟩
  · show _ ↔ w5 = true
    rw [h5]; show _ ∧ InR [(n, 999999999)] _ ↔ _; rw [in_one]
    exact ⟨fun h => by omega, fun h => ⟨k, by omega⟩⟩
  · show _ ↔ w6 = true
    rw [h6]; show _ ∧ InR [(n, minorR n)] _ ↔ _; rw [in_one]
    exact ⟨fun h => h.2, fun h => ⟨k, h⟩⟩
  · show _ ↔ w7 = true
    rw [h7]; show _ ∧ InR [(n, alikeR n)] _ ↔ _; rw [in_one]
    exact ⟨fun h => h.2, fun h => ⟨k, h⟩⟩

theorem signs_all {W : World} (hE : Env W ∧ FL W) (a b c x y z : Int) :
    Calls Tryz.prog 3 #[.agg #[.int .i64 a, .int .i64 b, .int .i64 c], .agg #[.int .i64 x, .int .i64 y, .int .i64 z]] W fun e w' => e = .returned (.bool true) ∧ Below W.heap.size W w' := by
  have HKn : Hid (∀ w1, Below W.heap.size W w1 → Says 6 #[] w1 true) := fun w1 h => known_any w1 (hE.1.below h) (hE.2.below h)
  have HMv : Hid (∀ w1, Says 7 #[.agg #[.int .i64 a, .int .i64 b, .int .i64 c]] w1 (mayV a b c)) := rMay_any a b c
  have HMx : Hid (∀ w1, Says 7 #[.agg #[.int .i64 x, .int .i64 y, .int .i64 z]] w1 (mayV x y z)) := rMay_any x y z
  cases mv : mayV a b c
  · rw [mv] at HMv; exact signs_noA a b c x y z W HKn HMv
  rw [mv] at HMv
  cases mx : mayV x y z
  · rw [mx] at HMx; exact signs_noB a b c x y z W HKn HMv HMx
  rw [mx] at HMx
  have HPv : Hid (∀ w1, Calls Tryz.prog 8 #[.agg #[.int .i64 a, .int .i64 b, .int .i64 c]] w1 fun e w' => e = .returned (.string (textV a b c)) ∧ Below w1.heap.size w1 w') := rPrint_any a b c
  have HC : Hid (∀ w1, Calls Tryz.prog 9 #[.agg #[.int .i64 x, .int .i64 y, .int .i64 z], .agg #[.int .i64 a, .int .i64 b, .int .i64 c]] w1 fun e w' => e = .returned (.int .i64 (cmpV x y z a b c)) ∧ Below w1.heap.size w1 w') := rCompare_any x y z a b c
  have hl := rank_low mv
  have hn : okR (rankV a b c) := ⟨hl.1, by omega⟩
  have HT : Hid ((textV a b c).size ≤ 100) := Nat.le_trans (text_size a b c) (by decide)
  have HPs : Hid (∀ i (h : i < sgs.length) w1, Below W.heap.size W w1 → Calls Tryz.prog 10 #[.string (sgs[i] ++ textV a b c)] w1 fun e w' => ∃ v, e = .returned (.tuple #[v, .int .i64 0]) ∧ SpansR w' v (signRs (rankV a b c) i) ∧ Below w1.heap.size w1 w') := fun i h w1 hbl =>
    Parse_sign (sgs_sign _ (List.getElem_mem h)).1 (sgs_sign _ (List.getElem_mem h)).2 mv (sign_some _ i h) w1 (hE.1.below hbl) (hE.2.below hbl)
  have l1 := cmp_rank mx mv
  have l2 := cmp_rank_eq mx mv
  have l3 := cmp_range x y z a b c
  have hin := fun {w0 w1 w2 w3 w4 w5 w6 w7} => signs_in (x := x) (y := y) (z := z) hn mx (w0 := w0) (w1 := w1) (w2 := w2) (w3 := w3) (w4 := w4) (w5 := w5) (w6 := w6) (w7 := w7)
  have e1 := rank_of mv
  have e2 := rank_of mx
  obtain ⟨a0, a1, b0, b1, c0, c1⟩ := may_all mv
  obtain ⟨x0, x1, y0, y1, z0, z1⟩ := may_all mx
  obtain ⟨q1, q2, q3⟩ := at_rank mv
  have em : minorR (rankV a b c) = (a * 1000 + b) * 1000 + 999 := by unfold minorR; omega
  have ej : majorR (rankV a b c) = a * 1000000 + 999999 := by unfold majorR; omega
  have ek : alikeR (rankV a b c) = if a ≠ 0 then majorR (rankV a b c) else if b ≠ 0 then minorR (rankV a b c) else rankV a b c := by unfold alikeR; rw [q1, q2]
  clear q1 q2 q3
  rcases l3 with l3 | l3 | l3 <;> rw [l3] at HC l1 l2
  · by_cases hx : x = a
    · by_cases hy : y = b
      · skip
        by_cases hA : 0 < a
        · rw [if_pos (by omega)] at ek
          exact signs_l_TT_A a b c x y z _ _ W HKn HMv HMx HPv HC (by simpa using hx) (by simpa using hy) hA HT HPs (hin (by constructor <;> intro h <;> first | rfl | (cases h; done) | omega | (exfalso; omega)) (by constructor <;> intro h <;> first | rfl | (cases h; done) | omega | (exfalso; omega)) (by constructor <;> intro h <;> first | rfl | (cases h; done) | omega | (exfalso; omega)) (by constructor <;> intro h <;> first | rfl | (cases h; done) | omega | (exfalso; omega)) (by constructor <;> intro h <;> first | rfl | (cases h; done) | omega | (exfalso; omega)) (by constructor <;> intro h <;> first | rfl | (cases h; done) | omega | (exfalso; omega)) (by constructor <;> intro h <;> first | rfl | (cases h; done) | omega | (exfalso; omega)) (by constructor <;> intro h <;> first | rfl | (cases h; done) | omega | (exfalso; omega)))
        · rw [if_neg (by omega)] at ek
          by_cases hB : 0 < b
          · rw [if_pos (by omega)] at ek
            exact signs_l_TT_B a b c x y z _ _ W HKn HMv HMx HPv HC (by simpa using hx) (by simpa using hy) hA hB HT HPs (hin (by constructor <;> intro h <;> first | rfl | (cases h; done) | omega | (exfalso; omega)) (by constructor <;> intro h <;> first | rfl | (cases h; done) | omega | (exfalso; omega)) (by constructor <;> intro h <;> first | rfl | (cases h; done) | omega | (exfalso; omega)) (by constructor <;> intro h <;> first | rfl | (cases h; done) | omega | (exfalso; omega)) (by constructor <;> intro h <;> first | rfl | (cases h; done) | omega | (exfalso; omega)) (by constructor <;> intro h <;> first | rfl | (cases h; done) | omega | (exfalso; omega)) (by constructor <;> intro h <;> first | rfl | (cases h; done) | omega | (exfalso; omega)) (by constructor <;> intro h <;> first | rfl | (cases h; done) | omega | (exfalso; omega)))
          · rw [if_neg (by omega)] at ek
            exact signs_l_TT_N a b c x y z _ _ W HKn HMv HMx HPv HC (by simpa using hx) (by simpa using hy) hA hB HT HPs (hin (by constructor <;> intro h <;> first | rfl | (cases h; done) | omega | (exfalso; omega)) (by constructor <;> intro h <;> first | rfl | (cases h; done) | omega | (exfalso; omega)) (by constructor <;> intro h <;> first | rfl | (cases h; done) | omega | (exfalso; omega)) (by constructor <;> intro h <;> first | rfl | (cases h; done) | omega | (exfalso; omega)) (by constructor <;> intro h <;> first | rfl | (cases h; done) | omega | (exfalso; omega)) (by constructor <;> intro h <;> first | rfl | (cases h; done) | omega | (exfalso; omega)) (by constructor <;> intro h <;> first | rfl | (cases h; done) | omega | (exfalso; omega)) (by constructor <;> intro h <;> first | rfl | (cases h; done) | omega | (exfalso; omega)))
      · skip
        by_cases hA : 0 < a
        · rw [if_pos (by omega)] at ek
          exact signs_l_TF_A a b c x y z _ _ W HKn HMv HMx HPv HC (by simpa using hx) (by simpa using hy) hA HT HPs (hin (by constructor <;> intro h <;> first | rfl | (cases h; done) | omega | (exfalso; omega)) (by constructor <;> intro h <;> first | rfl | (cases h; done) | omega | (exfalso; omega)) (by constructor <;> intro h <;> first | rfl | (cases h; done) | omega | (exfalso; omega)) (by constructor <;> intro h <;> first | rfl | (cases h; done) | omega | (exfalso; omega)) (by constructor <;> intro h <;> first | rfl | (cases h; done) | omega | (exfalso; omega)) (by constructor <;> intro h <;> first | rfl | (cases h; done) | omega | (exfalso; omega)) (by constructor <;> intro h <;> first | rfl | (cases h; done) | omega | (exfalso; omega)) (by constructor <;> intro h <;> first | rfl | (cases h; done) | omega | (exfalso; omega)))
        · rw [if_neg (by omega)] at ek
          by_cases hB : 0 < b
          · rw [if_pos (by omega)] at ek
            exact signs_l_TF_B a b c x y z _ _ W HKn HMv HMx HPv HC (by simpa using hx) (by simpa using hy) hA hB HT HPs (hin (by constructor <;> intro h <;> first | rfl | (cases h; done) | omega | (exfalso; omega)) (by constructor <;> intro h <;> first | rfl | (cases h; done) | omega | (exfalso; omega)) (by constructor <;> intro h <;> first | rfl | (cases h; done) | omega | (exfalso; omega)) (by constructor <;> intro h <;> first | rfl | (cases h; done) | omega | (exfalso; omega)) (by constructor <;> intro h <;> first | rfl | (cases h; done) | omega | (exfalso; omega)) (by constructor <;> intro h <;> first | rfl | (cases h; done) | omega | (exfalso; omega)) (by constructor <;> intro h <;> first | rfl | (cases h; done) | omega | (exfalso; omega)) (by constructor <;> intro h <;> first | rfl | (cases h; done) | omega | (exfalso; omega)))
          · rw [if_neg (by omega)] at ek
            exact signs_l_TF_N a b c x y z _ _ W HKn HMv HMx HPv HC (by simpa using hx) (by simpa using hy) hA hB HT HPs (hin (by constructor <;> intro h <;> first | rfl | (cases h; done) | omega | (exfalso; omega)) (by constructor <;> intro h <;> first | rfl | (cases h; done) | omega | (exfalso; omega)) (by constructor <;> intro h <;> first | rfl | (cases h; done) | omega | (exfalso; omega)) (by constructor <;> intro h <;> first | rfl | (cases h; done) | omega | (exfalso; omega)) (by constructor <;> intro h <;> first | rfl | (cases h; done) | omega | (exfalso; omega)) (by constructor <;> intro h <;> first | rfl | (cases h; done) | omega | (exfalso; omega)) (by constructor <;> intro h <;> first | rfl | (cases h; done) | omega | (exfalso; omega)) (by constructor <;> intro h <;> first | rfl | (cases h; done) | omega | (exfalso; omega)))
    · skip
      by_cases hA : 0 < a
      · rw [if_pos (by omega)] at ek
        exact signs_l_F_A a b c x y z _ _ W HKn HMv HMx HPv HC (by simpa using hx) hA HT HPs (hin (by constructor <;> intro h <;> first | rfl | (cases h; done) | omega | (exfalso; omega)) (by constructor <;> intro h <;> first | rfl | (cases h; done) | omega | (exfalso; omega)) (by constructor <;> intro h <;> first | rfl | (cases h; done) | omega | (exfalso; omega)) (by constructor <;> intro h <;> first | rfl | (cases h; done) | omega | (exfalso; omega)) (by constructor <;> intro h <;> first | rfl | (cases h; done) | omega | (exfalso; omega)) (by constructor <;> intro h <;> first | rfl | (cases h; done) | omega | (exfalso; omega)) (by constructor <;> intro h <;> first | rfl | (cases h; done) | omega | (exfalso; omega)) (by constructor <;> intro h <;> first | rfl | (cases h; done) | omega | (exfalso; omega)))
      · rw [if_neg (by omega)] at ek
        by_cases hB : 0 < b
        · rw [if_pos (by omega)] at ek
          exact signs_l_F_B a b c x y z _ _ W HKn HMv HMx HPv HC (by simpa using hx) hA hB HT HPs (hin (by constructor <;> intro h <;> first | rfl | (cases h; done) | omega | (exfalso; omega)) (by constructor <;> intro h <;> first | rfl | (cases h; done) | omega | (exfalso; omega)) (by constructor <;> intro h <;> first | rfl | (cases h; done) | omega | (exfalso; omega)) (by constructor <;> intro h <;> first | rfl | (cases h; done) | omega | (exfalso; omega)) (by constructor <;> intro h <;> first | rfl | (cases h; done) | omega | (exfalso; omega)) (by constructor <;> intro h <;> first | rfl | (cases h; done) | omega | (exfalso; omega)) (by constructor <;> intro h <;> first | rfl | (cases h; done) | omega | (exfalso; omega)) (by constructor <;> intro h <;> first | rfl | (cases h; done) | omega | (exfalso; omega)))
        · rw [if_neg (by omega)] at ek
          exact signs_l_F_N a b c x y z _ _ W HKn HMv HMx HPv HC (by simpa using hx) hA hB HT HPs (hin (by constructor <;> intro h <;> first | rfl | (cases h; done) | omega | (exfalso; omega)) (by constructor <;> intro h <;> first | rfl | (cases h; done) | omega | (exfalso; omega)) (by constructor <;> intro h <;> first | rfl | (cases h; done) | omega | (exfalso; omega)) (by constructor <;> intro h <;> first | rfl | (cases h; done) | omega | (exfalso; omega)) (by constructor <;> intro h <;> first | rfl | (cases h; done) | omega | (exfalso; omega)) (by constructor <;> intro h <;> first | rfl | (cases h; done) | omega | (exfalso; omega)) (by constructor <;> intro h <;> first | rfl | (cases h; done) | omega | (exfalso; omega)) (by constructor <;> intro h <;> first | rfl | (cases h; done) | omega | (exfalso; omega)))
  · have hx : x = a := by omega
    have hy : y = b := by omega
    by_cases hA : 0 < a
    · rw [if_pos (by omega)] at ek
      exact signs_e_TT_A a b c x y z _ _ W HKn HMv HMx HPv HC (by simpa using hx) (by simpa using hy) hA HT HPs (hin (by constructor <;> intro h <;> first | rfl | (cases h; done) | omega | (exfalso; omega)) (by constructor <;> intro h <;> first | rfl | (cases h; done) | omega | (exfalso; omega)) (by constructor <;> intro h <;> first | rfl | (cases h; done) | omega | (exfalso; omega)) (by constructor <;> intro h <;> first | rfl | (cases h; done) | omega | (exfalso; omega)) (by constructor <;> intro h <;> first | rfl | (cases h; done) | omega | (exfalso; omega)) (by constructor <;> intro h <;> first | rfl | (cases h; done) | omega | (exfalso; omega)) (by constructor <;> intro h <;> first | rfl | (cases h; done) | omega | (exfalso; omega)) (by constructor <;> intro h <;> first | rfl | (cases h; done) | omega | (exfalso; omega)))
    · rw [if_neg (by omega)] at ek
      by_cases hB : 0 < b
      · rw [if_pos (by omega)] at ek
        exact signs_e_TT_B a b c x y z _ _ W HKn HMv HMx HPv HC (by simpa using hx) (by simpa using hy) hA hB HT HPs (hin (by constructor <;> intro h <;> first | rfl | (cases h; done) | omega | (exfalso; omega)) (by constructor <;> intro h <;> first | rfl | (cases h; done) | omega | (exfalso; omega)) (by constructor <;> intro h <;> first | rfl | (cases h; done) | omega | (exfalso; omega)) (by constructor <;> intro h <;> first | rfl | (cases h; done) | omega | (exfalso; omega)) (by constructor <;> intro h <;> first | rfl | (cases h; done) | omega | (exfalso; omega)) (by constructor <;> intro h <;> first | rfl | (cases h; done) | omega | (exfalso; omega)) (by constructor <;> intro h <;> first | rfl | (cases h; done) | omega | (exfalso; omega)) (by constructor <;> intro h <;> first | rfl | (cases h; done) | omega | (exfalso; omega)))
      · rw [if_neg (by omega)] at ek
        exact signs_e_TT_N a b c x y z _ _ W HKn HMv HMx HPv HC (by simpa using hx) (by simpa using hy) hA hB HT HPs (hin (by constructor <;> intro h <;> first | rfl | (cases h; done) | omega | (exfalso; omega)) (by constructor <;> intro h <;> first | rfl | (cases h; done) | omega | (exfalso; omega)) (by constructor <;> intro h <;> first | rfl | (cases h; done) | omega | (exfalso; omega)) (by constructor <;> intro h <;> first | rfl | (cases h; done) | omega | (exfalso; omega)) (by constructor <;> intro h <;> first | rfl | (cases h; done) | omega | (exfalso; omega)) (by constructor <;> intro h <;> first | rfl | (cases h; done) | omega | (exfalso; omega)) (by constructor <;> intro h <;> first | rfl | (cases h; done) | omega | (exfalso; omega)) (by constructor <;> intro h <;> first | rfl | (cases h; done) | omega | (exfalso; omega)))
  · by_cases hx : x = a
    · by_cases hy : y = b
      · skip
        by_cases hA : 0 < a
        · rw [if_pos (by omega)] at ek
          exact signs_g_TT_A a b c x y z _ _ W HKn HMv HMx HPv HC (by simpa using hx) (by simpa using hy) hA HT HPs (hin (by constructor <;> intro h <;> first | rfl | (cases h; done) | omega | (exfalso; omega)) (by constructor <;> intro h <;> first | rfl | (cases h; done) | omega | (exfalso; omega)) (by constructor <;> intro h <;> first | rfl | (cases h; done) | omega | (exfalso; omega)) (by constructor <;> intro h <;> first | rfl | (cases h; done) | omega | (exfalso; omega)) (by constructor <;> intro h <;> first | rfl | (cases h; done) | omega | (exfalso; omega)) (by constructor <;> intro h <;> first | rfl | (cases h; done) | omega | (exfalso; omega)) (by constructor <;> intro h <;> first | rfl | (cases h; done) | omega | (exfalso; omega)) (by constructor <;> intro h <;> first | rfl | (cases h; done) | omega | (exfalso; omega)))
        · rw [if_neg (by omega)] at ek
          by_cases hB : 0 < b
          · rw [if_pos (by omega)] at ek
            exact signs_g_TT_B a b c x y z _ _ W HKn HMv HMx HPv HC (by simpa using hx) (by simpa using hy) hA hB HT HPs (hin (by constructor <;> intro h <;> first | rfl | (cases h; done) | omega | (exfalso; omega)) (by constructor <;> intro h <;> first | rfl | (cases h; done) | omega | (exfalso; omega)) (by constructor <;> intro h <;> first | rfl | (cases h; done) | omega | (exfalso; omega)) (by constructor <;> intro h <;> first | rfl | (cases h; done) | omega | (exfalso; omega)) (by constructor <;> intro h <;> first | rfl | (cases h; done) | omega | (exfalso; omega)) (by constructor <;> intro h <;> first | rfl | (cases h; done) | omega | (exfalso; omega)) (by constructor <;> intro h <;> first | rfl | (cases h; done) | omega | (exfalso; omega)) (by constructor <;> intro h <;> first | rfl | (cases h; done) | omega | (exfalso; omega)))
          · rw [if_neg (by omega)] at ek
            exact signs_g_TT_N a b c x y z _ _ W HKn HMv HMx HPv HC (by simpa using hx) (by simpa using hy) hA hB HT HPs (hin (by constructor <;> intro h <;> first | rfl | (cases h; done) | omega | (exfalso; omega)) (by constructor <;> intro h <;> first | rfl | (cases h; done) | omega | (exfalso; omega)) (by constructor <;> intro h <;> first | rfl | (cases h; done) | omega | (exfalso; omega)) (by constructor <;> intro h <;> first | rfl | (cases h; done) | omega | (exfalso; omega)) (by constructor <;> intro h <;> first | rfl | (cases h; done) | omega | (exfalso; omega)) (by constructor <;> intro h <;> first | rfl | (cases h; done) | omega | (exfalso; omega)) (by constructor <;> intro h <;> first | rfl | (cases h; done) | omega | (exfalso; omega)) (by constructor <;> intro h <;> first | rfl | (cases h; done) | omega | (exfalso; omega)))
      · skip
        by_cases hA : 0 < a
        · rw [if_pos (by omega)] at ek
          exact signs_g_TF_A a b c x y z _ _ W HKn HMv HMx HPv HC (by simpa using hx) (by simpa using hy) hA HT HPs (hin (by constructor <;> intro h <;> first | rfl | (cases h; done) | omega | (exfalso; omega)) (by constructor <;> intro h <;> first | rfl | (cases h; done) | omega | (exfalso; omega)) (by constructor <;> intro h <;> first | rfl | (cases h; done) | omega | (exfalso; omega)) (by constructor <;> intro h <;> first | rfl | (cases h; done) | omega | (exfalso; omega)) (by constructor <;> intro h <;> first | rfl | (cases h; done) | omega | (exfalso; omega)) (by constructor <;> intro h <;> first | rfl | (cases h; done) | omega | (exfalso; omega)) (by constructor <;> intro h <;> first | rfl | (cases h; done) | omega | (exfalso; omega)) (by constructor <;> intro h <;> first | rfl | (cases h; done) | omega | (exfalso; omega)))
        · rw [if_neg (by omega)] at ek
          by_cases hB : 0 < b
          · rw [if_pos (by omega)] at ek
            exact signs_g_TF_B a b c x y z _ _ W HKn HMv HMx HPv HC (by simpa using hx) (by simpa using hy) hA hB HT HPs (hin (by constructor <;> intro h <;> first | rfl | (cases h; done) | omega | (exfalso; omega)) (by constructor <;> intro h <;> first | rfl | (cases h; done) | omega | (exfalso; omega)) (by constructor <;> intro h <;> first | rfl | (cases h; done) | omega | (exfalso; omega)) (by constructor <;> intro h <;> first | rfl | (cases h; done) | omega | (exfalso; omega)) (by constructor <;> intro h <;> first | rfl | (cases h; done) | omega | (exfalso; omega)) (by constructor <;> intro h <;> first | rfl | (cases h; done) | omega | (exfalso; omega)) (by constructor <;> intro h <;> first | rfl | (cases h; done) | omega | (exfalso; omega)) (by constructor <;> intro h <;> first | rfl | (cases h; done) | omega | (exfalso; omega)))
          · rw [if_neg (by omega)] at ek
            exact signs_g_TF_N a b c x y z _ _ W HKn HMv HMx HPv HC (by simpa using hx) (by simpa using hy) hA hB HT HPs (hin (by constructor <;> intro h <;> first | rfl | (cases h; done) | omega | (exfalso; omega)) (by constructor <;> intro h <;> first | rfl | (cases h; done) | omega | (exfalso; omega)) (by constructor <;> intro h <;> first | rfl | (cases h; done) | omega | (exfalso; omega)) (by constructor <;> intro h <;> first | rfl | (cases h; done) | omega | (exfalso; omega)) (by constructor <;> intro h <;> first | rfl | (cases h; done) | omega | (exfalso; omega)) (by constructor <;> intro h <;> first | rfl | (cases h; done) | omega | (exfalso; omega)) (by constructor <;> intro h <;> first | rfl | (cases h; done) | omega | (exfalso; omega)) (by constructor <;> intro h <;> first | rfl | (cases h; done) | omega | (exfalso; omega)))
    · skip
      by_cases hA : 0 < a
      · rw [if_pos (by omega)] at ek
        exact signs_g_F_A a b c x y z _ _ W HKn HMv HMx HPv HC (by simpa using hx) hA HT HPs (hin (by constructor <;> intro h <;> first | rfl | (cases h; done) | omega | (exfalso; omega)) (by constructor <;> intro h <;> first | rfl | (cases h; done) | omega | (exfalso; omega)) (by constructor <;> intro h <;> first | rfl | (cases h; done) | omega | (exfalso; omega)) (by constructor <;> intro h <;> first | rfl | (cases h; done) | omega | (exfalso; omega)) (by constructor <;> intro h <;> first | rfl | (cases h; done) | omega | (exfalso; omega)) (by constructor <;> intro h <;> first | rfl | (cases h; done) | omega | (exfalso; omega)) (by constructor <;> intro h <;> first | rfl | (cases h; done) | omega | (exfalso; omega)) (by constructor <;> intro h <;> first | rfl | (cases h; done) | omega | (exfalso; omega)))
      · rw [if_neg (by omega)] at ek
        by_cases hB : 0 < b
        · rw [if_pos (by omega)] at ek
          exact signs_g_F_B a b c x y z _ _ W HKn HMv HMx HPv HC (by simpa using hx) hA hB HT HPs (hin (by constructor <;> intro h <;> first | rfl | (cases h; done) | omega | (exfalso; omega)) (by constructor <;> intro h <;> first | rfl | (cases h; done) | omega | (exfalso; omega)) (by constructor <;> intro h <;> first | rfl | (cases h; done) | omega | (exfalso; omega)) (by constructor <;> intro h <;> first | rfl | (cases h; done) | omega | (exfalso; omega)) (by constructor <;> intro h <;> first | rfl | (cases h; done) | omega | (exfalso; omega)) (by constructor <;> intro h <;> first | rfl | (cases h; done) | omega | (exfalso; omega)) (by constructor <;> intro h <;> first | rfl | (cases h; done) | omega | (exfalso; omega)) (by constructor <;> intro h <;> first | rfl | (cases h; done) | omega | (exfalso; omega)))
        · rw [if_neg (by omega)] at ek
          exact signs_g_F_N a b c x y z _ _ W HKn HMv HMx HPv HC (by simpa using hx) hA hB HT HPs (hin (by constructor <;> intro h <;> first | rfl | (cases h; done) | omega | (exfalso; omega)) (by constructor <;> intro h <;> first | rfl | (cases h; done) | omega | (exfalso; omega)) (by constructor <;> intro h <;> first | rfl | (cases h; done) | omega | (exfalso; omega)) (by constructor <;> intro h <;> first | rfl | (cases h; done) | omega | (exfalso; omega)) (by constructor <;> intro h <;> first | rfl | (cases h; done) | omega | (exfalso; omega)) (by constructor <;> intro h <;> first | rfl | (cases h; done) | omega | (exfalso; omega)) (by constructor <;> intro h <;> first | rfl | (cases h; done) | omega | (exfalso; omega)) (by constructor <;> intro h <;> first | rfl | (cases h; done) | omega | (exfalso; omega)))
end Go.Proofs.YtpdafkfclkedjabGreatDoor
