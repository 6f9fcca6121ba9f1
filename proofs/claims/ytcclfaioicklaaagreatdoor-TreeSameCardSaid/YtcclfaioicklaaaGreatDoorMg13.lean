/- Tc2, laid in one text. -/
import Derived.Test.YtcclfaioicklaaaGreatDoorMg12
namespace Go.Proofs.YtcclfaioicklaaaGreatDoor
open Go.Shelf Go.RowKit Go.Lib Go.Sort
set_option maxRecDepth 100000

theorem bl_is : ∀ a b : List UInt8, Op.bytesLess a b = bytesBefore a b
  | [], [] => rfl
  | [], _ :: _ => rfl
  | _ :: _, [] => rfl
  | a :: r, b :: s => by unfold Op.bytesLess bytesBefore; rw [bl_is r s]

theorem isNaNS_any (s : ByteArray) (w : World) : Calls Tryz.prog 155 #[.string s] w fun e w' => e = .returned (.bool false) ∧ w' = w := by
  go_enter Tryz.func155, Tryz.ntmps155
  go_wp2
  go_ret
  exact ⟨by simp, rfl⟩

set_option maxHeartbeats 800000 in
theorem cmpS_any (s t : ByteArray) (w : World) : Calls Tryz.prog 135 #[.string s, .string t] w fun e w' => e = .returned (.int .i64 (cmpS s t)) ∧ w' = w := by
  have HN : Hid (∀ s w, Calls Tryz.prog 155 #[.string s] w fun e w' => e = .returned (.bool false) ∧ w' = w) := isNaNS_any
  have HC := hide3 (cmpS_is s t)
  have e1 : Op.bytesLess s.toList t.toList = bytesBefore s.data.toList t.data.toList := by rw [bl_is, ByteArray.toList_eq, ByteArray.toList_eq]
  cases h1 : bytesBefore s.data.toList t.data.toList
  · have q1 : Op.bytesLess s.toList t.toList = false := e1.trans h1
    by_cases h2 : s = t
    · have HR : Hid (cmpS s t = 0) := (ordS.eq s t).2 h2
      have q2 : (s.toList = t.toList) = True := eq_true (by rw [h2])
      have q3 : (s.toList == t.toList) = true := by rw [h2]; simp
      clear HC e1 h1 h2
      go_enter Tryz.func135, Tryz.ntmps135
      go_wp2_with (go_at_call 155; refine (HN.out _ _).mono ?_; rintro e w1 ⟨rfl, rfl⟩)
      go_ret
      exact ⟨ret_int HR.out.symm, rfl⟩
    · have HR : Hid (cmpS s t = 1) := by
        have q := HC.out
        rw [h1, if_neg (by simp)] at q
        have : bytesBefore t.data.toList s.data.toList = true := by
          rcases WideAt.bytes_total _ _ (fun e => h2 (ba_inj e)) with r | r
          · rw [h1] at r; cases r
          · exact r
        rw [this, if_pos rfl] at q
        exact q
      have q2 : (s.toList = t.toList) = False := eq_false fun e => h2 (bytes_same e)
      have q3 : (s.toList == t.toList) = false := by rw [beq_eq_false_iff_ne]; exact fun e => h2 (bytes_same e)
      clear HC e1 h1 h2
      go_enter Tryz.func135, Tryz.ntmps135
      go_wp2_with (go_at_call 155; refine (HN.out _ _).mono ?_; rintro e w1 ⟨rfl, rfl⟩)
      go_ret
      exact ⟨ret_int HR.out.symm, rfl⟩
  · have HR : Hid (cmpS s t = -1) := by
      have q := HC.out
      rw [h1, if_pos rfl] at q
      exact q
    have q1 : Op.bytesLess s.toList t.toList = true := e1.trans h1
    clear HC e1 h1
    go_enter Tryz.func135, Tryz.ntmps135
    go_wp2_with (go_at_call 155; refine (HN.out _ _).mono ?_; rintro e w1 ⟨rfl, rfl⟩)
    go_ret
    exact ⟨ret_int HR.out.symm, rfl⟩

set_option maxHeartbeats 1600000 in
/-- Paths compared. -/
theorem cmpP_any {A B : List ByteArray} {va vb : Value} {w : World} (ha : PathAt w va A) (hb : PathAt w vb B) (hA : A.length ≤ 9223372036854775807) :
    Calls Tryz.prog 103 #[va, vb] w fun e w' => e = .returned (.int .i64 (cmpL cmpS A B)) ∧ w' = w := by
  have HC : Hid (∀ s t w, Calls Tryz.prog 135 #[.string s, .string t] w fun e w' => e = .returned (.int .i64 (cmpS s t)) ∧ w' = w) := cmpS_any
  obtain ⟨ad, ca, rfl, hca, hea⟩ := ha.el
  obtain ⟨bd, cb, rfl, hcb, heb⟩ := hb.el
  have HA := hide3 hea
  have HB := hide3 heb
  clear ha hb hea heb
  go_enter Tryz.func103, Tryz.ntmps103
  go_wp2_with fail
  go_loop [11] (fun i => ∃ k : Nat, k ≤ A.length ∧ i = .int .i64 k ∧ cmpL cmpS A B = cmpL cmpS (A.drop k) (B.drop k)) (fun i => A.length - (intOf i).toNat)
  case atStart => exact ⟨0, Nat.zero_le _, rfl, rfl⟩
  case round =>
    obtain ⟨k, hk, rfl, hcm⟩ := hrel
    have HCM := hide3 hcm
    clear hcm
    by_cases hlt : k < A.length
    · obtain ⟨g, o, rfl, p0, p1⟩ := HA.out k hlt
      by_cases hlb : k < B.length
      · obtain ⟨h, u, rfl, r0, r1⟩ := HB.out k hlb
        have HST := hide3 (HCM.out.trans (cmpL_at hlt hlb))
        have HCK := hide3 (HC.out A[k] B[k])
        have hge : decide (B.length ≤ k) = false := decide_eq_false (by omega)
        generalize A[k] = s at *
        generalize B[k] = t at *
        generalize hz : cmpS s t = z at *
        by_cases hz0 : z = 0
        · have HR : Hid (cmpL cmpS A B = cmpL cmpS (A.drop (k + 1)) (B.drop (k + 1))) := by
            have e := HST.out
            unfold or2 at e
            rw [if_pos hz0] at e
            exact e
          have hz1 : (z == 0) = true := by simpa using hz0
          rw [hz0] at HCK
          clear HST HCM hz hz0 hz1
          go_wp2_with (go_at_call 135; refine (HCK.out _).mono ?_; rintro e w1 ⟨rfl, rfl⟩)
          exact ⟨⟨k + 1, by omega, by go_num, HR.out⟩, by simp [intOf]; omega⟩
        · have HR : Hid (cmpL cmpS A B = z) := by
            have e := HST.out
            unfold or2 at e
            rw [if_neg hz0] at e
            exact e
          have hz1 : (z == 0) = false := by simpa using hz0
          clear HST HCM hz hz0
          go_wp2_with (go_at_call 135; refine (HCK.out _).mono ?_; rintro e w1 ⟨rfl, rfl⟩)
          go_ret
          exact ⟨ret_int HR.out.symm, rfl⟩
      · have HR := hide3 (HCM.out.trans (cmpL_left hlt (by omega)))
        have hge : decide (B.length ≤ k) = true := decide_eq_true (by omega)
        generalize A[k] = s at *
        clear HCM
        go_wp2
        go_ret
        exact ⟨ret_int HR.out.symm, rfl⟩
    · have hke : k = A.length := by omega
      subst hke
      by_cases hlb : A.length < B.length
      · have HR := hide3 (HCM.out.trans (cmpL_right (Nat.le_refl _) hlb))
        clear HCM
        go_wp2
        go_ret
        exact ⟨ret_int HR.out.symm, rfl⟩
      · have HR := hide3 (HCM.out.trans (cmpL_both (Nat.le_refl _) (by omega)))
        clear HCM
        go_wp2
        go_ret
        exact ⟨ret_int HR.out.symm, rfl⟩

/-- The first number that is not zero. -/
def orL : List Int → Int
  | [] => 0
  | a :: l => or2 a (orL l)
theorem or2_0 (a : Int) : or2 a 0 = a := by unfold or2; split <;> omega

set_option maxHeartbeats 1600000 in
theorem or_any {w : World} {g : Nat} (L : List Int) (hL : L.length ≤ 1000000) (hc : ∀ i (h : i < L.length), w.cell? ⟨g, i, none⟩ = some (.int .i64 L[i])) : Calls Tryz.prog 46 #[.slice (some ⟨g, 0, none⟩) L.length L.length] w fun e w' => e = .returned (.int .i64 (orL L)) ∧ w' = w := by
  have HC := hide3 hc
  clear hc
  go_enter Tryz.func46, Tryz.ntmps46
  go_wp2_with fail
  go_loop [8] (fun i => ∃ k : Nat, k ≤ L.length ∧ i = .int .i64 k ∧ orL L = orL (L.drop k)) (fun i => L.length - (intOf i).toNat)
  case atStart => exact ⟨0, Nat.zero_le _, rfl, rfl⟩
  case round =>
    obtain ⟨k, hk, rfl, ho⟩ := hrel
    by_cases hlt : k < L.length
    · have c0 := HC.out k hlt
      rw [List.drop_eq_getElem_cons hlt] at ho
      have HO : Hid (orL L = or2 L[k] (orL (L.drop (k + 1)))) := ho
      clear ho
      generalize L[k] = z at *
      by_cases hz0 : z = 0
      · have HR : Hid (orL L = orL (L.drop (k + 1))) := by
          have e := HO.out
          unfold or2 at e
          rw [if_pos hz0] at e
          exact e
        rw [hz0] at c0
        clear HO hz0
        go_wp2
        exact ⟨⟨k + 1, by omega, by go_num, HR.out⟩, by simp [intOf]; omega⟩
      · have HR : Hid (orL L = z) := by
          have e := HO.out
          unfold or2 at e
          rw [if_neg hz0] at e
          exact e
        have hz1 : (z == 0) = false := by simpa using hz0
        clear HO hz0
        go_wp2
        go_ret
        exact ⟨ret_int HR.out.symm, rfl⟩
    · have hke : k = L.length := by omega
      subst hke
      rw [List.drop_length] at ho
      have HR := hide3 ho
      clear ho
      go_wp2
      go_ret
      exact ⟨ret_int HR.out.symm, rfl⟩
end Go.Proofs.YtcclfaioicklaaaGreatDoor
