/- The document's part, path, begins, pair of package halyardref17: each answers as the plain function. Conditions: sizes. -/
import Derived.Test.YtefcndfeemnglaaDoorDx5b
import Derived.Deep.Light
namespace Go.Proofs.YtefcndfeemnglaaDoor
open Go.RowKit Dk
set_option maxRecDepth 100000

set_option maxHeartbeats 4000000 in
theorem pPart_any (s : ByteArray) (w : World) (hs : s.size ≤ maxLen) :
    Calls Tryd.prog 40 #[.string s] w fun e w' => e = .returned (.bool (partB s.data.toList)) ∧ w' = w := by
  unfold maxLen at hs
  have HP : Hid (s.data.toList.all partByteB = true → partB s.data.toList = (!(s.toList == []) && decide (s.size ≤ 24) && !(s.toList == [46]) && !(s.toList == [46, 46]))) := fun h => by
    unfold partB
    rw [h, Bool.and_true, toList_data, size_list]
    have : (s.size == 0) = (s.data.toList == []) := by
      rw [← size_list]
      cases s.data.toList <;> rfl
    rw [this]
  have HN : Hid (s.data.toList.all partByteB = false → partB s.data.toList = false) := fun h => by unfold partB; rw [h, Bool.and_false]
  generalize partB s.data.toList = pb at *
  go_enter Tryd.func40, Tryd.ntmps40
  go_wp2_with fail
  go_loop [3] (fun i => ∃ k : Nat, k ≤ s.size ∧ i = .int .i64 k ∧ ∀ j (hj : j < k) (hj' : j < s.size), partByteB s[j] = true) (fun i => s.size - (intOf i).toNat)
  case atStart => exact ⟨0, Nat.zero_le _, rfl, fun j hj => absurd hj (Nat.not_lt_zero _)⟩
  case round =>
    obtain ⟨k, hk, rfl, hall⟩ := hrel
    have HA : Hid (∀ j (hj : j < k) (hj' : j < s.size), partByteB s[j] = true) := hall
    clear hall
    by_cases hlt : k < s.size
    · go_wp2
      all_goals first
        | (have hb : partByteB s[k] = true := by
             go_light
             clear HP HA HN
             unfold partByteB
             first
               | (simp_all; done)
               | (simp_all; omega)
           refine ⟨⟨k + 1, by omega, by go_num, fun j hj hj' => ?_⟩, by simp [intOf]; omega⟩
           by_cases e : j = k
           · subst e; exact hb
           · exact HA.out j (by omega) hj')
        | (have hb : partByteB s[k] = false := by
             go_light
             clear HP HA HN
             unfold partByteB
             first
               | (simp_all; done)
               | (simp_all; omega)
           go_ret
           exact ⟨ret_bool (HN.out (all_not k hlt hb)).symm, rfl⟩)
    · have HQ := hide3 (HP.out (all_get (fun j hj => HA.out j (by rw [size_list] at hj; omega) hj)))
      clear HP HN HA
      cases h0 : (s.toList == [])
      · by_cases h24 : s.size ≤ 24
        · have h24d : decide ((s.size : Int) ≤ 24) = true := decide_eq_true (by omega)
          cases h1 : (s.toList == [46])
          · cases h2 : (s.toList == [46, 46])
            · have HR : Hid (pb = true) := by unfold Hid; rw [HQ.out, h0, h1, h2, decide_eq_true h24]; rfl
              clear HQ
              go_wp2
              go_ret
              exact ⟨ret_bool HR.out.symm, rfl⟩
            · have HR : Hid (pb = false) := by unfold Hid; rw [HQ.out, h2]; simp
              clear HQ
              go_wp2
              go_ret
              exact ⟨ret_bool HR.out.symm, rfl⟩
          · have HR : Hid (pb = false) := by unfold Hid; rw [HQ.out, h1]; simp
            clear HQ
            go_wp2
            go_ret
            exact ⟨ret_bool HR.out.symm, rfl⟩
        · have h24d : decide ((s.size : Int) ≤ 24) = false := decide_eq_false (by omega)
          have HR : Hid (pb = false) := by unfold Hid; rw [HQ.out, decide_eq_false h24]; simp
          clear HQ
          go_wp2
          go_ret
          exact ⟨ret_bool HR.out.symm, rfl⟩
      · have HR : Hid (pb = false) := by unfold Hid; rw [HQ.out, h0]; simp
        clear HQ
        go_wp2
        go_ret
        exact ⟨ret_bool HR.out.symm, rfl⟩

/-- begins. -/
def begB (s t : ByteArray) : Bool := decide (t.size ≤ s.size) && (s.extract 0 t.size).toList == t.toList
set_option maxHeartbeats 800000 in
theorem begins_any (s t : ByteArray) (w : World) :
    Calls Tryd.prog 23 #[.string s, .string t] w fun e w' => e = .returned (.bool (begB s t)) ∧ w' = w := by
  by_cases h : t.size ≤ s.size
  · have hi : (t.size : Int) ≤ (s.size : Int) := by omega
    have hd : decide ((t.size : Int) ≤ (s.size : Int)) = true := decide_eq_true hi
    have HR : Hid (begB s t = ((s.extract 0 t.size).toList == t.toList)) := by unfold Hid begB; rw [decide_eq_true h]; rfl
    go_enter Tryd.func23, Tryd.ntmps23
    go_wp2
    go_ret
    exact ⟨ret_bool HR.out.symm, rfl⟩
  · have hi : ¬ (t.size : Int) ≤ (s.size : Int) := by omega
    have hd : decide ((t.size : Int) ≤ (s.size : Int)) = false := decide_eq_false hi
    have HR : Hid (begB s t = false) := by unfold Hid begB; rw [decide_eq_false h]; rfl
    go_enter Tryd.func23, Tryd.ntmps23
    go_wp2
    go_ret
    exact ⟨ret_bool HR.out.symm, rfl⟩

/-- May two deeds have one path? -/
def pairB (a b : Int) : Bool := (a == 1 && b == 3) || (a == 2 && b == 4)
set_option maxHeartbeats 800000 in
theorem pair_any (a b : Int) (w : World) : Calls Tryd.prog 24 #[.int .i64 a, .int .i64 b] w fun e w' => e = .returned (.bool (pairB a b)) ∧ w' = w := by
  have HR : Hid (pairB a b = ((a == 1 && b == 3) || (a == 2 && b == 4))) := rfl
  generalize pairB a b = r at *
  cases h1 : (a == 1) <;> cases h2 : (b == 3) <;> cases h3 : (a == 2) <;> cases h4 : (b == 4)
  all_goals
    rw [h1, h2, h3, h4] at HR
    go_enter Tryd.func24, Tryd.ntmps24
    go_wp2
    go_ret
    exact ⟨ret_bool (by rw [HR.out]; rfl), rfl⟩
end Go.Proofs.YtefcndfeemnglaaDoor
