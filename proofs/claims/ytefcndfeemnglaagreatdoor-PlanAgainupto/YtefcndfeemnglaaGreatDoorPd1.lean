/- Package plan: the word of a kind, bytes as digits. Conditions: sizes. -/
import Derived.Test.YtefcndfeemnglaaGreatDoorPc2
import Derived.Test.YtefcndfeemnglaaGreatDoorPlI
namespace Go.Proofs.YtefcndfeemnglaaGreatDoor
open Go.RowKit Go.Maps Go.WideMaps Go.WideElems Dk
set_option maxRecDepth 100000

/-- The program's word of a kind. -/
def wordO (k : Int) : ByteArray := if (k == 1) = true then ⟨#[117, 110, 108, 105, 110, 107]⟩ else if (k == 2) = true then ⟨#[114, 109, 100, 105, 114]⟩ else if (k == 3) = true then ⟨#[109, 107, 100, 105, 114]⟩ else if (k == 4) = true then ⟨#[112, 117, 116]⟩ else ⟨#[]⟩
theorem wordO_is {k : Int} (h1 : 1 ≤ k) (h4 : k ≤ 4) : wordO k = wordP k := by
  obtain rfl | rfl | rfl | rfl : k = 1 ∨ k = 2 ∨ k = 3 ∨ k = 4 := by omega
  all_goals rfl
theorem wordOf_any (k : Int) (w : World) : Calls Tryz.prog 44 #[.int .i64 k] w fun e w' => e = .returned (.string (wordO k)) ∧ w' = w := by
  unfold wordO
  cases h1 : (k == 1)
  · cases h2 : (k == 2)
    · cases h3 : (k == 3)
      · cases h4 : (k == 4)
        all_goals
          go_enter Tryz.func44, Tryz.ntmps44
          go_wp2
          go_ret
          exact ⟨rfl, rfl⟩
      · go_enter Tryz.func44, Tryz.ntmps44
        go_wp2
        go_ret
        exact ⟨rfl, rfl⟩
    · go_enter Tryz.func44, Tryz.ntmps44
      go_wp2
      go_ret
      exact ⟨rfl, rfl⟩
  · go_enter Tryz.func44, Tryz.ntmps44
    go_wp2
    go_ret
    exact ⟨rfl, rfl⟩

theorem shr_all : ∀ n, n < 256 → (n >>> 4 = n / 16 ∧ n &&& 15 = n % 16) := by decide +kernel
set_option maxHeartbeats 4000000 in
theorem digitsOf_any (s : ByteArray) (w : World) (hs : s.size ≤ 100000000) : Calls Tryz.prog 45 #[.string s] w fun e w' => e = .returned (.string (hexT s)) ∧ Below w.heap.size w w' := by
  cases he : (s.toList == [])
  · have HT : Hid (hexT s = Sc.ba (hexL s.data.toList)) := by unfold Hid hexT; rw [he]; rfl
    have hds : 16 ≤ hexD.size := by decide
    obtain ⟨D, hD⟩ : ∃ D, D = hexD := ⟨_, rfl⟩
    have HN := hide3 (Sc.Bld.new w)
    have HE0 : Hid (Below w.heap.size w (w.alloc (.cells #[.pointer none, .slice none 0 0] 91))) := (Below.refl _ _).alloc (Nat.le_refl _) _
    go_enter Tryz.func45, Tryz.ntmps45
    go_wp2_with fail
    rw [show (⟨#[48, 49, 50, 51, 52, 53, 54, 55, 56, 57, 97, 98, 99, 100, 101, 102]⟩ : ByteArray) = D from hD.symm]
    have HDG2 : Hid (∀ n (h : n < D.size), n < 16 → hexN n = D[n]) := fun n h h16 => by subst hD; exact hexN_at h16
    have hDs : 16 ≤ D.size := by rw [hD]; exact hds
    clear hD hds
    go_loopw [9] (fun v9 wr => ∃ k : Nat, k ≤ s.size ∧ v9 = .int .i64 k ∧ Sc.Bld w.heap.size w.heap.size (hexL (s.data.toList.take k)) wr ∧ Below w.heap.size w wr) (fun v9 _ => s.size - (intOf v9).toNat)
    case atStart => exact ⟨0, Nat.zero_le _, rfl, HN.out, HE0.out⟩
    case round =>
      obtain ⟨k, hk, rfl, ho, hb⟩ := hrel
      have HO := hide3 ho
      have HB := hide3 hb
      have hLn : (hexL (s.data.toList.take k)).length ≤ 200000000 := by rw [hexL_len, List.length_take]; omega
      clear ho hb HN HE0
      by_cases hlt : k < s.size
      · have HTK : Hid (hexL (s.data.toList.take (k + 1)) = hexL (s.data.toList.take k) ++ [hexN (s[k].toNat / 16), hexN (s[k].toNat % 16)]) := by
          unfold Hid
          rw [List.take_succ_eq_append_getElem (by rw [size_list]; exact hlt), hexL_snoc]
          rfl
        have hx : s[k].toNat < 256 := s[k].toNat_lt
        have b1 : s[k].toNat / 16 < D.size := by omega
        have b2 : s[k].toNat % 16 < D.size := by omega
        rw [HDG2.out _ b1 (by omega), HDG2.out _ b2 (by omega)] at HTK
        have hki : (k : Int) < (s.size : Int) := by omega
        generalize hexL (s.data.toList.take k) = old at *
        go_wp2_with (first
          | (have _t := HO1; go_at_call 49; refine (Sc.putByte _ HO1.out (by rw [List.length_append]; simp; omega) HB1.out.size).mono ?_; rintro e w2 ⟨rfl, ho2, hb2⟩; have HO2 := hide3 ho2; have HB2 := hide3 (HB1.out.trans hb2); clear ho2 hb2)
          | (go_at_call 49; refine (Sc.putByte _ HO.out (by omega) HB.out.size).mono ?_; rintro e w1 ⟨rfl, ho1, hb1⟩; have HO1 := hide3 ho1; have HB1 := hide3 (HB.out.trans hb1); clear ho1 hb1))
        refine ⟨⟨k + 1, by omega, by go_num, ?_, HB2.out⟩, by simp [intOf]; omega⟩
        rw [HTK.out]
        have := HO2.out
        rw [List.append_assoc] at this
        exact this
      · obtain rfl : k = s.size := by omega
        have hfull : s.data.toList.take s.size = s.data.toList := List.take_of_length_le (by rw [size_list]; exact Nat.le_refl _)
        rw [hfull] at HO
        have HS := hide3 (Tryz.Builder_String_any w.heap.size w.heap.size _ wr HO.out HB.out.size)
        rw [show (⟨(hexL s.data.toList).toArray⟩ : ByteArray) = hexT s from HT.out.symm] at HS
        go_wp2_with (go_at_call 50; refine HS.out.mono ?_; rintro e w1 ⟨rfl, hb1⟩; have HB1 := hide3 (HB.out.trans hb1); clear hb1)
        go_ret
        exact ⟨rfl, HB1.out⟩
  · have HT : Hid (hexT s = ⟨#[45]⟩) := by unfold Hid hexT; rw [he]; rfl
    rw [HT.out]
    go_enter Tryz.func45, Tryz.ntmps45
    go_wp2
    go_ret
    exact ⟨rfl, Below.refl _ _⟩
end Go.Proofs.YtefcndfeemnglaaGreatDoor
