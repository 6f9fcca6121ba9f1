/- Join of package scan. -/
import Derived.Test.YtefcndfeemnglaaGreatDoorScNm2
import Derived.Test.YtefcndfeemnglaaGreatDoorScBd1
import Derived.Test.YtefcndfeemnglaaGreatDoorScC
namespace Go.Proofs.YtefcndfeemnglaaGreatDoor.Sc
open Go.RowKit
set_option maxRecDepth 100000

set_option maxHeartbeats 1600000 in
theorem mayWord_any (s : ByteArray) (hs : s.size ≤ 1000000000000) (w : World) : Calls Tryz.prog 72 #[.string s] w fun e w' => e = .returned (.bool (isW s.data.toList)) ∧ w' = w := by
  have HWB : Hid (∀ b : UInt8, ∀ w1, Calls Tryz.prog 51 #[.int .u8 (b.toNat : Int)] w1 fun e w' => e = .returned (.bool (wB b)) ∧ w' = w1) := wordByte_any
  go_enter Tryz.func72, Tryz.ntmps72
  go_wp2
  go_loop [6] (fun i => ∃ k : Nat, k ≤ s.size ∧ i = .int .i64 k ∧ (s.data.toList.take k).all wB = true) (fun i => s.size - (intOf i).toNat)
  case atStart => exact ⟨0, Nat.zero_le _, rfl, rfl⟩
  case round =>
    obtain ⟨k, hk, rfl, hal⟩ := hrel
    have HA := hide3 hal
    clear hal
    by_cases hlt : k < s.size
    · have HWk := hide3 (HWB.out s[k])
      cases hw : wB s[k]
      · have HR : Hid (isW s.data.toList = false) := by unfold Hid isW; rw [all_bad hlt hw]; rfl
        rw [hw] at HWk
        clear hw
        go_wp2_with (go_at_call 51; refine (HWk.out _).mono ?_; rintro e w1 ⟨rfl, hw1⟩; subst hw1)
        go_ret
        exact ⟨ret_bool HR.out.symm, rfl⟩
      · have HA2 := hide3 (all_more hlt HA.out hw)
        rw [hw] at HWk
        clear hw
        go_wp2_with (go_at_call 51; refine (HWk.out _).mono ?_; rintro e w1 ⟨rfl, hw1⟩; subst hw1)
        exact ⟨⟨k + 1, by omega, by go_num, HA2.out⟩, by simp [intOf]; omega⟩
    · have hke : k = s.size := by omega
      subst hke
      have HR : Hid (isW s.data.toList = !s.toList.isEmpty) := by unfold Hid isW; rw [all_end HA.out, empty_is]; rfl
      cases he : s.toList.isEmpty
      · rw [he] at HR
        go_wp2
        go_ret
        exact ⟨ret_bool HR.out.symm, rfl⟩
      · rw [he] at HR
        go_wp2
        go_ret
        exact ⟨ret_bool HR.out.symm, rfl⟩

/-- Words that are not too long. -/
def WFit (ws : List Bs) : Prop := ws.length ≤ 1000000000 ∧ ∀ x ∈ ws, x.length ≤ 1000000000

set_option maxHeartbeats 1600000 in
theorem mayLine_any {ws : List Bs} (hf : WFit ws) {v : Value} {w : World} (hv : WordsAt w v ws) : Calls Tryz.prog 46 #[v] w fun e w' => e = .returned (.bool (isL ws)) ∧ w' = w := by
  have HMW : Hid (∀ x ∈ ws, ∀ w1, Calls Tryz.prog 72 #[.string (ba x)] w1 fun e w' => e = .returned (.bool (isW x)) ∧ w' = w1) := by
    intro x hx w1
    have := mayWord_any (ba x) (by rw [ba_size]; have := hf.2 x hx; omega) w1
    rw [ba_list] at this
    exact this
  have hlen := hf.1
  obtain ⟨ad, cap, rfl, hcap, hl⟩ := hv
  have HL := hide3 hl
  clear hl hf
  go_enter Tryz.func46, Tryz.ntmps46
  go_wp2
  go_loop [7] (fun i => ∃ k : Nat, k ≤ ws.length ∧ i = .int .i64 k ∧ (ws.take k).all isW = true) (fun i => ws.length - (intOf i).toNat)
  case atStart => exact ⟨0, Nat.zero_le _, rfl, rfl⟩
  case round =>
    obtain ⟨k, hk, rfl, hal⟩ := hrel
    have HA := hide3 hal
    clear hal
    by_cases hlt : k < ws.length
    · obtain ⟨g, o, rfl, hg, hc⟩ : ∃ g o, ad = some ⟨g, o, none⟩ ∧ g < w.heap.size ∧ ∀ i (h : i < ws.length), w.cell? ⟨g, o + i, none⟩ = some (.string (ba ws[i])) := by
        rcases HL.out with rfl | h
        · simp at hlt
        · exact h
      have hcell := hc k hlt
      have HMk := hide3 (HMW.out ws[k] (List.getElem_mem hlt))
      have htk : ws.take (k + 1) = ws.take k ++ [ws[k]] := List.take_succ_eq_append_getElem hlt
      have hmem := List.getElem_mem hlt
      clear hc
      cases hw : isW ws[k]
      · have HR : Hid (isL ws = false) := by
          unfold Hid isL
          have : ws.all isW = false := by
            rw [Bool.eq_false_iff]
            intro h
            rw [List.all_eq_true] at h
            have := h _ hmem
            rw [hw] at this; cases this
          rw [this]; rfl
        rw [hw] at HMk
        clear hw htk hmem
        generalize ba ws[k] = x at *
        go_wp2_with (go_at_call 72; refine (HMk.out _).mono ?_; rintro e w1 ⟨rfl, hw1⟩; subst hw1)
        go_ret
        exact ⟨ret_bool HR.out.symm, rfl⟩
      · have HA2 : Hid ((ws.take (k + 1)).all isW = true) := by unfold Hid; rw [htk, List.all_append, HA.out]; simp [hw]
        rw [hw] at HMk
        clear hw htk hmem
        generalize ba ws[k] = x at *
        go_wp2_with (go_at_call 72; refine (HMk.out _).mono ?_; rintro e w1 ⟨rfl, hw1⟩; subst hw1)
        exact ⟨⟨k + 1, by omega, by go_num, HA2.out⟩, by simp [intOf]; omega⟩
    · have hke : k = ws.length := by omega
      subst hke
      have HR : Hid (isL ws = decide (0 < ws.length)) := by
        unfold Hid isL
        have := HA.out
        rw [List.take_length] at this
        rw [this]
        cases ws <;> simp
      go_wp2
      go_ret
      refine ⟨ret_bool ?_, rfl⟩
      rw [HR.out]

/-- A line's words as strings.Join puts them. -/
theorem join_line {ws : List Bs} (h : ws ≠ []) : Lib.join ws [32] ++ [10] = lineT ws := by
  induction ws with
  | nil => exact absurd rfl h
  | cons x l ih =>
    cases l with
    | nil => rw [Lib.join_one]; rfl
    | cons y r =>
      have e : lineT (x :: y :: r) = x ++ [32] ++ lineT (y :: r) := rfl
      rw [e, ← ih (by simp)]
      simp [Lib.join, List.intercalate]

theorem wJoin_any {ws : List Bs} (hne : ws ≠ []) (hl : ws.length ≤ 140737488355328) (hj : (Lib.join ws [32]).length ≤ 140737488355328) {v : Value} {w : World} (hv : WordsAt w v ws) :
    Calls Tryz.prog 48 #[v, .string ⟨#[32]⟩] w fun e w' => e = .returned (.string (ba (Lib.join ws [32]))) ∧ Below w.heap.size w w' := by
  obtain ⟨ad, cap, rfl, hcap, hh⟩ := hv
  obtain ⟨g, o, rfl, hg, hc⟩ := hh.resolve_left hne
  have e1 : (ws.map ba).map (fun x => x.data.toList) = ws := by
    rw [List.map_map]
    conv => rhs; rw [← List.map_id ws]
    exact List.map_congr_left fun x _ => ba_list x
  have e2 : (⟨#[32]⟩ : ByteArray).data.toList = [32] := rfl
  have := Tryz.strings_Join g o cap (ws.map ba) ⟨#[32]⟩ w (fun j x hx => by
    rw [List.getElem?_map] at hx
    by_cases hj : j < ws.length
    · rw [List.getElem?_eq_getElem hj] at hx
      simp only [Option.map_some, Option.some.injEq] at hx
      rw [← hx]
      exact hc j hj
    · rw [List.getElem?_eq_none (by omega)] at hx
      cases hx) hg (by rw [List.length_map]; exact hl) (by rw [List.length_map]; exact hcap) (by rw [e1, e2]; exact hj)
  rw [e1, e2, List.length_map] at this
  exact this
end Go.Proofs.YtefcndfeemnglaaGreatDoor.Sc
