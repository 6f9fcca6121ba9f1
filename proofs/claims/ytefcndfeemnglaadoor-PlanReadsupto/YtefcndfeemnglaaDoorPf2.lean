/- PlanBack: the walk. Conditions: sizes. -/
import Derived.Test.YtefcndfeemnglaaDoorPf1
namespace Go.Proofs.YtefcndfeemnglaaDoor
open Go.RowKit Go.Maps Go.WideMaps Go.WideElems Dk
set_option maxRecDepth 100000

theorem hexT_size (s : ByteArray) : s.size ≤ (hexT s).size := by
  cases h : (s.toList == [])
  · have h1 := hexL_len s.data.toList
    rw [← hexT_ne h] at h1
    have h2 : (hexT s).data.toList.length = (hexT s).size := rfl
    have h3 : s.data.toList.length = s.size := rfl
    omega
  · rw [toList_nil h]; exact Nat.zero_le _
/-- A plan is no greater than its text. -/
theorem Plan.sizes {l : List De} (h : Plan l) : l.length ≤ (textD l).size ∧ ∀ d ∈ l, d.pa.size ≤ (textD l).size ∧ d.da.size ≤ (textD l).size := by
  have e : (textD l).size = (Sc.textT (linesP l)).length := by rw [← textD_list]; rfl
  obtain ⟨h1, h2⟩ := Sc.textT_len (linesP l)
  rw [← e] at h1 h2
  have h3 : (linesP l).length = l.length + 1 := by unfold linesP; simp
  refine ⟨by omega, fun d hd => ?_⟩
  have hm : lineW d ∈ linesP l := List.mem_cons_of_mem _ (List.mem_map.2 ⟨d, hd, rfl⟩)
  obtain ⟨_, _, h4⟩ := Sc.lineT_len (lineW d)
  have h5 := h2 _ hm
  refine ⟨Nat.le_trans (h4 d.pa.data.toList (by unfold lineW; simp)) h5, ?_⟩
  by_cases hk : d.kd = 4
  · have h6 := h4 (hexT d.da).data.toList (by unfold lineW; simp [hk])
    have h7 := hexT_size d.da
    have h8 : (hexT d.da).data.toList.length = (hexT d.da).size := rfl
    omega
  · rcases (h.parts d hd).2.2.1 with q | q
    · exact absurd q hk
    · rw [toList_nil q]; exact Nat.zero_le _

set_option maxHeartbeats 4000000 in
theorem planBack_walk (t : ByteArray) (hs : t.size ≤ 1048576) (m : Int) (w : World) (hm : w.cell? ⟨0, 0, none⟩ = some (.int .i64 m)) : Calls Tryd.prog 5 #[.string t] w fun e w' => e = .returned (.bool true) ∧ Below w.heap.size w w' := by
  have HMW : Hid (∀ W, Below w.heap.size w W → W.cell? ⟨0, 0, none⟩ = some (.int .i64 m)) := fun W hb => (hb.cell (p := ⟨0, 0, none⟩) (cell_lt hm)).trans hm
  have HR := hide3 (Parse_any t (by omega) m w hm)
  have HK : Hid (∀ W, Below w.heap.size w W → Calls Tryd.prog 11 #[] W fun e w' => e = .returned (.bool true) ∧ Below W.heap.size W w') := fun W hb => known17_any m W (HMW.out W hb)
  have hno : ∀ c : Int, (c != 0) = true → parO t = (c, []) → Calls Tryd.prog 5 #[.string t] w fun e w' => e = .returned (.bool true) ∧ Below w.heap.size w w' := by
    intro c hc hp
    rw [hp] at HR
    have HR2 : Hid (Calls Tryd.prog 12 #[.string t] w fun e w' => ∃ a cap, e = .returned (.tuple #[.slice a 0 cap, .int .i64 c]) ∧ Below w.heap.size w w') := HR.out.mono fun e w' ⟨v, h1, h2, h3⟩ => by
      obtain ⟨a, cap, rfl, _⟩ := h2.sl
      exact ⟨a, cap, h1, h3⟩
    clear HR hp hm
    go_enter Tryd.func5, Tryd.ntmps5
    go_wp2_with (first
      | (go_at_call 11; refine (HK.out _ HB1.out).mono ?_; rintro e w2 ⟨rfl, hb2⟩; have HB2 : Hid (Below w.heap.size w w2) := HB1.out.trans (hb2.mono HB1.out.size); clear hb2)
      | (go_at_call 12; refine HR2.out.mono ?_; rintro e w1 ⟨a1, c1, rfl, hb1⟩; have HB1 := hide3 hb1; clear hb1))
    go_ret
    exact ⟨rfl, HB2.out⟩
  rcases parO_cases t with ⟨l, hp⟩ | hp | hp
  · obtain ⟨hpl, htx⟩ := parO_ok hp
    obtain ⟨hl1, hl2⟩ := hpl.sizes
    rw [htx] at hl1 hl2
    rw [hp] at HR
    have HR2 : Hid (Calls Tryd.prog 12 #[.string t] w fun e w' => ∃ a cap, e = .returned (.tuple #[.slice a l.length cap, .int .i64 0]) ∧ IsDes w' a l ∧ Below w.heap.size w w') := HR.out.mono fun e w' ⟨v, h1, h2, h3⟩ => by
      obtain ⟨a, cap, rfl, h4⟩ := h2.isDes
      exact ⟨a, cap, h1, h4, h3⟩
    have HP : Hid (∀ W a cap, Below w.heap.size w W → IsDes W a l → Calls Tryd.prog 7 #[.slice a l.length cap] W fun e w' => e = .returned (.tuple #[.string t, .int .i64 0]) ∧ Below W.heap.size W w') := fun W a cap hb hd => by
      have := Print_any l a cap m W (HMW.out W hb) (by omega) hd (fun d hx => ⟨by have := (hl2 d hx).1; unfold maxLen; omega, by have := (hl2 d hx).2; omega⟩) (by rw [htx]; omega)
      rw [(prn_yes hpl).1, (prn_yes hpl).2, htx] at this
      exact this
    have HC : Hid (∀ W a cap, Below w.heap.size w W → IsDes W a l → Calls Tryd.prog 9 #[.slice a l.length cap] W fun e w' => e = .returned (.int .i64 0) ∧ Below W.heap.size W w') := fun W a cap hb hd => by
      have := Check_is l a cap m W (HMW.out W hb) (by omega) hd (fun d hx => by have := (hl2 d hx).1; unfold maxLen; omega)
      rw [(prn_yes hpl).2] at this
      exact this
    clear HR hp hm hno hl1 hl2 htx hpl HMW
    go_enter Tryd.func5, Tryd.ntmps5
    go_wp2_with (first
      | (go_at_call 9; have _t := HD3; refine (HC.out _ _ _ HB3.out HD3.out).mono ?_; rintro e w4 ⟨rfl, hb4⟩; have HB4 : Hid (Below w.heap.size w w4) := HB3.out.trans (hb4.mono HB3.out.size); clear hb4)
      | (go_at_call 7; have _t := HD2; refine (HP.out _ _ _ HB2.out HD2.out).mono ?_; rintro e w3 ⟨rfl, hb3⟩; have HD3 := hide3 (HD2.out.below hb3); have HB3 : Hid (Below w.heap.size w w3) := HB2.out.trans (hb3.mono HB2.out.size); clear hb3)
      | (go_at_call 11; have _t := HD1; refine (HK.out _ HB1.out).mono ?_; rintro e w2 ⟨rfl, hb2⟩; have HD2 := hide3 (HD1.out.below hb2); have HB2 : Hid (Below w.heap.size w w2) := HB1.out.trans (hb2.mono HB1.out.size); clear hb2)
      | (go_at_call 12; refine HR2.out.mono ?_; rintro e w1 ⟨a1, c1, rfl, hd1, hb1⟩; have HB1 := hide3 hb1; have HD1 := hide3 hd1; clear hb1 hd1))
    go_ret
    exact ⟨rfl, HB4.out⟩
  · exact hno 22 rfl hp
  · exact hno 44 rfl hp
end Go.Proofs.YtefcndfeemnglaaDoor
