/- PlanWrites: the walk. Conditions: sizes. -/
import Derived.Test.YtefcndfeemnglaaDoorPf2
import Derived.Test.YtefcndfeemnglaaDoorRwPn
namespace Go.Proofs.YtefcndfeemnglaaDoor
open Go.RowKit Go.Maps Go.WideMaps Go.WideElems Dk
set_option maxRecDepth 100000

theorem rCheck17 (l : List De) (a : Option Addr) (cap : Nat) (w : World) (hlen : l.length ≤ 8388608) (hc : IsDes w a l) (hz : ∀ d ∈ l, d.pa.size ≤ maxLen) :
    Calls Tryd.prog 10 #[.slice a l.length cap] w fun e w' => e = .returned (.int .i64 (prnE l)) ∧ Below w.heap.size w w' := by
  refine (pCheck_any l a cap w hlen hc hz).mono ?_
  rintro e w' ⟨⟨r, rfl, h | h⟩, hb⟩
  · exact ⟨by rw [(prn_yes h.1).2, h.2], hb⟩
  · exact ⟨by rw [(prn_no h.1).2, h.2], hb⟩
theorem rPrint17 (l : List De) (a : Option Addr) (cap : Nat) (w : World) (hlen : l.length ≤ 8388608) (hc : IsDes w a l) (hz : ∀ d ∈ l, d.pa.size ≤ maxLen ∧ d.da.size ≤ 100000000) (hsz : (textD l).size ≤ 9223372036854775807) :
    Calls Tryd.prog 8 #[.slice a l.length cap] w fun e w' => e = .returned (.tuple #[.string (prnT l), .int .i64 (prnE l)]) ∧ Below w.heap.size w w' := by
  refine (pPrint_any17 l a cap w hlen hc hz hsz).mono ?_
  rintro e w' ⟨⟨h, rfl⟩ | ⟨h, rfl⟩, hb⟩
  · rw [(prn_yes h).1, (prn_yes h).2]; exact ⟨rfl, hb⟩
  · rw [(prn_no h).1, (prn_no h).2]; exact ⟨rfl, hb⟩

set_option maxHeartbeats 8000000 in
theorem planWrites_walk (l : List De) (a : Option Addr) (cap : Nat) (m : Int) (w : World) (hm : w.cell? ⟨0, 0, none⟩ = some (.int .i64 m)) (hc : IsDes w a l) (hz : ∀ d ∈ l, d.pa.size ≤ maxLen) (hsum : sumL l ≤ 2097152) :
    Calls Tryd.prog 3 #[.slice a l.length cap] w fun e w' => e = .returned (.bool true) ∧ Below w.heap.size w w' := by
  have hlen : l.length ≤ 8388608 := by have := sum_len l; omega
  have htx := text_le l
  have hzz : ∀ d ∈ l, d.pa.size ≤ maxLen ∧ d.da.size ≤ 100000000 := fun d hd => ⟨hz d hd, by have := sum_mem hd; omega⟩
  have HMW : Hid (∀ W, Below w.heap.size w W → W.cell? ⟨0, 0, none⟩ = some (.int .i64 m)) := fun W hb => (hb.cell (p := ⟨0, 0, none⟩) (cell_lt hm)).trans hm
  have HDW : Hid (∀ W, Below w.heap.size w W → IsDes W a l) := fun W hb => hc.below hb
  have HP := hide3 (Print_any l a cap m w hm hlen hc hzz (by omega))
  have HQ : Hid (∀ W, Below w.heap.size w W → Calls Tryd.prog 8 #[.slice a l.length cap] W fun e w' => e = .returned (.tuple #[.string (prnT l), .int .i64 (prnE l)]) ∧ Below W.heap.size W w') := fun W hb => rPrint17 l a cap W hlen (HDW.out W hb) hzz (by omega)
  have HC : Hid (∀ W, Below w.heap.size w W → Calls Tryd.prog 9 #[.slice a l.length cap] W fun e w' => e = .returned (.int .i64 (prnE l)) ∧ Below W.heap.size W w') := fun W hb => Check_is l a cap m W (HMW.out W hb) hlen (HDW.out W hb) hz
  have HE : Hid (∀ W, Below w.heap.size w W → Calls Tryd.prog 10 #[.slice a l.length cap] W fun e w' => e = .returned (.int .i64 (prnE l)) ∧ Below W.heap.size W w') := fun W hb => rCheck17 l a cap W hlen (HDW.out W hb) hz
  have HK : Hid (∀ W, Below w.heap.size w W → Calls Tryd.prog 11 #[] W fun e w' => e = .returned (.bool true) ∧ Below W.heap.size W w') := fun W hb => known17_any m W (HMW.out W hb)
  by_cases hp : Plan l
  · obtain ⟨e1, e2⟩ := prn_yes hp
    rw [e1, e2] at HP HQ
    rw [e2] at HC HE
    have HR : Hid (∀ W, Below w.heap.size w W → Calls Tryd.prog 12 #[.string (textD l)] W fun e w' => ∃ b cp, e = .returned (.tuple #[.slice b l.length cp, .int .i64 0]) ∧ IsDes w' b l ∧ Below W.heap.size W w') := fun W hb => by
      refine (Parse_any (textD l) (by omega) m W (HMW.out W hb)).mono ?_
      rw [parO_text hp]
      rintro e w' ⟨v, rfl, hd, hb⟩
      obtain ⟨b, cp, rfl, h⟩ := hd.isDes
      exact ⟨b, cp, rfl, h, hb⟩
    have HS : Hid (∀ W b cp, IsDes W a l → IsDes W b l → Calls Tryd.prog 13 #[.slice a l.length cap, .slice b l.length cp] W fun e w' => e = .returned (.bool true) ∧ Below W.heap.size W w') := fun W b cp h1 h2 => sameDe_any l rfl hlen h1 h2
    clear hm hc hz hzz hsum htx hp e1 e2 HMW
    have hne0 : ∀ s : ByteArray, (s.toList != s.toList) = false := fun s => by simp
    generalize textD l = T at *
    generalize l.length = n at *
    go_enter Tryd.func3, Tryd.ntmps3
    go_wp2_with (first
      | (go_at_call 13; have _t := HD6; refine (HS.out _ _ _ (HDW.out _ HB6.out) HD6.out).mono ?_; rintro e w7 ⟨rfl, hb7⟩; have HB7 : Hid (Below w.heap.size w w7) := HB6.out.trans (hb7.mono HB6.out.size); clear hb7)
      | (go_at_call 12; have _t := HB5; refine (HR.out _ HB5.out).mono ?_; rintro e w6 ⟨b6, c6, rfl, hd6, hb6⟩; have HD6 := hide3 hd6; have HB6 : Hid (Below w.heap.size w w6) := HB5.out.trans (hb6.mono HB5.out.size); clear hb6 hd6)
      | (go_at_call 11; have _t := HB4; refine (HK.out _ HB4.out).mono ?_; rintro e w5 ⟨rfl, hb5⟩; have HB5 : Hid (Below w.heap.size w w5) := HB4.out.trans (hb5.mono HB4.out.size); clear hb5)
      | (go_at_call 10; have _t := HB3; refine (HE.out _ HB3.out).mono ?_; rintro e w4 ⟨rfl, hb4⟩; have HB4 : Hid (Below w.heap.size w w4) := HB3.out.trans (hb4.mono HB3.out.size); clear hb4)
      | (go_at_call 9; have _t := HB2; refine (HC.out _ HB2.out).mono ?_; rintro e w3 ⟨rfl, hb3⟩; have HB3 : Hid (Below w.heap.size w w3) := HB2.out.trans (hb3.mono HB2.out.size); clear hb3)
      | (go_at_call 8; have _t := HB1; refine (HQ.out _ HB1.out).mono ?_; rintro e w2 ⟨rfl, hb2⟩; have HB2 : Hid (Below w.heap.size w w2) := HB1.out.trans (hb2.mono HB1.out.size); clear hb2)
      | (go_at_call 7; refine HP.out.mono ?_; rintro e w1 ⟨rfl, hb1⟩; have HB1 := hide3 hb1; clear hb1))
    go_ret
    exact ⟨rfl, HB7.out⟩
  · obtain ⟨e1, e2⟩ := prn_no hp
    rw [e1, e2] at HP HQ
    rw [e2] at HC HE
    clear hm hc hz hzz hsum htx hp e1 e2 HMW HDW
    generalize l.length = n at *
    go_enter Tryd.func3, Tryd.ntmps3
    go_wp2_with (first
      | (go_at_call 11; have _t := HB4; refine (HK.out _ HB4.out).mono ?_; rintro e w5 ⟨rfl, hb5⟩; have HB5 : Hid (Below w.heap.size w w5) := HB4.out.trans (hb5.mono HB4.out.size); clear hb5)
      | (go_at_call 10; have _t := HB3; refine (HE.out _ HB3.out).mono ?_; rintro e w4 ⟨rfl, hb4⟩; have HB4 : Hid (Below w.heap.size w w4) := HB3.out.trans (hb4.mono HB3.out.size); clear hb4)
      | (go_at_call 9; have _t := HB2; refine (HC.out _ HB2.out).mono ?_; rintro e w3 ⟨rfl, hb3⟩; have HB3 : Hid (Below w.heap.size w w3) := HB2.out.trans (hb3.mono HB2.out.size); clear hb3)
      | (go_at_call 8; have _t := HB1; refine (HQ.out _ HB1.out).mono ?_; rintro e w2 ⟨rfl, hb2⟩; have HB2 : Hid (Below w.heap.size w w2) := HB1.out.trans (hb2.mono HB1.out.size); clear hb2)
      | (go_at_call 7; refine HP.out.mono ?_; rintro e w1 ⟨rfl, hb1⟩; have HB1 := hide3 hb1; clear hb1))
    go_ret
    exact ⟨rfl, HB5.out⟩
end Go.Proofs.YtefcndfeemnglaaDoor
