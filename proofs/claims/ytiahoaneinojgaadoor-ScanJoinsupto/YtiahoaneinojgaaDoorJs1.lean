/- ScanJoins: the walk. -/
import Derived.Test.YtiahoaneinojgaaDoorPt1
import Derived.Test.YtiahoaneinojgaaDoorJo3
namespace Go.Proofs.YtiahoaneinojgaaDoor.Sc
open Go.RowKit
set_option maxRecDepth 100000

theorem text_fits {L : List (List Bs)} (h : (textT L).length ≤ 1048576) : Fits L := by
  obtain ⟨h1, h2⟩ := textT_len L
  exact ⟨by omega, fun l hl => by have := h2 l hl; have := (lineT_len l).2.1; omega⟩

set_option maxHeartbeats 3200000 in
theorem scanJoins_walk {L : List (List Bs)} (hT : (textT L).length ≤ 1048576) {v : Value} {w : World} (hv : LinesAt w v L) (he : EnvS w) :
    Calls Tryd.prog 4 #[v] w fun e w' => e = .returned (.bool true) ∧ Below w.heap.size w w' := by
  have HV := hide3 hv
  have HA := hide3 (Join_any (by omega) hv)
  have HB : Hid (∀ w1, Below w.heap.size w w1 → Calls Tryd.prog 13 #[v] w1 fun e w' => e = .returned (.tuple #[.string (joiT L), .int .i64 (joiE L)]) ∧ Below w1.heap.size w1 w') := fun w1 hb => rJoin_any (by omega) (hv.below hb)
  have HK : Hid (Kno w) := fun w1 hb => known_any w1 (he.below hb)
  have HF := hide3 (text_fits hT)
  clear hv he
  cases hal : L.all isL
  · have hj : joiT L = ⟨#[]⟩ ∧ joiE L = 22 := by unfold joiT joiE; rw [hal]; exact ⟨rfl, rfl⟩
    rw [hj.1, hj.2] at HA HB
    clear hj hal
    go_enter Tryd.func4, Tryd.ntmps4
    go_wp2_with (first
      | (go_at_call 12; refine HA.out.mono ?_; rintro e w1 ⟨rfl, hb1⟩; have HB1 := hide3 hb1; clear hb1)
      | (go_at_call 13; refine (HB.out _ HB1.out).mono ?_; rintro e w2 ⟨rfl, hb2⟩; have HB2 : Hid (Below w.heap.size w w2) := below_then HB1.out hb2; clear hb2)
      | (go_at_call 11; refine (HK.out _ HB2.out).mono ?_; rintro e w3 ⟨rfl, hb3⟩; have HB3 : Hid (Below w.heap.size w w3) := below_then HB2.out hb3; clear hb3))
    go_ret
    exact ⟨rfl, HB3.out⟩
  · have hj := joi_yes hal
    rw [hj.1, hj.2] at HA HB
    have hsc : scanR (ba (textT L)).data.toList [] [] [] = .ok L := by rw [ba_list, scan_text L [] hal]; rfl
    have HL : Hid (∀ w1, Took (ba (textT L)) ((ba (textT L)).size : Int) L w1) := fun w1 => took (by rw [ba_size]; omega) rfl hsc w1
    unfold Took at HL
    clear hj hal hsc
    generalize ba (textT L) = s at *
    go_enter Tryd.func4, Tryd.ntmps4
    go_wp2_with (first
      | (go_at_call 12; refine HA.out.mono ?_; rintro e w1 ⟨rfl, hb1⟩; have HB1 := hide3 hb1; clear hb1)
      | (go_at_call 13; refine (HB.out _ HB1.out).mono ?_; rintro e w2 ⟨rfl, hb2⟩; have HB2 : Hid (Below w.heap.size w w2) := below_then HB1.out hb2; clear hb2)
      | (go_at_call 11; refine (HK.out _ HB2.out).mono ?_; rintro e w3 ⟨rfl, hb3⟩; have HB3 : Hid (Below w.heap.size w w3) := below_then HB2.out hb3; clear hb3)
      | (go_at_call 9; refine (HL.out _).mono ?_; rintro e w4 ⟨v4, rfl, ho4, hb4⟩; have HL4 := hide3 ho4.at; have HB4 : Hid (Below w.heap.size w w4) := below_then HB3.out hb4; clear ho4 hb4)
      | (go_at_call 10; refine (same_yes HL4.out (HV.out.below HB4.out) HF.out).mono ?_; rintro e w5 ⟨rfl, hb5⟩; have HB5 : Hid (Below w.heap.size w w5) := below_then HB4.out hb5; clear hb5))
    go_ret
    exact ⟨rfl, HB5.out⟩
end Go.Proofs.YtiahoaneinojgaaDoor.Sc
