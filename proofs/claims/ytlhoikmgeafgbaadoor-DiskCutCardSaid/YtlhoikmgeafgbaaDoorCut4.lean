/- The walk of DiskCut at a row of no deed, a nil one too. -/
import Derived.Test.YtlhoikmgeafgbaaDoorCut3
namespace Go.Proofs.YtlhoikmgeafgbaaDoor
open Go.RowKit Go.Maps Go.WideMaps Go.WideElems
set_option maxRecDepth 100000

set_option maxHeartbeats 2000000 in
theorem cut_nil (w : World) (m : Int) (hm : w.cell? ⟨0, 0, none⟩ = some (.int .i64 m)) (ao : Option Addr) (cap : Nat) (c : Int) (hc0 : -9223372036854775808 ≤ c) (hc1 : c ≤ 9223372036854775807) :
    Calls Tryd.prog 3 #[.slice ao 0 cap, .int .i64 c] w fun e w' => e = .returned (.bool true) ∧ Below w.heap.size w w' := by
  have h0 : 0 < w.heap.size := cell_lt hm
  have hpk := fun W => pick_any c 40 W hc0 hc1 (by decide) (by decide)
  obtain ⟨p0, p1⟩ := pickD_bd c 40 (by decide)
  have HPK : Hid (∀ W, Calls Tryd.prog 5 #[.int .i64 c, .int .i64 40] W fun e w' => e = .returned (.int .i64 (pickD c 40)) ∧ w' = W) := hpk
  clear hpk
  generalize pickD c 40 = p at *
  have HBO : Hid (Both w.heap.size ((wNew (wNew w)).setCell ⟨w.heap.size + 1, 2, none⟩ (.int .i64 p)) (w.heap.size + 1) w.heap.size (w.heap.size + 2 + 1) (w.heap.size + 2) p m 0 w) := start_both w m hm p p0 p1
  have HCT : Hid (Calls Tryd.prog 6 #[.pointer (some ⟨w.heap.size + 1, 0, none⟩), .int .i64 p] (wNew (wNew w)) fun e w' => e = .returned (.int .i64 0) ∧ w' = (wNew (wNew w)).setCell ⟨w.heap.size + 1, 2, none⟩ (.int .i64 p)) :=
    Cut_any ((new_is (B := w.heap.size) (Nat.le_refl _)).below (new_below (wNew w))) p rfl p0
  have hsz := size_wNew w
  clear hm hc0 hc1
  go_enter Tryd.func3, Tryd.ntmps3
  go_wp2_with (first
    | (go_at_call 4; refine (New_any _).mono ?_; rintro e w1 ⟨rfl, rfl⟩)
    | (go_at_call 5; refine (HPK.out _).mono ?_; rintro e w1 ⟨rfl, rfl⟩)
    | (go_at_call 6; refine HCT.out.mono ?_; rintro e w1 ⟨rfl, rfl⟩))
  go_loopw [7] (fun i wr => ∃ k : Nat, k ≤ 0 ∧ i = .int .i64 k ∧ Both w.heap.size wr (w.heap.size + 1) w.heap.size (w.heap.size + 2 + 1) (w.heap.size + 2) p m k w) (fun i _ => 0 - (intOf i).toNat)
  case atStart => exact ⟨0, Nat.zero_le _, rfl, HBO.out⟩
  case round =>
    obtain ⟨k, hk, rfl, hbo⟩ := hrel
    obtain ⟨na, nb, rva, rvb, xa, xb, fa, fb, hdj, hD, hrs, hlb, hla, hle, hna, hnb⟩ := hbo.ex
    have hold := hbo.old
    clear hbo HBO HCT
    by_cases hlt : k < 0
    · omega
    · have HFA := hide2 fa
      have HFB := hide2 fb
      have HOL := hide2 hold
      have HE : Hid (({ D := xa.D, rs := xa.rs, left := -1 } : Ab) = xb) := by
        unfold Hid; cases xb; simp only at hD hrs hlb; rw [hD, hrs, hlb]
      have hAa : Calls Tryd.prog 11 #[.pointer (some ⟨w.heap.size + 1, 0, none⟩)] wr fun e w' => ∃ ao cap, e = .returned (.slice ao (filesD xb.D).length cap) ∧ w'.ownsRow wr.heap.size 48 3 (.slice ao (filesD xb.D).length cap) (filesD xb.D).length (fileCells (filesD xb.D)) ∧ Below wr.heap.size wr w' := by
        have := All_any fa.disk (by omega)
        rw [hD] at this; exact this
      have HAb : Hid (∀ w2, Below wr.heap.size wr w2 → Calls Tryd.prog 11 #[.pointer (some ⟨w.heap.size + 2 + 1, 0, none⟩)] w2 fun e w' => ∃ ao cap, e = .returned (.slice ao (filesD xb.D).length cap) ∧ w'.ownsRow w2.heap.size 48 3 (.slice ao (filesD xb.D).length cap) (filesD xb.D).length (fileCells (filesD xb.D)) ∧ Below w2.heap.size w2 w') :=
        fun w2 hb => All_any (fb.below hb).disk (by omega)
      have HRa : Hid (∀ w2, Below wr.heap.size wr w2 → Calls Tryd.prog 8 #[.pointer (some ⟨w.heap.size + 1, 0, none⟩)] w2 fun e w' => ∃ ao cap, e = .returned (.slice ao xb.rs.length cap) ∧ w'.ownsRow w2.heap.size 46 3 (.slice ao xb.rs.length cap) xb.rs.length (rawCells xb.rs) ∧ Below w2.heap.size w2 w') := by
        intro w2 hb
        have := Raws_any (fa.below hb).disk (by rw [hrs]; omega)
        rw [hrs] at this; exact this
      have HRb : Hid (∀ w2, Below wr.heap.size wr w2 → Calls Tryd.prog 8 #[.pointer (some ⟨w.heap.size + 2 + 1, 0, none⟩)] w2 fun e w' => ∃ ao cap, e = .returned (.slice ao xb.rs.length cap) ∧ w'.ownsRow w2.heap.size 46 3 (.slice ao xb.rs.length cap) xb.rs.length (rawCells xb.rs) ∧ Below w2.heap.size w2 w') :=
        fun w2 hb => Raws_any (fb.below hb).disk (by omega)
      have hfl : (filesD xb.D).length ≤ 2199023255552 := by
        have := (files_facts fb.disk.own).2.1; omega
      have hrl : xb.rs.length ≤ 2199023255552 := by omega
      have hd1 : (xb.left == 0) = false := by rw [hlb]; rfl
      have HHF := hide2 hfl
      have HHR := hide2 hrl
      clear fa fb hD hrs hlb hla hle hold HPK hfl hrl
      go_wp2_with (first
        | (go_at_call_of 11 (Value.pointer (some { block := w.heap.size + 1, off := 0 })); refine hAa.mono ?_; rintro e w2 ⟨ao2, cp2, rfl, hr2, hb2⟩; have HR2 := hide2 hr2; clear hr2)
        | (go_at_call_of 11 (Value.pointer (some { block := w.heap.size + 2 + 1, off := 0 })); refine (HAb.out w2 hb2).mono ?_; rintro e w3 ⟨ao3, cp3, rfl, hr3, hb3⟩; have HR3 := hide2 hr3; have hbb3 := hb2.trans (hb3.mono hb2.size); clear hr3)
        | (go_at_call 10; refine (files_any (filesD xb.D) HHF.out (ownsRow_upd HR2.out (Upd.of_below (F := fun _ => False) hb3) (fun _ _ f => f)) HR3.out).mono ?_; rintro e w4 ⟨rfl, q4, rfl⟩)
        | (go_at_call_of 8 (Value.pointer (some { block := w.heap.size + 1, off := 0 })); refine (HRa.out _ (below_draws hbb3 q4)).mono ?_; rintro e w5 ⟨ao5, cp5, rfl, hr5, hb5⟩; have HR5 := hide2 hr5; have hbb5 := (below_draws hbb3 q4).trans (hb5.mono (below_draws hbb3 q4).size); clear hr5)
        | (go_at_call_of 8 (Value.pointer (some { block := w.heap.size + 2 + 1, off := 0 })); refine (HRb.out w5 hbb5).mono ?_; rintro e w6 ⟨ao6, cp6, rfl, hr6, hb6⟩; have HR6 := hide2 hr6; have hbb6 := hbb5.trans (hb6.mono hbb5.size); clear hr6)
        | (go_at_call 12; refine (raws_any xb.rs HHR.out (ownsRow_upd HR5.out (Upd.of_below (F := fun _ => False) hb6) (fun _ _ f => f)) HR6.out).mono ?_; rintro e w7 ⟨rfl, q7, rfl⟩; obtain ⟨fu, gu, bu⟩ := up_fit h0 (HFA.out.below (below_draws hbb6 q7)) (HFB.out.below (below_draws hbb6 q7)) hdj HE.out; have FU := hide2 fu; have GU := hide2 gu; have BU := hide2 bu; clear fu gu bu)
        | (go_at_call 13; refine (Up_any (HFA.out.below (below_draws hbb6 q7)).disk).mono ?_; rintro e w8 ⟨rfl, rfl⟩)
        | (go_at_call 9; refine (Down_any FU.out.disk).mono ?_; rintro e w9 ⟨rfl, rfl⟩)
        | (go_at_call_of 14 (Value.pointer (some { block := w.heap.size + 1, off := 0 })); refine (mkdir_a h0 FU.out GU.out hdj).mono ?_; rintro e w10 ⟨rfl, g10, b10⟩; have G10 := hide2 g10; have B10 := hide2 b10; clear g10 b10)
        | (go_at_call_of 14 (Value.pointer (some { block := w.heap.size + 2 + 1, off := 0 })); refine (mkdir_b G10.out).mono ?_; rintro e w11 ⟨rfl, b11⟩; have B11 := hide2 b11; clear b11)
        | (go_at_call 15; refine (lives_any w11 m (by rw [B11.out.cell (p := ⟨0, 0, none⟩) h0]; exact G10.out.max)).mono ?_; rintro e w12 ⟨rfl, b12⟩)
        | fail)
      go_ret
      have o6 := HOL.out.trans ((below_draws hbb6 q7).mono HOL.out.size)
      have o11 := ((o6.trans BU.out).trans B10.out).trans B11.out
      exact ⟨rfl, o11.trans (b12.mono o11.size)⟩

end Go.Proofs.YtlhoikmgeafgbaaDoor
