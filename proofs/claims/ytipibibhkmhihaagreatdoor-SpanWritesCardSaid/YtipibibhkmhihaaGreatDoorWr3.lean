/- SpanWrites: the walk. -/
import Derived.Test.YtipibibhkmhihaaGreatDoorWr2
import Derived.Test.YtipibibhkmhihaaGreatDoorSh1
namespace Go.Proofs.YtipibibhkmhihaaGreatDoor
open Go.RowKit
set_option maxRecDepth 100000

theorem rPrint_no (v : Value) (w : World) (HMay : Hid (Says 19 #[v] w false)) :
    Calls Tryz.prog 18 #[v] w fun e w' => e = .returned (.string ⟨#[]⟩) ∧ Below w.heap.size w w' := by
  unfold Says at HMay
  go_enter Tryz.func18, Tryz.ntmps18
  go_wp2_with (go_at_call 19; refine HMay.out.mono ?_; rintro e w1 ⟨rfl, ok1⟩; have HO1 := hide3 ok1; clear ok1)
  go_ret
  exact ⟨rfl, HO1.out⟩

theorem print_nil_is : (⟨#[60, 48, 46, 48, 46, 48]⟩ : ByteArray) = printR [] := same_list (by decide +kernel)

theorem rPrint_nil (ad : Option Addr) (cap : Nat) (w : World) :
    Calls Tryz.prog 18 #[.slice ad 0 cap] w fun e w' => e = .returned (.string (printR [])) ∧ Below w.heap.size w w' := by
  have HMay := hide3 (rMay_nil ad cap w)
  have HP := hide3 print_nil_is
  go_enter Tryz.func18, Tryz.ntmps18
  go_wp2_with (go_at_call 19; refine HMay.out.mono ?_; rintro e w1 ⟨rfl, ok1⟩; have HO1 := hide3 ok1; clear ok1)
  go_ret
  exact ⟨by rw [← HP.out]; rfl, HO1.out⟩

theorem rPrint_rg {A : Rg} (hA : RangeR A) (hl : A.length ≤ 64) {v : Value} {w : World} (h : SpansR w v A) :
    Calls Tryz.prog 18 #[v] w fun e w' => e = .returned (.string (printR A)) ∧ Below w.heap.size w w' := by
  have HM : Hid (Calls Tryz.prog 19 #[v] w fun e w' => e = .returned (.bool true) ∧ Below w.heap.size w w') := by have := rMayL_any h.at; rw [may_rg hA hl] at this; exact this
  obtain ⟨ad, cap, rfl, hc, hs⟩ := h
  cases A with
  | nil => exact rPrint_nil ad cap w
  | cons p A =>
    rcases hs with hs | ⟨g, o, rfl, hg, hs⟩
    · cases hs
    · exact rPrint_walk (p :: A) hA (by simp) g o cap w hl hg hs HM

set_option maxHeartbeats 1600000 in
theorem writes_no {L : List Sp} {v : Value} {w : World} (h : SpansC w v L) (hm : mayL L = false) (he : Env w) (hf : FL w) :
    Says 5 #[v] w true := by
  have HP : Hid (Calls Tryz.prog 17 #[v] w fun e w' => e = .returned (.string ByteArray.empty) ∧ Below w.heap.size w w') := sPrint_no v w (by have := sMay_any h.1; rw [hm] at this; exact this)
  have HQ : Hid (∀ w1, Below w.heap.size w w1 → Calls Tryz.prog 18 #[v] w1 fun e w' => e = .returned (.string ⟨#[]⟩) ∧ Below w1.heap.size w1 w') := fun w1 hb => rPrint_no v w1 (by have := rMayL_any (h.below hb).1; rw [hm] at this; exact this)
  have HK : Hid (∀ w1, Below w.heap.size w w1 → Says 14 #[] w1 true) := fun w1 hb => known_any w1 (he.below hb) (hf.below hb)
  have HM : Hid (∀ w1, Below w.heap.size w w1 → Says 19 #[v] w1 false) := fun w1 hb => by have := rMayL_any (h.below hb).1; rw [hm] at this; exact this
  have hemp : (ByteArray.empty) = (⟨#[]⟩ : ByteArray) := rfl
  rw [hemp] at HP
  unfold Says at *
  clear h hm he hf hemp
  go_enter Tryz.func5, Tryz.ntmps5
  go_wp2_with (first
    | (go_at_call 17; refine HP.out.mono ?_; rintro e w1 ⟨rfl, ok⟩; have HB1 := hide3 ok; clear ok)
    | (go_at_call 18; refine (HQ.out _ HB1.out).mono ?_; rintro e w2 ⟨rfl, ok⟩; have HB2 := hide3 (below_then HB1.out ok); clear ok)
    | (go_at_call 14; refine (HK.out _ HB2.out).mono ?_; rintro e w3 ⟨rfl, ok⟩; have HB3 := hide3 (below_then HB2.out ok); clear ok)
    | (go_at_call 19; refine (HM.out _ HB3.out).mono ?_; rintro e w4 ⟨rfl, ok⟩; have HB4 := hide3 (below_then HB3.out ok); clear ok))
  go_ret
  exact ⟨rfl, HB4.out⟩

set_option maxHeartbeats 1600000 in
theorem writes_yes {A : Rg} (hA : RangeR A) (hl : A.length ≤ 64) {v : Value} {w : World} (h : SpansR w v A) (he : Env w) (hf : FL w) :
    Says 5 #[v] w true := by
  have HP : Hid (Calls Tryz.prog 17 #[v] w fun e w' => e = .returned (.string (printR A)) ∧ Below w.heap.size w w') := sPrint_rg hA hl h he hf
  have HQ : Hid (∀ w1, Below w.heap.size w w1 → Calls Tryz.prog 18 #[v] w1 fun e w' => e = .returned (.string (printR A)) ∧ Below w1.heap.size w1 w') := fun w1 hb => rPrint_rg hA hl (h.below hb)
  have HK : Hid (∀ w1, Below w.heap.size w w1 → Says 14 #[] w1 true) := fun w1 hb => known_any w1 (he.below hb) (hf.below hb)
  have HM : Hid (∀ w1, Below w.heap.size w w1 → Says 19 #[v] w1 true) := fun w1 hb => by have := rMayL_any (h.below hb).at; rw [may_rg hA hl] at this; exact this
  have HS : Hid (∀ w1, Below w.heap.size w w1 → Calls Tryz.prog 15 #[.string (printR A)] w1 fun e w' => ∃ u, e = .returned (.tuple #[u, .int .i64 0]) ∧ SpansR w' u A ∧ Below w1.heap.size w1 w') := by
    intro w1 hb
    refine (sParse_all (printR A) w1 (he.below hb) (hf.below hb)).mono ?_
    rintro e w' ⟨u, rfl, ho, hb1⟩
    rw [print_par hA hl] at ho ⊢
    have e1 : parE (some A) = 0 := by show fullE A.length = 0; exact full_0 hl
    have e2 : parL (some A) = A := by show fitR A = A; unfold fitR; rw [if_pos hl]
    rw [e1]
    rw [e2] at ho
    exact ⟨u, rfl, ho.spans, hb1⟩
  have HE : Hid (∀ w1 u, Below w.heap.size w w1 → SpansR w1 u A → Says 8 #[v, u] w1 true) := fun w1 u hb hu => same_rg hl (h.below hb) hu
  unfold Says at *
  clear h hA he hf
  generalize printR A = s at *
  go_enter Tryz.func5, Tryz.ntmps5
  go_wp2_with (first
    | (go_at_call 17; refine HP.out.mono ?_; rintro e w1 ⟨rfl, ok⟩; have HB1 := hide3 ok; clear ok)
    | (go_at_call 18; refine (HQ.out _ HB1.out).mono ?_; rintro e w2 ⟨rfl, ok⟩; have HB2 := hide3 (below_then HB1.out ok); clear ok)
    | (go_at_call 14; refine (HK.out _ HB2.out).mono ?_; rintro e w3 ⟨rfl, ok⟩; have HB3 := hide3 (below_then HB2.out ok); clear ok)
    | (go_at_call 19; refine (HM.out _ HB3.out).mono ?_; rintro e w4 ⟨rfl, ok⟩; have HB4 := hide3 (below_then HB3.out ok); clear ok)
    | (go_at_call 15; refine (HS.out _ HB4.out).mono ?_; rintro e w5 ⟨u5, rfl, hu5, ok⟩; have HU5 := hide3 hu5; have HB5 := hide3 (below_then HB4.out ok); clear ok hu5)
    | (go_at_call 8; refine (HE.out _ _ HB5.out HU5.out).mono ?_; rintro e w6 ⟨rfl, ok⟩; have HB6 := hide3 (below_then HB5.out ok); clear ok))
  go_ret
  exact ⟨rfl, HB6.out⟩

theorem writes_all {L : List Sp} {v : Value} {w : World} (h : SpansC w v L) (hq : Env w ∧ FL w) :
    Calls Tryz.prog 5 #[v] w fun e w' => e = .returned (.bool true) ∧ Below w.heap.size w w' := by
  rcases rg_or h with hm | ⟨A, rfl, hA, hl, hs⟩
  · exact writes_no h hm hq.1 hq.2
  · exact writes_yes hA hl hs hq.1 hq.2
end Go.Proofs.YtipibibhkmhihaaGreatDoor
