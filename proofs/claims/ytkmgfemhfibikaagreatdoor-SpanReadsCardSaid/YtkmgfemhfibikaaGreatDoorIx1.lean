/- strings.IndexRune over the ten digits, at a rune that is no ASCII: it is not there. -/
import Derived.Test.YtkmgfemhfibikaaGreatDoorSp1
import Derived.Test.YtkmgfemhfibikaaGreatDoorShelfD
import Derived.Laws.RangeAny
import Derived.WalkLawsBesides
namespace Go.Proofs.YtkmgfemhfibikaaGreatDoor
open Go.RowKit
set_option maxRecDepth 100000

theorem byte_no : ∀ (l : List UInt8) (c : UInt8), (∀ x ∈ l, x.toNat < 128) → 128 ≤ c.toNat → Lib.indexByte l c = -1
  | [], _, _, _ => rfl
  | b :: l, c, h, hc => by
    have hb := h b List.mem_cons_self
    have ih := byte_no l c (fun x hx => h x (List.mem_cons_of_mem _ hx)) hc
    unfold Lib.indexByte
    have : ¬ b = c := fun e => by subst e; omega
    simp [this, ih]

set_option maxHeartbeats 1600000 in
theorem IndexRune_2 (r : Int) (b0 c : UInt8) (w : World) (h0 : 0 ≤ r) (h1 : ¬ r < 128) (hr : (r == 65533) = false) (hv : Lib.validRune r = true) (he : Utf8.encode r = ⟨#[b0, c]⟩) (hc : 128 ≤ c.toNat) :
    Calls Tryz.prog 82 #[.string ⟨#[48, 49, 50, 51, 52, 53, 54, 55, 56, 57]⟩, .int .i32 r] w fun e w' => e = .returned (.int .i64 (-1)) ∧ Below w.heap.size w w' := by
  have HV : Hid (∀ w1, Calls Tryz.prog 100 #[.int .i32 r] w1 fun e w' => e = .returned (.bool true) ∧ w' = w1) := fun w1 => by have := Tryz.utf8_ValidRune r w1; rw [hv] at this; exact this
  have HB : Hid (∀ w1, Calls Tryz.prog 99 #[.string ((⟨#[48, 49, 50, 51, 52, 53, 54, 55, 56, 57]⟩ : ByteArray).extract 2 10), .int .u8 (c.toNat : Int)] w1 fun e w' => e = .returned (.int .i64 (-1)) ∧ Below w1.heap.size w1 w') := fun w1 => by
    refine (Tryz.strings_IndexByte ((⟨#[48, 49, 50, 51, 52, 53, 54, 55, 56, 57]⟩ : ByteArray).extract 2 10) (c.toNat : Int) w1).mono ?_
    rintro e w' ⟨rfl, hw⟩
    have hcc : ((c.toNat : Int)).toNat.toUInt8 = c := by simp
    rw [hcc, byte_no _ c (by decide) hc]
    exact ⟨rfl, by rw [hw]; exact Below.refl _ _⟩
  have hne : ((49 : Int) != (c.toNat : Int)) = true := by simp; omega
  have gA : ∀ h, (⟨#[48, 49, 50, 51, 52, 53, 54, 55, 56, 57]⟩ : ByteArray)[1]'h = 49 := fun _ => rfl
  have gB : ∀ h, (⟨#[b0, c]⟩ : ByteArray)[1]'h = c := fun _ => rfl
  have hwr : IntKind.i64.wrap 2 = 2 := by decide
  clear hc hv
  go_enter Tryz.func82, Tryz.ntmps82
  go_wp2_with (go_at_call 100; refine (HV.out _).mono ?_; rintro e w1 ⟨rfl, hw⟩; subst hw)
  go_step3
  go_wp2_with fail
  refine wp_loop_rounds 1 ?_
  rw [rounds_succ]
  go_wp2_with fail
  go_step3
  go_wp2_with fail
  have HO : Hid (Below w1.heap.size w1 w1) := Below.refl _ _
  have HK : Hid (KeepP fun w2 => Below w1.heap.size w1 w2) := keepBelow w1
  refine wp_region_keep HK.out (by kernel_rfl) (by kernel_rfl) (by first | exact HO.out | exact HK.out.drew HO.out) ?_
  intro C hin hout
  have HIN := hide3 hin
  have HOUT := hide3 hout
  clear hin hout HO
  repeat
    (with_reducible refine wpQuiet_step (fun K hK => ?_)
     go_simp
     first
       | (refine hK _ ?_; clear hK K)
       | (apply Exists.intro; refine ⟨fun w1 hC => ?_, hK _ ?_⟩; (focus ((first | (exact rfl) | (obtain hb1 := HOUT.out w1 hC; clear hC; go_simp; first | done | exact rfl)); done)); clear hK K))
  refine wpQuiet_nil ?_
  intro wn hC
  have HO := hide3 (HOUT.out _ hC)
  clear hC HIN HOUT C
  obtain hb1 := HO.out
  go_wp2_with fail
  clear hb1
  refine wp_region_keep HK.out (by kernel_rfl) (by kernel_rfl) (by first | exact HO.out | exact HK.out.drew HO.out) ?_
  intro C hin hout
  have HIN := hide3 hin
  have HOUT := hide3 hout
  clear hin hout HO
  repeat
    (with_reducible refine wpQuiet_step (fun K hK => ?_)
     go_simp
     first
       | (refine hK _ ?_; clear hK K)
       | (apply Exists.intro; refine ⟨fun w1 hC => ?_, hK _ ?_⟩; (focus ((first | (go_at_call 99; with_reducible exact callC HIN.out HOUT.out HK.out HB.out w1 hC) | (exact rfl) | (obtain hb1 := HOUT.out w1 hC; clear hC; go_simp; first | done | exact rfl)); done)); clear hK K))
  refine wpQuiet_nil ?_
  intro wm hC
  have HO := hide3 (HOUT.out _ hC)
  clear hC HIN HOUT C
  obtain hb1 := HO.out
  go_wp2
  rw [Exit.noGoto_ret]
  go_wp2
  rw [Exit.noGoto_ret]
  go_ret
  exact ⟨rfl, HO.out⟩

set_option maxHeartbeats 1600000 in
theorem IndexRune_3 (r : Int) (b0 b1 c : UInt8) (w : World) (h0 : 0 ≤ r) (h1 : ¬ r < 128) (hr : (r == 65533) = false) (hv : Lib.validRune r = true) (he : Utf8.encode r = ⟨#[b0, b1, c]⟩) (hc : 128 ≤ c.toNat) :
    Calls Tryz.prog 82 #[.string ⟨#[48, 49, 50, 51, 52, 53, 54, 55, 56, 57]⟩, .int .i32 r] w fun e w' => e = .returned (.int .i64 (-1)) ∧ Below w.heap.size w w' := by
  have HV : Hid (∀ w1, Calls Tryz.prog 100 #[.int .i32 r] w1 fun e w' => e = .returned (.bool true) ∧ w' = w1) := fun w1 => by have := Tryz.utf8_ValidRune r w1; rw [hv] at this; exact this
  have HB : Hid (∀ w1, Calls Tryz.prog 99 #[.string ((⟨#[48, 49, 50, 51, 52, 53, 54, 55, 56, 57]⟩ : ByteArray).extract 3 10), .int .u8 (c.toNat : Int)] w1 fun e w' => e = .returned (.int .i64 (-1)) ∧ Below w1.heap.size w1 w') := fun w1 => by
    refine (Tryz.strings_IndexByte ((⟨#[48, 49, 50, 51, 52, 53, 54, 55, 56, 57]⟩ : ByteArray).extract 3 10) (c.toNat : Int) w1).mono ?_
    rintro e w' ⟨rfl, hw⟩
    have hcc : ((c.toNat : Int)).toNat.toUInt8 = c := by simp
    rw [hcc, byte_no _ c (by decide) hc]
    exact ⟨rfl, by rw [hw]; exact Below.refl _ _⟩
  have hne : ((50 : Int) != (c.toNat : Int)) = true := by simp; omega
  have gA : ∀ h, (⟨#[48, 49, 50, 51, 52, 53, 54, 55, 56, 57]⟩ : ByteArray)[2]'h = 50 := fun _ => rfl
  have gB : ∀ h, (⟨#[b0, b1, c]⟩ : ByteArray)[2]'h = c := fun _ => rfl
  have hwr : IntKind.i64.wrap 3 = 3 := by decide
  clear hc hv
  go_enter Tryz.func82, Tryz.ntmps82
  go_wp2_with (go_at_call 100; refine (HV.out _).mono ?_; rintro e w1 ⟨rfl, hw⟩; subst hw)
  go_step3
  go_wp2_with fail
  refine wp_loop_rounds 1 ?_
  rw [rounds_succ]
  go_wp2_with fail
  go_step3
  go_wp2_with fail
  have HO : Hid (Below w1.heap.size w1 w1) := Below.refl _ _
  have HK : Hid (KeepP fun w2 => Below w1.heap.size w1 w2) := keepBelow w1
  refine wp_region_keep HK.out (by kernel_rfl) (by kernel_rfl) (by first | exact HO.out | exact HK.out.drew HO.out) ?_
  intro C hin hout
  have HIN := hide3 hin
  have HOUT := hide3 hout
  clear hin hout HO
  repeat
    (with_reducible refine wpQuiet_step (fun K hK => ?_)
     go_simp
     first
       | (refine hK _ ?_; clear hK K)
       | (apply Exists.intro; refine ⟨fun w1 hC => ?_, hK _ ?_⟩; (focus ((first | (exact rfl) | (obtain hb1 := HOUT.out w1 hC; clear hC; go_simp; first | done | exact rfl)); done)); clear hK K))
  refine wpQuiet_nil ?_
  intro wn hC
  have HO := hide3 (HOUT.out _ hC)
  clear hC HIN HOUT C
  obtain hb1 := HO.out
  go_wp2_with fail
  clear hb1
  refine wp_region_keep HK.out (by kernel_rfl) (by kernel_rfl) (by first | exact HO.out | exact HK.out.drew HO.out) ?_
  intro C hin hout
  have HIN := hide3 hin
  have HOUT := hide3 hout
  clear hin hout HO
  repeat
    (with_reducible refine wpQuiet_step (fun K hK => ?_)
     go_simp
     first
       | (refine hK _ ?_; clear hK K)
       | (apply Exists.intro; refine ⟨fun w1 hC => ?_, hK _ ?_⟩; (focus ((first | (go_at_call 99; with_reducible exact callC HIN.out HOUT.out HK.out HB.out w1 hC) | (exact rfl) | (obtain hb1 := HOUT.out w1 hC; clear hC; go_simp; first | done | exact rfl)); done)); clear hK K))
  refine wpQuiet_nil ?_
  intro wm hC
  have HO := hide3 (HOUT.out _ hC)
  clear hC HIN HOUT C
  obtain hb1 := HO.out
  go_wp2
  rw [Exit.noGoto_ret]
  go_wp2
  rw [Exit.noGoto_ret]
  go_ret
  exact ⟨rfl, HO.out⟩

set_option maxHeartbeats 1600000 in
theorem IndexRune_4 (r : Int) (b0 b1 b2 c : UInt8) (w : World) (h0 : 0 ≤ r) (h1 : ¬ r < 128) (hr : (r == 65533) = false) (hv : Lib.validRune r = true) (he : Utf8.encode r = ⟨#[b0, b1, b2, c]⟩) (hc : 128 ≤ c.toNat) :
    Calls Tryz.prog 82 #[.string ⟨#[48, 49, 50, 51, 52, 53, 54, 55, 56, 57]⟩, .int .i32 r] w fun e w' => e = .returned (.int .i64 (-1)) ∧ Below w.heap.size w w' := by
  have HV : Hid (∀ w1, Calls Tryz.prog 100 #[.int .i32 r] w1 fun e w' => e = .returned (.bool true) ∧ w' = w1) := fun w1 => by have := Tryz.utf8_ValidRune r w1; rw [hv] at this; exact this
  have HB : Hid (∀ w1, Calls Tryz.prog 99 #[.string ((⟨#[48, 49, 50, 51, 52, 53, 54, 55, 56, 57]⟩ : ByteArray).extract 4 10), .int .u8 (c.toNat : Int)] w1 fun e w' => e = .returned (.int .i64 (-1)) ∧ Below w1.heap.size w1 w') := fun w1 => by
    refine (Tryz.strings_IndexByte ((⟨#[48, 49, 50, 51, 52, 53, 54, 55, 56, 57]⟩ : ByteArray).extract 4 10) (c.toNat : Int) w1).mono ?_
    rintro e w' ⟨rfl, hw⟩
    have hcc : ((c.toNat : Int)).toNat.toUInt8 = c := by simp
    rw [hcc, byte_no _ c (by decide) hc]
    exact ⟨rfl, by rw [hw]; exact Below.refl _ _⟩
  have hne : ((51 : Int) != (c.toNat : Int)) = true := by simp; omega
  have gA : ∀ h, (⟨#[48, 49, 50, 51, 52, 53, 54, 55, 56, 57]⟩ : ByteArray)[3]'h = 51 := fun _ => rfl
  have gB : ∀ h, (⟨#[b0, b1, b2, c]⟩ : ByteArray)[3]'h = c := fun _ => rfl
  have hwr : IntKind.i64.wrap 4 = 4 := by decide
  clear hc hv
  go_enter Tryz.func82, Tryz.ntmps82
  go_wp2_with (go_at_call 100; refine (HV.out _).mono ?_; rintro e w1 ⟨rfl, hw⟩; subst hw)
  go_step3
  go_wp2_with fail
  refine wp_loop_rounds 1 ?_
  rw [rounds_succ]
  go_wp2_with fail
  go_step3
  go_wp2_with fail
  have HO : Hid (Below w1.heap.size w1 w1) := Below.refl _ _
  have HK : Hid (KeepP fun w2 => Below w1.heap.size w1 w2) := keepBelow w1
  refine wp_region_keep HK.out (by kernel_rfl) (by kernel_rfl) (by first | exact HO.out | exact HK.out.drew HO.out) ?_
  intro C hin hout
  have HIN := hide3 hin
  have HOUT := hide3 hout
  clear hin hout HO
  repeat
    (with_reducible refine wpQuiet_step (fun K hK => ?_)
     go_simp
     first
       | (refine hK _ ?_; clear hK K)
       | (apply Exists.intro; refine ⟨fun w1 hC => ?_, hK _ ?_⟩; (focus ((first | (exact rfl) | (obtain hb1 := HOUT.out w1 hC; clear hC; go_simp; first | done | exact rfl)); done)); clear hK K))
  refine wpQuiet_nil ?_
  intro wn hC
  have HO := hide3 (HOUT.out _ hC)
  clear hC HIN HOUT C
  obtain hb1 := HO.out
  go_wp2_with fail
  clear hb1
  refine wp_region_keep HK.out (by kernel_rfl) (by kernel_rfl) (by first | exact HO.out | exact HK.out.drew HO.out) ?_
  intro C hin hout
  have HIN := hide3 hin
  have HOUT := hide3 hout
  clear hin hout HO
  repeat
    (with_reducible refine wpQuiet_step (fun K hK => ?_)
     go_simp
     first
       | (refine hK _ ?_; clear hK K)
       | (apply Exists.intro; refine ⟨fun w1 hC => ?_, hK _ ?_⟩; (focus ((first | (go_at_call 99; with_reducible exact callC HIN.out HOUT.out HK.out HB.out w1 hC) | (exact rfl) | (obtain hb1 := HOUT.out w1 hC; clear hC; go_simp; first | done | exact rfl)); done)); clear hK K))
  refine wpQuiet_nil ?_
  intro wm hC
  have HO := hide3 (HOUT.out _ hC)
  clear hC HIN HOUT C
  obtain hb1 := HO.out
  go_wp2
  rw [Exit.noGoto_ret]
  go_wp2
  rw [Exit.noGoto_ret]
  go_ret
  exact ⟨rfl, HO.out⟩
end Go.Proofs.YtkmgfemhfibikaaGreatDoor
