/- LockMay: of any arguments it answers true, and each argument reads as it read before (the tied card). Conditions: none but the row's own. -/
import Derived.Test.YtikplmckjcceaaaDoorMg12
namespace Go.Proofs.YtikplmckjcceaaaDoor
open Go.RowKit
open Sc (KeepP hide3 keepBelow Bs ba wp_region_keep callC callC')
set_option maxRecDepth 100000

set_option maxHeartbeats 6400000 in
theorem lockMay_walk {G : List Nd} {v : Value} {w : World} (h : NodesAt w v G) (hz : ∀ n ∈ G, NdZ n) (he : Env w) :
    Calls Tryd.prog 3 #[.agg #[v]] w fun e w' => e = .returned (.bool true) ∧ Below w.heap.size w w' := by
  have HP : Hid (∀ W, Below w.heap.size w W → Calls Tryd.prog 6 #[.agg #[v]] W fun e w' => e = .returned (.tuple #[.string (prT G), .int .i64 (prE G)]) ∧ Below W.heap.size W w') := fun W hb => gPrint_any (h.below hb) (he.below hb).spell
  have HR : Hid (∀ W, Below w.heap.size w W → Calls Tryd.prog 7 #[.agg #[v]] W fun e w' => e = .returned (.tuple #[.string (prT G), .int .i64 (prE G)]) ∧ Below W.heap.size W w') := fun W hb => rPrintG_any (h.below hb) hz
  have HPA : Hid (mayG G = true → ∀ W, Below w.heap.size w W → Calls Tryd.prog 11 #[.string (textG G)] W fun e w' => ∃ ad n cap, e = .returned (.tuple #[.agg #[.slice ad n cap], .int .i64 0]) ∧ Below W.heap.size W w' ∧ NodesAt w' (.slice ad n cap) G) := fun hm W hb => (gParse_any (textG G) W (he.below hb)).mono fun e w' hq => by
    obtain ⟨hb, ⟨ad, cap, all, h1, h2, h3⟩ | ⟨h2, _⟩⟩ := hq
    · rw [text_par hm] at h1
      refine ⟨ad, _, cap, h2, hb, ?_⟩
      rw [Option.some.inj h1]
      exact h3.at
    · rw [text_par hm] at h2; cases h2
  have HSA : Hid (mayG G = true → ∀ W u, Below w.heap.size w W → NodesAt W u G → Calls Tryd.prog 12 #[.agg #[v], .agg #[u]] W fun e w' => e = .returned (.bool true) ∧ Below W.heap.size W w') := fun hm W u hb hu => by
    have := rSameG_any (h.below hb) hu (may_short hm).1 (may_short hm).2
    rw [eqB_yes rfl] at this
    exact this
  have HMP0 : Hid (∀ W, Below w.heap.size w W → Calls Tryd.prog 8 #[.agg #[v]] W fun e w' => e = .returned (.bool (mayG G)) ∧ Below W.heap.size W w') := fun W hb => gMay_any (h.below hb)
  have HMR0 : Hid (∀ W, Below w.heap.size w W → Calls Tryd.prog 9 #[.agg #[v]] W fun e w' => e = .returned (.bool (mayG G)) ∧ Below W.heap.size W w') := fun W hb => rMayG_any (h.below hb) hz
  have HKN0 : Hid (∀ W, Below w.heap.size w W → Calls Tryd.prog 10 #[] W fun e w' => e = .returned (.bool true) ∧ Below W.heap.size W w') := fun W hb => known_lk (he.below hb) (he.below hb).spell
  obtain ⟨ad, cap, rfl, kk⟩ := h
  clear kk hz he
  have HO0 : Hid (Below w.heap.size w (w.alloc (.cells #[.slice ad G.length cap] 24)) ∧ BxG (w.alloc (.cells #[.slice ad G.length cap] 24)) w.heap.size (.slice ad G.length cap)) := ⟨boxB _ _, BxG.new rfl _⟩
  have HK : Hid (KeepP fun W => Below w.heap.size w W ∧ BxG W w.heap.size (.slice ad G.length cap)) := (keepBelow w).and (keepBxG _ _)
  have HMP : Hid (∀ W, (Below w.heap.size w W ∧ BxG W w.heap.size (.slice ad G.length cap)) → Calls Tryd.prog 8 #[.agg #[.slice ad G.length cap]] W fun e w' => e = .returned (.bool (mayG G)) ∧ Below W.heap.size W w') := fun W hw => HMP0.out W hw.1
  have HMR : Hid (∀ W, (Below w.heap.size w W ∧ BxG W w.heap.size (.slice ad G.length cap)) → Calls Tryd.prog 9 #[.agg #[.slice ad G.length cap]] W fun e w' => e = .returned (.bool (mayG G)) ∧ Below W.heap.size W w') := fun W hw => HMR0.out W hw.1
  have HKN : Hid (∀ W, (Below w.heap.size w W ∧ BxG W w.heap.size (.slice ad G.length cap)) → Calls Tryd.prog 10 #[] W fun e w' => e = .returned (.bool true) ∧ Below W.heap.size W w') := fun W hw => HKN0.out W hw.1
  clear HMP0 HMR0 HKN0
  unfold prT prE at HP HR
  cases hm : mayG G
  · rw [hm] at HP HR HMP HMR
    simp only [Bool.false_eq_true, if_false] at HP HR
    clear HPA HSA hm
    generalize G.length = n at *
    go_enter Tryd.func3, Tryd.ntmps3
    go_wp2_with (first
      | (go_at_call 6; refine (HP.out _ HO0.out.1).mono ?_; rintro e w1 ⟨rfl, ok⟩; have HO1 := hide3 (HK.out _ _ HO0.out ok); obtain ⟨_, y0, y1⟩ := HO1.out; clear ok HO0)
      | (go_at_call 7; refine (HR.out _ HO1.out.1).mono ?_; rintro e w2 ⟨rfl, ok⟩; have HO := hide3 (HK.out _ _ HO1.out ok); clear ok HO1 y0 y1)
      | fail)
    refine wp_region_keep HK.out (by kernel_rfl) (by kernel_rfl) (by first | exact HO.out | exact HK.out.drew HO.out) ?_
    intro C hin hout
    have HIN := hide3 hin
    have HOUT := hide3 hout
    clear hin hout HO
    repeat
      (with_reducible refine wpQuiet_step (fun K hK => ?_)
       go_simp
       first
         | (refine hK _ ?_; clear hK K)
         | (apply Exists.intro; refine ⟨fun w1 hC => ?_, hK _ ?_⟩; (focus ((first | (go_at_call 8; with_reducible exact callC' HIN.out HOUT.out HK.out HMP.out w1 hC) | (go_at_call 9; with_reducible exact callC' HIN.out HOUT.out HK.out HMR.out w1 hC) | (go_at_call 10; with_reducible exact callC' HIN.out HOUT.out HK.out HKN.out w1 hC) | (exact rfl) | (obtain ⟨hb1, y0, y1⟩ := HOUT.out w1 hC; clear hC; go_simp; first | done | exact rfl)); done)); clear hK K))
    refine wpQuiet_nil ?_
    intro wn hC
    have HO := hide3 (HOUT.out _ hC)
    clear hC HIN HOUT C
    obtain ⟨hb1, y0, y1⟩ := HO.out
    go_wp2
    go_ret
    exact ⟨rfl, HO.out.1⟩
  · have HPB := hide3 (HPA.out hm)
    have HSB := hide3 (HSA.out hm)
    rw [hm] at HP HR HMP HMR
    simp only [if_true] at HP HR
    clear HPA HSA hm
    generalize textG G = tx at *
    generalize G.length = n at *
    go_enter Tryd.func3, Tryd.ntmps3
    go_wp2_with (first
      | (go_at_call 6; refine (HP.out _ HO0.out.1).mono ?_; rintro e w1 ⟨rfl, ok⟩; have HO1 := hide3 (HK.out _ _ HO0.out ok); obtain ⟨_, y0, y1⟩ := HO1.out; clear ok HO0)
      | (go_at_call 7; refine (HR.out _ HO1.out.1).mono ?_; rintro e w2 ⟨rfl, ok⟩; have HO := hide3 (HK.out _ _ HO1.out ok); clear ok HO1 y0 y1)
      | fail)
    refine wp_region_keep HK.out (by kernel_rfl) (by kernel_rfl) (by first | exact HO.out | exact HK.out.drew HO.out) ?_
    intro C hin hout
    have HIN := hide3 hin
    have HOUT := hide3 hout
    clear hin hout HO
    repeat
      (with_reducible refine wpQuiet_step (fun K hK => ?_)
       go_simp
       first
         | (refine hK _ ?_; clear hK K)
         | (apply Exists.intro; refine ⟨fun w1 hC => ?_, hK _ ?_⟩; (focus ((first | (go_at_call 8; with_reducible exact callC' HIN.out HOUT.out HK.out HMP.out w1 hC) | (go_at_call 9; with_reducible exact callC' HIN.out HOUT.out HK.out HMR.out w1 hC) | (go_at_call 10; with_reducible exact callC' HIN.out HOUT.out HK.out HKN.out w1 hC) | (exact rfl) | (obtain ⟨hb1, y0, y1⟩ := HOUT.out w1 hC; clear hC; go_simp; first | done | exact rfl)); done)); clear hK K))
    refine wpQuiet_nil ?_
    intro wn hC
    have HO := hide3 (HOUT.out _ hC)
    clear hC HIN HOUT C
    obtain ⟨hb1, y0, y1⟩ := HO.out
    go_wp2_with (first
      | (go_at_call 11; refine (HPB.out _ HO.out.1).mono ?_; rintro e w3 ⟨a3, n3, c3, rfl, ok, hn⟩; have HO3 := hide3 (HK.out _ _ (HK.out _ _ HO.out ok) (boxB w3 (.cells #[.slice a3 n3 c3] 24))); have HN3 := hide3 (hn.below (boxB w3 (.cells #[.slice a3 n3 c3] 24))); clear y0 y1 hb1; obtain ⟨_, y0, y1⟩ := HO3.out; clear ok hn)
      | (go_at_call 12; refine (HSB.out _ _ HO3.out.1 HN3.out).mono ?_; rintro e w4 ⟨rfl, ok⟩; have HO4 := hide3 (below_then HO3.out.1 ok); clear ok))
    go_ret
    exact ⟨rfl, HO4.out⟩
end Go.Proofs.YtikplmckjcceaaaDoor
namespace Go.Proofs.YtikplmckjcceaaaDoor
open Go.ChangeShapes Go.WideShapes Go.ChangeAt Go.RowKit
set_option maxRecDepth 100000

theorem lockMay_lifted (os : Os) (started : os.Started) (H : Type) (enc : TypeId × Value → H) :
    ReturnsInHanded {} Tryd.checked os 3 .any (fun w args => (Rows.lockMaySpec.pre enc Tryd.prog Tryd.f3 [] false w args ∧ laidMetH Tryd.prog Rows.lockMayRow.laid w) ∧ sizedMet enc Tryd.prog Tryd.f3 (OpenSpec.ofChange Rows.lockMaySpec) false w args)
      (Rows.lockMaySpec.post enc Tryd.prog Tryd.f3 false true false false) := by
  refine wrap_laid (C := Tryd.checked) (l := Rows.lockMayRow.laid) own started (by kernel_rfl) Tryd.func3
    (ChangeSpec.witness_shaped (enc := enc) (C := Tryd.checked) (os := os) (X := fun w _ => laidMetH Tryd.prog Rows.lockMayRow.laid w) false (World.laidAll Tryd.prog os Rows.lockMayRow.laid) #[.agg #[.slice none 0 0]] 8 (World.laidAll_os _ _ _)
      (World.shaped_of_ZipB (by kernel_rfl) (by kernel_rfl)) (by kernel_rfl) (by kernel_rfl) (by kernel_rfl)
      (by rw [MakeChecks.laidMetH_plain _ _ _ (by kernel_rfl)]; exact laidMet_laidAll _ (by kernel_rfl) (by kernel_rfl))) ?_
  intro W base args ds gs before hval0 hW _ hsh hlaid
  have hval : ∀ (j : Nat) t v, Tryd.f3.params[j]? = some t → args[j]? = some v → Value.okWide Tryd.prog W .any base t v := hval0
  have hW' := hW
  obtain ⟨p, q, hA0, hV, rfl, _, _⟩ := hW
  have hA : DataW.TrodAll enc Tryd.prog W 0 (fun _ => true) true Tryd.f3.params.toList args.toList ds p := hA0
  rw [Tryd.params3] at hA hval
  rw [MakeChecks.laidMetH_plain _ _ _ (by kernel_rfl)] at hlaid
  obtain ⟨v0, vs0, d0, ds0, p0, q0, hargs, rfl, rfl, h0, r0⟩ := trodAll_cons hA
  obtain ⟨rfl, rfl, rfl⟩ := trodAll_nil r0
  obtain rfl : args = #[v0] := by cases args; simp_all
  obtain ⟨rfl, rfl⟩ := trodVars_none hV
  have k0 := h0
  have lt0 : ∀ x ∈ p0, x.block < W.heap.size := by obtain ⟨m, hm⟩ := k0; exact DataW.trod_lt m _ _ _ hm
  obtain ⟨G0, x0, rfl, hp0, hz0, hn0⟩ := open_graph (hval 0 24 v0 rfl rfl) h0
  clear hA0 hval0
  refine (lockMay_walk hp0 hn0 (env_of hsh hlaid)).mono fun e W' ⟨he, bel⟩ => ?_
  subst he
  exact ⟨_, rfl, _, _, _, [], _, [], hW', trodAll_mk1 (shut_bool Tryd.underlying4 _), (trodAll_cons_mk (Below.trod laidOut (by kernel_rfl) (of_decide_eq_true (by kernel_rfl)) k0 bel lt0) trodAll_mk0), rfl, bel.frame _, fun h => by cases h⟩

theorem lockMay_said : Rows.LockMaySaid :=
  OpenClaim.holds_of_wide 3 Tryd.f3 rfl rfl rfl rfl rfl rfl rfl ⟨rfl, rfl, rfl, rfl, rfl⟩ rfl rfl rfl rfl rfl (by kernel_rfl) Tryd.func3 (by kernel_rfl)
    (of_decide_eq_true (by kernel_rfl)) (by unfold Func.isWrapper; first | (rw [if_pos (by decide +kernel)]; kernel_rfl) | (rw [if_neg (by decide +kernel)]; exact ⟨rfl, rfl⟩))
    (fun os started H enc _ => lockMay_lifted os started H enc)

theorem lockMay_holds : Rows.LockMayCardSaid :=
  Claim7.holds_tied_plain_at .later [] _ _ _ _ lockMay_said (fun _ h => by cases h) (by kernel_rfl) (fun _ h => by cases h) lockMay_row_tie rfl ⟨rfl, rfl⟩ (by kernel_rfl) rfl
    (fun f fn hf hfn => by
      obtain rfl : f = 3 := Option.some.inj ((show Tryd.prog.funcNamed Rows.lockMayRow.func = some 3 by kernel_rfl).symm.trans hf) |>.symm
      obtain rfl : fn = Tryd.f3 := (Option.some.inj (Tryd.func3.symm.trans hfn)).symm
      exact ⟨by kernel_rfl, fun j t ht => by
        rw [Tryd.params3] at ht
        have hm : t ∈ [24] := by simpa using Array.mem_of_getElem? ht
        have hall : ([24].all fun u => !Tryd.prog.wantsStandIn u) = true := by kernel_rfl
        exact (show Tryd.prog.wantsStandIn t = false by simpa using List.all_eq_true.1 hall t hm)⟩)
    (by kernel_rfl)
#print axioms lockMay_holds
end Go.Proofs.YtikplmckjcceaaaDoor
