/- ManifestMay: of any arguments it answers true, and each argument reads as it read before (the tied card). Conditions: none but the row's own. -/
import Derived.Test.YtjfbgiajjkjghaaGreatDoorMg18
namespace Go.Proofs.YtjfbgiajjkjghaaGreatDoor
open Go.RowKit
set_option maxRecDepth 100000

set_option maxHeartbeats 6400000 in
theorem manifestMay_walk {P Q : Mn} {v1 v2 v3 v4 u1 u2 u3 u4 : Value} {w : World} (h : MnAt w P v1 v2 v3 v4) (hq : MnAt w Q u1 u2 u3 u4) (hz : P.d.length ≤ 9223372036854775807 ∧ P.v.length ≤ 9223372036854775807 ∧ P.o.length ≤ 9223372036854775807 ∧ P.p.length ≤ 9223372036854775807) (hn : (∀ d ∈ P.d, d.nm.size ≤ 9223372036854775807) ∧ (∀ d ∈ P.v, d.nm.size ≤ 9223372036854775807) ∧ (∀ d ∈ P.o, d.nm.size ≤ 9223372036854775807) ∧ ∀ d ∈ P.p, d.nm.size ≤ 9223372036854775807) (hE : Env w ∧ FL w) :
    Calls Tryz.prog 3 #[.agg #[v1, v2, v3, v4], .agg #[u1, u2, u3, u4]] w fun e w' => e = .returned (.bool true) ∧ Below w.heap.size w w' := by
  obtain ⟨he, hf⟩ := hE
  obtain ⟨a1, c1, rfl⟩ := h.1.sl
  obtain ⟨a2, c2, rfl⟩ := h.2.1.sl
  obtain ⟨a3, c3, rfl⟩ := h.2.2.1.sl
  obtain ⟨a4, c4, rfl⟩ := h.2.2.2.sl
  obtain ⟨b1, d1, rfl⟩ := hq.1.sl
  obtain ⟨b2, d2, rfl⟩ := hq.2.1.sl
  obtain ⟨b3, d3, rfl⟩ := hq.2.2.1.sl
  obtain ⟨b4, d4, rfl⟩ := hq.2.2.2.sl
  have HO : Hid (Below w.heap.size w ((w.alloc (.cells #[.slice a1 P.d.length c1, .slice a2 P.v.length c2, .slice a3 P.o.length c3, .slice a4 P.p.length c4] 24)).alloc (.cells #[.slice b1 Q.d.length d1, .slice b2 Q.v.length d2, .slice b3 Q.o.length d3, .slice b4 Q.p.length d4] 24)) ∧ BxM ((w.alloc (.cells #[.slice a1 P.d.length c1, .slice a2 P.v.length c2, .slice a3 P.o.length c3, .slice a4 P.p.length c4] 24)).alloc (.cells #[.slice b1 Q.d.length d1, .slice b2 Q.v.length d2, .slice b3 Q.o.length d3, .slice b4 Q.p.length d4] 24)) w.heap.size (.slice a1 P.d.length c1) (.slice a2 P.v.length c2) (.slice a3 P.o.length c3) (.slice a4 P.p.length c4) ∧ BxM ((w.alloc (.cells #[.slice a1 P.d.length c1, .slice a2 P.v.length c2, .slice a3 P.o.length c3, .slice a4 P.p.length c4] 24)).alloc (.cells #[.slice b1 Q.d.length d1, .slice b2 Q.v.length d2, .slice b3 Q.o.length d3, .slice b4 Q.p.length d4] 24)) (w.heap.size + 1) (.slice b1 Q.d.length d1) (.slice b2 Q.v.length d2) (.slice b3 Q.o.length d3) (.slice b4 Q.p.length d4)) := ⟨boxB2 _ _ _, keepBxM _ _ _ _ _ _ _ (BxM.new rfl _ _ _ _) (boxB _ _), BxM.new (by simp) _ _ _ _⟩
  have HK : Hid (KeepP fun w1 => (Below w.heap.size w w1 ∧ BxM w1 w.heap.size (.slice a1 P.d.length c1) (.slice a2 P.v.length c2) (.slice a3 P.o.length c3) (.slice a4 P.p.length c4) ∧ BxM w1 (w.heap.size + 1) (.slice b1 Q.d.length d1) (.slice b2 Q.v.length d2) (.slice b3 Q.o.length d3) (.slice b4 Q.p.length d4))) := (keepBelow w).and ((keepBxM _ _ _ _ _).and (keepBxM _ _ _ _ _))
  have HC1 : Hid (∀ w1, (Below w.heap.size w w1 ∧ BxM w1 w.heap.size (.slice a1 P.d.length c1) (.slice a2 P.v.length c2) (.slice a3 P.o.length c3) (.slice a4 P.p.length c4) ∧ BxM w1 (w.heap.size + 1) (.slice b1 Q.d.length d1) (.slice b2 Q.v.length d2) (.slice b3 Q.o.length d3) (.slice b4 Q.p.length d4)) → Calls Tryz.prog 8 #[.agg #[.slice a1 P.d.length c1, .slice a2 P.v.length c2, .slice a3 P.o.length c3, .slice a4 P.p.length c4]] w1 fun e w' => e = .returned (.bool (writtenMB P)) ∧ Below w1.heap.size w1 w') := fun w1 k => mMay_any (h.below k.1) (he.below k.1) (hf.below k.1)
  have HC2 : Hid (∀ w1, (Below w.heap.size w w1 ∧ BxM w1 w.heap.size (.slice a1 P.d.length c1) (.slice a2 P.v.length c2) (.slice a3 P.o.length c3) (.slice a4 P.p.length c4) ∧ BxM w1 (w.heap.size + 1) (.slice b1 Q.d.length d1) (.slice b2 Q.v.length d2) (.slice b3 Q.o.length d3) (.slice b4 Q.p.length d4)) → Calls Tryz.prog 9 #[.agg #[.slice a1 P.d.length c1, .slice a2 P.v.length c2, .slice a3 P.o.length c3, .slice a4 P.p.length c4]] w1 fun e w' => e = .returned (.bool (writtenMB P)) ∧ Below w1.heap.size w1 w') := fun w1 k => rMayM_any (h.below k.1) hz hn
  have HC3 : Hid (∀ w1, (Below w.heap.size w w1 ∧ BxM w1 w.heap.size (.slice a1 P.d.length c1) (.slice a2 P.v.length c2) (.slice a3 P.o.length c3) (.slice a4 P.p.length c4) ∧ BxM w1 (w.heap.size + 1) (.slice b1 Q.d.length d1) (.slice b2 Q.v.length d2) (.slice b3 Q.o.length d3) (.slice b4 Q.p.length d4)) → Calls Tryz.prog 10 #[.agg #[.slice a1 P.d.length c1, .slice a2 P.v.length c2, .slice a3 P.o.length c3, .slice a4 P.p.length c4], .agg #[.slice b1 Q.d.length d1, .slice b2 Q.v.length d2, .slice b3 Q.o.length d3, .slice b4 Q.p.length d4]] w1 fun e w' => e = .returned (.bool (eqB P Q)) ∧ Below w1.heap.size w1 w') := fun w1 k => mSame_any (h.below k.1) (hq.below k.1) hz
  have HC4 : Hid (∀ w1, (Below w.heap.size w w1 ∧ BxM w1 w.heap.size (.slice a1 P.d.length c1) (.slice a2 P.v.length c2) (.slice a3 P.o.length c3) (.slice a4 P.p.length c4) ∧ BxM w1 (w.heap.size + 1) (.slice b1 Q.d.length d1) (.slice b2 Q.v.length d2) (.slice b3 Q.o.length d3) (.slice b4 Q.p.length d4)) → Calls Tryz.prog 11 #[.agg #[.slice a1 P.d.length c1, .slice a2 P.v.length c2, .slice a3 P.o.length c3, .slice a4 P.p.length c4], .agg #[.slice b1 Q.d.length d1, .slice b2 Q.v.length d2, .slice b3 Q.o.length d3, .slice b4 Q.p.length d4]] w1 fun e w' => e = .returned (.bool (eqB P Q)) ∧ Below w1.heap.size w1 w') := fun w1 k => rSameM_any (h.below k.1) (hq.below k.1) hz
  have HC5 : Hid (∀ w1, (Below w.heap.size w w1 ∧ BxM w1 w.heap.size (.slice a1 P.d.length c1) (.slice a2 P.v.length c2) (.slice a3 P.o.length c3) (.slice a4 P.p.length c4) ∧ BxM w1 (w.heap.size + 1) (.slice b1 Q.d.length d1) (.slice b2 Q.v.length d2) (.slice b3 Q.o.length d3) (.slice b4 Q.p.length d4)) → Calls Tryz.prog 10 #[.agg #[.slice a1 P.d.length c1, .slice a2 P.v.length c2, .slice a3 P.o.length c3, .slice a4 P.p.length c4], .agg #[.slice a1 P.d.length c1, .slice a2 P.v.length c2, .slice a3 P.o.length c3, .slice a4 P.p.length c4]] w1 fun e w' => e = .returned (.bool true) ∧ Below w1.heap.size w1 w') := fun w1 k => by have := mSame_any (h.below k.1) (h.below k.1) hz; rw [eqB_yes rfl] at this; exact this
  have HC6 : Hid (∀ w1, (Below w.heap.size w w1 ∧ BxM w1 w.heap.size (.slice a1 P.d.length c1) (.slice a2 P.v.length c2) (.slice a3 P.o.length c3) (.slice a4 P.p.length c4) ∧ BxM w1 (w.heap.size + 1) (.slice b1 Q.d.length d1) (.slice b2 Q.v.length d2) (.slice b3 Q.o.length d3) (.slice b4 Q.p.length d4)) → Calls Tryz.prog 12 #[] w1 fun e w' => e = .returned (.bool true) ∧ Below w1.heap.size w1 w') := fun w1 k => known_mf (he.below k.1) (hf.below k.1)
  clear h hq hz hn he hf
  generalize writtenMB P = wb at *
  generalize eqB P Q = eb at *
  have q1 : (wb == wb) = true := by simp
  have q2 : (eb == eb) = true := by simp
  go_enter Tryz.func3, Tryz.ntmps3
  go_wp2_with fail
  refine wp_region_keep HK.out (by kernel_rfl) (by kernel_rfl) (by first | exact HO.out | exact HK.out.drew HO.out) ?_
  intro C hin hout
  have HIN := hide3 hin
  have HOUT := hide3 hout
  clear hin hout HO
  repeat
    (with_reducible refine wpQuiet_step (fun K hK => ?_)
     go_simp
     first
       | (refine hK _ ?_; clear hK K)
       | (apply Exists.intro; refine ⟨fun w1 hC => ?_, hK _ ?_⟩; (focus ((first | (go_at_call 8; with_reducible exact callC' HIN.out HOUT.out HK.out HC1.out w1 hC) | (go_at_call 9; with_reducible exact callC' HIN.out HOUT.out HK.out HC2.out w1 hC) | (go_at_call 10; with_reducible exact callC' HIN.out HOUT.out HK.out HC3.out w1 hC) | (go_at_call 11; with_reducible exact callC' HIN.out HOUT.out HK.out HC4.out w1 hC) | (go_at_call 10; with_reducible exact callC' HIN.out HOUT.out HK.out HC5.out w1 hC) | (go_at_call 12; with_reducible exact callC' HIN.out HOUT.out HK.out HC6.out w1 hC) | (exact rfl) | (obtain ⟨hb1, ⟨p0, p1, p2, p3, p4⟩, ⟨q0, q3, q4, q5, q6⟩⟩ := HOUT.out w1 hC; clear hC; go_simp; first | done | exact rfl)); done)); clear hK K))
  refine wpQuiet_nil ?_
  intro wn hC
  have HO := hide3 (HOUT.out _ hC)
  clear hC HIN HOUT C
  obtain ⟨hb1, ⟨p0, p1, p2, p3, p4⟩, ⟨q0, q3, q4, q5, q6⟩⟩ := HO.out
  go_wp2
  go_ret
  exact ⟨by first | rfl | simp, HO.out.1⟩
end Go.Proofs.YtjfbgiajjkjghaaGreatDoor
namespace Go.Proofs.YtjfbgiajjkjghaaGreatDoor
open Go.ChangeShapes Go.WideShapes Go.ChangeAt Go.RowKit
set_option maxRecDepth 100000

theorem manifestMay_lifted (os : Os) (started : os.Started) (H : Type) (enc : TypeId × Value → H) :
    ReturnsInHanded {} Tryz.checked os 3 .any (fun w args => (Rows.manifestMaySpec.pre enc Tryz.prog Tryz.f3 [] false w args ∧ laidMetH Tryz.prog Rows.manifestMayRow.laid w) ∧ sizedMet enc Tryz.prog Tryz.f3 (OpenSpec.ofChange Rows.manifestMaySpec) false w args)
      (Rows.manifestMaySpec.post enc Tryz.prog Tryz.f3 false true false false) := by
  refine wrap_laid (C := Tryz.checked) (l := Rows.manifestMayRow.laid) own started (by kernel_rfl) Tryz.func3
    (ChangeSpec.witness_shaped (enc := enc) (C := Tryz.checked) (os := os) (X := fun w _ => laidMetH Tryz.prog Rows.manifestMayRow.laid w) false (World.laidAll Tryz.prog os Rows.manifestMayRow.laid) #[.agg #[.slice none 0 0, .slice none 0 0, .slice none 0 0, .slice none 0 0], .agg #[.slice none 0 0, .slice none 0 0, .slice none 0 0, .slice none 0 0]] 8 (World.laidAll_os _ _ _)
      (World.shaped_of_ZipB (by kernel_rfl) (by kernel_rfl)) (by kernel_rfl) (by kernel_rfl) (by kernel_rfl)
      (by rw [MakeChecks.laidMetH_plain _ _ _ (by kernel_rfl)]; exact laidMet_laidAll _ (by kernel_rfl) (by kernel_rfl))) ?_
  intro W base args ds gs before hval0 hW _ hsh hlaid
  have hval : ∀ (j : Nat) t v, Tryz.f3.params[j]? = some t → args[j]? = some v → Value.okWide Tryz.prog W .any base t v := hval0
  have hW' := hW
  obtain ⟨p, q, hA0, hV, rfl, _, _⟩ := hW
  have hA : DataW.TrodAll enc Tryz.prog W 0 (fun _ => true) true Tryz.f3.params.toList args.toList ds p := hA0
  rw [Tryz.params3] at hA hval
  rw [MakeChecks.laidMetH_plain _ _ _ (by kernel_rfl)] at hlaid
  obtain ⟨v0, vs0, d0, ds0, p0, q0, hargs, rfl, rfl, h0, r0⟩ := trodAll_cons hA
  obtain ⟨v1, vs1, d1, ds1, p1, q1, rfl, rfl, rfl, h1, r1⟩ := trodAll_cons r0
  obtain ⟨rfl, rfl, rfl⟩ := trodAll_nil r1
  obtain rfl : args = #[v0, v1] := by cases args; simp_all
  obtain ⟨rfl, rfl⟩ := trodVars_none hV
  have k0 := h0
  have lt0 : ∀ x ∈ p0, x.block < W.heap.size := by obtain ⟨m, hm⟩ := k0; exact DataW.trod_lt m _ _ _ hm
  obtain ⟨P0, x0, y0, z0, u0, rfl, hp0, hz0, hn0⟩ := open_man (hval 0 24 v0 rfl rfl) h0
  have k1 := h1
  have lt1 : ∀ x ∈ p1, x.block < W.heap.size := by obtain ⟨m, hm⟩ := k1; exact DataW.trod_lt m _ _ _ hm
  obtain ⟨P1, x1, y1, z1, u1, rfl, hp1, hz1, hn1⟩ := open_man (hval 1 24 v1 rfl rfl) h1
  clear hA0 hval0
  refine (manifestMay_walk hp0 hp1 hz0 hn0 (env3_of hsh hlaid)).mono fun e W' ⟨he, bel⟩ => ?_
  subst he
  exact ⟨_, rfl, _, _, _, [], _, [], hW', trodAll_mk1 (shut_bool Tryz.underlying4 _), (trodAll_cons_mk (Below.trod laidOut (by kernel_rfl) (of_decide_eq_true (by kernel_rfl)) k0 bel lt0) (trodAll_cons_mk (Below.trod laidOut (by kernel_rfl) (of_decide_eq_true (by kernel_rfl)) k1 bel lt1) trodAll_mk0)), rfl, bel.frame _, fun h => by cases h⟩

theorem manifestMay_said : Rows.ManifestMaySaid :=
  OpenClaim.holds_of_wide 3 Tryz.f3 rfl rfl rfl rfl rfl rfl rfl ⟨rfl, rfl, rfl, rfl, rfl⟩ rfl rfl rfl rfl rfl (by kernel_rfl) Tryz.func3 (by kernel_rfl)
    (of_decide_eq_true (by kernel_rfl)) (by unfold Func.isWrapper; first | (rw [if_pos (by decide +kernel)]; kernel_rfl) | (rw [if_neg (by decide +kernel)]; exact ⟨rfl, rfl⟩))
    (fun os started H enc _ => manifestMay_lifted os started H enc)

theorem manifestMay_holds : Rows.ManifestMayCardSaid :=
  Claim7.holds_tied_plain_at .later [] _ _ _ _ manifestMay_said (fun _ h => by cases h) (by kernel_rfl) (fun _ h => by cases h) manifestMay_row_tie rfl ⟨rfl, rfl⟩ (by kernel_rfl) rfl
    (fun f fn hf hfn => by
      obtain rfl : f = 3 := Option.some.inj ((show Tryz.prog.funcNamed Rows.manifestMayRow.func = some 3 by kernel_rfl).symm.trans hf) |>.symm
      obtain rfl : fn = Tryz.f3 := (Option.some.inj (Tryz.func3.symm.trans hfn)).symm
      exact ⟨by kernel_rfl, fun j t ht => by
        rw [Tryz.params3] at ht
        have hm : t ∈ [24, 24] := by simpa using Array.mem_of_getElem? ht
        have hall : ([24, 24].all fun u => !Tryz.prog.wantsStandIn u) = true := by kernel_rfl
        exact (show Tryz.prog.wantsStandIn t = false by simpa using List.all_eq_true.1 hall t hm)⟩)
    (by kernel_rfl)
#print axioms manifestMay_holds
end Go.Proofs.YtjfbgiajjkjghaaGreatDoor
