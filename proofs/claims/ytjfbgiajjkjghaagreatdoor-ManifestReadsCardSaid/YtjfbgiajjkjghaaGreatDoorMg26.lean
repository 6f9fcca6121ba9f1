/- ManifestReads: of any arguments it answers true, and each argument reads as it read before (the tied card). Conditions: none but the row's own. -/
import Derived.Test.YtjfbgiajjkjghaaGreatDoorMg25
namespace Go.Proofs.YtjfbgiajjkjghaaGreatDoor
open Go.RowKit
set_option maxRecDepth 100000

/-- The manifest that is told: the zero one beside an error. -/
noncomputable def toldM (t : ByteArray) : Mn := if parME t = 0 then parMP t else ⟨[], [], [], []⟩
/-- A manifest and an error's number. -/
def TQM (w : World) (er : Int) (Q : Mn) (e : Ending) (w' : World) : Prop := ∃ p1 pc1 p2 pc2 p3 pc3 p4 pc4, e = .returned (.tuple #[.agg #[.slice p1 Q.d.length pc1, .slice p2 Q.v.length pc2, .slice p3 Q.o.length pc3, .slice p4 Q.p.length pc4], .int .i64 er]) ∧ Below w.heap.size w w' ∧ MnAt w' Q (.slice p1 Q.d.length pc1) (.slice p2 Q.v.length pc2) (.slice p3 Q.o.length pc3) (.slice p4 Q.p.length pc4)
theorem deps_nil (w : World) : DepsAt w (.slice none 0 0) [] := ⟨none, 0, rfl, Nat.le_refl _, Or.inl rfl⟩
theorem told_of {w w' : World} {t : ByteArray} {e : Ending} (h : MkQ w (parME t) (parMP t) e w') : TQM w (parME t) (toldM t) e w' := by
  unfold toldM
  by_cases h0 : parME t = 0
  · rw [if_pos h0]
    obtain ⟨a1, k1, c1, a2, k2, c2, a3, k3, c3, a4, k4, c4, h1, h2, h3, _⟩ := h.sl
    obtain ⟨ho, e1, e2, e3, e4⟩ := h3 h0
    subst e1 e2 e3 e4
    exact ⟨a1, c1, a2, c2, a3, c3, a4, c4, h1, h2, ho.at⟩
  · rw [if_neg h0]
    obtain ⟨v1, v2, v3, v4, h1, h2, _, h4⟩ := h
    obtain ⟨rfl, rfl, rfl, rfl⟩ := h4 h0
    exact ⟨none, 0, none, 0, none, 0, none, 0, h1, h2, deps_nil _, deps_nil _, deps_nil _, deps_nil _⟩
theorem told_len (t : ByteArray) : (toldM t).d.length ≤ 16 ∧ (toldM t).v.length ≤ 16 ∧ (toldM t).o.length ≤ 16 ∧ (toldM t).p.length ≤ 16 := by
  unfold toldM
  by_cases h0 : parME t = 0
  · rw [if_pos h0]
    have hs := parM_written h0
    unfold writtenMB soundM at hs
    simp only [Bool.and_eq_true] at hs
    exact ⟨(short_may hs.1.1.1).1, (short_may hs.1.1.2.1).1, (short_may hs.1.1.2.2.1).1, (short_may hs.1.1.2.2.2).1⟩
  · rw [if_neg h0]
    exact ⟨Nat.zero_le _, Nat.zero_le _, Nat.zero_le _, Nat.zero_le _⟩
set_option maxHeartbeats 6400000 in
theorem manifestReads_walk (t : ByteArray) {w : World} (h : Env w ∧ FL w) : Calls Tryz.prog 5 #[.string t] w fun e w' => e = .returned (.bool true) ∧ Below w.heap.size w w' := by
  obtain ⟨he, hf⟩ := h
  have HP1 : Hid (∀ w1, Below w.heap.size w w1 → Calls Tryz.prog 15 #[.string t] w1 (TQM w1 (parME t) (toldM t))) := fun w1 hb => (Parse_mf t (he.below hb) (hf.below hb)).mono fun e w' hq => told_of hq
  have HP2 : Hid (∀ w1, Calls Tryz.prog 16 #[.string t] w1 (TQM w1 (parME t) (toldM t))) := fun w1 => (rParseM_any t w1).mono fun e w' hq => told_of hq
  have HKN : Hid (∀ w1, Below w.heap.size w w1 → Calls Tryz.prog 12 #[] w1 fun e w' => e = .returned (.bool true) ∧ Below w1.heap.size w1 w') := fun w1 hb => known_mf (he.below hb) (hf.below hb)
  have HSA : Hid (∀ w1 p1 pc1 p2 pc2 p3 pc3 p4 pc4 q1 qc1 q2 qc2 q3 qc3 q4 qc4, MnAt w1 (toldM t) (.slice p1 (toldM t).d.length pc1) (.slice p2 (toldM t).v.length pc2) (.slice p3 (toldM t).o.length pc3) (.slice p4 (toldM t).p.length pc4) → MnAt w1 (toldM t) (.slice q1 (toldM t).d.length qc1) (.slice q2 (toldM t).v.length qc2) (.slice q3 (toldM t).o.length qc3) (.slice q4 (toldM t).p.length qc4) → Calls Tryz.prog 11 #[.agg #[.slice p1 (toldM t).d.length pc1, .slice p2 (toldM t).v.length pc2, .slice p3 (toldM t).o.length pc3, .slice p4 (toldM t).p.length pc4], .agg #[.slice q1 (toldM t).d.length qc1, .slice q2 (toldM t).v.length qc2, .slice q3 (toldM t).o.length qc3, .slice q4 (toldM t).p.length qc4]] w1 fun e w' => e = .returned (.bool true) ∧ Below w1.heap.size w1 w') := fun w1 p1 pc1 p2 pc2 p3 pc3 p4 pc4 q1 qc1 q2 qc2 q3 qc3 q4 qc4 hp hq => by
    have := rSameM_any hp hq ⟨by have := told_len t; omega, by have := told_len t; omega, by have := told_len t; omega, by have := told_len t; omega⟩
    rw [eqB_yes rfl] at this
    exact this
  clear he hf
  generalize parME t = er at *
  generalize toldM t = Q at *
  have HTQ : Hid (∀ w1 e w', TQM w1 er Q e w' → ∃ p1 pc1 p2 pc2 p3 pc3 p4 pc4, e = .returned (.tuple #[.agg #[.slice p1 Q.d.length pc1, .slice p2 Q.v.length pc2, .slice p3 Q.o.length pc3, .slice p4 Q.p.length pc4], .int .i64 er]) ∧ Below w1.heap.size w1 w' ∧ MnAt w' Q (.slice p1 Q.d.length pc1) (.slice p2 Q.v.length pc2) (.slice p3 Q.o.length pc3) (.slice p4 Q.p.length pc4)) := fun w1 e w' hq => hq
  generalize hTQ : TQM = TT at *
  clear hTQ
  go_enter Tryz.func5, Tryz.ntmps5
  go_wp2_with (first
    | (go_at_call 15; refine (HP1.out _ (Below.refl _ _)).mono ?_; rintro e w1 hq; obtain ⟨p1, pc1, p2, pc2, p3, pc3, p4, pc4, rfl, ok, hp⟩ := HTQ.out _ _ _ hq; have HA2 : Hid (Below w.heap.size w (w1.alloc (.cells #[.slice p1 Q.d.length pc1, .slice p2 Q.v.length pc2, .slice p3 Q.o.length pc3, .slice p4 Q.p.length pc4] 24)) ∧ (BxM (w1.alloc (.cells #[.slice p1 Q.d.length pc1, .slice p2 Q.v.length pc2, .slice p3 Q.o.length pc3, .slice p4 Q.p.length pc4] 24)) w1.heap.size (.slice p1 Q.d.length pc1) (.slice p2 Q.v.length pc2) (.slice p3 Q.o.length pc3) (.slice p4 Q.p.length pc4) ∧ MnAt (w1.alloc (.cells #[.slice p1 Q.d.length pc1, .slice p2 Q.v.length pc2, .slice p3 Q.o.length pc3, .slice p4 Q.p.length pc4] 24)) Q (.slice p1 Q.d.length pc1) (.slice p2 Q.v.length pc2) (.slice p3 Q.o.length pc3) (.slice p4 Q.p.length pc4))) := ⟨below_then ok (boxB _ _), BxM.new rfl _ _ _ _, hp.below (boxB _ _)⟩; clear ok hp hq)
    | (go_at_call 16; refine (HP2.out _).mono ?_; rintro e w3 hq; obtain ⟨q1, qc1, q2, qc2, q3, qc3, q4, qc4, rfl, ok, hp⟩ := HTQ.out _ _ _ hq; have HA4 : Hid (Below w.heap.size w (w3.alloc (.cells #[.slice q1 Q.d.length qc1, .slice q2 Q.v.length qc2, .slice q3 Q.o.length qc3, .slice q4 Q.p.length qc4] 24)) ∧ (BxM (w3.alloc (.cells #[.slice q1 Q.d.length qc1, .slice q2 Q.v.length qc2, .slice q3 Q.o.length qc3, .slice q4 Q.p.length qc4] 24)) w1.heap.size (.slice p1 Q.d.length pc1) (.slice p2 Q.v.length pc2) (.slice p3 Q.o.length pc3) (.slice p4 Q.p.length pc4) ∧ MnAt (w3.alloc (.cells #[.slice q1 Q.d.length qc1, .slice q2 Q.v.length qc2, .slice q3 Q.o.length qc3, .slice q4 Q.p.length qc4] 24)) Q (.slice p1 Q.d.length pc1) (.slice p2 Q.v.length pc2) (.slice p3 Q.o.length pc3) (.slice p4 Q.p.length pc4))) := ⟨below_then (below_then HA2.out.1 ok) (boxB _ _), keepBxM _ _ _ _ _ _ _ (keepBxM _ _ _ _ _ _ _ HA2.out.2.1 ok) (boxB _ _), (HA2.out.2.2.below ok).below (boxB _ _)⟩; have HB4 : Hid (BxM (w3.alloc (.cells #[.slice q1 Q.d.length qc1, .slice q2 Q.v.length qc2, .slice q3 Q.o.length qc3, .slice q4 Q.p.length qc4] 24)) w3.heap.size (.slice q1 Q.d.length qc1) (.slice q2 Q.v.length qc2) (.slice q3 Q.o.length qc3) (.slice q4 Q.p.length qc4) ∧ MnAt (w3.alloc (.cells #[.slice q1 Q.d.length qc1, .slice q2 Q.v.length qc2, .slice q3 Q.o.length qc3, .slice q4 Q.p.length qc4] 24)) Q (.slice q1 Q.d.length qc1) (.slice q2 Q.v.length qc2) (.slice q3 Q.o.length qc3) (.slice q4 Q.p.length qc4)) := ⟨BxM.new rfl _ _ _ _, hp.below (boxB _ _)⟩; obtain ⟨y0, y1, y2, y3, y4⟩ := HA4.out.2.1; obtain ⟨z0, z1, z2, z3, z4⟩ := HB4.out.1; clear ok hp hq)
    | (go_at_call 11; refine (HSA.out _ _ _ _ _ _ _ _ _ _ _ _ _ _ _ _ _ HA4.out.2.2 HB4.out.2).mono ?_; rintro e w5 ⟨rfl, ok⟩; have HA5 := hide3 (below_then HA4.out.1 ok); clear ok)
    | (go_at_call 12; refine (HKN.out _ HA5.out).mono ?_; rintro e w6 ⟨rfl, ok⟩; have HA6 := hide3 (below_then HA5.out ok); clear ok))
  go_ret
  exact ⟨by first | rfl | simp, HA6.out⟩
end Go.Proofs.YtjfbgiajjkjghaaGreatDoor
namespace Go.Proofs.YtjfbgiajjkjghaaGreatDoor
open Go.ChangeShapes Go.WideShapes Go.ChangeAt Go.RowKit
open Go.ChangeMaps (open_string shut_string)
set_option maxRecDepth 100000

theorem manifestReads_lifted (os : Os) (started : os.Started) (H : Type) (enc : TypeId × Value → H) :
    ReturnsInHanded {} Tryz.checked os 5 .any (fun w args => (Rows.manifestReadsSpec.pre enc Tryz.prog Tryz.f5 [] false w args ∧ laidMetH Tryz.prog Rows.manifestReadsRow.laid w) ∧ sizedMet enc Tryz.prog Tryz.f5 (OpenSpec.ofChange Rows.manifestReadsSpec) false w args)
      (Rows.manifestReadsSpec.post enc Tryz.prog Tryz.f5 false true false false) := by
  refine wrap_laid (C := Tryz.checked) (l := Rows.manifestReadsRow.laid) own started (by kernel_rfl) Tryz.func5
    (ChangeSpec.witness_shaped (enc := enc) (C := Tryz.checked) (os := os) (X := fun w _ => laidMetH Tryz.prog Rows.manifestReadsRow.laid w) false (World.laidAll Tryz.prog os Rows.manifestReadsRow.laid) #[.string ByteArray.empty] 8 (World.laidAll_os _ _ _)
      (World.shaped_of_ZipB (by kernel_rfl) (by kernel_rfl)) (by kernel_rfl) (by kernel_rfl) (by kernel_rfl)
      (by rw [MakeChecks.laidMetH_plain _ _ _ (by kernel_rfl)]; exact laidMet_laidAll _ (by kernel_rfl) (by kernel_rfl))) ?_
  intro W base args ds gs before hval0 hW _ hsh hlaid
  have hval : ∀ (j : Nat) t v, Tryz.f5.params[j]? = some t → args[j]? = some v → Value.okWide Tryz.prog W .any base t v := hval0
  have hW' := hW
  obtain ⟨p, q, hA0, hV, rfl, _, _⟩ := hW
  have hA : DataW.TrodAll enc Tryz.prog W 0 (fun _ => true) true Tryz.f5.params.toList args.toList ds p := hA0
  rw [Tryz.params5] at hA hval
  rw [MakeChecks.laidMetH_plain _ _ _ (by kernel_rfl)] at hlaid
  obtain ⟨v0, vs0, d0, ds0, p0, q0, hargs, rfl, rfl, h0, r0⟩ := trodAll_cons hA
  obtain ⟨rfl, rfl, rfl⟩ := trodAll_nil r0
  obtain rfl : args = #[v0] := by cases args; simp_all
  obtain ⟨rfl, rfl⟩ := trodVars_none hV
  obtain ⟨s0, rfl, rfl, rfl, w0⟩ := open_string Tryz.underlying9 (hval 0 9 v0 rfl rfl) h0
  clear hA0 hval0
  refine (manifestReads_walk s0 (env3_of hsh hlaid)).mono fun e W' ⟨he, bel⟩ => ?_
  subst he
  exact ⟨_, rfl, _, _, _, [], _, [], hW', trodAll_mk1 (shut_bool Tryz.underlying4 _), (trodAll_cons_mk (shut_string Tryz.underlying9 w0) trodAll_mk0), rfl, bel.frame _, fun h => by cases h⟩

theorem manifestReads_said : Rows.ManifestReadsSaid :=
  OpenClaim.holds_of_wide 5 Tryz.f5 rfl rfl rfl rfl rfl rfl rfl ⟨rfl, rfl, rfl, rfl, rfl⟩ rfl rfl rfl rfl rfl (by kernel_rfl) Tryz.func5 (by kernel_rfl)
    (of_decide_eq_true (by kernel_rfl)) (by unfold Func.isWrapper; first | (rw [if_pos (by decide +kernel)]; kernel_rfl) | (rw [if_neg (by decide +kernel)]; exact ⟨rfl, rfl⟩))
    (fun os started H enc _ => manifestReads_lifted os started H enc)

theorem manifestReads_holds : Rows.ManifestReadsCardSaid :=
  Claim7.holds_tied_plain_at .later [] _ _ _ _ manifestReads_said (fun _ h => by cases h) (by kernel_rfl) (fun _ h => by cases h) manifestReads_row_tie rfl ⟨rfl, rfl⟩ (by kernel_rfl) rfl
    (fun f fn hf hfn => by
      obtain rfl : f = 5 := Option.some.inj ((show Tryz.prog.funcNamed Rows.manifestReadsRow.func = some 5 by kernel_rfl).symm.trans hf) |>.symm
      obtain rfl : fn = Tryz.f5 := (Option.some.inj (Tryz.func5.symm.trans hfn)).symm
      exact ⟨by kernel_rfl, fun j t ht => by
        rw [Tryz.params5] at ht
        have hm : t ∈ [9] := by simpa using Array.mem_of_getElem? ht
        have hall : ([9].all fun u => !Tryz.prog.wantsStandIn u) = true := by kernel_rfl
        exact (show Tryz.prog.wantsStandIn t = false by simpa using List.all_eq_true.1 hall t hm)⟩)
    (by kernel_rfl)
#print axioms manifestReads_holds
end Go.Proofs.YtjfbgiajjkjghaaGreatDoor
