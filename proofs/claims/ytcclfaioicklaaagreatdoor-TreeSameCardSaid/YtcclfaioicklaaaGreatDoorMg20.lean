/- Tf3, Kn2, Env1, RowS, RwD, RwP, RwTr, laid in one text. -/
import Derived.Test.YtcclfaioicklaaaGreatDoorMg19
namespace Go.Proofs.YtcclfaioicklaaaGreatDoor
open Go.Shelf Go.RowKit Go.Lib Go.Sort
set_option maxRecDepth 100000

theorem compact_any {w0 w : World} {B : Nat} {v : Value} {ts : List DV} (h : OwnDr w0 w B v ts) (hb0 : Below w0.heap.size w0 w) (hB : w0.heap.size ≤ B) (hA : ts.length ≤ 1000000000000) :
    Calls Tryz.prog 77 #[v, .func (.func 53) #[] #[]] w fun e w' => CptQ w B ts e w' := by
  by_cases h2 : ts.length < 2
  · exact compact_short h hb0 h2
  · exact compact_long h hb0 hB (by omega) hA

set_option maxHeartbeats 1600000 in
theorem sorted_any {L : List Dr} {v : Value} {w : World} (h : DirsAt w v L) (hf : FitK L) (hl : L.length * 144 ≤ 140737488355328) : Calls Tryz.prog 52 #[.agg #[v]] w fun e w' => SrtQ w L e w' := by
  have HCL := hide3 (cloneD_any (h.below (boxB w (.cells #[v] 24))) hf (by omega))
  have HF := hide3 hf
  have HB0 : Hid (Below w.heap.size w (w.alloc (.cells #[v] 24))) := boxB _ _
  obtain ⟨ad, cap, rfl, hsl⟩ := h.sl
  have HKD : Hid (∀ us : List DV, keysD (us.map (·.d)) = us.map fun x => keyD x.d) := fun us => by unfold keysD; rw [List.map_map]; rfl
  clear h hf hsl
  have k0 : (w.alloc (.cells #[.slice ad L.length cap] 24)).cell? ⟨w.heap.size, 0, none⟩ = some (.slice ad L.length cap) := by simp
  generalize hW0 : w.alloc (.cells #[.slice ad L.length cap] 24) = W0 at *
  go_enter Tryz.func52, Tryz.ntmps52
  go_wp2_with (go_at_call 74; refine HCL.out.mono ?_; rintro e w1 ⟨v1, xs, rfl, hxs, ho, hb1⟩; have hxl : xs.length < 4611686018427387904 := (by have q := congrArg List.length hxs; rw [List.length_map] at q; omega); have HXS := hide3 hxs; have HO1 := hide3 ho; have HB1 := hide3 hb1; clear hxs ho hb1)
  refine (sortD_any HO1.out HB1.out (Nat.le_refl _) hxl).mono ?_
  rintro e w2 ⟨rfl, ts, hp, hpw, ho2, hg2⟩
  have HBW : Hid (Below W0.heap.size W0 w2) := HB1.out.grown hg2 HB1.out.size (fun k hk => (World.ownsRow.lt HO1.out.1 k hk).1)
  have HPM : Hid ((ts.map (·.d)).Perm L) := by
    have q := hp.map (·.d)
    rw [HXS.out] at q
    exact q
  have htl : ts.length ≤ 1000000000000 := by
    have q := HPM.out.length_eq
    rw [List.length_map] at q
    omega
  have HCO := hide3 (compact_any ho2 HBW.out (Nat.le_refl _) htl)
  have HFI : Hid (∀ v' w3, DirsAt w3 v' ((cm ts).map (·.d)) → Below W0.heap.size w2 w3 → SrtQ w L (.returned v') w3) := fun v' w3 hd hb => by
    refine ⟨v', (cm ts).map (·.d), rfl, hd, fun k => ?_, ?_, fun d hdm => ?_, ?_, below_then HB0.out (HBW.out.trans hb)⟩
    · rw [HKD.out, cm_mem, ← HKD.out]
      unfold keysD
      rw [(HPM.out.map keyD).mem_iff]
    · rw [HKD.out, List.pairwise_map]
      exact cm_strict hpw
    · obtain ⟨x, hx, rfl⟩ := List.mem_map.1 hdm
      exact HF.out _ (HPM.out.mem_iff.1 (List.mem_map.2 ⟨x, (cm_sub ts).subset hx, rfl⟩))
    · rw [List.length_map]
      have q := (cm_sub ts).length_le
      omega
  clear hp hpw ho2 hg2
  go_wp2_with (go_at_call 77; refine HCO.out.mono ?_; rintro e w3 ⟨v3, rfl, hd3, hb3⟩; have HFF := hide3 (HFI.out _ _ hd3 hb3); clear hd3 hb3)
  go_ret
  exact HFF.out

/-- Each directory of the one stands in the other. -/
noncomputable def withV (A B : List Dr) : Bool := @decide (∀ k ∈ keysD A, k ∈ keysD B) (Classical.propDecidable _)
noncomputable def hasK (q : List ByteArray × Pg) (B : List Dr) (k : Nat) : Bool := @decide (q ∈ keysD (B.take k)) (Classical.propDecidable _)
theorem hasK_iff {q : List ByteArray × Pg} {B : List Dr} {k : Nat} : hasK q B k = true ↔ q ∈ keysD (B.take k) := ⟨fun h => by unfold hasK at h; exact @of_decide_eq_true _ (Classical.propDecidable _) h, fun h => by unfold hasK; exact @decide_eq_true _ (Classical.propDecidable _) h⟩
theorem hasK_next {q : List ByteArray × Pg} {B : List Dr} {k : Nat} (hk : k < B.length) : hasK q B (k + 1) = (hasK q B k || eqB q (keyD B[k])) := by
  rw [Bool.eq_iff_iff, Bool.or_eq_true, hasK_iff, hasK_iff, eqB_iff]
  unfold keysD
  rw [List.take_succ_eq_append_getElem hk, List.map_append, List.mem_append]
  simp
theorem hasK_zero (q : List ByteArray × Pg) (B : List Dr) : hasK q B 0 = false := by
  rw [Bool.eq_false_iff, ne_eq, hasK_iff]
  simp [keysD]
theorem key_and (d e : Dr) : eqB (keyD d) (keyD e) = (eqB d.pa e.pa && eqB d.pk e.pk) := by
  refine eqB_and ?_
  unfold keyD
  rw [Bool.and_eq_true, eqB_iff, eqB_iff, Prod.mk.injEq]
theorem withV_yes {A B : List Dr} (h : ∀ q (hq : q < A.length), keyD A[q] ∈ keysD B) : withV A B = true := by
  unfold withV
  refine @decide_eq_true _ (Classical.propDecidable _) fun k hk => ?_
  unfold keysD at hk
  obtain ⟨d, hd, rfl⟩ := List.mem_map.1 hk
  obtain ⟨i, hi, rfl⟩ := List.getElem_of_mem hd
  exact h i hi
theorem withV_no {A B : List Dr} {i : Nat} (hi : i < A.length) (h : keyD A[i] ∉ keysD B) : withV A B = false := by
  unfold withV
  exact @decide_eq_false _ (Classical.propDecidable _) fun q => h (q _ (List.mem_map.2 ⟨_, List.getElem_mem hi, rfl⟩))
theorem same_with (A B : List Dr) : sameK A B = (withV A B && withV B A) := by
  unfold sameK withV
  by_cases h1 : ∀ k ∈ keysD A, k ∈ keysD B
  · by_cases h2 : ∀ k ∈ keysD B, k ∈ keysD A
    · rw [@decide_eq_true _ (Classical.propDecidable _) h1, @decide_eq_true _ (Classical.propDecidable _) h2]
      exact @decide_eq_true _ (Classical.propDecidable _) fun k => ⟨h1 k, h2 k⟩
    · rw [@decide_eq_true _ (Classical.propDecidable _) h1, @decide_eq_false _ (Classical.propDecidable _) h2]
      exact @decide_eq_false _ (Classical.propDecidable _) fun q => h2 fun k hk => (q k).2 hk
  · rw [@decide_eq_false _ (Classical.propDecidable _) h1]
    exact @decide_eq_false _ (Classical.propDecidable _) fun q => h1 fun k hk => (q k).1 hk
theorem same_comm (A B : List Dr) : sameK B A = sameK A B := by rw [same_with, same_with, Bool.and_comm]
theorem same_self (A : List Dr) : sameK A A = true := by
  unfold sameK
  exact @decide_eq_true _ (Classical.propDecidable _) fun k => Iff.rfl

set_option maxHeartbeats 6400000 in
theorem within_any {A B : List Dr} {va vb : Value} {w : World} (ha : DirsAt w va A) (hb : DirsAt w vb B) (hA : A.length ≤ 1000000000000) (hB : B.length ≤ 1000000000000) (hf : FitK A) :
    Calls Tryz.prog 50 #[.agg #[va], .agg #[vb]] w fun e w' => e = .returned (.bool (withV A B)) ∧ Below w.heap.size w w' := by
  obtain ⟨ad, ca, rfl, hca, hea⟩ := ha.sl
  obtain ⟨bd, cb, rfl, hcb, heb⟩ := hb.sl
  have HDA : Hid (∀ w1, Below w.heap.size w w1 → ∀ i (hi : i < A.length), ∃ g o, ad = some ⟨g, o, none⟩ ∧ ∃ u v1 v2 v3, DrIn w1 g (o + i * 9) A[i] u v1 v2 v3) := fun w1 h1 i hi => by
    obtain ⟨g, o, e, u, v1, v2, v3, hd⟩ := hea i hi
    exact ⟨g, o, e, u, v1, v2, v3, hd.below h1⟩
  have HDB : Hid (∀ w1, Below w.heap.size w w1 → ∀ i (hi : i < B.length), ∃ g o, bd = some ⟨g, o, none⟩ ∧ ∃ u v1 v2 v3, DrIn w1 g (o + i * 9) B[i] u v1 v2 v3) := fun w1 h1 i hi => by
    obtain ⟨g, o, e, u, v1, v2, v3, hd⟩ := heb i hi
    exact ⟨g, o, e, u, v1, v2, v3, hd.below h1⟩
  have HF := hide3 hf
  have HW : Hid (∀ w1, Below ((w.alloc (.cells #[.slice ad A.length ca] 24)).alloc (.cells #[.slice bd B.length cb] 24)).heap.size ((w.alloc (.cells #[.slice ad A.length ca] 24)).alloc (.cells #[.slice bd B.length cb] 24)) w1 → Below w.heap.size w w1 ∧ BxT w1 w.heap.size (.slice ad A.length ca) ∧ BxT w1 (w.heap.size + 1) (.slice bd B.length cb)) := fun w1 h1 => ⟨below_then (boxB2 _ _ _) h1, keepBxT _ _ _ _ (keepBxT _ _ _ _ (BxT.new _ _) (boxB _ _)) h1, keepBxT _ _ _ _ (by have q := BxT.new (w.alloc (.cells #[.slice ad A.length ca] 24)) (.slice bd B.length cb); rw [show (w.alloc (.cells #[.slice ad A.length ca] 24)).heap.size = w.heap.size + 1 by simp] at q; exact q) h1⟩
  clear ha hb hea heb hf hca hcb
  generalize hW0 : (w.alloc (.cells #[.slice ad A.length ca] 24)).alloc (.cells #[.slice bd B.length cb] 24) = W0 at *
  obtain ⟨_, ⟨x0, x1⟩, y0, y1⟩ := HW.out W0 (Below.refl _ _)
  go_enter Tryz.func50, Tryz.ntmps50
  go_wp2_with fail
  clear x0 x1 y0 y1 hW0
  go_loopw [5] (fun vi wr => ∃ i : Nat, i ≤ A.length ∧ vi = .int .i64 i ∧ Below W0.heap.size W0 wr ∧ ∀ q (_ : q < i) (hq : q < A.length), keyD A[q] ∈ keysD B) (fun vi _ => A.length - (intOf vi).toNat)
  case atStart => exact ⟨0, Nat.zero_le _, rfl, Below.refl _ _, fun q hq => by omega⟩
  case round =>
    obtain ⟨i, hil, rfl, hbr, hall⟩ := hrel
    have HALL := hide3 hall
    have HBR := hide3 hbr
    obtain ⟨hbw, ⟨x0, x1⟩, y0, y1⟩ := HW.out wr hbr
    clear hall
    by_cases hlt : i < A.length
    · obtain ⟨wa, rfl⟩ : ∃ x, x = wr := ⟨wr, rfl⟩
      have hii : (i : Int) < A.length := by omega
      have HZ : Hid (hasK (keyD A[i]) B 0 = false) := hasK_zero _ _
      clear hbw hbr
      go_wp2_with fail
      clear x0 x1 y0 y1
      go_loopw [6, 7] (fun vf vk wr => ∃ k : Nat, k ≤ B.length ∧ vk = .int .i64 k ∧ vf = .bool (hasK (keyD A[i]) B k) ∧ Below W0.heap.size W0 wr) (fun _ vk _ => B.length - (intOf vk).toNat)
      case atStart => exact ⟨0, Nat.zero_le _, rfl, by rw [HZ.out], HBR.out⟩
      case round =>
        obtain ⟨k, hkl, rfl, rfl, hbq⟩ := hrel
        have HBQ := hide3 hbq
        obtain ⟨hbw, ⟨x0, x1⟩, y0, y1⟩ := HW.out wr hbq
        by_cases hkt : k < B.length
        · obtain ⟨g, o, rfl, u, v1, v2, v3, hd⟩ := HDA.out wr hbw i hlt
          obtain ⟨g2, o2, rfl, x, y1', y2', y3', hd2⟩ := HDB.out wr hbw k hkt
          have hki : (k : Int) < B.length := by omega
          have hfi := HF.out _ (List.getElem_mem hlt)
          have HPT : Hid (∀ w1, Below wr.heap.size wr w1 → Calls Tryz.prog 15 #[u, x] w1 fun e w' => e = .returned (.bool (eqB A[i].pa B[k].pa)) ∧ Below w1.heap.size w1 w') := fun w1 h1 => rPath_any (hd.2.1.1.below h1) (hd2.2.1.1.below h1) hfi.1
          have HSM : Hid (∀ w1, Below wr.heap.size wr w1 → Calls Tryz.prog 31 #[.agg #[.string A[i].pk.nm, .int .i64 A[i].pk.a, .int .i64 A[i].pk.b, .int .i64 A[i].pk.c, v1, v2, v3], .agg #[.string B[k].pk.nm, .int .i64 B[k].pk.a, .int .i64 B[k].pk.b, .int .i64 B[k].pk.c, y1', y2', y3']] w1 fun e w' => e = .returned (.bool (eqB A[i].pk B[k].pk)) ∧ Below w1.heap.size w1 w') := fun w1 h1 => rSamePk_any (hd.2.1.2.below h1) (hd2.2.1.2.below h1) hfi.2.1 hfi.2.2.1 hfi.2.2.2
          have HNX : Hid (hasK (keyD A[i]) B (k + 1) = (hasK (keyD A[i]) B k || (eqB A[i].pa B[k].pa && eqB A[i].pk B[k].pk))) := by unfold Hid; rw [hasK_next hkt, key_and]
          obtain ⟨ua, uc, rfl⟩ := hd.2.1.1.sl
          obtain ⟨a1, c1, rfl⟩ := hd.2.1.2.1.sl
          obtain ⟨a2, c2, rfl⟩ := hd.2.1.2.2.1.sl
          obtain ⟨a3, c3, rfl⟩ := hd.2.1.2.2.2.sl
          obtain ⟨xa, xc, rfl⟩ := hd2.2.1.1.sl
          obtain ⟨b1, e1, rfl⟩ := hd2.2.1.2.1.sl
          obtain ⟨b2, e2, rfl⟩ := hd2.2.1.2.2.1.sl
          obtain ⟨b3, e3, rfl⟩ := hd2.2.1.2.2.2.sl
          have HK : Hid (KeepP fun w9 => Below wr.heap.size wr w9 ∧ (BxT w9 w.heap.size (.slice (some ⟨g, o, none⟩) A.length ca) ∧ BxT w9 (w.heap.size + 1) (.slice (some ⟨g2, o2, none⟩) B.length cb)) ∧ DrIn w9 g (o + i * 9) A[i] (.slice ua A[i].pa.length uc) (.slice a1 A[i].pk.d.length c1) (.slice a2 A[i].pk.p.length c2) (.slice a3 A[i].pk.o.length c3) ∧ DrIn w9 g2 (o2 + k * 9) B[k] (.slice xa B[k].pa.length xc) (.slice b1 B[k].pk.d.length e1) (.slice b2 B[k].pk.p.length e2) (.slice b3 B[k].pk.o.length e3)) := (keepBelow wr).and (((keepBxT _ _).and (keepBxT _ _)).and ((keepDr _ _ _ _ _ _ _).and (keepDr _ _ _ _ _ _ _)))
          have HO : Hid (Below wr.heap.size wr wr ∧ (BxT wr w.heap.size (.slice (some ⟨g, o, none⟩) A.length ca) ∧ BxT wr (w.heap.size + 1) (.slice (some ⟨g2, o2, none⟩) B.length cb)) ∧ DrIn wr g (o + i * 9) A[i] (.slice ua A[i].pa.length uc) (.slice a1 A[i].pk.d.length c1) (.slice a2 A[i].pk.p.length c2) (.slice a3 A[i].pk.o.length c3) ∧ DrIn wr g2 (o2 + k * 9) B[k] (.slice xa B[k].pa.length xc) (.slice b1 B[k].pk.d.length e1) (.slice b2 B[k].pk.p.length e2) (.slice b3 B[k].pk.o.length e3)) := ⟨Below.refl _ _, ⟨⟨x0, x1⟩, y0, y1⟩, hd, hd2⟩
          clear hd hd2 hbw hbq
          generalize hasK (keyD A[i]) B k = f1 at *
          generalize eqB A[i].pa B[k].pa = r1 at *
          generalize eqB A[i].pk B[k].pk = r2 at *
          go_wp2_with fail
          clear x0 x1 y0 y1
          refine wp_region_keep HK.out (by kernel_rfl) (by kernel_rfl) (by first | exact HO.out | exact HK.out.drew HO.out) ?_
          intro C hin hout
          have HIN := hide3 hin
          have HOUT := hide3 hout
          clear hin hout HO
          repeat
            (with_reducible refine wpQuiet_step (fun K hK => ?_)
             go_simp
             first
               | (refine hK _ ?_; clear hK K)
               | (apply Exists.intro; refine ⟨fun w1 hC => ?_, hK _ ?_⟩; (focus ((first | (go_at_call 15; with_reducible exact callC' HIN.out HOUT.out HK.out (fun w1 hk => HPT.out w1 hk.1) w1 hC) | (exact rfl) | (obtain ⟨hb1, ⟨⟨b0, bb0⟩, d0, dd0⟩, ⟨⟨p0, p1, p2, p3, p4, p5, p6, p7, p8⟩, _, p9⟩, ⟨⟨q0, q1, q2, q3, q4, q5, q6, q7, q8⟩, _, q9⟩⟩ := HOUT.out w1 hC; clear hC; go_simp; first | done | exact rfl)); done)); clear hK K))
          refine wpQuiet_nil ?_
          intro wn hC
          have HO := hide3 (HOUT.out _ hC)
          clear hC HIN HOUT C
          obtain ⟨hb1, ⟨⟨b0, bb0⟩, d0, dd0⟩, ⟨⟨p0, p1, p2, p3, p4, p5, p6, p7, p8⟩, _, p9⟩, ⟨⟨q0, q1, q2, q3, q4, q5, q6, q7, q8⟩, _, q9⟩⟩ := HO.out
          clear hb1 b0 bb0 d0 dd0 p0 p1 p2 p3 p4 p5 p6 p7 p8 p9 q0 q1 q2 q3 q4 q5 q6 q7 q8 q9
          go_wp2_with fail
          refine wp_region_keep HK.out (by kernel_rfl) (by kernel_rfl) (by first | exact HO.out | exact HK.out.drew HO.out) ?_
          intro C hin hout
          have HIN := hide3 hin
          have HOUT := hide3 hout
          clear hin hout HO
          repeat
            (with_reducible refine wpQuiet_step (fun K hK => ?_)
             go_simp
             first
               | (refine hK _ ?_; clear hK K)
               | (apply Exists.intro; refine ⟨fun w1 hC => ?_, hK _ ?_⟩; (focus ((first | (go_at_call 31; with_reducible exact callC' HIN.out HOUT.out HK.out (fun w1 hk => HSM.out w1 hk.1) w1 hC) | (exact rfl) | (obtain ⟨hb1, ⟨⟨b0, bb0⟩, d0, dd0⟩, ⟨⟨p0, p1, p2, p3, p4, p5, p6, p7, p8⟩, _, p9⟩, ⟨⟨q0, q1, q2, q3, q4, q5, q6, q7, q8⟩, _, q9⟩⟩ := HOUT.out w1 hC; clear hC; go_simp; first | done | exact rfl)); done)); clear hK K))
          refine wpQuiet_nil ?_
          intro wm hC
          have HO := hide3 (HOUT.out _ hC)
          clear hC HIN HOUT C
          obtain ⟨hb1, ⟨⟨b0, bb0⟩, d0, dd0⟩, ⟨⟨p0, p1, p2, p3, p4, p5, p6, p7, p8⟩, _, p9⟩, ⟨⟨q0, q1, q2, q3, q4, q5, q6, q7, q8⟩, _, q9⟩⟩ := HO.out
          have HBM := hide3 (below_then HBQ.out hb1)
          clear hb1 b0 bb0 d0 dd0 p0 p1 p2 p3 p4 p5 p6 p7 p8 p9 q0 q1 q2 q3 q4 q5 q6 q7 q8 q9 HK HO HPT HSM
          cases f1
          · cases r1
            · have HE : Hid (hasK (keyD A[i]) B (k + 1) = false) := HNX.out
              go_wp2
              exact ⟨⟨k + 1, by omega, by go_num, by rw [HE.out], HBM.out⟩, by simp [intOf]; omega⟩
            · have HE : Hid (hasK (keyD A[i]) B (k + 1) = r2) := by have q := HNX.out; unfold Hid; rw [q]; simp
              go_wp2
              exact ⟨⟨k + 1, by omega, by go_num, by rw [HE.out], HBM.out⟩, by simp [intOf]; omega⟩
          · have HE : Hid (hasK (keyD A[i]) B (k + 1) = true) := HNX.out
            go_wp2
            exact ⟨⟨k + 1, by omega, by go_num, by rw [HE.out], HBM.out⟩, by simp [intOf]; omega⟩
        · obtain rfl : k = B.length := by omega
          have HHK : Hid (hasK (keyD A[i]) B B.length = true ↔ keyD A[i] ∈ keysD B) := by
            have q := @hasK_iff (keyD A[i]) B B.length
            rw [List.take_length] at q
            exact q
          cases hh : hasK (keyD A[i]) B B.length
          · have HR : Hid (withV A B = false) := withV_no hlt fun q => by rw [HHK.out.2 q] at hh; cases hh
            have HBW := hide3 hbw
            clear hbw hbq hh
            go_wp2
            go_ret
            exact ⟨ret_bool HR.out.symm, HBW.out⟩
          · have HN : Hid (∀ q (_ : q < i + 1) (hq : q < A.length), keyD A[q] ∈ keysD B) := fun q h1 h2 => by
              rcases Nat.lt_or_ge q i with h3 | h3
              · exact HALL.out q h3 h2
              · obtain rfl : q = i := by omega
                exact HHK.out.1 hh
            clear hbw hbq hh
            go_wp2
            exact ⟨⟨i + 1, by omega, by go_num, HBQ.out, HN.out⟩, by simp [intOf]; omega⟩
    · obtain rfl : i = A.length := by omega
      have HR : Hid (withV A B = true) := withV_yes fun q hq => HALL.out q hq hq
      have HBW := hide3 hbw
      clear hbw hbr
      go_wp2
      go_ret
      exact ⟨ret_bool HR.out.symm, HBW.out⟩

set_option maxHeartbeats 1600000 in
theorem rSameT_any {A B : List Dr} {va vb : Value} {w : World} (ha : DirsAt w va A) (hb : DirsAt w vb B) (hA : A.length ≤ 1000000000000) (hB : B.length ≤ 1000000000000) (hf : FitK A) (hg : FitK B) :
    Calls Tryz.prog 24 #[.agg #[va], .agg #[vb]] w fun e w' => e = .returned (.bool (sameK A B)) ∧ Below w.heap.size w w' := by
  have H1 : Hid (∀ w1, Below w.heap.size w w1 → Calls Tryz.prog 50 #[.agg #[va], .agg #[vb]] w1 fun e w' => e = .returned (.bool (withV A B)) ∧ Below w1.heap.size w1 w') := fun w1 h1 => within_any (ha.below h1) (hb.below h1) hA hB hf
  have H2 : Hid (∀ w1, Below w.heap.size w w1 → Calls Tryz.prog 50 #[.agg #[vb], .agg #[va]] w1 fun e w' => e = .returned (.bool (withV B A)) ∧ Below w1.heap.size w1 w') := fun w1 h1 => within_any (hb.below h1) (ha.below h1) hB hA hg
  obtain ⟨ad, ca, rfl, hx1⟩ := ha.sl
  obtain ⟨bd, cb, rfl, hx2⟩ := hb.sl
  have HS := hide3 (same_with A B)
  rw [HS.out]
  clear ha hb hf hg hx1 hx2 HS
  generalize withV A B = r1 at *
  generalize withV B A = r2 at *
  generalize A.length = n at *
  generalize B.length = m at *
  have HK : Hid (∀ w1, Below ((w.alloc (.cells #[.slice ad n ca] 24)).alloc (.cells #[.slice bd m cb] 24)).heap.size ((w.alloc (.cells #[.slice ad n ca] 24)).alloc (.cells #[.slice bd m cb] 24)) w1 → w1.cell? ⟨w.heap.size, 0, none⟩ = some (.slice ad n ca) ∧ w1.cell? ⟨w.heap.size + 1, 0, none⟩ = some (.slice bd m cb)) := fun w1 hb => by
    have q : ∀ (g i : Nat), g < w.heap.size + 2 → w1.cell? ⟨g, i, none⟩ = ((w.alloc (.cells #[.slice ad n ca] 24)).alloc (.cells #[.slice bd m cb] 24)).cell? ⟨g, i, none⟩ := fun g i hg => hb.cell (p := ⟨g, i, none⟩) (by simpa using hg)
    refine ⟨?_, ?_⟩ <;> rw [q _ _ (by omega)] <;> simp
  have t1 : True := trivial
  cases r1
  · go_enter Tryz.func24, Tryz.ntmps24
    go_wp2_with (go_at_call 50; refine (H1.out _ (boxB2 _ _ _)).mono ?_; rintro e w1 ⟨rfl, ok⟩)
    go_ret
    exact ⟨by simp, below_then (boxB2 _ _ _) ok⟩
  · go_enter Tryz.func24, Tryz.ntmps24
    go_wp2_with (first
      | (have _t := HB1; go_at_call 50; refine (H2.out _ HB1.out).mono ?_; rintro e w2 ⟨rfl, ok⟩; have HB2 := hide3 (below_then HB1.out ok); clear ok)
      | (have _t := t1; go_at_call 50; refine (H1.out _ (boxB2 _ _ _)).mono ?_; rintro e w1 ⟨rfl, ok⟩; have HB1 := hide3 (below_then (boxB2 _ _ _) ok); obtain ⟨k0, k1⟩ := HK.out _ ok; clear ok t1))
    go_ret
    exact ⟨by simp, HB2.out⟩

theorem tSame_any {A B : List Dr} {va vb : Value} {w : World} (ha : DirsAt w va A) (hb : DirsAt w vb B) (hA : A.length * 144 ≤ 140737488355328) (hB : B.length * 144 ≤ 140737488355328) (hf : FitK A) (hg : FitK B) :
    Calls Tryz.prog 25 #[.agg #[va], .agg #[vb]] w fun e w' => e = .returned (.bool (sameK A B)) ∧ Below w.heap.size w w' := by
  obtain ⟨ad, ca, e1, _⟩ := ha.sl
  obtain ⟨bd, cb, e2, _⟩ := hb.sl
  exact tSame_of ⟨_, _, _, e1⟩ ⟨_, _, _, e2⟩ (fun W h1 => sorted_any (ha.below h1) hf hA) (fun W h1 => sorted_any (hb.below h1) hg hB)

set_option maxHeartbeats 3200000 in
theorem treeSame_walk {A B : List Dr} {va vb : Value} {w : World} (ha : DirsAt w va A) (hb : DirsAt w vb B) (hA : A.length * 144 ≤ 140737488355328) (hB : B.length * 144 ≤ 140737488355328) (hf : FitK A) (hg : FitK B) (he : Env w) (hfl : FL w) :
    Calls Tryz.prog 6 #[.agg #[va], .agg #[vb]] w fun e w' => e = .returned (.bool true) ∧ Below w.heap.size w w' := by
  have HRS : Hid (∀ w1, Below w.heap.size w w1 → Calls Tryz.prog 24 #[.agg #[va], .agg #[vb]] w1 fun e w' => e = .returned (.bool (sameK A B)) ∧ Below w1.heap.size w1 w') := fun w1 h1 => rSameT_any (ha.below h1) (hb.below h1) (by omega) (by omega) hf hg
  have HS1 : Hid (∀ w1, Below w.heap.size w w1 → Calls Tryz.prog 25 #[.agg #[va], .agg #[vb]] w1 fun e w' => e = .returned (.bool (sameK A B)) ∧ Below w1.heap.size w1 w') := fun w1 h1 => tSame_any (ha.below h1) (hb.below h1) hA hB hf hg
  have HS2 : Hid (∀ w1, Below w.heap.size w w1 → Calls Tryz.prog 25 #[.agg #[vb], .agg #[va]] w1 fun e w' => e = .returned (.bool (sameK A B)) ∧ Below w1.heap.size w1 w') := fun w1 h1 => by
    have q := tSame_any (hb.below h1) (ha.below h1) hB hA hg hf
    rw [same_comm] at q
    exact q
  have HS3 : Hid (∀ w1, Below w.heap.size w w1 → Calls Tryz.prog 25 #[.agg #[va], .agg #[va]] w1 fun e w' => e = .returned (.bool true) ∧ Below w1.heap.size w1 w') := fun w1 h1 => by
    have q := tSame_any (ha.below h1) (ha.below h1) hA hA hf hf
    rw [same_self] at q
    exact q
  have HLV : Hid (∀ w1, Below w.heap.size w w1 → Calls Tryz.prog 11 #[] w1 fun e w' => e = .returned (.bool true) ∧ Below w1.heap.size w1 w') := fun w1 hb => lives12_any (he.below hb) (hfl.below hb)
  obtain ⟨ad, ca, rfl, hx1⟩ := ha.sl
  obtain ⟨bd, cb, rfl, hx2⟩ := hb.sl
  clear ha hb hf hg hx1 hx2 he hfl
  generalize sameK A B = r at *
  generalize A.length = n at *
  generalize B.length = m at *
  have HK : Hid (∀ w1, Below ((w.alloc (.cells #[.slice ad n ca] 24)).alloc (.cells #[.slice bd m cb] 24)).heap.size ((w.alloc (.cells #[.slice ad n ca] 24)).alloc (.cells #[.slice bd m cb] 24)) w1 → w1.cell? ⟨w.heap.size, 0, none⟩ = some (.slice ad n ca) ∧ w1.cell? ⟨w.heap.size + 1, 0, none⟩ = some (.slice bd m cb)) := fun w1 hb => by
    have q : ∀ (g i : Nat), g < w.heap.size + 2 → w1.cell? ⟨g, i, none⟩ = ((w.alloc (.cells #[.slice ad n ca] 24)).alloc (.cells #[.slice bd m cb] 24)).cell? ⟨g, i, none⟩ := fun g i hg => hb.cell (p := ⟨g, i, none⟩) (by simpa using hg)
    refine ⟨?_, ?_⟩ <;> rw [q _ _ (by omega)] <;> simp
  have HB0 : Hid (Below w.heap.size w ((w.alloc (.cells #[.slice ad n ca] 24)).alloc (.cells #[.slice bd m cb] 24))) := boxB2 _ _ _
  go_enter Tryz.func6, Tryz.ntmps6
  go_wp2_with (first
    | (have _t := HC4; go_at_call 11; refine (HLV.out _ (below_then HB0.out HC4.out)).mono ?_; rintro e w5 ⟨rfl, ok⟩; have HC5 := hide3 (below_then HC4.out ok); clear ok)
    | (have _t := HC3; go_at_call 25; refine (HS3.out _ (below_then HB0.out HC3.out)).mono ?_; rintro e w4 ⟨rfl, ok⟩; have HC4 := hide3 (below_then HC3.out ok); clear ok)
    | (have _t := HC2; go_at_call 25; refine (HS2.out _ (below_then HB0.out HC2.out)).mono ?_; rintro e w3 ⟨rfl, ok⟩; have HC3 := hide3 (below_then HC2.out ok); obtain ⟨k6, k7⟩ := HK.out _ HC3.out; clear ok)
    | (have _t := HC1; go_at_call 25; refine (HS1.out _ (below_then HB0.out HC1.out)).mono ?_; rintro e w2 ⟨rfl, ok⟩; have HC2 := hide3 (below_then HC1.out ok); obtain ⟨k4, k5⟩ := HK.out _ HC2.out; clear ok)
    | (go_at_call 24; refine (HRS.out _ HB0.out).mono ?_; rintro e w1 ⟨rfl, ok⟩; have HC1 := hide3 ok; obtain ⟨k2, k3⟩ := HK.out _ ok; clear ok))
  go_ret
  exact ⟨rfl, below_then HB0.out HC5.out⟩
end Go.Proofs.YtcclfaioicklaaaGreatDoor
namespace Go.Proofs.YtcclfaioicklaaaGreatDoor
open Go.RowKit
set_option maxRecDepth 100000

theorem alt_known : altR ⟨#[94, 49, 46, 50, 46, 51]⟩ = some [(1002003, 1999999)] := by decide +kernel
theorem pieces_known : piecesB ⟨#[94, 49, 46, 50, 46, 51]⟩ ⟨#[124, 124]⟩ = [⟨#[94, 49, 46, 50, 46, 51]⟩] := by decide +kernel
theorem pieces_known2 : piecesB ⟨#[94, 49, 46, 50, 46, 51]⟩ ⟨#[32]⟩ = [⟨#[94, 49, 46, 50, 46, 51]⟩] := by decide +kernel
theorem print_known : printR [(1002003, 1999999)] = ⟨#[62, 61, 49, 46, 50, 46, 51, 32, 60, 61, 49, 46, 57, 57, 57, 46, 57, 57, 57]⟩ := by decide +kernel
theorem rg_known : RangeR [(1002003, 1999999)] := ⟨by decide, by decide, by decide, trivial⟩
theorem in_known : inL (([(1002003, 1999999)] : Rg).map spR) 1 9 0 = true := by
  rw [in_rg rg_known (by decide)]
  exact ⟨by decide, Or.inl (by decide)⟩
theorem ascii_of {l : List UInt8} (h : (l.all fun b => decide (b.toNat < 128)) = true) : ∀ (j : Nat) b, l[j]? = some b → b.toNat < 128 := by
  intro j b hj
  have := List.all_eq_true.1 h b (List.mem_of_getElem? hj)
  simpa using this
theorem plain_known : PlainT ⟨#[94, 49, 46, 50, 46, 51]⟩ := by
  unfold PlainT
  rw [pieces_known]
  intro a ha
  rw [List.mem_singleton] at ha
  subst ha
  rw [pieces_known2]
  intro p hp _
  rw [List.mem_singleton] at hp
  subst hp
  exact Or.inr (ascii_of (by decide))

end Go.Proofs.YtcclfaioicklaaaGreatDoor
namespace Go.Proofs.YtcclfaioicklaaaGreatDoor
open Go.ChangeShapes Go.WideShapes Go.ChangeAt Go.RowKit
set_option maxRecDepth 100000

theorem star : "*" ++ "errors.errorString" = "*errors.errorString" := by decide

theorem max_cell {W : World} (h : W.ShapedOpen Tryz.prog) : ∃ m, W.cell? ⟨0, 0, none⟩ = some (.int .i64 m) :=
  cell_of_shapedOpen_int (t := 3) (zero := #[.int .i64 0]) h (by decide +kernel) (by kernel_rfl) rfl (by kernel_rfl) (by kernel_rfl) Tryz.underlying3

end Go.Proofs.YtcclfaioicklaaaGreatDoor
namespace Go.Proofs.YtcclfaioicklaaaGreatDoor
open Go.ChangeShapes Go.WideShapes Go.ChangeAt Go.RowKit
set_option maxRecDepth 100000

theorem cellsSp : Tryz.prog.cellsOf 148 = 6 := by kernel_rfl

theorem ints_of {H : Type} {enc : TypeId × Value → H} {W : World} {base : Nat} {spare : Nat → Bool} {held : Bool} {n : Nat} {cs : List Value} {x : DataW H × List MemPlace} (h : DataW.trod enc Tryz.prog W base spare held n 41 cs = some x) :
    ∃ a b c, cs[0]? = some (.int .i64 a) ∧ cs[1]? = some (.int .i64 b) ∧ cs[2]? = some (.int .i64 c) ∧ x.1 = .agg [.lit (.int .i64 a), .lit (.int .i64 b), .lit (.int .i64 c)] := by
  have hs : Tryz.prog.underlying 41 = some (.struct (Tryz.prog.fieldsOf 41)) := by kernel_rfl
  obtain ⟨xs, n', _, hx, _, hxl, hf⟩ := DataW.trod_struct hs h
  have hfz : (Tryz.prog.fieldsOf 41).size = 3 := by kernel_rfl
  have ints : ∀ i off, ((Tryz.prog.fieldsOf 41)[i]?).map (fun f => (f.type, f.offset)) = some (3, off) → i < 3 → ∃ k, cs[off]? = some (.int .i64 k) ∧ xs[i]? = some (.lit (.int .i64 k), []) := by
    intro i off hfd hi
    obtain ⟨f, h1, h2, h3⟩ := field_at hfd
    have hr := hf i f h1
    rw [h2, h3, cellsInt, List.getElem?_eq_getElem (by omega : i < xs.length)] at hr
    obtain ⟨k, e1, e2, wk⟩ := DataW.trod_int Tryz.underlying3 hr
    exact ⟨k, take_one e1, by rw [List.getElem?_eq_getElem (by omega : i < xs.length), e2]⟩
  obtain ⟨a, a0, x0⟩ := ints 0 0 (by kernel_rfl) (by decide)
  obtain ⟨b, a1, x1⟩ := ints 1 1 (by kernel_rfl) (by decide)
  obtain ⟨c, a2, x2⟩ := ints 2 2 (by kernel_rfl) (by decide)
  refine ⟨a, b, c, a0, a1, a2, ?_⟩
  rw [hx]
  obtain ⟨y0, y1, y2, rfl⟩ := list3 (l := xs) (by omega)
  simp at x0 x1 x2
  subst x0 x1 x2
  rfl

theorem span_read {H : Type} {enc : TypeId × Value → H} {W : World} {base : Nat} {spare : Nat → Bool} {held : Bool} {n : Nat} {g o : Nat} {cs : List Value} {x : DataW H × List MemPlace} (hc : W.cells? base ⟨g, o, none⟩ 6 = some cs) (h : DataW.trod enc Tryz.prog W base spare held n 148 cs = some x) : ∃ s, SpAt W g o s := by
  have hs : Tryz.prog.underlying 148 = some (.struct (Tryz.prog.fieldsOf 148)) := by kernel_rfl
  obtain ⟨xs, n', _, _, _, hxl, hf⟩ := DataW.trod_struct hs h
  have hsz : (Tryz.prog.fieldsOf 148).size = 2 := by kernel_rfl
  obtain ⟨_, _, hq⟩ := World.cells?_some hc
  have vers : ∀ i off, ((Tryz.prog.fieldsOf 148)[i]?).map (fun f => (f.type, f.offset)) = some (41, off) → i < 2 → ∃ a b c, cs[off]? = some (.int .i64 a) ∧ cs[off + 1]? = some (.int .i64 b) ∧ cs[off + 2]? = some (.int .i64 c) := by
    intro i off hfd hi
    obtain ⟨f, h1, h2, h3⟩ := field_at hfd
    have hr := hf i f h1
    rw [h2, h3, cellsVer, List.getElem?_eq_getElem (by omega : i < xs.length)] at hr
    obtain ⟨a, b, c, e0, e1, e2, _⟩ := ints_of hr
    simp at e0 e1 e2
    exact ⟨a, b, c, e0, e1, e2⟩
  obtain ⟨a, b, c, a0, a1, a2⟩ := vers 0 0 (by kernel_rfl) (by decide)
  obtain ⟨x, y, z, a3, a4, a5⟩ := vers 1 3 (by kernel_rfl) (by decide)
  have ad : ∀ i, (⟨g, o, none⟩ : Addr).add i = ⟨g, o + i, none⟩ := fun i => by unfold Addr.add; split <;> simp_all
  have q0 := hq 0 (by decide)
  have q1 := hq 1 (by decide)
  have q2 := hq 2 (by decide)
  have q3 := hq 3 (by decide)
  have q4 := hq 4 (by decide)
  have q5 := hq 5 (by decide)
  rw [ad] at q0 q1 q2 q3 q4 q5
  exact ⟨⟨a, b, c, x, y, z⟩, by rw [← a0, ← q0]; rfl, by rw [← a1, ← q1], by rw [← a2, ← q2], by rw [← a3, ← q3], by rw [← a4, ← q4], by rw [← a5, ← q5]⟩

theorem list_of {P : Nat → Sp → Prop} : ∀ {n : Nat}, (∀ i, i < n → ∃ s, P i s) → ∃ L : List Sp, L.length = n ∧ ∀ i (h : i < L.length), P i L[i]
  | 0, _ => ⟨[], rfl, fun i h => by simp at h⟩
  | n + 1, h => by
    obtain ⟨L, hl, hP⟩ := list_of (n := n) fun i hi => h i (by omega)
    obtain ⟨s, hs⟩ := h n (by omega)
    refine ⟨L ++ [s], by simp [hl], fun i hi => ?_⟩
    by_cases hin : i < L.length
    · rw [List.getElem_append_left hin]; exact hP i hin
    · have : i = n := by simp at hi; omega
      subst this
      simpa [hl] using hs

/-- A list of spans that came in. -/
theorem open_spans {H : Type} {enc : TypeId × Value → H} {W : World} {base fuel : Nat} {held : Bool} {a : Option Addr} {len cap : Nat} {x : DataW H × List MemPlace} (h : DataW.trod enc Tryz.prog W base (fun _ => true) held fuel 111 [.slice a len cap] = some x) :
    ∃ L : List Sp, SpansC W (.slice a len cap) L := by
  rcases Go.Deep.open_slice Tryz.underlying111 h with ⟨hcs, _⟩ | ⟨ad, l, c, m, n, D, Pl, hcs, _, hl, _, hm, hx, hel⟩
  · simp only [List.cons.injEq, Value.slice.injEq, and_true] at hcs
    obtain ⟨rfl, rfl, rfl⟩ := hcs
    exact ⟨[], ⟨_, _, rfl, Or.inl rfl⟩, _, _, _, rfl, Nat.le_refl _⟩
  · simp only [List.cons.injEq, Value.slice.injEq, and_true] at hcs
    obtain ⟨rfl, rfl, rfl⟩ := hcs
    rcases Nat.eq_zero_or_pos len with h0 | h0
    · subst h0
      exact ⟨[], ⟨_, _, rfl, Or.inl rfl⟩, _, _, _, rfl, hl⟩
    · have hmm : len ≤ m := by rw [hm]; simp; exact hl
      rw [cellsSp] at hel
      obtain ⟨g, off, spot⟩ := ad
      obtain ⟨cs0, hc0, _⟩ := hel 0 (by omega)
      obtain ⟨_, hln, hq⟩ := World.cells?_some hc0
      have hcell := hq 0 (by decide)
      rw [List.getElem?_eq_getElem (by omega : 0 < cs0.length)] at hcell
      have hspot : spot = none := by simpa [Addr.add] using World.cell?_spot hcell
      subst hspot
      have ad2 : ∀ o i, (⟨g, o, none⟩ : Addr).add i = ⟨g, o + i, none⟩ := fun o i => by unfold Addr.add; split <;> simp_all
      obtain ⟨L, hL, hP⟩ := list_of (P := fun i s => SpAt W g (off + i * 6) s) (n := len) fun i hi => by
        obtain ⟨cs, hc, ht⟩ := hel i (by omega)
        rw [ad2] at hc
        exact span_read hc ht
      subst hL
      refine ⟨L, ⟨_, _, rfl, Or.inr ⟨g, off, rfl, ?_, hP⟩⟩, _, _, _, rfl, hl⟩
      have := cell_in hcell
      rw [ad2, ad2] at this; exact this

/-- A variable of three ints that is listed first. -/
theorem ver_laid {W : World} {nm : String} {a b c : Int} {r : List (String × DataW Unit)} {g : Nat} (hg : Tryz.prog.globalNamed nm = some g) (hty : (Tryz.prog.globals[g]?).map (·.type) = some 41)
    (h : laidMet Tryz.prog ((nm, .agg [.lit (.int .i64 a), .lit (.int .i64 b), .lit (.int .i64 c)]) :: r) W) :
    W.cell? ⟨g, 0, none⟩ = some (.int .i64 a) ∧ W.cell? ⟨g, 1, none⟩ = some (.int .i64 b) ∧ W.cell? ⟨g, 2, none⟩ = some (.int .i64 c) := by
  obtain ⟨ps, ⟨g', t', cs, fuel, p, q, hg', ht', hvar, hd, _, _⟩, _⟩ := h
  obtain rfl := Option.some.inj (hg.symm.trans hg')
  obtain rfl := Option.some.inj (hty.symm.trans ht')
  obtain ⟨x, y, z, e0, e1, e2, hx⟩ := ints_of hd
  simp at hx
  obtain ⟨rfl, rfl, rfl⟩ := hx
  have c0 := World.var?_cell hg hvar 0
  have c1 := World.var?_cell hg hvar 1
  have c2 := World.var?_cell hg hvar 2
  exact ⟨by rw [c0]; simpa using e0, by rw [c1]; simpa using e1, by rw [c2]; simpa using e2⟩

/-- What the rows of a layer without a parser list. -/
abbrev laid3 : List (String × DataW Unit) := [("math/bits.deBruijn32tab", Rows.laid_math_bits_deBruijn32tab), ("math/bits.deBruijn64tab", Rows.laid_math_bits_deBruijn64tab), ("internal/strconv.uint64pow10", Rows.laid_internal_strconv_uint64pow10), ("halyard/span.first", Rows.laid_halyard_span_first), ("halyard/span.last", Rows.laid_halyard_span_last)]
theorem env3_of {W : World} (h : laidMet Tryz.prog laid3 W) : Env W ∧ FL W := by
  have hT := tab_is h
  have h5 := laidMet.tail (laidMet.tail (laidMet.tail h))
  have h6 := laidMet.tail h5
  have f1 := ver_laid (g := 1) (by kernel_rfl) (by kernel_rfl) h5
  have f2 := ver_laid (g := 2) (by kernel_rfl) (by kernel_rfl) h6
  exact ⟨{ tab := hT }, f1, f2, cell_in f1.1, cell_in f2.1⟩

end Go.Proofs.YtcclfaioicklaaaGreatDoor
namespace Go.Proofs.YtcclfaioicklaaaGreatDoor
open Go.ChangeShapes Go.WideShapes Go.ChangeAt Go.RowKit
set_option maxRecDepth 100000

theorem cellsStrD : Tryz.prog.cellsOf 9 = 1 := by kernel_rfl
theorem cellsSps : Tryz.prog.cellsOf 111 = 1 := by kernel_rfl
theorem cellsDep : Tryz.prog.cellsOf 113 = 2 := by kernel_rfl
theorem cellsDeps : Tryz.prog.cellsOf 42 = 1 := by kernel_rfl
theorem list_any {α : Type} {P : Nat → α → Prop} : ∀ {n : Nat}, (∀ i, i < n → ∃ s, P i s) → ∃ L : List α, L.length = n ∧ ∀ i (h : i < L.length), P i L[i]
  | 0, _ => ⟨[], rfl, fun i h => by simp at h⟩
  | n + 1, h => by
    obtain ⟨L, hl, hP⟩ := list_any (n := n) fun i hi => h i (by omega)
    obtain ⟨s, hs⟩ := h n (by omega)
    refine ⟨L ++ [s], by simp [hl], fun i hi => ?_⟩
    by_cases hin : i < L.length
    · rw [List.getElem_append_left hin]; exact hP i hin
    · have : i = n := by simp at hi; omega
      subst this
      simpa [hl] using hs
theorem take1 {cs : List Value} {o : Nat} {v : Value} (h : (cs.drop o).take 1 = [v]) : cs[o]? = some v := by
  have h0 : ((cs.drop o).take 1)[0]? = some v := by rw [h]; rfl
  simpa using h0

theorem spans_cs {H : Type} {enc : TypeId × Value → H} {W : World} {base fuel : Nat} {held : Bool} {cs : List Value} {x : DataW H × List MemPlace} (h : DataW.trod enc Tryz.prog W base (fun _ => true) held fuel 111 cs = some x) :
    ∃ v L, cs = [v] ∧ SpansC W v L ∧ L.length ≤ 9223372036854775807 := by
  rcases Go.Deep.open_slice Tryz.underlying111 h with ⟨rfl, _⟩ | ⟨ad, l, c, m, n, D, Pl, rfl, _, hl, hm, _⟩
  · obtain ⟨L, hL⟩ := open_spans h
    obtain ⟨a', c', e, _⟩ := hL.1
    cases L with
    | nil => exact ⟨_, [], rfl, hL, by simp⟩
    | cons s L => simp at e
  · obtain ⟨L, hL⟩ := open_spans h
    refine ⟨_, L, rfl, hL, ?_⟩
    obtain ⟨a', c', e, _⟩ := hL.1
    simp only [Value.slice.injEq] at e
    obtain ⟨_, rfl, _⟩ := e
    unfold maxLen at hm
    omega
theorem dep_read {H : Type} {enc : TypeId × Value → H} {W : World} {base : Nat} {held : Bool} {n : Nat} {g o : Nat} {cs : List Value} {x : DataW H × List MemPlace} (hc : W.cells? base ⟨g, o, none⟩ 2 = some cs) (h : DataW.trod enc Tryz.prog W base (fun _ => true) held n 113 cs = some x) : ∃ d : Dp, (∃ u, DpIn W g o d u) ∧ d.nm.size ≤ 9223372036854775807 := by
  have hs : Tryz.prog.underlying 113 = some (.struct (Tryz.prog.fieldsOf 113)) := by kernel_rfl
  obtain ⟨xs, n', _, _, _, hxl, hf⟩ := DataW.trod_struct hs h
  have hsz : (Tryz.prog.fieldsOf 113).size = 2 := by kernel_rfl
  obtain ⟨_, hcl, hq⟩ := World.cells?_some hc
  obtain ⟨f0, i0, t0, o0⟩ := field_at (fs := Tryz.prog.fieldsOf 113) (i := 0) (ty := 9) (off := 0) (by kernel_rfl)
  obtain ⟨f1, i1, t1, o1⟩ := field_at (fs := Tryz.prog.fieldsOf 113) (i := 1) (ty := 111) (off := 1) (by kernel_rfl)
  have r0 := hf 0 f0 i0
  have r1 := hf 1 f1 i1
  rw [t0, o0, cellsStrD, List.getElem?_eq_getElem (by omega : 0 < xs.length)] at r0
  rw [t1, o1, cellsSps, List.getElem?_eq_getElem (by omega : 1 < xs.length)] at r1
  obtain ⟨s, e0, _, hs0⟩ := DataW.trod_string Tryz.underlying9 r0
  obtain ⟨v, L, e1, hL, hz⟩ := spans_cs r1
  have q0 := hq 0 (by decide)
  have q1 := hq 1 (by decide)
  have ad : ∀ i, (⟨g, o, none⟩ : Addr).add i = ⟨g, o + i, none⟩ := fun i => by unfold Addr.add; split <;> simp_all
  rw [ad, take1 e0] at q0
  rw [ad, take1 e1] at q1
  exact ⟨⟨s, L⟩, ⟨v, q0, q1, ⟨hL, hz⟩, cell_in q1⟩, by unfold maxLen at hs0; exact hs0⟩
/-- A list of dependencies that came in. -/
theorem deps_cs {H : Type} {enc : TypeId × Value → H} {W : World} {base fuel : Nat} {held : Bool} {cs : List Value} {x : DataW H × List MemPlace} (h : DataW.trod enc Tryz.prog W base (fun _ => true) held fuel 42 cs = some x) :
    ∃ v L, cs = [v] ∧ DepsAt W v L ∧ L.length ≤ 9223372036854775807 ∧ ∀ d ∈ L, d.nm.size ≤ 9223372036854775807 := by
  rcases Go.Deep.open_slice Tryz.underlying42 h with ⟨rfl, _⟩ | ⟨ad, len, cap, m, n, D, Pl, rfl, _, hl, hcm, hm, hx, hel⟩
  · exact ⟨_, [], rfl, ⟨none, 0, rfl, Nat.le_refl _, Or.inl rfl⟩, by simp, (fun d hd => by cases hd)⟩
  · have hz : len ≤ 9223372036854775807 := by unfold maxLen at hcm; omega
    rcases Nat.eq_zero_or_pos len with h0 | h0
    · subst h0
      exact ⟨_, [], rfl, ⟨_, _, rfl, Nat.zero_le _, Or.inl rfl⟩, by simp, (fun d hd => by cases hd)⟩
    · have hmm : len ≤ m := by rw [hm]; simp; exact hl
      rw [cellsDep] at hel
      obtain ⟨g, off, spot⟩ := ad
      obtain ⟨cs0, hc0, _⟩ := hel 0 (by omega)
      obtain ⟨_, hln, hq⟩ := World.cells?_some hc0
      have hcell := hq 0 (by decide)
      rw [List.getElem?_eq_getElem (by omega : 0 < cs0.length)] at hcell
      have hspot : spot = none := by simpa [Addr.add] using World.cell?_spot hcell
      subst hspot
      have ad2 : ∀ o i, (⟨g, o, none⟩ : Addr).add i = ⟨g, o + i, none⟩ := fun o i => by unfold Addr.add; split <;> simp_all
      obtain ⟨L, hL, hP⟩ := list_any (P := fun i (d : Dp) => (∃ u, DpIn W g (off + i * 2) d u) ∧ d.nm.size ≤ 9223372036854775807) (n := len) fun i hi => by
        obtain ⟨cs, hc, ht⟩ := hel i (by omega)
        rw [ad2] at hc
        exact dep_read hc ht
      subst hL
      refine ⟨_, L, rfl, ⟨_, _, rfl, hl, Or.inr ⟨g, off, rfl, ?_, fun i hi => (hP i hi).1⟩⟩, hz, ?_⟩
      · have := cell_in hcell
        rw [ad2, ad2] at this; exact this
      · intro d hd
        obtain ⟨i, hi, rfl⟩ := List.getElem_of_mem hd
        exact (hP i hi).2
end Go.Proofs.YtcclfaioicklaaaGreatDoor
namespace Go.Proofs.YtcclfaioicklaaaGreatDoor
open Go.ChangeShapes Go.WideShapes Go.ChangeAt Go.RowKit
set_option maxRecDepth 100000

theorem cellsPkg : Tryz.prog.cellsOf 44 = 7 := by kernel_rfl
theorem list7 {α : Type} {l : List α} (h : l.length = 7) : ∃ a b c d e f g, l = [a, b, c, d, e, f, g] := by
  match l, h with
  | [a, b, c, d, e, f, g], _ => exact ⟨a, b, c, d, e, f, g, rfl⟩
theorem open_pkg {H : Type} {enc : TypeId × Value → H} {W : World} {base b0 : Nat} {held : Bool} {v : Value} {d : DataW H} {p : List MemPlace} (hv : Value.okWide Tryz.prog W .any b0 44 v) (h : DataW.Trod enc Tryz.prog W base (fun _ => true) held 44 v d p) :
    ∃ (P : Pg) (v1 v2 v3 : Value), v = .agg #[.string P.nm, .int .i64 P.a, .int .i64 P.b, .int .i64 P.c, v1, v2, v3] ∧ PgAt W P v1 v2 v3 ∧ (P.d.length ≤ 9223372036854775807 ∧ P.p.length ≤ 9223372036854775807 ∧ P.o.length ≤ 9223372036854775807) ∧ (P.nm.size ≤ 9223372036854775807 ∧ (∀ d ∈ P.d, d.nm.size ≤ 9223372036854775807) ∧ (∀ d ∈ P.p, d.nm.size ≤ 9223372036854775807) ∧ ∀ d ∈ P.o, d.nm.size ≤ 9223372036854775807) := by
  have hs : Tryz.prog.underlying 44 = some (.struct (Tryz.prog.fieldsOf 44)) := by kernel_rfl
  obtain ⟨cs, rfl, hsz⟩ := okWide_struct hs hv
  obtain ⟨n, h⟩ := h
  obtain ⟨xs, n', _, _, _, hxl, hf⟩ := DataW.trod_struct hs h
  have hfz : (Tryz.prog.fieldsOf 44).size = 5 := by kernel_rfl
  rw [cellsPkg] at hsz
  obtain ⟨f0, i0, t0, o0⟩ := field_at (fs := Tryz.prog.fieldsOf 44) (i := 0) (ty := 9) (off := 0) (by kernel_rfl)
  obtain ⟨f1, i1, t1, o1⟩ := field_at (fs := Tryz.prog.fieldsOf 44) (i := 1) (ty := 41) (off := 1) (by kernel_rfl)
  obtain ⟨f2, i2, t2, o2⟩ := field_at (fs := Tryz.prog.fieldsOf 44) (i := 2) (ty := 42) (off := 4) (by kernel_rfl)
  obtain ⟨f3, i3, t3, o3⟩ := field_at (fs := Tryz.prog.fieldsOf 44) (i := 3) (ty := 42) (off := 5) (by kernel_rfl)
  obtain ⟨f4, i4, t4, o4⟩ := field_at (fs := Tryz.prog.fieldsOf 44) (i := 4) (ty := 42) (off := 6) (by kernel_rfl)
  have r0 := hf 0 f0 i0
  have r1 := hf 1 f1 i1
  have r2 := hf 2 f2 i2
  have r3 := hf 3 f3 i3
  have r4 := hf 4 f4 i4
  rw [t0, o0, cellsStrD, List.getElem?_eq_getElem (by omega : 0 < xs.length)] at r0
  rw [t1, o1, cellsVer, List.getElem?_eq_getElem (by omega : 1 < xs.length)] at r1
  rw [t2, o2, cellsDeps, List.getElem?_eq_getElem (by omega : 2 < xs.length)] at r2
  rw [t3, o3, cellsDeps, List.getElem?_eq_getElem (by omega : 3 < xs.length)] at r3
  rw [t4, o4, cellsDeps, List.getElem?_eq_getElem (by omega : 4 < xs.length)] at r4
  obtain ⟨s, e0, _, hs0⟩ := DataW.trod_string Tryz.underlying9 r0
  obtain ⟨a, b, c, ea, eb, ec, _⟩ := ints_of r1
  obtain ⟨v1, L1, e2, h1, z1, m1⟩ := deps_cs r2
  obtain ⟨v2, L2, e3, h2, z2, m2⟩ := deps_cs r3
  obtain ⟨v3, L3, e4, h3, z3, m3⟩ := deps_cs r4
  have k0 : cs.toList[0]? = some (.string s) := take1 e0
  have k2 : cs.toList[4]? = some v1 := take1 e2
  have k3 : cs.toList[5]? = some v2 := take1 e3
  have k4 : cs.toList[6]? = some v3 := take1 e4
  have ka : ((cs.toList.drop 1).take 3)[0]? = some (.int .i64 a) := ea
  have kb : ((cs.toList.drop 1).take 3)[1]? = some (.int .i64 b) := eb
  have kc : ((cs.toList.drop 1).take 3)[2]? = some (.int .i64 c) := ec
  obtain ⟨l⟩ := cs
  obtain ⟨x0, x1, x2, x3, x4, x5, x6, rfl⟩ := list7 (l := l) (by simpa using hsz)
  simp at k0 k2 k3 k4 ka kb kc
  subst k0 k2 k3 k4 ka kb kc
  exact ⟨⟨s, a, b, c, L1, L2, L3⟩, _, _, _, rfl, ⟨h1, h2, h3⟩, ⟨z1, z2, z3⟩, by unfold maxLen at hs0; exact hs0, m1, m2, m3⟩
end Go.Proofs.YtcclfaioicklaaaGreatDoor
namespace Go.Proofs.YtcclfaioicklaaaGreatDoor
open Go.ChangeShapes Go.WideShapes Go.ChangeAt Go.RowKit
set_option maxRecDepth 100000

theorem each_all {H : Type} : ∀ {ts : List TypeId} {ds : List (DataW H)} {i : Nat} {t : TypeId} {d : DataW H}, (DataW.weightsEach Tryz.prog ts ds).all (· ≤ reachBytes) = true → ts[i]? = some t → ds[i]? = some d → (d.weights Tryz.prog t).all (· ≤ reachBytes) = true
  | [], _, _, _, _, _, h, _ => by simp at h
  | _ :: _, [], _, _, _, _, _, h => by simp at h
  | t :: ts, d :: ds, 0, t', d', ha, h1, h2 => by
    simp at h1 h2
    subst h1 h2
    unfold DataW.weightsEach at ha
    rw [List.all_append, Bool.and_eq_true] at ha
    exact ha.1
  | t :: ts, d :: ds, i + 1, t', d', ha, h1, h2 => by
    unfold DataW.weightsEach at ha
    rw [List.all_append, Bool.and_eq_true] at ha
    exact each_all ha.2 (by simpa using h1) (by simpa using h2)

theorem all_each {H : Type} {t : TypeId} : ∀ {ds : List (DataW H)} {d : DataW H}, (DataW.weightsAll Tryz.prog t ds).all (· ≤ reachBytes) = true → d ∈ ds → (d.weights Tryz.prog t).all (· ≤ reachBytes) = true
  | [], _, _, h => by cases h
  | d :: ds, d', ha, h => by
    unfold DataW.weightsAll at ha
    rw [List.all_append, Bool.and_eq_true] at ha
    rcases List.mem_cons.1 h with rfl | h
    · exact ha.1
    · exact all_each ha.2 h

theorem rch_part {H : Type} {t : TypeId} {fs : Array Field} (ht : Tryz.prog.underlying t = some (.struct fs)) {parts : List (DataW H)} (h : ((DataW.agg parts).weights Tryz.prog t).all (· ≤ reachBytes) = true) {i : Nat} {f : Field} (hf : fs[i]? = some f) {d : DataW H} (hd : parts[i]? = some d) : (d.weights Tryz.prog f.type).all (· ≤ reachBytes) = true := by
  unfold DataW.weights at h
  rw [ht] at h
  refine each_all h (i := i) (t := f.type) ?_ hd
  rw [List.getElem?_map, Array.getElem?_toList, hf]
  rfl

theorem rch_slice {H : Type} {t e : TypeId} (ht : Tryz.prog.underlying t = some (.slice e)) {el sp : List (DataW H)} (h : ((DataW.slice el sp).weights Tryz.prog t).all (· ≤ reachBytes) = true) : (el.length + sp.length) * Tryz.prog.bytesOf e ≤ reachBytes ∧ ∀ d ∈ el, (d.weights Tryz.prog e).all (· ≤ reachBytes) = true := by
  unfold DataW.weights at h
  rw [ht] at h
  rw [List.all_cons, Bool.and_eq_true, List.all_append, Bool.and_eq_true] at h
  exact ⟨of_decide_eq_true h.1, fun d hd => all_each h.2.1 hd⟩

theorem cellsStrsT : Tryz.prog.cellsOf 29 = 1 := by kernel_rfl
theorem cellsDirT : Tryz.prog.cellsOf 46 = 9 := by kernel_rfl
theorem cellsDirsT : Tryz.prog.cellsOf 22 = 1 := by kernel_rfl
theorem cellsTreeT : Tryz.prog.cellsOf 24 = 1 := by kernel_rfl
theorem bytesStrT : Tryz.prog.bytesOf 9 = 16 := by kernel_rfl
theorem addT (g o i : Nat) : (⟨g, o, none⟩ : Addr).add i = ⟨g, o + i, none⟩ := by unfold Addr.add; split <;> simp_all

/-- Names that came in. -/
theorem strs_cs {H : Type} {enc : TypeId × Value → H} {W : World} {base fuel : Nat} {held : Bool} {cs : List Value} {x : DataW H × List MemPlace} (h : DataW.trod enc Tryz.prog W base (fun _ => true) held fuel 29 cs = some x) :
    ∃ v L, cs = [v] ∧ PathAt W v L ∧ (∀ s ∈ L, s.size ≤ 9223372036854775807) ∧ ((x.1.weights Tryz.prog 29).all (· ≤ reachBytes) = true → L.length * 16 ≤ 140737488355328) := by
  rcases Go.Deep.open_slice Tryz.underlying29 h with ⟨rfl, _⟩ | ⟨ad, len, cap, m, n, D, Pl, rfl, _, hl, hcm, hm, hx, hel⟩
  · exact ⟨_, [], rfl, ⟨none, 0, rfl, Nat.le_refl _, Or.inl rfl⟩, (fun s hs => by cases hs), fun _ => by simp⟩
  · have hwt : (x.1.weights Tryz.prog 29).all (· ≤ reachBytes) = true → len * 16 ≤ 140737488355328 := fun hr => by
      have hxi : x.1 = .slice ((List.range len).map D) ((List.range (m - len)).map fun j => D (len + j)) := by rw [hx]
      rw [hxi] at hr
      have hb := (rch_slice Tryz.underlying29 hr).1
      rw [List.length_map, List.length_range, bytesStrT] at hb
      unfold reachBytes at hb
      omega
    rcases Nat.eq_zero_or_pos len with h0 | h0
    · subst h0
      exact ⟨_, [], rfl, ⟨_, _, rfl, Nat.zero_le _, Or.inl rfl⟩, (fun s hs => by cases hs), fun _ => by simp⟩
    · have hmm : len ≤ m := by rw [hm]; simp; exact hl
      rw [cellsStrD] at hel
      obtain ⟨g, off, spot⟩ := ad
      obtain ⟨cs0, hc0, _⟩ := hel 0 (by omega)
      obtain ⟨_, hln, hq⟩ := World.cells?_some hc0
      have hcell := hq 0 (by decide)
      rw [List.getElem?_eq_getElem (by omega : 0 < cs0.length)] at hcell
      have hspot : spot = none := by simpa [Addr.add] using World.cell?_spot hcell
      subst hspot
      obtain ⟨L, hL, hP⟩ := list_any (P := fun i (s : ByteArray) => StIn W g (off + i) s ∧ s.size ≤ 9223372036854775807) (n := len) fun i hi => by
        obtain ⟨cs, hc, ht⟩ := hel i (by omega)
        rw [addT, Nat.mul_one] at hc
        obtain ⟨_, hcl, hq⟩ := World.cells?_some hc
        obtain ⟨s, e0, _, hs0⟩ := DataW.trod_string Tryz.underlying9 ht
        have q0 := hq 0 (by decide)
        rw [addT, e0] at q0
        exact ⟨s, ⟨q0, Sc.cell_in q0⟩, by unfold maxLen at hs0; exact hs0⟩
      subst hL
      refine ⟨_, L, rfl, ⟨_, _, rfl, hl, Or.inr ⟨g, off, rfl, fun i hi => (hP i hi).1⟩⟩, ?_, hwt⟩
      intro s hs
      obtain ⟨i, hi, rfl⟩ := List.getElem_of_mem hs
      exact (hP i hi).2

/-- The names of a package's lists are not too great. -/
def PgN (P : Pg) : Prop := P.nm.size ≤ 9223372036854775807 ∧ (∀ d ∈ P.d, d.nm.size ≤ 9223372036854775807) ∧ (∀ d ∈ P.p, d.nm.size ≤ 9223372036854775807) ∧ ∀ d ∈ P.o, d.nm.size ≤ 9223372036854775807
/-- A package's cells. -/
theorem pkg_cs {H : Type} {enc : TypeId × Value → H} {W : World} {base fuel : Nat} {held : Bool} {cs : List Value} {x : DataW H × List MemPlace} (h : DataW.trod enc Tryz.prog W base (fun _ => true) held fuel 44 cs = some x) :
    ∃ (P : Pg) (v1 v2 v3 : Value), (cs[0]? = some (.string P.nm) ∧ cs[1]? = some (.int .i64 P.a) ∧ cs[2]? = some (.int .i64 P.b) ∧ cs[3]? = some (.int .i64 P.c) ∧ cs[4]? = some v1 ∧ cs[5]? = some v2 ∧ cs[6]? = some v3) ∧ PgAt W P v1 v2 v3 ∧ PgZ P ∧ PgN P := by
  have hs : Tryz.prog.underlying 44 = some (.struct (Tryz.prog.fieldsOf 44)) := by kernel_rfl
  obtain ⟨xs, n', _, _, _, hxl, hf⟩ := DataW.trod_struct hs h
  have hfz : (Tryz.prog.fieldsOf 44).size = 5 := by kernel_rfl
  obtain ⟨f0, i0, t0, o0⟩ := field_at (fs := Tryz.prog.fieldsOf 44) (i := 0) (ty := 9) (off := 0) (by kernel_rfl)
  obtain ⟨f1, i1, t1, o1⟩ := field_at (fs := Tryz.prog.fieldsOf 44) (i := 1) (ty := 41) (off := 1) (by kernel_rfl)
  obtain ⟨f2, i2, t2, o2⟩ := field_at (fs := Tryz.prog.fieldsOf 44) (i := 2) (ty := 42) (off := 4) (by kernel_rfl)
  obtain ⟨f3, i3, t3, o3⟩ := field_at (fs := Tryz.prog.fieldsOf 44) (i := 3) (ty := 42) (off := 5) (by kernel_rfl)
  obtain ⟨f4, i4, t4, o4⟩ := field_at (fs := Tryz.prog.fieldsOf 44) (i := 4) (ty := 42) (off := 6) (by kernel_rfl)
  have r0 := hf 0 f0 i0
  have r1 := hf 1 f1 i1
  have r2 := hf 2 f2 i2
  have r3 := hf 3 f3 i3
  have r4 := hf 4 f4 i4
  rw [t0, o0, cellsStrD, List.getElem?_eq_getElem (by omega : 0 < xs.length)] at r0
  rw [t1, o1, cellsVer, List.getElem?_eq_getElem (by omega : 1 < xs.length)] at r1
  rw [t2, o2, cellsDeps, List.getElem?_eq_getElem (by omega : 2 < xs.length)] at r2
  rw [t3, o3, cellsDeps, List.getElem?_eq_getElem (by omega : 3 < xs.length)] at r3
  rw [t4, o4, cellsDeps, List.getElem?_eq_getElem (by omega : 4 < xs.length)] at r4
  obtain ⟨s, e0, _, hs0⟩ := DataW.trod_string Tryz.underlying9 r0
  obtain ⟨a, b, c, ea, eb, ec, _⟩ := ints_of r1
  obtain ⟨v1, L1, e2, h1, z1, m1⟩ := deps_cs r2
  obtain ⟨v2, L2, e3, h2, z2, m2⟩ := deps_cs r3
  obtain ⟨v3, L3, e4, h3, z3, m3⟩ := deps_cs r4
  have ka : ((cs.drop 1).take 3)[0]? = some (.int .i64 a) := ea
  have kb : ((cs.drop 1).take 3)[1]? = some (.int .i64 b) := eb
  have kc : ((cs.drop 1).take 3)[2]? = some (.int .i64 c) := ec
  simp at ka kb kc
  exact ⟨⟨s, a, b, c, L1, L2, L3⟩, v1, v2, v3, ⟨take1 e0, ka, kb, kc, take1 e2, take1 e3, take1 e4⟩, ⟨h1, h2, h3⟩, ⟨z1, z2, z3⟩, by unfold maxLen at hs0; exact hs0, m1, m2, m3⟩

/-- A directory that came in is not too great. -/
def DrN (d : Dr) : Prop := PgZ d.pk ∧ PgN d.pk ∧ ∀ s ∈ d.pa, s.size ≤ 9223372036854775807
theorem take7 {cs : List Value} {i : Nat} (hi : i < 7) : ((cs.drop 1).take 7)[i]? = cs[i + 1]? := by
  rw [List.getElem?_take, if_pos hi, List.getElem?_drop, Nat.add_comm]
theorem dir_read {H : Type} {enc : TypeId × Value → H} {W : World} {base : Nat} {held : Bool} {n : Nat} {g o : Nat} {cs : List Value} {x : DataW H × List MemPlace} (hc : W.cells? base ⟨g, o, none⟩ 9 = some cs) (h : DataW.trod enc Tryz.prog W base (fun _ => true) held n 46 cs = some x) :
    ∃ D : Dr, (∃ u v1 v2 v3, DrIn W g o D u v1 v2 v3) ∧ DrN D ∧ ((x.1.weights Tryz.prog 46).all (· ≤ reachBytes) = true → D.pa.length * 16 ≤ 140737488355328) := by
  have hs : Tryz.prog.underlying 46 = some (.struct (Tryz.prog.fieldsOf 46)) := by kernel_rfl
  obtain ⟨xs, n', _, hxx, _, hxl, hf⟩ := DataW.trod_struct hs h
  have hfz : (Tryz.prog.fieldsOf 46).size = 3 := by kernel_rfl
  obtain ⟨_, hcl, hq⟩ := World.cells?_some hc
  obtain ⟨f0, i0, t0, o0⟩ := field_at (fs := Tryz.prog.fieldsOf 46) (i := 0) (ty := 29) (off := 0) (by kernel_rfl)
  obtain ⟨f1, i1, t1, o1⟩ := field_at (fs := Tryz.prog.fieldsOf 46) (i := 1) (ty := 44) (off := 1) (by kernel_rfl)
  obtain ⟨f2, i2, t2, o2⟩ := field_at (fs := Tryz.prog.fieldsOf 46) (i := 2) (ty := 3) (off := 8) (by kernel_rfl)
  have r0 := hf 0 f0 i0
  have r1 := hf 1 f1 i1
  have r2 := hf 2 f2 i2
  rw [t0, o0, cellsStrsT, List.getElem?_eq_getElem (by omega : 0 < xs.length)] at r0
  rw [t1, o1, cellsPkg, List.getElem?_eq_getElem (by omega : 1 < xs.length)] at r1
  rw [t2, o2, cellsInt, List.getElem?_eq_getElem (by omega : 2 < xs.length)] at r2
  obtain ⟨u, L, e0, hp, hsz, hwt⟩ := strs_cs r0
  obtain ⟨P, v1, v2, v3, ⟨p0, p1, p2, p3, p4, p5, p6⟩, hpg, hpz, hpn⟩ := pkg_cs r1
  obtain ⟨k, e2, _, _⟩ := DataW.trod_int Tryz.underlying3 r2
  rw [take7 (by decide)] at p0 p1 p2 p3 p4 p5 p6
  have c0 := hq 0 (by decide)
  have c1 := hq 1 (by decide)
  have c2 := hq 2 (by decide)
  have c3 := hq 3 (by decide)
  have c4 := hq 4 (by decide)
  have c5 := hq 5 (by decide)
  have c6 := hq 6 (by decide)
  have c7 := hq 7 (by decide)
  have c8 := hq 8 (by decide)
  rw [addT, take1 e0] at c0
  rw [addT, p0] at c1
  rw [addT, p1] at c2
  rw [addT, p2] at c3
  rw [addT, p3] at c4
  rw [addT, p4] at c5
  rw [addT, p5] at c6
  rw [addT, p6] at c7
  rw [addT, take_one e2] at c8
  refine ⟨⟨L, P, k⟩, ⟨u, v1, v2, v3, ⟨c0, c1, c2, c3, c4, c5, c6, c7, c8⟩, ⟨hp, hpg⟩, Sc.cell_in c0⟩, ⟨hpz, hpn, hsz⟩, fun hr => ?_⟩
  have hd : x.1 = .agg (xs.map (·.1)) := congrArg Prod.fst hxx
  rw [hd] at hr
  have hp2 := rch_part hs hr i0 (d := xs[0].1) (by rw [List.getElem?_map, List.getElem?_eq_getElem (by omega : 0 < xs.length)]; rfl)
  rw [t0] at hp2
  exact hwt hp2

/-- Directories that came in. -/
theorem dirs_cs {H : Type} {enc : TypeId × Value → H} {W : World} {base fuel : Nat} {held : Bool} {cs : List Value} {x : DataW H × List MemPlace} (h : DataW.trod enc Tryz.prog W base (fun _ => true) held fuel 22 cs = some x) :
    ∃ v L, cs = [v] ∧ DirsAt W v L ∧ L.length ≤ 9223372036854775807 ∧ (∀ d ∈ L, DrN d) ∧ ((x.1.weights Tryz.prog 22).all (· ≤ reachBytes) = true → FitP1 L) := by
  rcases Go.Deep.open_slice Tryz.underlying22 h with ⟨rfl, _⟩ | ⟨ad, len, cap, m, n, D, Pl, rfl, _, hl, hcm, hm, hx, hel⟩
  · exact ⟨_, [], rfl, ⟨none, 0, rfl, Nat.le_refl _, Or.inl rfl⟩, by simp, (fun d hd => by cases hd), fun _ d hd => by cases hd⟩
  · have hz : len ≤ 9223372036854775807 := by unfold maxLen at hcm; omega
    rcases Nat.eq_zero_or_pos len with h0 | h0
    · subst h0
      exact ⟨_, [], rfl, ⟨_, _, rfl, Nat.zero_le _, Or.inl rfl⟩, by simp, (fun d hd => by cases hd), fun _ d hd => by cases hd⟩
    · have hmm : len ≤ m := by rw [hm]; simp; exact hl
      rw [cellsDirT] at hel
      obtain ⟨g, off, spot⟩ := ad
      obtain ⟨cs0, hc0, _⟩ := hel 0 (by omega)
      obtain ⟨_, hln, hq⟩ := World.cells?_some hc0
      have hcell := hq 0 (by decide)
      rw [List.getElem?_eq_getElem (by omega : 0 < cs0.length)] at hcell
      have hspot : spot = none := by simpa [Addr.add] using World.cell?_spot hcell
      subst hspot
      obtain ⟨L, hL, hP⟩ := list_any (P := fun i (d : Dr) => (∃ u v1 v2 v3, DrIn W g (off + i * 9) d u v1 v2 v3) ∧ DrN d ∧ (((D i).weights Tryz.prog 46).all (· ≤ reachBytes) = true → d.pa.length * 16 ≤ 140737488355328)) (n := len) fun i hi => by
        obtain ⟨cs, hc, ht⟩ := hel i (by omega)
        rw [addT] at hc
        exact dir_read hc ht
      subst hL
      refine ⟨_, L, rfl, ⟨_, _, rfl, hl, Or.inr ⟨g, off, rfl, fun i hi => (hP i hi).1⟩⟩, hz, ?_, fun hr => ?_⟩
      · intro d hd
        obtain ⟨i, hi, rfl⟩ := List.getElem_of_mem hd
        exact (hP i hi).2.1
      · intro d hd
        obtain ⟨i, hi, rfl⟩ := List.getElem_of_mem hd
        have hxi : x.1 = .slice ((List.range L.length).map D) ((List.range (m - L.length)).map fun j => D (L.length + j)) := by rw [hx]
        rw [hxi] at hr
        exact (hP i hi).2.2 ((rch_slice Tryz.underlying22 hr).2 (D i) (List.mem_map.2 ⟨i, List.mem_range.2 (by omega), rfl⟩))

/-- A tree that came in. -/
theorem open_tree {H : Type} {enc : TypeId × Value → H} {W : World} {base b0 : Nat} {held : Bool} {v : Value} {d : DataW H} {p : List MemPlace} (hv : Value.okWide Tryz.prog W .any b0 24 v) (h : DataW.Trod enc Tryz.prog W base (fun _ => true) held 24 v d p) :
    ∃ (L : List Dr) (vt : Value), v = .agg #[vt] ∧ DirsAt W vt L ∧ L.length ≤ 9223372036854775807 ∧ (∀ d ∈ L, DrN d) ∧ ((d.weights Tryz.prog 24).all (· ≤ reachBytes) = true → FitP1 L) := by
  have hs : Tryz.prog.underlying 24 = some (.struct (Tryz.prog.fieldsOf 24)) := by kernel_rfl
  obtain ⟨cs, rfl, hsz⟩ := okWide_struct hs hv
  obtain ⟨n, h⟩ := h
  obtain ⟨xs, n', _, hxx, _, hxl, hf⟩ := DataW.trod_struct hs h
  have hfz : (Tryz.prog.fieldsOf 24).size = 1 := by kernel_rfl
  obtain ⟨f0, i0, t0, o0⟩ := field_at (fs := Tryz.prog.fieldsOf 24) (i := 0) (ty := 22) (off := 0) (by kernel_rfl)
  have r0 := hf 0 f0 i0
  rw [t0, o0, cellsDirsT, List.getElem?_eq_getElem (by omega : 0 < xs.length)] at r0
  obtain ⟨vt, L, e0, hd, hz, hn, hwt⟩ := dirs_cs r0
  have k0 : cs.toList[0]? = some vt := take1 e0
  rw [cellsTreeT] at hsz
  refine ⟨L, vt, ?_, hd, hz, hn, fun hr => ?_⟩
  · congr 1
    apply Array.ext'
    rcases hcs : cs.toList with _ | ⟨y, _ | ⟨z, r⟩⟩
    · rw [hcs] at k0; cases k0
    · rw [hcs] at k0
      simp at k0
      rw [k0]
    · have : cs.toList.length = 1 := by rw [Array.length_toList]; exact hsz
      rw [hcs] at this
      simp at this
  · have hdd : d = .agg (xs.map (·.1)) := congrArg Prod.fst hxx
    rw [hdd] at hr
    have hp2 := rch_part hs hr i0 (d := xs[0].1) (by rw [List.getElem?_map, List.getElem?_eq_getElem (by omega : 0 < xs.length)]; rfl)
    rw [t0] at hp2
    exact hwt hp2
theorem drs_ok {L : List Dr} (h1 : FitP1 L) (h2 : ∀ d ∈ L, DrN d) : DrsOk L := ⟨h1, fun d hd => (h2 d hd).1⟩
end Go.Proofs.YtcclfaioicklaaaGreatDoor
