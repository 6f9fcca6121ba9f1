/- Lk23, laid in one text. -/
import Derived.Test.YtikplmckjcceaaaDoorMg09
namespace Go.Proofs.YtikplmckjcceaaaDoor
open Go.RowKit
open Sc (KeepP hide3 keepBelow Bs ba)
set_option maxRecDepth 100000

theorem Env.spell {w : World} (he : Env w) : SpellAll w := fun W hb n h0 h1 => spells_tab he.tab W hb n h0 h1
theorem rSameG_len (ad bd : Option Addr) (n m ca cb : Nat) (h : n ≠ m) (w : World) :
    Calls Tryd.prog 12 #[.agg #[.slice ad n ca], .agg #[.slice bd m cb]] w fun e w' => e = .returned (.bool false) ∧ Below w.heap.size w w' := by
  have hn : ((n : Int) = (m : Int)) = False := by simp; omega
  have HB : Hid (Below w.heap.size w ((w.alloc (.cells #[.slice ad n ca] 24)).alloc (.cells #[.slice bd m cb] 24))) := below_then (boxB _ _) (boxB _ _)
  go_enter Tryd.func12, Tryd.ntmps12
  go_wp2
  go_ret
  exact ⟨rfl, HB.out⟩

theorem rSameG_nil (ad bd : Option Addr) (ca cb : Nat) (w : World) :
    Calls Tryd.prog 12 #[.agg #[.slice ad 0 ca], .agg #[.slice bd 0 cb]] w fun e w' => e = .returned (.bool true) ∧ Below w.heap.size w w' := by
  have HB : Hid (Below w.heap.size w ((w.alloc (.cells #[.slice ad 0 ca] 24)).alloc (.cells #[.slice bd 0 cb] 24)) ∧ BxG ((w.alloc (.cells #[.slice ad 0 ca] 24)).alloc (.cells #[.slice bd 0 cb] 24)) w.heap.size (.slice ad 0 ca)) := ⟨below_then (boxB _ _) (boxB _ _), keepBxG _ _ _ _ (BxG.new rfl _) (boxB _ _)⟩
  go_enter Tryd.func12, Tryd.ntmps12
  go_wp2_with fail
  go_loopw [5] (fun i wr => i = .int .i64 0 ∧ Below w.heap.size w wr ∧ BxG wr w.heap.size (.slice ad 0 ca)) (fun _ _ => 0)
  case atStart => exact ⟨rfl, HB.out⟩
  case round =>
    clear HB
    obtain ⟨rfl, hb, y0, y1⟩ := hrel
    have HB := hide3 hb
    clear hb
    go_wp2
    go_ret
    exact ⟨rfl, HB.out⟩

theorem rSameG_any {A C : List Nd} {v u : Value} {w : World} (ha : NodesAt w v A) (hc : NodesAt w u C) (hz : A.length ≤ 1000000) (hzl : ∀ n ∈ A, n.cx.length ≤ 1000000 ∧ n.ed.length ≤ 1000000) :
    Calls Tryd.prog 12 #[.agg #[v], .agg #[u]] w fun e w' => e = .returned (.bool (eqB A C)) ∧ Below w.heap.size w w' := by
  obtain ⟨ad, ca, rfl, _, hl⟩ := ha
  obtain ⟨bd, cb, rfl, _, hm⟩ := hc
  by_cases hn : A.length = C.length
  · rcases hl with rfl | ⟨ga, oa, rfl, hga, hla⟩
    · obtain rfl : C = [] := List.eq_nil_of_length_eq_zero (by simpa using hn.symm)
      rw [eqB_yes rfl]
      exact rSameG_nil _ _ _ _ _
    · rcases hm with rfl | ⟨gb, ob, rfl, hgb, hlb⟩
      · obtain rfl : A = [] := List.eq_nil_of_length_eq_zero (by simpa using hn)
        rw [eqB_yes rfl]
        exact rSameG_nil _ _ _ _ _
      · rw [← hn]
        exact rSameG_walk hn hz hzl (fun W hb i hi => by obtain ⟨vc, ve, h⟩ := hla i hi; exact ⟨vc, ve, h.below hb⟩) (fun W hb i hi => by obtain ⟨vc, ve, h⟩ := hlb i hi; exact ⟨vc, ve, h.below hb⟩)
  · rw [eqB_no fun e => hn (by rw [e])]
    exact rSameG_len _ _ _ _ _ _ hn _
theorem may_short {G : List Nd} (h : mayG G = true) : G.length ≤ 1000000 ∧ ∀ n ∈ G, n.cx.length ≤ 1000000 ∧ n.ed.length ≤ 1000000 := by
  obtain ⟨h1, _, h3, _⟩ := mayG_nodes h
  refine ⟨by omega, fun n hn => ?_⟩
  have k1 := (h3 n hn).1.1
  have k2 := (h3 n hn).2.1
  omega
theorem text_one {P Q : List Nd} (h1 : mayG P = true) (h2 : mayG Q = true) (h : textG P = textG Q) : P = Q := by
  have e1 := text_par h1
  have e2 := text_par h2
  rw [h, e2] at e1
  exact (Option.some.inj e1).symm

set_option maxHeartbeats 6400000 in
theorem lockTexts_walk {P Q : List Nd} {vp vq : Value} {w : World} (hp : NodesAt w vp P) (hq : NodesAt w vq Q) (he : Env w) :
    Calls Tryd.prog 5 #[.agg #[vp], .agg #[vq]] w fun e w' => e = .returned (.bool true) ∧ Below w.heap.size w w' := by
  have HP : Hid (∀ w1, Below w.heap.size w w1 → Calls Tryd.prog 6 #[.agg #[vp]] w1 fun e w' => e = .returned (.tuple #[.string (prT P), .int .i64 (prE P)]) ∧ Below w1.heap.size w1 w') := fun w1 hb => gPrint_any (hp.below hb) (he.below hb).spell
  have HQ : Hid (∀ w1, Below w.heap.size w w1 → Calls Tryd.prog 6 #[.agg #[vq]] w1 fun e w' => e = .returned (.tuple #[.string (prT Q), .int .i64 (prE Q)]) ∧ Below w1.heap.size w1 w') := fun w1 hb => gPrint_any (hq.below hb) (he.below hb).spell
  have HMP : Hid (∀ w1, Below w.heap.size w w1 → Calls Tryd.prog 8 #[.agg #[vp]] w1 fun e w' => e = .returned (.bool (mayG P)) ∧ Below w1.heap.size w1 w') := fun w1 hb => gMay_any (hp.below hb)
  have HMQ : Hid (∀ w1, Below w.heap.size w w1 → Calls Tryd.prog 8 #[.agg #[vq]] w1 fun e w' => e = .returned (.bool (mayG Q)) ∧ Below w1.heap.size w1 w') := fun w1 hb => gMay_any (hq.below hb)
  have HKN : Hid (∀ w1, Below w.heap.size w w1 → Calls Tryd.prog 10 #[] w1 fun e w' => e = .returned (.bool true) ∧ Below w1.heap.size w1 w') := fun w1 hb => known_lk (he.below hb) (he.below hb).spell
  have HSA : Hid (mayG P = true → ∀ w1, Below w.heap.size w w1 → Calls Tryd.prog 12 #[.agg #[vp], .agg #[vq]] w1 fun e w' => e = .returned (.bool (eqB P Q)) ∧ Below w1.heap.size w1 w') := fun hm w1 hb => rSameG_any (hp.below hb) (hq.below hb) (may_short hm).1 (may_short hm).2
  have HTX : Hid (mayG P = true → mayG Q = true → ((textG P).toList == (textG Q).toList) = eqB P Q) := fun h1 h2 => by
    by_cases e : P = Q
    · subst e
      rw [eqB_yes rfl]
      simp
    · rw [eqB_no e, beq_eq_false_iff_ne]
      exact fun h => e (text_one h1 h2 (bytes_same h))
  obtain ⟨ap, cp, rfl, kp⟩ := hp
  obtain ⟨aq, cq, rfl, kq⟩ := hq
  clear he kp kq
  unfold prT prE at HP HQ
  generalize P.length = np at *
  generalize Q.length = nq at *
  cases hbp : mayG P
  · rw [hbp] at HP HMP
    cases hbq : mayG Q
    · rw [hbq] at HQ HMQ
      simp only [Bool.false_eq_true, if_false] at HP HQ
      clear HTX HSA
      have HK0 : Hid (KeepP fun w1 => ((Below w.heap.size w w1) ∧ BxG w1 w.heap.size (.slice ap np cp)) ∧ BxG w1 (w.heap.size + 1) (.slice aq nq cq)) := (KeepP.and ((KeepP.and (keepBelow w) (keepBxG _ _))) (keepBxG _ _))
      have HO0 : Hid (((Below w.heap.size w ((w.alloc (.cells #[.slice ap np cp] 24)).alloc (.cells #[.slice aq nq cq] 24))) ∧ BxG ((w.alloc (.cells #[.slice ap np cp] 24)).alloc (.cells #[.slice aq nq cq] 24)) w.heap.size (.slice ap np cp)) ∧ BxG ((w.alloc (.cells #[.slice ap np cp] 24)).alloc (.cells #[.slice aq nq cq] 24)) (w.heap.size + 1) (.slice aq nq cq)) := ⟨⟨below_then (boxB _ _) (boxB _ _), keepBxG _ _ _ _ (BxG.new rfl _) (boxB _ _)⟩, BxG.new (by simp) _⟩
      obtain ⟨p0, p1⟩ := HO0.out.1.2
      obtain ⟨q0, q1⟩ := HO0.out.2
      go_enter Tryd.func5, Tryd.ntmps5
      go_wp2_with (first
        | (have _h := HO0; go_at_call 6; refine (HP.out _ (HO0.out.1.1)).mono ?_; rintro e y1 ⟨rfl, ok⟩; have HO1 : Hid (((Below w.heap.size w y1) ∧ BxG y1 w.heap.size (.slice ap np cp)) ∧ BxG y1 (w.heap.size + 1) (.slice aq nq cq)) := HK0.out _ _ HO0.out ok; clear ok HO0 p0 p1 q0 q1; obtain ⟨p0, p1⟩ := HO1.out.1.2; obtain ⟨q0, q1⟩ := HO1.out.2)
        | (have _h := HO1; go_at_call 6; refine (HQ.out _ (HO1.out.1.1)).mono ?_; rintro e y2 ⟨rfl, ok⟩; have HO2 : Hid (((Below w.heap.size w y2) ∧ BxG y2 w.heap.size (.slice ap np cp)) ∧ BxG y2 (w.heap.size + 1) (.slice aq nq cq)) := HK0.out _ _ HO1.out ok; clear ok HO1 p0 p1 q0 q1; obtain ⟨p0, p1⟩ := HO2.out.1.2; obtain ⟨q0, q1⟩ := HO2.out.2)
        | (have _h := HO2; go_at_call 10; refine (HKN.out _ (HO2.out.1.1)).mono ?_; rintro e y3 ⟨rfl, ok⟩; have HO3 : Hid (((Below w.heap.size w y3) ∧ BxG y3 w.heap.size (.slice ap np cp)) ∧ BxG y3 (w.heap.size + 1) (.slice aq nq cq)) := HK0.out _ _ HO2.out ok; clear ok HO2 p0 p1 q0 q1; obtain ⟨p0, p1⟩ := HO3.out.1.2; obtain ⟨q0, q1⟩ := HO3.out.2)
        | (have _h := HO3; go_at_call 8; refine (HMP.out _ (HO3.out.1.1)).mono ?_; rintro e y4 ⟨rfl, ok⟩; have HO4 : Hid (((Below w.heap.size w y4) ∧ BxG y4 w.heap.size (.slice ap np cp)) ∧ BxG y4 (w.heap.size + 1) (.slice aq nq cq)) := HK0.out _ _ HO3.out ok; clear ok HO3 p0 p1 q0 q1; obtain ⟨p0, p1⟩ := HO4.out.1.2; obtain ⟨q0, q1⟩ := HO4.out.2)
        | (have _h := HO4; go_at_call 8; refine (HMQ.out _ (HO4.out.1.1)).mono ?_; rintro e y5 ⟨rfl, ok⟩; have HO5 : Hid (((Below w.heap.size w y5) ∧ BxG y5 w.heap.size (.slice ap np cp)) ∧ BxG y5 (w.heap.size + 1) (.slice aq nq cq)) := HK0.out _ _ HO4.out ok; clear ok HO4 p0 p1 q0 q1; obtain ⟨p0, p1⟩ := HO5.out.1.2; obtain ⟨q0, q1⟩ := HO5.out.2))
      go_ret
      exact ⟨by first | rfl | simp, HO5.out.1.1⟩
    · rw [hbq] at HQ HMQ
      simp only [Bool.false_eq_true, if_false, if_true] at HP HQ
      clear HTX HSA
      have HK0 : Hid (KeepP fun w1 => ((Below w.heap.size w w1) ∧ BxG w1 w.heap.size (.slice ap np cp)) ∧ BxG w1 (w.heap.size + 1) (.slice aq nq cq)) := (KeepP.and ((KeepP.and (keepBelow w) (keepBxG _ _))) (keepBxG _ _))
      have HO0 : Hid (((Below w.heap.size w ((w.alloc (.cells #[.slice ap np cp] 24)).alloc (.cells #[.slice aq nq cq] 24))) ∧ BxG ((w.alloc (.cells #[.slice ap np cp] 24)).alloc (.cells #[.slice aq nq cq] 24)) w.heap.size (.slice ap np cp)) ∧ BxG ((w.alloc (.cells #[.slice ap np cp] 24)).alloc (.cells #[.slice aq nq cq] 24)) (w.heap.size + 1) (.slice aq nq cq)) := ⟨⟨below_then (boxB _ _) (boxB _ _), keepBxG _ _ _ _ (BxG.new rfl _) (boxB _ _)⟩, BxG.new (by simp) _⟩
      obtain ⟨p0, p1⟩ := HO0.out.1.2
      obtain ⟨q0, q1⟩ := HO0.out.2
      go_enter Tryd.func5, Tryd.ntmps5
      go_wp2_with (first
        | (have _h := HO0; go_at_call 6; refine (HP.out _ (HO0.out.1.1)).mono ?_; rintro e y1 ⟨rfl, ok⟩; have HO1 : Hid (((Below w.heap.size w y1) ∧ BxG y1 w.heap.size (.slice ap np cp)) ∧ BxG y1 (w.heap.size + 1) (.slice aq nq cq)) := HK0.out _ _ HO0.out ok; clear ok HO0 p0 p1 q0 q1; obtain ⟨p0, p1⟩ := HO1.out.1.2; obtain ⟨q0, q1⟩ := HO1.out.2)
        | (have _h := HO1; go_at_call 6; refine (HQ.out _ (HO1.out.1.1)).mono ?_; rintro e y2 ⟨rfl, ok⟩; have HO2 : Hid (((Below w.heap.size w y2) ∧ BxG y2 w.heap.size (.slice ap np cp)) ∧ BxG y2 (w.heap.size + 1) (.slice aq nq cq)) := HK0.out _ _ HO1.out ok; clear ok HO1 p0 p1 q0 q1; obtain ⟨p0, p1⟩ := HO2.out.1.2; obtain ⟨q0, q1⟩ := HO2.out.2)
        | (have _h := HO2; go_at_call 10; refine (HKN.out _ (HO2.out.1.1)).mono ?_; rintro e y3 ⟨rfl, ok⟩; have HO3 : Hid (((Below w.heap.size w y3) ∧ BxG y3 w.heap.size (.slice ap np cp)) ∧ BxG y3 (w.heap.size + 1) (.slice aq nq cq)) := HK0.out _ _ HO2.out ok; clear ok HO2 p0 p1 q0 q1; obtain ⟨p0, p1⟩ := HO3.out.1.2; obtain ⟨q0, q1⟩ := HO3.out.2)
        | (have _h := HO3; go_at_call 8; refine (HMP.out _ (HO3.out.1.1)).mono ?_; rintro e y4 ⟨rfl, ok⟩; have HO4 : Hid (((Below w.heap.size w y4) ∧ BxG y4 w.heap.size (.slice ap np cp)) ∧ BxG y4 (w.heap.size + 1) (.slice aq nq cq)) := HK0.out _ _ HO3.out ok; clear ok HO3 p0 p1 q0 q1; obtain ⟨p0, p1⟩ := HO4.out.1.2; obtain ⟨q0, q1⟩ := HO4.out.2)
        | (have _h := HO4; go_at_call 8; refine (HMQ.out _ (HO4.out.1.1)).mono ?_; rintro e y5 ⟨rfl, ok⟩; have HO5 : Hid (((Below w.heap.size w y5) ∧ BxG y5 w.heap.size (.slice ap np cp)) ∧ BxG y5 (w.heap.size + 1) (.slice aq nq cq)) := HK0.out _ _ HO4.out ok; clear ok HO4 p0 p1 q0 q1; obtain ⟨p0, p1⟩ := HO5.out.1.2; obtain ⟨q0, q1⟩ := HO5.out.2))
      go_ret
      exact ⟨by first | rfl | simp, HO5.out.1.1⟩
  · rw [hbp] at HP HMP
    cases hbq : mayG Q
    · rw [hbq] at HQ HMQ
      simp only [Bool.false_eq_true, if_false, if_true] at HP HQ
      clear HTX HSA
      have HK0 : Hid (KeepP fun w1 => ((Below w.heap.size w w1) ∧ BxG w1 w.heap.size (.slice ap np cp)) ∧ BxG w1 (w.heap.size + 1) (.slice aq nq cq)) := (KeepP.and ((KeepP.and (keepBelow w) (keepBxG _ _))) (keepBxG _ _))
      have HO0 : Hid (((Below w.heap.size w ((w.alloc (.cells #[.slice ap np cp] 24)).alloc (.cells #[.slice aq nq cq] 24))) ∧ BxG ((w.alloc (.cells #[.slice ap np cp] 24)).alloc (.cells #[.slice aq nq cq] 24)) w.heap.size (.slice ap np cp)) ∧ BxG ((w.alloc (.cells #[.slice ap np cp] 24)).alloc (.cells #[.slice aq nq cq] 24)) (w.heap.size + 1) (.slice aq nq cq)) := ⟨⟨below_then (boxB _ _) (boxB _ _), keepBxG _ _ _ _ (BxG.new rfl _) (boxB _ _)⟩, BxG.new (by simp) _⟩
      obtain ⟨p0, p1⟩ := HO0.out.1.2
      obtain ⟨q0, q1⟩ := HO0.out.2
      go_enter Tryd.func5, Tryd.ntmps5
      go_wp2_with (first
        | (have _h := HO0; go_at_call 6; refine (HP.out _ (HO0.out.1.1)).mono ?_; rintro e y1 ⟨rfl, ok⟩; have HO1 : Hid (((Below w.heap.size w y1) ∧ BxG y1 w.heap.size (.slice ap np cp)) ∧ BxG y1 (w.heap.size + 1) (.slice aq nq cq)) := HK0.out _ _ HO0.out ok; clear ok HO0 p0 p1 q0 q1; obtain ⟨p0, p1⟩ := HO1.out.1.2; obtain ⟨q0, q1⟩ := HO1.out.2)
        | (have _h := HO1; go_at_call 6; refine (HQ.out _ (HO1.out.1.1)).mono ?_; rintro e y2 ⟨rfl, ok⟩; have HO2 : Hid (((Below w.heap.size w y2) ∧ BxG y2 w.heap.size (.slice ap np cp)) ∧ BxG y2 (w.heap.size + 1) (.slice aq nq cq)) := HK0.out _ _ HO1.out ok; clear ok HO1 p0 p1 q0 q1; obtain ⟨p0, p1⟩ := HO2.out.1.2; obtain ⟨q0, q1⟩ := HO2.out.2)
        | (have _h := HO2; go_at_call 10; refine (HKN.out _ (HO2.out.1.1)).mono ?_; rintro e y3 ⟨rfl, ok⟩; have HO3 : Hid (((Below w.heap.size w y3) ∧ BxG y3 w.heap.size (.slice ap np cp)) ∧ BxG y3 (w.heap.size + 1) (.slice aq nq cq)) := HK0.out _ _ HO2.out ok; clear ok HO2 p0 p1 q0 q1; obtain ⟨p0, p1⟩ := HO3.out.1.2; obtain ⟨q0, q1⟩ := HO3.out.2)
        | (have _h := HO3; go_at_call 8; refine (HMP.out _ (HO3.out.1.1)).mono ?_; rintro e y4 ⟨rfl, ok⟩; have HO4 : Hid (((Below w.heap.size w y4) ∧ BxG y4 w.heap.size (.slice ap np cp)) ∧ BxG y4 (w.heap.size + 1) (.slice aq nq cq)) := HK0.out _ _ HO3.out ok; clear ok HO3 p0 p1 q0 q1; obtain ⟨p0, p1⟩ := HO4.out.1.2; obtain ⟨q0, q1⟩ := HO4.out.2)
        | (have _h := HO4; go_at_call 8; refine (HMQ.out _ (HO4.out.1.1)).mono ?_; rintro e y5 ⟨rfl, ok⟩; have HO5 : Hid (((Below w.heap.size w y5) ∧ BxG y5 w.heap.size (.slice ap np cp)) ∧ BxG y5 (w.heap.size + 1) (.slice aq nq cq)) := HK0.out _ _ HO4.out ok; clear ok HO4 p0 p1 q0 q1; obtain ⟨p0, p1⟩ := HO5.out.1.2; obtain ⟨q0, q1⟩ := HO5.out.2))
      go_ret
      exact ⟨by first | rfl | simp, HO5.out.1.1⟩
    · rw [hbq] at HQ HMQ
      simp only [if_true] at HP HQ
      have htx := HTX.out hbp hbq
      have HSB := hide3 (HSA.out hbp)
      clear HTX HSA hbp hbq
      generalize textG P = tp at *
      generalize textG Q = tq at *
      generalize eqB P Q = be at *
      cases be
      · skip
        have HK0 : Hid (KeepP fun w1 => ((Below w.heap.size w w1) ∧ BxG w1 w.heap.size (.slice ap np cp)) ∧ BxG w1 (w.heap.size + 1) (.slice aq nq cq)) := (KeepP.and ((KeepP.and (keepBelow w) (keepBxG _ _))) (keepBxG _ _))
        have HO0 : Hid (((Below w.heap.size w ((w.alloc (.cells #[.slice ap np cp] 24)).alloc (.cells #[.slice aq nq cq] 24))) ∧ BxG ((w.alloc (.cells #[.slice ap np cp] 24)).alloc (.cells #[.slice aq nq cq] 24)) w.heap.size (.slice ap np cp)) ∧ BxG ((w.alloc (.cells #[.slice ap np cp] 24)).alloc (.cells #[.slice aq nq cq] 24)) (w.heap.size + 1) (.slice aq nq cq)) := ⟨⟨below_then (boxB _ _) (boxB _ _), keepBxG _ _ _ _ (BxG.new rfl _) (boxB _ _)⟩, BxG.new (by simp) _⟩
        obtain ⟨p0, p1⟩ := HO0.out.1.2
        obtain ⟨q0, q1⟩ := HO0.out.2
        go_enter Tryd.func5, Tryd.ntmps5
        go_wp2_with (first
          | (have _h := HO0; go_at_call 6; refine (HP.out _ (HO0.out.1.1)).mono ?_; rintro e y1 ⟨rfl, ok⟩; have HO1 : Hid (((Below w.heap.size w y1) ∧ BxG y1 w.heap.size (.slice ap np cp)) ∧ BxG y1 (w.heap.size + 1) (.slice aq nq cq)) := HK0.out _ _ HO0.out ok; clear ok HO0 p0 p1 q0 q1; obtain ⟨p0, p1⟩ := HO1.out.1.2; obtain ⟨q0, q1⟩ := HO1.out.2)
          | (have _h := HO1; go_at_call 6; refine (HQ.out _ (HO1.out.1.1)).mono ?_; rintro e y2 ⟨rfl, ok⟩; have HO2 : Hid (((Below w.heap.size w y2) ∧ BxG y2 w.heap.size (.slice ap np cp)) ∧ BxG y2 (w.heap.size + 1) (.slice aq nq cq)) := HK0.out _ _ HO1.out ok; clear ok HO1 p0 p1 q0 q1; obtain ⟨p0, p1⟩ := HO2.out.1.2; obtain ⟨q0, q1⟩ := HO2.out.2)
          | (have _h := HO2; go_at_call 10; refine (HKN.out _ (HO2.out.1.1)).mono ?_; rintro e y3 ⟨rfl, ok⟩; have HO3 : Hid (((Below w.heap.size w y3) ∧ BxG y3 w.heap.size (.slice ap np cp)) ∧ BxG y3 (w.heap.size + 1) (.slice aq nq cq)) := HK0.out _ _ HO2.out ok; clear ok HO2 p0 p1 q0 q1; obtain ⟨p0, p1⟩ := HO3.out.1.2; obtain ⟨q0, q1⟩ := HO3.out.2)
          | (have _h := HO3; go_at_call 8; refine (HMP.out _ (HO3.out.1.1)).mono ?_; rintro e y4 ⟨rfl, ok⟩; have HO4 : Hid (((Below w.heap.size w y4) ∧ BxG y4 w.heap.size (.slice ap np cp)) ∧ BxG y4 (w.heap.size + 1) (.slice aq nq cq)) := HK0.out _ _ HO3.out ok; clear ok HO3 p0 p1 q0 q1; obtain ⟨p0, p1⟩ := HO4.out.1.2; obtain ⟨q0, q1⟩ := HO4.out.2)
          | (have _h := HO4; go_at_call 8; refine (HMQ.out _ (HO4.out.1.1)).mono ?_; rintro e y5 ⟨rfl, ok⟩; have HO5 : Hid (((Below w.heap.size w y5) ∧ BxG y5 w.heap.size (.slice ap np cp)) ∧ BxG y5 (w.heap.size + 1) (.slice aq nq cq)) := HK0.out _ _ HO4.out ok; clear ok HO4 p0 p1 q0 q1; obtain ⟨p0, p1⟩ := HO5.out.1.2; obtain ⟨q0, q1⟩ := HO5.out.2)
          | (have _h := HO5; go_at_call 12; refine (HSB.out _ (HO5.out.1.1)).mono ?_; rintro e y6 ⟨rfl, ok⟩; have HO6 : Hid (((Below w.heap.size w y6) ∧ BxG y6 w.heap.size (.slice ap np cp)) ∧ BxG y6 (w.heap.size + 1) (.slice aq nq cq)) := HK0.out _ _ HO5.out ok; clear ok HO5 p0 p1 q0 q1; obtain ⟨p0, p1⟩ := HO6.out.1.2; obtain ⟨q0, q1⟩ := HO6.out.2))
        go_ret
        exact ⟨by first | rfl | simp, HO6.out.1.1⟩
      · skip
        have HK0 : Hid (KeepP fun w1 => ((Below w.heap.size w w1) ∧ BxG w1 w.heap.size (.slice ap np cp)) ∧ BxG w1 (w.heap.size + 1) (.slice aq nq cq)) := (KeepP.and ((KeepP.and (keepBelow w) (keepBxG _ _))) (keepBxG _ _))
        have HO0 : Hid (((Below w.heap.size w ((w.alloc (.cells #[.slice ap np cp] 24)).alloc (.cells #[.slice aq nq cq] 24))) ∧ BxG ((w.alloc (.cells #[.slice ap np cp] 24)).alloc (.cells #[.slice aq nq cq] 24)) w.heap.size (.slice ap np cp)) ∧ BxG ((w.alloc (.cells #[.slice ap np cp] 24)).alloc (.cells #[.slice aq nq cq] 24)) (w.heap.size + 1) (.slice aq nq cq)) := ⟨⟨below_then (boxB _ _) (boxB _ _), keepBxG _ _ _ _ (BxG.new rfl _) (boxB _ _)⟩, BxG.new (by simp) _⟩
        obtain ⟨p0, p1⟩ := HO0.out.1.2
        obtain ⟨q0, q1⟩ := HO0.out.2
        go_enter Tryd.func5, Tryd.ntmps5
        go_wp2_with (first
          | (have _h := HO0; go_at_call 6; refine (HP.out _ (HO0.out.1.1)).mono ?_; rintro e y1 ⟨rfl, ok⟩; have HO1 : Hid (((Below w.heap.size w y1) ∧ BxG y1 w.heap.size (.slice ap np cp)) ∧ BxG y1 (w.heap.size + 1) (.slice aq nq cq)) := HK0.out _ _ HO0.out ok; clear ok HO0 p0 p1 q0 q1; obtain ⟨p0, p1⟩ := HO1.out.1.2; obtain ⟨q0, q1⟩ := HO1.out.2)
          | (have _h := HO1; go_at_call 6; refine (HQ.out _ (HO1.out.1.1)).mono ?_; rintro e y2 ⟨rfl, ok⟩; have HO2 : Hid (((Below w.heap.size w y2) ∧ BxG y2 w.heap.size (.slice ap np cp)) ∧ BxG y2 (w.heap.size + 1) (.slice aq nq cq)) := HK0.out _ _ HO1.out ok; clear ok HO1 p0 p1 q0 q1; obtain ⟨p0, p1⟩ := HO2.out.1.2; obtain ⟨q0, q1⟩ := HO2.out.2)
          | (have _h := HO2; go_at_call 10; refine (HKN.out _ (HO2.out.1.1)).mono ?_; rintro e y3 ⟨rfl, ok⟩; have HO3 : Hid (((Below w.heap.size w y3) ∧ BxG y3 w.heap.size (.slice ap np cp)) ∧ BxG y3 (w.heap.size + 1) (.slice aq nq cq)) := HK0.out _ _ HO2.out ok; clear ok HO2 p0 p1 q0 q1; obtain ⟨p0, p1⟩ := HO3.out.1.2; obtain ⟨q0, q1⟩ := HO3.out.2)
          | (have _h := HO3; go_at_call 8; refine (HMP.out _ (HO3.out.1.1)).mono ?_; rintro e y4 ⟨rfl, ok⟩; have HO4 : Hid (((Below w.heap.size w y4) ∧ BxG y4 w.heap.size (.slice ap np cp)) ∧ BxG y4 (w.heap.size + 1) (.slice aq nq cq)) := HK0.out _ _ HO3.out ok; clear ok HO3 p0 p1 q0 q1; obtain ⟨p0, p1⟩ := HO4.out.1.2; obtain ⟨q0, q1⟩ := HO4.out.2)
          | (have _h := HO4; go_at_call 8; refine (HMQ.out _ (HO4.out.1.1)).mono ?_; rintro e y5 ⟨rfl, ok⟩; have HO5 : Hid (((Below w.heap.size w y5) ∧ BxG y5 w.heap.size (.slice ap np cp)) ∧ BxG y5 (w.heap.size + 1) (.slice aq nq cq)) := HK0.out _ _ HO4.out ok; clear ok HO4 p0 p1 q0 q1; obtain ⟨p0, p1⟩ := HO5.out.1.2; obtain ⟨q0, q1⟩ := HO5.out.2)
          | (have _h := HO5; go_at_call 12; refine (HSB.out _ (HO5.out.1.1)).mono ?_; rintro e y6 ⟨rfl, ok⟩; have HO6 : Hid (((Below w.heap.size w y6) ∧ BxG y6 w.heap.size (.slice ap np cp)) ∧ BxG y6 (w.heap.size + 1) (.slice aq nq cq)) := HK0.out _ _ HO5.out ok; clear ok HO5 p0 p1 q0 q1; obtain ⟨p0, p1⟩ := HO6.out.1.2; obtain ⟨q0, q1⟩ := HO6.out.2))
        go_ret
        exact ⟨by first | rfl | simp, HO6.out.1.1⟩
end Go.Proofs.YtikplmckjcceaaaDoor
