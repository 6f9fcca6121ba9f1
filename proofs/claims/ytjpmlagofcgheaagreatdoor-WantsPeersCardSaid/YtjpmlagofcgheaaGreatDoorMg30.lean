/- Wd4, We3, laid in one text. -/
import Derived.Test.YtjpmlagofcgheaaGreatDoorMg29
namespace Go.Proofs.YtjpmlagofcgheaaGreatDoor
open Go.RowKit Go.Maps Go.WideMaps
set_option maxRecDepth 100000

set_option maxHeartbeats 25600000 in
theorem wantsInside_walk {w : World} (he : Env w) (hf : FL w) {ap : Option Addr} {cp : Nat} {Ps : List Pg} (hps : PgsAt w (.slice ap Ps.length cp) Ps) (hpz : Ps.length ≤ 9223372036854775807) (hpo : ∀ P ∈ Ps, PgOk P) {x1 x2 x3 x4 : Option Addr} {y1 y2 y3 y4 z1 z2 z3 z4 : Nat} {O : List Dp} (ho : DepsAt w (.slice x4 y4 z4) O) (hol : O.length ≤ 9223372036854775807) (hon : ∀ d ∈ O, d.nm.size ≤ 9223372036854775807) {xe : Option Addr} {ye ze : Nat} {Es : List Pn} (hpe : PinsAt w (.slice xe ye ze) Es) (hel : Es.length ≤ 9223372036854775807) (hen : ∀ q ∈ Es, q.nm.size ≤ 9223372036854775807) (hei : ∀ q ∈ Es, I64 q.a ∧ I64 q.b ∧ I64 q.c) (p : Pn) (hkp : KeyOk p.nm p.a p.b p.c) {xm : Option Addr} {ym zm : Nat} {Ms : List Pn} (hpm : PinsAt w (.slice xm ym zm) Ms) (hml : Ms.length ≤ 1048576) (hmn : ∀ q ∈ Ms, q.nm.size ≤ 9223372036854775807) (hmi : ∀ q ∈ Ms, I64 q.a ∧ I64 q.b ∧ I64 q.c) :
    Calls Tryz.prog 5 #[.agg #[.slice ap Ps.length cp, .slice x1 y1 z1, .slice x2 y2 z2, .slice x3 y3 z3, .slice x4 y4 z4], .slice xe ye ze, .agg #[.string p.nm, .int .i64 p.a, .int .i64 p.b, .int .i64 p.c], .slice xm ym zm] w fun e w' => e = .returned (.bool true) ∧ Below w.heap.size w w' := by
  have HBX : Hid (Below w.heap.size w ((w.alloc (.cells #[.slice ap Ps.length cp, .slice x1 y1 z1, .slice x2 y2 z2, .slice x3 y3 z3, .slice x4 y4 z4] 56)).alloc (.cells #[.string p.nm, .int .i64 p.a, .int .i64 p.b, .int .i64 p.c] 58))) := boxB2 _ _ _
  have HWA : Hid (∀ W0, Below w.heap.size w W0 → Calls Tryz.prog 23 #[.agg #[.slice ap Ps.length cp, .slice x1 y1 z1, .slice x2 y2 z2, .slice x3 y3 z3, .slice x4 y4 z4]] W0 (fun e w' => BothQ W0 w' e)) := fun W0 hb => both_any (he.below hb) (hf.below hb) (hps.below hb) hpz hpo
  have HKN : Hid (∀ W, Below w.heap.size w W → Calls Tryz.prog 24 #[] W fun e w' => e = .returned (.bool true) ∧ Below W.heap.size W w') := fun W hb => known_wa (he.below hb) (hf.below hb)
  have HCG : Hid (∀ (W0 w1 W : World) (C E M : Nat) (L R : List CV) (ve : Value) (Es' : List Pn) (q : Pn), BothAt W0 w1 C E M L R → Below w1.heap.size w1 W → Below w.heap.size w W → PinsAt W ve Es' → Es'.length ≤ 9223372036854775807 → (∀ q ∈ Es', q.nm.size ≤ 9223372036854775807) → (∀ q ∈ Es', I64 q.a ∧ I64 q.b ∧ I64 q.c) → KeyOk q.nm q.a q.b q.c → Calls Tryz.prog 25 #[.pointer (some ⟨C, 0, none⟩), .agg #[.slice x1 y1 z1, .slice x2 y2 z2, .slice x3 y3 z3, .slice x4 y4 z4], ve, .agg #[.string q.nm, .int .i64 q.a, .int .i64 q.b, .int .i64 q.c]] W (CtxW W (TsOk L (ctxC L O Es' q)) (ctxC L O Es' q))) := fun W0 w1 W C E M L R ve Es' q hq h1 hb g1 g2 g3 g4 g5 => (ctx_any (hq.1.1.below h1) hq.1.2 (ho.below hb) hol hon g1 g2 g3 g4 q g5).mono fun e w' h => ctx_w h
  have HCX : Hid (∀ (W0 w1 W : World) (C E M : Nat) (L R : List CV), BothAt W0 w1 C E M L R → Below w1.heap.size w1 W → Below w.heap.size w W → Calls Tryz.prog 25 #[.pointer (some ⟨C, 0, none⟩), .agg #[.slice x1 y1 z1, .slice x2 y2 z2, .slice x3 y3 z3, .slice x4 y4 z4], .slice xe ye ze, .agg #[.string p.nm, .int .i64 p.a, .int .i64 p.b, .int .i64 p.c]] W fun e w' => ∃ r b v ts, r = ctxC L O Es p ∧ b = r.isSome ∧ e = .returned (.tuple #[v, .bool b]) ∧ OwnPn w' W.heap.size v ts ∧ TsOk L r ts ∧ Below W.heap.size W w') := fun W0 w1 W C E M L R hq h1 hb => (HCG.out W0 w1 W C E M L R _ Es p hq h1 hb (hpe.below hb) hel hen hei hkp).mono fun e w' h => by
    obtain ⟨v, ts, h1, h2, h3, h4⟩ := h
    exact ⟨_, _, v, ts, rfl, rfl, h1, h2, h3, h4⟩
  have HPM : Hid (∀ W, Below w.heap.size w W → PinsAt W (.slice xm ym zm) Ms) := fun W hb => hpm.below hb
  have HMS : Hid (Ms.length ≤ 1048576 ∧ (∀ q ∈ Ms, q.nm.size ≤ 9223372036854775807) ∧ ∀ q ∈ Ms, I64 q.a ∧ I64 q.b ∧ I64 q.c) := ⟨hml, hmn, hmi⟩
  have HKP := hide3 hkp
  have HX0 : Hid (WcBx ((w.alloc (.cells #[.slice ap Ps.length cp, .slice x1 y1 z1, .slice x2 y2 z2, .slice x3 y3 z3, .slice x4 y4 z4] 56)).alloc (.cells #[.string p.nm, .int .i64 p.a, .int .i64 p.b, .int .i64 p.c] 58)) w.heap.size (.slice ap Ps.length cp) (.slice x1 y1 z1) (.slice x2 y2 z2) (.slice x3 y3 z3) (.slice x4 y4 z4) p) := WcBx.new _ _ _ _ _ _ _
  obtain ⟨⟨⟨d0, d1, d2, d3, d4⟩, q0, q1, q2, q3⟩, dl⟩ := HX0.out
  clear he hf hps hpz hpo ho hol hon hpe hel hen hei hkp hpm hml hmn hmi
  go_enter Tryz.func5, Tryz.ntmps5
  go_upto_region 1 with fail
  generalize ((w.alloc (.cells #[.slice ap Ps.length cp, .slice x1 y1 z1, .slice x2 y2 z2, .slice x3 y3 z3, .slice x4 y4 z4] 56)).alloc (.cells #[.string p.nm, .int .i64 p.a, .int .i64 p.b, .int .i64 p.c] 58)) = W0 at *
  have HW0 := HBX
  go_upto_region 5 with (first
    | (go_at_call 25; have _t := HW2; refine (HCX.out _ _ _ _ _ _ _ _ HQ.out HB2.out HW2.out).mono ?_; rintro e w3 ⟨r, b, v3, ts, hr, hbs, rfl, ho3, hts, hb3⟩; have HR := hide3 hr; have HBS := hide3 hbs; have HO3 := hide3 ho3; have HT3 := hide3 hts; obtain ⟨a3, a3c, rfl⟩ := own_len ho3; have HB13 := hide3 (below_then HB2.out hb3); clear ho3 hts hr hbs; have HX3 := hide3 (HX2.out.below hb3); have HW3 := hide3 (below_then HW2.out hb3); clear d0 d1 d2 d3 d4 q0 q1 q2 q3 dl; obtain ⟨⟨⟨d0, d1, d2, d3, d4⟩, q0, q1, q2, q3⟩, dl⟩ := HX3.out)
    | (go_at_call 24; refine (HKN.out _ HW1.out).mono ?_; rintro e w2 ⟨rfl, hb2⟩; have HB2 := hide3 hb2; have HX2 := hide3 (HX1.out.below hb2); have HW2 := hide3 (below_then HW1.out hb2); clear d0 d1 d2 d3 d4 q0 q1 q2 q3 dl; obtain ⟨⟨⟨d0, d1, d2, d3, d4⟩, q0, q1, q2, q3⟩, dl⟩ := HX2.out)
    | (go_at_call 23; refine (HWA.out _ HW0.out).mono ?_; rintro e w1 ⟨C, Ec, M, L, R, rfl, hq⟩; have HQ := hide3 hq; have hb1 := hq.2.2.2; clear hq; have HX1 := hide3 (HX0.out.below hb1); have HW1 := hide3 (below_then HW0.out hb1); clear d0 d1 d2 d3 d4 q0 q1 q2 q3 dl; obtain ⟨⟨⟨d0, d1, d2, d3, d4⟩, q0, q1, q2, q3⟩, dl⟩ := HX1.out))
  rcases r with _ | out
  · obtain rfl : b = false := HBS.out
    obtain rfl : ts = [] := HT3.out.1 rfl
    go_wp2_with fail
    go_ret
    exact ⟨rfl, HW3.out⟩
  · obtain rfl : b = true := HBS.out
    obtain ⟨htp, htw, htg⟩ := HT3.out.2 out rfl
    obtain ⟨htn, hti, htk⟩ := good_ts htp htg
    have hol := htg.len (both_peers HQ.out)
    have htl : ts.length ≤ 2048 := by rw [htp.length_eq]; exact hol
    have HNM : Hid (∀ q ∈ ts, q.nm.size ≤ 9223372036854775807) := htn
    have HSO : Hid (SortedN ts) := sorted_n htp htw htg.1
    have HSM : Hid (∀ (W : World) (ve : Value) (mo : List Pn), Below w3.heap.size w3 W → PinsAt W ve (ts ++ mo) → (mo.length ≤ 1048576 ∧ (∀ q ∈ mo, q.nm.size ≤ 9223372036854775807) ∧ ∀ q ∈ mo, I64 q.a ∧ I64 q.b ∧ I64 q.c) → Calls Tryz.prog 25 #[.pointer (some ⟨C, 0, none⟩), .agg #[.slice x1 y1 z1, .slice x2 y2 z2, .slice x3 y3 z3, .slice x4 y4 z4], ve, .agg #[.string p.nm, .int .i64 p.a, .int .i64 p.b, .int .i64 p.c]] W fun e w' => ∃ v, e = .returned (.tuple #[v, .bool true]) ∧ OwnPn w' W.heap.size v ts ∧ Below W.heap.size W w') := fun W ve mo h1 h2 h3 => by
      have e := HCG.out W0 w1 W C Ec M L R ve (ts ++ mo) p HQ.out (below_then HB13.out h1) (below_then HW3.out h1) h2 (by rw [List.length_append]; omega) (fun q hq => (List.mem_append.1 hq).elim (htn q) (h3.2.1 q)) (fun q hq => (List.mem_append.1 hq).elim (hti q) (h3.2.2 q)) HKP.out
      rw [ctx_inside HR.out.symm htp htg mo] at e
      refine e.mono fun e w' h => ?_
      obtain ⟨v, so, g1, g2, g3, g4⟩ := h
      obtain ⟨k1, k2, _⟩ := g3.2 out rfl
      obtain rfl := sorted_two htp htw htg.1 k1 k2
      exact ⟨v, g1, g2, g4⟩
    have HPT : Hid (∀ (W : World) (ve : Value) (i : Nat) (hi : i < ts.length), Below w3.heap.size w3 W → PinsAt W ve ts → Calls Tryz.prog 25 #[.pointer (some ⟨C, 0, none⟩), .agg #[.slice x1 y1 z1, .slice x2 y2 z2, .slice x3 y3 z3, .slice x4 y4 z4], ve, .agg #[.string ts[i].nm, .int .i64 ts[i].a, .int .i64 ts[i].b, .int .i64 ts[i].c]] W fun e w' => ∃ v part, e = .returned (.tuple #[v, .bool true]) ∧ OwnPn w' W.heap.size v part ∧ (∀ x ∈ part, x ∈ ts) ∧ part.length ≤ 100000 ∧ Below W.heap.size W w') := fun W ve i hi h1 h2 => by
      obtain ⟨part, k1, k2⟩ := ctx_part HR.out.symm htp htg hol (List.getElem_mem hi)
      have e := HCG.out W0 w1 W C Ec M L R ve ts ts[i] HQ.out (below_then HB13.out h1) (below_then HW3.out h1) h2 (by omega) htn hti (htk _ (List.getElem_mem hi))
      rw [k1] at e
      refine e.mono fun e w' h => ?_
      obtain ⟨v, so, g1, g2, g3, g4⟩ := h
      obtain ⟨m1, m2, m3⟩ := g3.2 part rfl
      exact ⟨v, so, g1, g2, fun x hx => k2 x (m1.mem_iff.1 hx), ts_len g3 (both_peers HQ.out), g4⟩
    clear htp htw htg htn hti htk hol
    go_upto_region 16 with (first
      | (go_at_call 27; have _t := HO8; refine (lpins_any (own_below HO3.out HW38.out) HO8.out (by omega)).mono ?_; rintro e w9 ⟨rfl, hb9⟩; have HW39 : Hid (Below w3.heap.size w3 w9) := below_then HW38.out hb9)
      | (go_at_call 25; have _t := HPA; refine (HSM.out _ _ _ HW37.out HPA.out HMS.out).mono ?_; rintro e w8 ⟨v8, rfl, ho8, hb8⟩; have HO8 := hide3 ho8; obtain ⟨a8, c8, rfl⟩ := own_len ho8; have HW38 : Hid (Below w3.heap.size w3 w8) := below_then HW37.out hb8; have HX8 := hide3 (HX3.out.below HW38.out); clear ho8 hb8; clear d0 d1 d2 d3 d4 q0 q1 q2 q3 dl; obtain ⟨⟨⟨d0, d1, d2, d3, d4⟩, q0, q1, q2, q3⟩, dl⟩ := HX8.out)
      | (at_builtin; have _t := HO6; refine wp_ownPins (B := w5.heap.size) (wx := w6) (v := .slice a6 ts.length c6) (x := .slice xm ym zm) (ps := ts) (qs := Ms) Tryz.underlying40 rfl (.tmp 69) (.tmp 70) rfl rfl HO6.out HB6.out.size rfl (HPM.out _ (below_then HW3.out HW36.out)) (by have := HMS.out.1; omega) ?_; intro u7 w7 ho7 hg7 hat7; have HPA := hide3 (own_pins ho7); obtain ⟨al, hal⟩ : ∃ l, l = ts ++ Ms := ⟨_, rfl⟩; rw [← hal] at ho7; obtain ⟨a7, c7, rfl⟩ := own_len ho7; clear hal; have HB7 : Hid (Below w5.heap.size w5 w7) := HB6.out.grown hg7 HB6.out.size (fun k hk => (World.ownsRow.lt HO6.out k hk).1); have HW37 : Hid (Below w3.heap.size w3 w7) := below_then HW35.out HB7.out; have HX7 := hide3 (HX3.out.below HW37.out); clear ho7 hg7 hat7; clear d0 d1 d2 d3 d4 q0 q1 q2 q3 dl; obtain ⟨⟨⟨d0, d1, d2, d3, d4⟩, q0, q1, q2, q3⟩, dl⟩ := HX7.out)
      | (at_builtin; have _t := HW35; refine wp_ownPins (B := w5.heap.size) (wx := w5) (v := .slice none 0 0) (x := .slice a3 ts.length a3c) (ps := []) (qs := ts) Tryz.underlying40 rfl (.tmp 66) (.tmp 67) rfl rfl (OwnPn.nil _ _) (Nat.le_refl _) rfl (own_pins (own_below HO3.out HW35.out)) (by simp; omega) ?_; intro u6 w6 ho6 hg6 hat6; rw [List.nil_append] at ho6; have HO6 := hide3 ho6; obtain ⟨a6, c6, rfl⟩ := own_len ho6; have HB6 : Hid (Below w5.heap.size w5 w6) := below_grown hg6 (fun g e => by cases e) (Nat.le_refl _); have HW36 : Hid (Below w3.heap.size w3 w6) := below_then HW35.out HB6.out; have HX6 := hide3 (HX3.out.below HW36.out); clear ho6 hg6 hat6; clear d0 d1 d2 d3 d4 q0 q1 q2 q3 dl; obtain ⟨⟨⟨d0, d1, d2, d3, d4⟩, q0, q1, q2, q3⟩, dl⟩ := HX6.out)
      | (go_at_call 27; have _t := HO4; refine (lpins_any (own_below HO3.out HW34.out) HO4.out (by omega)).mono ?_; rintro e w5 ⟨rfl, hb5⟩; have HW35 : Hid (Below w3.heap.size w3 w5) := below_then HW34.out hb5; have HX5 := hide3 (HX3.out.below HW35.out); clear hb5; clear d0 d1 d2 d3 d4 q0 q1 q2 q3 dl; obtain ⟨⟨⟨d0, d1, d2, d3, d4⟩, q0, q1, q2, q3⟩, dl⟩ := HX5.out)
      | (go_at_call 25; refine (HSM.out _ _ [] (Below.refl _ _) (by rw [List.append_nil]; exact own_pins HO3.out) ⟨Nat.zero_le _, fun q hq => (by cases hq), fun q hq => (by cases hq)⟩).mono ?_; rintro e w4 ⟨v4, rfl, ho4, hb4⟩; have HO4 := hide3 ho4; obtain ⟨a4, c4, rfl⟩ := own_len ho4; have HW34 : Hid (Below w3.heap.size w3 w4) := hb4; have HX4 := hide3 (HX3.out.below hb4); clear ho4 hb4; clear d0 d1 d2 d3 d4 q0 q1 q2 q3 dl; obtain ⟨⟨⟨d0, d1, d2, d3, d4⟩, q0, q1, q2, q3⟩, dl⟩ := HX4.out))
    go_wp2_with fail
    have hgp := guardPn
    clear d0 d1 d2 d3 d4 q0 q1 q2 q3 dl
    go_loopw [18] (fun vi wr => ∃ i : Nat, i ≤ ts.length ∧ vi = .int .i64 i ∧ Below w3.heap.size w3 wr) (fun vi _ => ts.length - (intOf vi).toNat)
    case atStart => exact ⟨0, Nat.zero_le _, rfl, HW39.out⟩
    case round =>
      obtain ⟨i, hi, rfl, hbw⟩ := hrel
      have HB := hide3 hbw
      clear hbw
      by_cases hlt : i < ts.length
      · have hki : (i : Int) < (ts.length : Int) := by omega
        obtain ⟨ga, capa, _, hga, hva, _, ⟨p0, p1, p2, p3⟩, _⟩ := pn_cells HO3.out i hlt
        injection hva with hq1 hq2 hq3
        subst hq1
        clear hq2 hq3
        have HPI : Hid (∀ W, Below w3.heap.size w3 W → PinsAt W (.slice (some ⟨ga, 0, none⟩) ts.length a3c) ts → Calls Tryz.prog 25 #[.pointer (some ⟨C, 0, none⟩), .agg #[.slice x1 y1 z1, .slice x2 y2 z2, .slice x3 y3 z3, .slice x4 y4 z4], .slice (some ⟨ga, 0, none⟩) ts.length a3c, .agg #[.string ts[i].nm, .int .i64 ts[i].a, .int .i64 ts[i].b, .int .i64 ts[i].c]] W fun e w' => ∃ v part, e = .returned (.tuple #[v, .bool true]) ∧ OwnPn w' W.heap.size v part ∧ (∀ x ∈ part, x ∈ ts) ∧ part.length ≤ 100000 ∧ Below W.heap.size W w') := fun W h1 h2 => HPT.out W _ i hlt h1 h2
        have HSX : Hid (∀ j, j + 1 = i → ∃ h : j < ts.length, ltS ts[j].nm ts[i].nm = true) := fun j hj => ⟨by omega, List.pairwise_iff_getElem.1 HSO.out j i (by omega) hlt (by omega)⟩
        obtain ⟨x, hx⟩ : ∃ x, x = ts[i] := ⟨_, rfl⟩
        rw [← hx] at p0 p1 p2 p3 HPI HSX
        have HX := hide3 hx
        clear hx
        by_cases hz : i = 0
        · have hd0 : decide ((0 : Int) < (i : Int)) = false := decide_eq_false (by omega)
          have hd1 : ¬ (0 : Int) < (i : Int) := by omega
          have hd2 : decide (0 < i) = false := decide_eq_false (by omega)
          have hd3 : ¬ 0 < i := by omega
          clear hz
          go_upto_region 19 with fail
          go_quiet (fail)
          go_upto_region 21 with fail
          have HBQ : Hid (Below w3.heap.size w3 (wr.drewN nq)) := Go.Proofs.YtjpmlagofcgheaaGreatDoor.Below.drewN HB.out _
          generalize wr.drewN nq = w10 at *
          have HBR : Hid (Below w3.heap.size w3 w10) := HBQ.out
          have HXR := hide3 (HX3.out.below HBR.out)
          obtain ⟨⟨⟨d0, d1, d2, d3, d4⟩, _, _, _, _⟩, dl⟩ := HXR.out
          have e0 := (HBR.out.cell (p := ⟨ga, i * 4, none⟩) hga).trans p0
          have e1 := (HBR.out.cell (p := ⟨ga, i * 4 + 1, none⟩) hga).trans p1
          have e2 := (HBR.out.cell (p := ⟨ga, i * 4 + 2, none⟩) hga).trans p2
          have e3 := (HBR.out.cell (p := ⟨ga, i * 4 + 3, none⟩) hga).trans p3
          go_region_held3 (fun w' => w'.cell? ⟨w.heap.size, 1, none⟩ = some (.slice x1 y1 z1) ∧ w'.cell? ⟨w.heap.size, 2, none⟩ = some (.slice x2 y2 z2) ∧ w'.cell? ⟨w.heap.size, 3, none⟩ = some (.slice x3 y3 z3) ∧ w'.cell? ⟨w.heap.size, 4, none⟩ = some (.slice x4 y4 z4) ∧ w'.cell? ⟨ga, i * 4, none⟩ = some (.string x.nm) ∧ w'.cell? ⟨ga, i * 4 + 1, none⟩ = some (.int .i64 x.a) ∧ w'.cell? ⟨ga, i * 4 + 2, none⟩ = some (.int .i64 x.b) ∧ w'.cell? ⟨ga, i * 4 + 3, none⟩ = some (.int .i64 x.c)) (go_keep) (first
            | (go_at_call 25; refine (HPI.out _ HBR.out.drew (own_pins (own_below HO3.out HBR.out.drew))).mono ?_; rintro e w6 ⟨v6, part, rfl, ho6, hin6, hln6, hb6⟩; have HO6 := hide3 ho6; have HI6 := hide3 hin6; have HB6 : Hid (Below w3.heap.size w3 w6) := below_then HBR.out.drew hb6; obtain ⟨a6, c6, rfl⟩ := own_len ho6; have HX6 := hide3 (HX3.out.below HB6.out); obtain ⟨⟨⟨_, k1, k2, k3, k4⟩, _, _, _, _⟩, _⟩ := HX6.out; have m0 := (HB6.out.cell (p := ⟨ga, i * 4, none⟩) hga).trans p0; have m1 := (HB6.out.cell (p := ⟨ga, i * 4 + 1, none⟩) hga).trans p1; have m2 := (HB6.out.cell (p := ⟨ga, i * 4 + 2, none⟩) hga).trans p2; have m3 := (HB6.out.cell (p := ⟨ga, i * 4 + 3, none⟩) hga).trans p3; clear ho6 hin6 hb6))
          clear k1 k2 k3 k4 m0 m1 m2 m3
          go_wp2_with fail
          go_loopw [21] (fun vk wr => ∃ k : Nat, k ≤ part.length ∧ vk = .int .i64 k ∧ Below w6.heap.size w6 wr) (fun vk _ => part.length - (intOf vk).toNat)
          case atStart => exact ⟨0, Nat.zero_le _, rfl, Below.refl _ _⟩
          case round =>
            obtain ⟨k, hk, rfl, hbk⟩ := hrel
            have HBK := hide3 hbk
            clear hbk
            by_cases hkt : k < part.length
            · have hkk : (k : Int) < (part.length : Int) := by omega
              obtain ⟨gb, capb, _, hgb, hvb, _, ⟨r0, r1, r2, r3⟩, _⟩ := pn_cells HO6.out k hkt
              injection hvb with hq1 hq2 hq3
              subst hq1
              clear hq2 hq3
              have HY : Hid (part[k] ∈ ts) := HI6.out _ (List.getElem_mem hkt)
              obtain ⟨y, hy⟩ : ∃ y, y = part[k] := ⟨_, rfl⟩
              rw [← hy] at r0 r1 r2 r3 HY
              clear hy
              go_wp2_with fail
              go_loopw [22, 23] (fun vn vj wq => ∃ j : Nat, j ≤ ts.length ∧ vj = .int .i64 j ∧ vn = .bool ((ts.take j).any fun x => eqPn x y) ∧ Below w6.heap.size w6 wq) (fun _ vj _ => ts.length - (intOf vj).toNat)
              case atStart => exact ⟨0, Nat.zero_le _, rfl, by simp, HBK.out⟩
              case round =>
                obtain ⟨j, hj, rfl, rfl, hbj⟩ := hrel
                have HBJ := hide3 hbj
                clear hbj
                by_cases hjt : j < ts.length
                · have hjk : (j : Int) < (ts.length : Int) := by omega
                  obtain ⟨gc, capc, _, hgc, hvc, _, ⟨s0, s1, s2, s3⟩, _⟩ := pn_cells HO3.out j hjt
                  injection hvc with hq1 hq2 hq3
                  injection hq1 with hq1
                  injection hq1 with hq1
                  subst hq1
                  clear hq2 hq3
                  have HTK : Hid ((ts.take (j + 1)).any (fun x => eqPn x y) = ((ts.take j).any (fun x => eqPn x y) || eqPn ts[j] y)) := by
                    unfold Hid
                    rw [List.take_succ_eq_append_getElem hjt, List.any_append]
                    simp
                  obtain ⟨x', hx'⟩ : ∃ x', x' = ts[j] := ⟨_, rfl⟩
                  rw [← hx'] at s0 s1 s2 s3 HTK
                  clear hx'
                  have HB3J : Hid (Below w3.heap.size w3 wr) := below_then HB6.out HBJ.out
                  have f0 := (HB3J.out.cell (p := ⟨ga, j * 4, none⟩) hgc).trans s0
                  have f1 := (HB3J.out.cell (p := ⟨ga, j * 4 + 1, none⟩) hgc).trans s1
                  have f2 := (HB3J.out.cell (p := ⟨ga, j * 4 + 2, none⟩) hgc).trans s2
                  have f3 := (HB3J.out.cell (p := ⟨ga, j * 4 + 3, none⟩) hgc).trans s3
                  have h0 := (HBJ.out.cell (p := ⟨gb, k * 4, none⟩) hgb).trans r0
                  have h1 := (HBJ.out.cell (p := ⟨gb, k * 4 + 1, none⟩) hgb).trans r1
                  have h2 := (HBJ.out.cell (p := ⟨gb, k * 4 + 2, none⟩) hgb).trans r2
                  have h3 := (HBJ.out.cell (p := ⟨gb, k * 4 + 3, none⟩) hgb).trans r3
                  clear s0 s1 s2 s3
                  have hep := eqlPn x' y
                  generalize eqPn x' y = bq at *
                  generalize (ts.take j).any (fun x => eqPn x y) = bn at *
                  cases bn
                  · go_wp2_with fail
                    go_quiet (fail)
                    go_wp2_with fail
                    exact ⟨⟨j + 1, by omega, by go_num, by rw [HTK.out]; rfl, Go.Proofs.YtjpmlagofcgheaaGreatDoor.Below.drewN HBJ.out _⟩, by simp [intOf]; omega⟩
                  · go_wp2_with fail
                    go_quiet (fail)
                    go_wp2_with fail
                    exact ⟨⟨j + 1, by omega, by go_num, by rw [HTK.out]; rfl, Go.Proofs.YtjpmlagofcgheaaGreatDoor.Below.drewN HBJ.out _⟩, by simp [intOf]; omega⟩
                · obtain rfl : j = ts.length := by omega
                  have hjk : ¬ ((ts.length : Int) < (ts.length : Int)) := by omega
                  have hall : (ts.take ts.length).any (fun x => eqPn x y) = true := by
                    rw [List.take_length]
                    exact List.any_eq_true.2 ⟨y, HY.out, eqPn_iff.2 rfl⟩
                  rw [hall]
                  go_wp2_with fail
                  exact ⟨⟨k + 1, by omega, by go_num, HBJ.out⟩, by simp [intOf]; omega⟩
            · obtain rfl : k = part.length := by omega
              have hkk : ¬ ((part.length : Int) < (part.length : Int)) := by omega
              go_wp2_with fail
              exact ⟨⟨i + 1, by omega, by go_num, below_then HB6.out HBK.out⟩, by simp [intOf]; omega⟩
        · obtain ⟨j, hj⟩ : ∃ j, j + 1 = i := ⟨i - 1, by omega⟩
          obtain ⟨hjt, hls⟩ := HSX.out j hj
          have hd1 : (0 : Int) < (i : Int) := by omega
          have hd3 : 0 < i := by omega
          have hwr1 : IntKind.i64.wrap ((i : Int) - 1) = (i : Int) - 1 := by simp [IntKind.wrap, IntKind.bits, IntKind.signed]; omega
          have hwr2 : wrap64 ((i : Int) - 1) = (i : Int) - 1 := by unfold wrap64; omega
          have hj0 : (0 : Int) ≤ (i : Int) - 1 := by omega
          have hj1 : (i : Int) - 1 < (ts.length : Int) := by omega
          have hj2 : ((i : Int) - 1).toNat = j := by omega
          have hj3 : ¬ (i : Int) - 1 < 0 := by omega
          have hq1 : (1 : Int) ≤ (i : Int) := by omega
          have hq2 : 1 ≤ i := by omega
          have hq3 : (i : Int) ≤ (ts.length : Int) := by omega
          have hq4 : (i : Int) < (ts.length : Int) + 1 := by omega
          obtain ⟨gd, capd, _, hgd, hvd, _, ⟨s0, s1, s2, s3⟩, _⟩ := pn_cells HO3.out j hjt
          injection hvd with hr1 hr2 hr3
          injection hr1 with hr1
          injection hr1 with hr1
          subst hr1
          clear hr2 hr3 s1 s2 s3
          have HLS : Hid (∀ W, Calls Tryz.prog 28 #[.string ts[j].nm, .string x.nm] W fun e w' => e = .returned (.bool true) ∧ Below W.heap.size W w') := fun W => by
            have e := rLess5_any ts[j].nm x.nm W (HNM.out _ (List.getElem_mem hjt))
            rw [hls] at e
            exact e
          obtain ⟨yn, hyn⟩ : ∃ y, y = ts[j].nm := ⟨_, rfl⟩
          rw [← hyn] at HLS s0
          clear hyn hls hj hz HSX
          have HK : Hid (KeepP fun w1 => Below w3.heap.size w3 w1 ∧ Sc.CellK w1 ga (i * 4) (.string x.nm) ∧ Sc.CellK w1 ga (j * 4) (.string yn)) := KeepP.and (keepBelow w3) (KeepP.and (keepCk _ _ _) (keepCk _ _ _))
          have hgaw : ga < wr.heap.size := Nat.lt_of_lt_of_le hga HB.out.size
          have HO : Hid (Below w3.heap.size w3 wr ∧ Sc.CellK wr ga (i * 4) (.string x.nm) ∧ Sc.CellK wr ga (j * 4) (.string yn)) := ⟨HB.out, ⟨(HB.out.cell (p := ⟨ga, i * 4, none⟩) hga).trans p0, hgaw⟩, ⟨(HB.out.cell (p := ⟨ga, j * 4, none⟩) hga).trans s0, hgaw⟩⟩
          go_upto_region 19 with fail
          refine wp_region_keep HK.out (by kernel_rfl) (by kernel_rfl) (by first | exact HO.out | exact HK.out.drew HO.out) ?_
          intro C hin hout
          have HIN := hide3 hin
          have HOUT := hide3 hout
          clear hin hout HO
          repeat
            (with_reducible refine wpQuiet_step (fun K hK => ?_)
             go_simp
             first
               | (refine hK _ ?_; clear hK K)
               | (apply Exists.intro; refine ⟨fun w1 hC => ?_, hK _ ?_⟩; (focus ((first | (go_at_call 28; with_reducible exact callC HIN.out HOUT.out HK.out HLS.out w1 hC) | (exact rfl) | (obtain ⟨hb10, ⟨t0, _⟩, ⟨t1, _⟩⟩ := HOUT.out w1 hC; clear hC; go_simp; first | done | exact rfl)); done)); clear hK K))
          refine wpQuiet_nil ?_
          intro w10 hC
          have HO := hide3 (HOUT.out _ hC)
          clear hC HIN HOUT C
          obtain ⟨hb10, ⟨t0, _⟩, ⟨t1, _⟩⟩ := HO.out
          clear t0 t1
          go_upto_region 21 with fail
          have HBR : Hid (Below w3.heap.size w3 w10) := hb10
          have HXR := hide3 (HX3.out.below HBR.out)
          obtain ⟨⟨⟨d0, d1, d2, d3, d4⟩, _, _, _, _⟩, dl⟩ := HXR.out
          have e0 := (HBR.out.cell (p := ⟨ga, i * 4, none⟩) hga).trans p0
          have e1 := (HBR.out.cell (p := ⟨ga, i * 4 + 1, none⟩) hga).trans p1
          have e2 := (HBR.out.cell (p := ⟨ga, i * 4 + 2, none⟩) hga).trans p2
          have e3 := (HBR.out.cell (p := ⟨ga, i * 4 + 3, none⟩) hga).trans p3
          go_region_held3 (fun w' => w'.cell? ⟨w.heap.size, 1, none⟩ = some (.slice x1 y1 z1) ∧ w'.cell? ⟨w.heap.size, 2, none⟩ = some (.slice x2 y2 z2) ∧ w'.cell? ⟨w.heap.size, 3, none⟩ = some (.slice x3 y3 z3) ∧ w'.cell? ⟨w.heap.size, 4, none⟩ = some (.slice x4 y4 z4) ∧ w'.cell? ⟨ga, i * 4, none⟩ = some (.string x.nm) ∧ w'.cell? ⟨ga, i * 4 + 1, none⟩ = some (.int .i64 x.a) ∧ w'.cell? ⟨ga, i * 4 + 2, none⟩ = some (.int .i64 x.b) ∧ w'.cell? ⟨ga, i * 4 + 3, none⟩ = some (.int .i64 x.c)) (go_keep) (first
            | (go_at_call 25; refine (HPI.out _ HBR.out.drew (own_pins (own_below HO3.out HBR.out.drew))).mono ?_; rintro e w6 ⟨v6, part, rfl, ho6, hin6, hln6, hb6⟩; have HO6 := hide3 ho6; have HI6 := hide3 hin6; have HB6 : Hid (Below w3.heap.size w3 w6) := below_then HBR.out.drew hb6; obtain ⟨a6, c6, rfl⟩ := own_len ho6; have HX6 := hide3 (HX3.out.below HB6.out); obtain ⟨⟨⟨_, k1, k2, k3, k4⟩, _, _, _, _⟩, _⟩ := HX6.out; have m0 := (HB6.out.cell (p := ⟨ga, i * 4, none⟩) hga).trans p0; have m1 := (HB6.out.cell (p := ⟨ga, i * 4 + 1, none⟩) hga).trans p1; have m2 := (HB6.out.cell (p := ⟨ga, i * 4 + 2, none⟩) hga).trans p2; have m3 := (HB6.out.cell (p := ⟨ga, i * 4 + 3, none⟩) hga).trans p3; clear ho6 hin6 hb6))
          clear k1 k2 k3 k4 m0 m1 m2 m3
          go_wp2_with fail
          go_loopw [21] (fun vk wr => ∃ k : Nat, k ≤ part.length ∧ vk = .int .i64 k ∧ Below w6.heap.size w6 wr) (fun vk _ => part.length - (intOf vk).toNat)
          case atStart => exact ⟨0, Nat.zero_le _, rfl, Below.refl _ _⟩
          case round =>
            obtain ⟨k, hk, rfl, hbk⟩ := hrel
            have HBK := hide3 hbk
            clear hbk
            by_cases hkt : k < part.length
            · have hkk : (k : Int) < (part.length : Int) := by omega
              obtain ⟨gb, capb, _, hgb, hvb, _, ⟨r0, r1, r2, r3⟩, _⟩ := pn_cells HO6.out k hkt
              injection hvb with hq1 hq2 hq3
              subst hq1
              clear hq2 hq3
              have HY : Hid (part[k] ∈ ts) := HI6.out _ (List.getElem_mem hkt)
              obtain ⟨y, hy⟩ : ∃ y, y = part[k] := ⟨_, rfl⟩
              rw [← hy] at r0 r1 r2 r3 HY
              clear hy
              go_wp2_with fail
              go_loopw [22, 23] (fun vn vj wq => ∃ j : Nat, j ≤ ts.length ∧ vj = .int .i64 j ∧ vn = .bool ((ts.take j).any fun x => eqPn x y) ∧ Below w6.heap.size w6 wq) (fun _ vj _ => ts.length - (intOf vj).toNat)
              case atStart => exact ⟨0, Nat.zero_le _, rfl, by simp, HBK.out⟩
              case round =>
                obtain ⟨j, hj, rfl, rfl, hbj⟩ := hrel
                have HBJ := hide3 hbj
                clear hbj
                by_cases hjt : j < ts.length
                · have hjk : (j : Int) < (ts.length : Int) := by omega
                  obtain ⟨gc, capc, _, hgc, hvc, _, ⟨s0, s1, s2, s3⟩, _⟩ := pn_cells HO3.out j hjt
                  injection hvc with hq1 hq2 hq3
                  injection hq1 with hq1
                  injection hq1 with hq1
                  subst hq1
                  clear hq2 hq3
                  have HTK : Hid ((ts.take (j + 1)).any (fun x => eqPn x y) = ((ts.take j).any (fun x => eqPn x y) || eqPn ts[j] y)) := by
                    unfold Hid
                    rw [List.take_succ_eq_append_getElem hjt, List.any_append]
                    simp
                  obtain ⟨x', hx'⟩ : ∃ x', x' = ts[j] := ⟨_, rfl⟩
                  rw [← hx'] at s0 s1 s2 s3 HTK
                  clear hx'
                  have HB3J : Hid (Below w3.heap.size w3 wr) := below_then HB6.out HBJ.out
                  have f0 := (HB3J.out.cell (p := ⟨ga, j * 4, none⟩) hgc).trans s0
                  have f1 := (HB3J.out.cell (p := ⟨ga, j * 4 + 1, none⟩) hgc).trans s1
                  have f2 := (HB3J.out.cell (p := ⟨ga, j * 4 + 2, none⟩) hgc).trans s2
                  have f3 := (HB3J.out.cell (p := ⟨ga, j * 4 + 3, none⟩) hgc).trans s3
                  have h0 := (HBJ.out.cell (p := ⟨gb, k * 4, none⟩) hgb).trans r0
                  have h1 := (HBJ.out.cell (p := ⟨gb, k * 4 + 1, none⟩) hgb).trans r1
                  have h2 := (HBJ.out.cell (p := ⟨gb, k * 4 + 2, none⟩) hgb).trans r2
                  have h3 := (HBJ.out.cell (p := ⟨gb, k * 4 + 3, none⟩) hgb).trans r3
                  clear s0 s1 s2 s3
                  have hep := eqlPn x' y
                  generalize eqPn x' y = bq at *
                  generalize (ts.take j).any (fun x => eqPn x y) = bn at *
                  cases bn
                  · go_wp2_with fail
                    go_quiet (fail)
                    go_wp2_with fail
                    exact ⟨⟨j + 1, by omega, by go_num, by rw [HTK.out]; rfl, Go.Proofs.YtjpmlagofcgheaaGreatDoor.Below.drewN HBJ.out _⟩, by simp [intOf]; omega⟩
                  · go_wp2_with fail
                    go_quiet (fail)
                    go_wp2_with fail
                    exact ⟨⟨j + 1, by omega, by go_num, by rw [HTK.out]; rfl, Go.Proofs.YtjpmlagofcgheaaGreatDoor.Below.drewN HBJ.out _⟩, by simp [intOf]; omega⟩
                · obtain rfl : j = ts.length := by omega
                  have hjk : ¬ ((ts.length : Int) < (ts.length : Int)) := by omega
                  have hall : (ts.take ts.length).any (fun x => eqPn x y) = true := by
                    rw [List.take_length]
                    exact List.any_eq_true.2 ⟨y, HY.out, eqPn_iff.2 rfl⟩
                  rw [hall]
                  go_wp2_with fail
                  exact ⟨⟨k + 1, by omega, by go_num, HBJ.out⟩, by simp [intOf]; omega⟩
            · obtain rfl : k = part.length := by omega
              have hkk : ¬ ((part.length : Int) < (part.length : Int)) := by omega
              go_wp2_with fail
              exact ⟨⟨i + 1, by omega, by go_num, below_then HB6.out HBK.out⟩, by simp [intOf]; omega⟩
      · obtain rfl : i = ts.length := by omega
        have hki : ¬ ((ts.length : Int) < (ts.length : Int)) := by omega
        go_wp2_with fail
        go_ret
        exact ⟨rfl, below_then HW3.out HB.out⟩
end Go.Proofs.YtjpmlagofcgheaaGreatDoor
namespace Go.Proofs.YtjpmlagofcgheaaGreatDoor
open Go.RowKit Go.Maps Go.WideMaps
set_option maxRecDepth 100000

/-- The peers of a package, by its pin. -/
def peersOf (L : List CV) (q : Pn) : List Dp := match catC L q.nm q.a q.b q.c with
  | some x => x.pg.p
  | none => []
/-- All that is asked for. -/
def askL (L : List CV) (O : List Dp) (p : Pn) (ts : List Pn) : List Dp := peersD O (peersOf L p) ++ ts.flatMap fun q => peersD O (peersOf L q)

theorem besL_each {O : List Dp} {E : List Pn} : ∀ {ds : List Dp} {ps : List Pn}, besL O E ds = some ps → ∀ d ∈ ds, ∃ q ∈ ps, besP O E d = some q
  | [], ps, h, d, hd => by cases hd
  | e :: ds, ps, h, d, hd => by
    cases hb : besP O E e with
    | none => rw [besL_none hb] at h; cases h
    | some p =>
      rw [besL_some hb] at h
      obtain ⟨qs, h1, rfl⟩ := Option.map_eq_some_iff.1 h
      rcases List.mem_cons.1 hd with rfl | hd
      · exact ⟨p, List.mem_cons_self, hb⟩
      · obtain ⟨q, h2, h3⟩ := besL_each h1 d hd
        exact ⟨q, List.mem_cons_of_mem _ h2, h3⟩

theorem besL_from {O : List Dp} {E : List Pn} : ∀ {ds : List Dp} {ps : List Pn}, besL O E ds = some ps → ∀ q ∈ ps, ∃ d ∈ ds, d.nm = q.nm
  | [], ps, h, q, hq => by
    cases h
    cases hq
  | e :: ds, ps, h, q, hq => by
    cases hb : besP O E e with
    | none => rw [besL_none hb] at h; cases h
    | some p =>
      rw [besL_some hb] at h
      obtain ⟨qs, h1, rfl⟩ := Option.map_eq_some_iff.1 h
      rcases List.mem_cons.1 hq with rfl | hq
      · exact ⟨e, List.mem_cons_self, (besP_told hb).1.symm⟩
      · obtain ⟨d, h2, h3⟩ := besL_from h1 q hq
        exact ⟨d, List.mem_cons_of_mem _ h2, h3⟩

theorem besP_in {O : List Dp} {E : List Pn} {d : Dp} {q : Pn} (h : besP O E d = some q) : inL (rangeD O d) q.a q.b q.c = true := by
  unfold besP at h
  cases hf : E.find? (isN d.nm) with
  | none => rw [hf] at h; cases h
  | some r =>
    rw [hf] at h
    dsimp only at h
    split at h
    · rename_i hin
      cases h
      exact hin
    · cases h

theorem besC_of {L : List CV} {O : List Dp} {E : List Pn} {y : Pn} {ps : List Pn} (h : besC L O E y.nm y.a y.b y.c = some ps) : (∃ x, catC L y.nm y.a y.b y.c = some x ∧ x.pg.p = peersOf L y) ∧ besL O E (peersOf L y) = some ps := by
  unfold besC at h
  unfold peersOf
  cases hc : catC L y.nm y.a y.b y.c with
  | none => rw [hc] at h; cases h
  | some x => rw [hc] at h; exact ⟨⟨x, rfl, rfl⟩, h⟩

/-- What lies in a context was asked for. -/
theorem ctxF_from {L : List CV} {O : List Dp} {E : List Pn} : ∀ {f : Nat} {rs od out : List Pn}, ctxF L O E f rs od = some out → ∀ z ∈ out, z ∈ od ∨ ∃ y, (y ∈ rs ∨ y ∈ out) ∧ ∃ ps, besC L O E y.nm y.a y.b y.c = some ps ∧ z ∈ ps
  | f, [], od, out, h, z, hz => by
    rw [ctxF_nil] at h
    cases h
    exact Or.inl hz
  | 0, _ :: _, od, out, h, _, _ => by cases h
  | f + 1, x :: rs, od, out, h, z, hz => by
    obtain ⟨ps, h1, h2⟩ := ctxF_step h
    rcases ctxF_from h2 z hz with q | ⟨y, hy, qs, h3, h4⟩
    · rcases List.mem_append.1 q with q | q
      · exact Or.inl q
      · exact Or.inr ⟨x, Or.inl List.mem_cons_self, ps, h1, freshN_mem q⟩
    · rcases hy with hy | hy
      · rcases List.mem_append.1 hy with hy | hy
        · exact Or.inr ⟨y, Or.inl (List.mem_cons_of_mem _ hy), qs, h3, h4⟩
        · exact Or.inr ⟨y, Or.inr (ctxF_mono h2 y (List.mem_append_right _ hy)), qs, h3, h4⟩
      · exact Or.inr ⟨y, Or.inr hy, qs, h3, h4⟩

/-- All of a context is closed: the package itself, too. -/
theorem ctx_closed {L : List CV} {O : List Dp} {E out : List Pn} {p : Pn} (h : ctxC L O E p = some out) {y : Pn} (hy : y = p ∨ y ∈ out) : ClosedP L O E out y := by
  have hto := ctxF_told h fun q hq => (by cases hq)
  have hc := ctxF_closed h hto
  rcases hy with rfl | hy
  · exact hc.1 _ List.mem_cons_self
  · exact (hc.2 y hy).resolve_left fun k => by cases k

theorem ask_there {L : List CV} {O : List Dp} {E ts out : List Pn} {p : Pn} (h : ctxC L O E p = some out) (ht : ts.Perm out) {y : Pn} (hy : y = p ∨ y ∈ ts) : ∃ x, catC L y.nm y.a y.b y.c = some x ∧ x.pg.p = peersOf L y := by
  obtain ⟨ps, h1, _⟩ := ctx_closed h (y := y) (hy.imp id ht.mem_iff.1)
  exact (besC_of h1).1

theorem ask_mem {L : List CV} {O : List Dp} {p : Pn} {ts : List Pn} {e : Dp} (he : e ∈ askL L O p ts) : ∃ y, (y = p ∨ y ∈ ts) ∧ ∃ d ∈ peersOf L y, e = ⟨d.nm, rangeD O d⟩ := by
  unfold askL at he
  rcases List.mem_append.1 he with he | he
  · obtain ⟨d, hd, rfl⟩ := List.mem_map.1 he
    exact ⟨p, Or.inl rfl, d, hd, rfl⟩
  · obtain ⟨y, hy, he⟩ := List.mem_flatMap.1 he
    obtain ⟨d, hd, rfl⟩ := List.mem_map.1 he
    exact ⟨y, Or.inr hy, d, hd, rfl⟩

theorem mem_ask {L : List CV} {O : List Dp} {p : Pn} {ts : List Pn} {y : Pn} (hy : y = p ∨ y ∈ ts) {d : Dp} (hd : d ∈ peersOf L y) : (⟨d.nm, rangeD O d⟩ : Dp) ∈ askL L O p ts := by
  unfold askL
  rcases hy with rfl | hy
  · exact List.mem_append_left _ (List.mem_map.2 ⟨d, hd, rfl⟩)
  · exact List.mem_append_right _ (List.mem_flatMap.2 ⟨y, hy, List.mem_map.2 ⟨d, hd, rfl⟩⟩)

theorem ask_in {L : List CV} {O : List Dp} {E ts out : List Pn} {p : Pn} (h : ctxC L O E p = some out) (ht : ts.Perm out) {e : Dp} (he : e ∈ askL L O p ts) : ∃ q ∈ ts, q.nm = e.nm ∧ inL e.rg q.a q.b q.c = true := by
  obtain ⟨y, hy, d, hd, rfl⟩ := ask_mem he
  obtain ⟨ps, h1, h2⟩ := ctx_closed h (y := y) (hy.imp id ht.mem_iff.1)
  obtain ⟨q, h3, h4⟩ := besL_each (besC_of h1).2 d hd
  exact ⟨q, ht.mem_iff.2 (h2 q h3), (besP_told h4).1, besP_in h4⟩

theorem ask_has {L : List CV} {O : List Dp} {E ts out : List Pn} {p : Pn} (h : ctxC L O E p = some out) (ht : ts.Perm out) {q : Pn} (hq : q ∈ ts) : ∃ e ∈ askL L O p ts, e.nm = q.nm := by
  rcases ctxF_from h q (ht.mem_iff.1 hq) with k | ⟨y, hy, ps, h1, h2⟩
  · cases k
  · obtain ⟨d, h3, h4⟩ := besL_from (besC_of h1).2 q h2
    refine ⟨_, mem_ask (y := y) ?_ h3, h4⟩
    rcases hy with hy | hy
    · exact Or.inl (List.mem_singleton.1 hy)
    · exact Or.inr (ht.mem_iff.2 hy)

theorem ask_snoc {L : List CV} {O : List Dp} {p : Pn} {ts : List Pn} {i : Nat} (hi : i < ts.length) : askL L O p (ts.take (i + 1)) = askL L O p (ts.take i) ++ peersD O (peersOf L ts[i]) := by
  unfold askL
  rw [List.take_succ_eq_append_getElem hi, List.flatMap_append, List.append_assoc]
  simp

theorem ask_len {L : List CV} {O : List Dp} {p : Pn} {ts : List Pn} (h : ∀ y, y = p ∨ y ∈ ts → (peersOf L y).length ≤ 16) : (askL L O p ts).length ≤ 16 * (ts.length + 1) := by
  have e : ∀ l : List Pn, (∀ y ∈ l, (peersOf L y).length ≤ 16) → (l.flatMap fun q => peersD O (peersOf L q)).length ≤ 16 * l.length := by
    intro l
    induction l with
    | nil => intro _; simp
    | cons x l ih =>
      intro hl
      rw [List.flatMap_cons, List.length_append, List.length_cons]
      have h1 := ih fun y hy => hl y (List.mem_cons_of_mem _ hy)
      have h2 : (peersD O (peersOf L x)).length ≤ 16 := by unfold peersD; rw [List.length_map]; exact hl x List.mem_cons_self
      omega
  have h1 := e ts fun y hy => h y (Or.inr hy)
  have h2 : (peersD O (peersOf L p)).length ≤ 16 := by unfold peersD; rw [List.length_map]; exact h p (Or.inl rfl)
  unfold askL
  rw [List.length_append]
  omega

theorem fitP_of {O ds : List Dp} (hO : ∀ d ∈ O, d.rg.length * 48 ≤ 140737488355328) (h : SmD ds) : FitP O ds := by
  refine ⟨Nat.le_trans h.1 (by decide), fun d hd => ⟨Nat.le_trans (h.2 d hd).1 (by decide), ?_⟩⟩
  unfold rangeD
  cases hf : O.find? (isD d.nm) with
  | none => dsimp only; have := (h.2 d hd).2; omega
  | some o => exact hO o (List.mem_of_find?_eq_some hf)

theorem dpCells_two (ps qs : List (Dp × Value)) : dpCells (ps ++ qs) = dpCells ps ++ dpCells qs := by
  unfold dpCells
  rw [List.flatMap_append]

theorem dp_ones {w : World} {B : Nat} {v : Value} {qs : List (Dp × Value)} (h : OwnD w B v qs) : ∀ u ∈ dpCells qs, u.oneCell' = true := fun u hu => by
  unfold dpCells at hu
  obtain ⟨x, hx, hu⟩ := List.mem_flatMap.1 hu
  obtain ⟨a, c, e, _⟩ := (h.2 x hx).sp
  simp at hu
  rcases hu with rfl | rfl
  · rfl
  · rw [e]
    rfl

/-- A row of deps of one's own, put behind another one. -/
theorem OwnD.two {W w1 : World} {B B' : Nat} {vo vq v1 : Value} {ps qs : List (Dp × Value)} (h : OwnD W B vo ps) (h' : OwnD W B' vq qs) (hBB : B ≤ B') (ho : w1.ownsRow B 70 2 v1 (ps.length + qs.length) (dpCells ps ++ dpCells qs)) (hg : W.grownBy w1 vo.ownBlock) : OwnD w1 B v1 (ps ++ qs) := by
  refine ⟨?_, fun p hp => ?_⟩
  · rw [List.length_append, dpCells_two]
    exact ho
  · rcases List.mem_append.1 hp with hp | hp
    · exact World.ownsRow.kept (h.2 p hp) hg (own_apart (h.2 p hp) h.1 (by decide))
    · exact World.ownsRow.kept ((h'.2 p hp).base hBB) hg (own_apart (h'.2 p hp) h.1 (by decide))

/-- What Get answers of a package that is there. -/
def GetQ (W : World) (ds : List Dp) (e : Ending) (w' : World) : Prop := ∃ nm a b c p1 q1 r1 p2 r2 p3 q3 r3 ps, e = .returned (.tuple #[.agg #[.string nm, .int .i64 a, .int .i64 b, .int .i64 c, .slice p1 q1 r1, .slice p2 ds.length r2, .slice p3 q3 r3], .bool true]) ∧ (OwnD w' W.heap.size (.slice p2 ds.length r2) ps ∧ ps.map (·.1) = ds) ∧ Below W.heap.size W w'

theorem get_q {w : World} {B C Q : Nat} {L : List CV} (h : CatAt w B C Q L) {y : Pn} {x : CV} (hx : catC L y.nm y.a y.b y.c = some x) (hp : x.pg.p = peersOf L y) : Calls Tryz.prog 13 #[.pointer (some ⟨C, 0, none⟩), .string y.nm, .agg #[.int .i64 y.a, .int .i64 y.b, .int .i64 y.c]] w (GetQ w (peersOf L y)) := by
  rw [← hp]
  obtain ⟨_, h1, h2, h3, h4, _⟩ := h.find hx
  obtain ⟨P, u1, u2, u3⟩ := x
  simp only at h1 h2 h3 h4
  rw [← h1, ← h2, ← h3, ← h4] at hx ⊢
  refine (get_some h hx).mono ?_
  rintro e w' ⟨v1, v2, v3, rfl, ho, hb⟩
  obtain ⟨p1, q1, r1, rfl⟩ := own_sl1 ho
  obtain ⟨p3, q3, r3, rfl⟩ := own_sl3 ho
  obtain ⟨_, qs, _, _, ⟨g1, g2⟩, _⟩ := ho
  obtain ⟨p2, r2, rfl⟩ := g1.len
  have e : qs.length = P.p.length := by rw [← g2, List.length_map]
  rw [e] at g1 ⊢
  exact ⟨_, _, _, _, p1, q1, r1, p2, r2, p3, q3, r3, qs, rfl, ⟨g1, g2⟩, hb⟩
end Go.Proofs.YtjpmlagofcgheaaGreatDoor
