/- Lk13, Lk14, Lk15, laid in one text. -/
import Derived.Test.YtjbohacllhjgmaaGreatDoorMg06
namespace Go.Proofs.YtjbohacllhjgmaaGreatDoor
open Go.RowKit
open Sc (KeepP hide3 keepBelow Bs ba WordsAt)
set_option maxRecDepth 100000

/-- What a take answers: the nodes behind it, or no. -/
def TakeQ (R : Nat) (w : World) (r : Option (List Nd)) (e : Ending) (w' : World) : Prop := Below R w w' ∧ ((∃ st, r = some st ∧ e = .returned (.bool true) ∧ RS R st w') ∨ (r = none ∧ e = .returned (.bool false)))
def nd0 : Nd := ⟨⟨#[]⟩, 0, 0, 0, [], []⟩
def firstR (st : List Nd) (ws : List Bs) : Option (List Nd) := if ws = [] then some (st ++ [nd0]) else none
def laterR (st : List Nd) (ws : List Bs) : Option (List Nd) := if (pinR ws).2 = true then some (st ++ [⟨(pinR ws).1.nm, (pinR ws).1.a, (pinR ws).1.b, (pinR ws).1.c, [], []⟩]) else none
def pinsR (st : List Nd) (ws : List Bs) : Option (List Nd) := if (pinR ws).2 = true ∧ lastE st = [] then some (modLast (addP (pinR ws).1) st) else none
def edgesR (st : List Nd) (ws : List Bs) : Option (List Nd) := if (edgR ws).2 = true then some (modLast (addE (edgR ws).1) st) else none
theorem TakeQ.no {R : Nat} {w w' : World} {r : Option (List Nd)} (h : r = none) (hb : Below R w w') : TakeQ R w r (.returned (.bool false)) w' := ⟨hb, Or.inr ⟨h, rfl⟩⟩
theorem TakeQ.yes {R : Nat} {w w' : World} {r : Option (List Nd)} {st : List Nd} (h : r = some st) (hb : Below R w w') (hs : RS R st w') : TakeQ R w r (.returned (.bool true)) w' := ⟨hb, Or.inl ⟨st, h, rfl, hs⟩⟩
theorem RS.low {R : Nat} {st : List Nd} {w w' : World} (h : RS R st w) (hb : Below w.heap.size w w') : Below R w w' := hb.mono (Nat.le_of_lt h.1.1)

set_option maxHeartbeats 3200000 in
theorem takeFirst_any {R : Nat} {st : List Nd} {w : World} {vw : Value} {ws : List Bs} (h : RS R st w) (hlen : st.length ≤ 1000000) (hw : WordsAt w vw ws) : Calls Tryz.prog 35 #[.pointer (some ⟨R, 0, none⟩), vw] w (TakeQ R w (firstR st ws)) := by
  obtain ⟨ad, cap, rfl, _, _⟩ := hw
  have HBG : Hid (Calls Tryz.prog 52 #[.pointer (some ⟨R, 0, none⟩), .agg #[.string ⟨#[]⟩, .int .i64 0, .int .i64 0, .int .i64 0, .slice none 0 0, .slice none 0 0]] w fun e w' => e = .returned (.tuple #[]) ∧ RS R (st ++ [nd0]) w' ∧ Below R w w') := begin_any h hlen _ _ _ _
  by_cases h0 : ws = []
  · subst h0
    have HQ : Hid (∀ w', RS R (st ++ [nd0]) w' → Below R w w' → TakeQ R w (firstR st []) (.returned (.bool true)) w') := fun w' hs hb => TakeQ.yes (by unfold firstR; rw [if_pos rfl]) hb hs
    generalize TakeQ R w (firstR st []) = QQ at *
    rw [List.length_nil]
    go_enter Tryz.func35, Tryz.ntmps35
    go_wp2_with (go_at_call 52; refine HBG.out.mono ?_; rintro e w1 ⟨rfl, hs, hb⟩)
    exact HQ.out _ hs hb
  · have HQ : Hid (TakeQ R w (firstR st ws) (.returned (.bool false)) w) := TakeQ.no (by unfold firstR; rw [if_neg h0]) (Below.refl _ _)
    have hb : ((ws.length : Int) == 0) = false := by
      rw [beq_eq_false_iff_ne]
      have : ws.length ≠ 0 := fun e => h0 (List.eq_nil_of_length_eq_zero e)
      omega
    generalize TakeQ R w (firstR st ws) = QQ at *
    clear h0
    go_enter Tryz.func35, Tryz.ntmps35
    go_wp2
    exact HQ.out

set_option maxHeartbeats 3200000 in
theorem takeLater_any {R : Nat} {st : List Nd} {w : World} {vw : Value} {ws : List Bs} (h : RS R st w) (hlen : st.length ≤ 1000000) (hw : WordsAt w vw ws) (hz : ∀ x ∈ ws, x.length ≤ 2000000) (he : Env w) : Calls Tryz.prog 36 #[.pointer (some ⟨R, 0, none⟩), vw] w (TakeQ R w (laterR st ws)) := by
  have HRP := hide3 (readPin_any hw hz he)
  have HBG : Hid (∀ W p, Below w.heap.size w W → Calls Tryz.prog 52 #[.pointer (some ⟨R, 0, none⟩), .agg #[.string p.nm, .int .i64 p.a, .int .i64 p.b, .int .i64 p.c, .slice none 0 0, .slice none 0 0]] W fun e w' => e = .returned (.tuple #[]) ∧ RS R (st ++ [⟨Pn.nm p, p.a, p.b, p.c, [], []⟩]) w' ∧ Below R W w') := fun W p hb => begin_any (h.below hb) hlen _ _ _ _
  have HLO : Hid (∀ W, Below w.heap.size w W → Below R w W) := fun W hb => h.low hb
  have HL : Hid (laterR st ws = if (pinR ws).2 = true then some (st ++ [⟨(pinR ws).1.nm, (pinR ws).1.a, (pinR ws).1.b, (pinR ws).1.c, [], []⟩]) else none) := rfl
  have HYE : Hid (∀ st' w', laterR st ws = some st' → RS R st' w' → Below R w w' → TakeQ R w (laterR st ws) (.returned (.bool true)) w') := fun st' w' e hs hb => TakeQ.yes e hb hs
  have HNO : Hid (∀ w', laterR st ws = none → Below R w w' → TakeQ R w (laterR st ws) (.returned (.bool false)) w') := fun w' e hb => TakeQ.no e hb
  obtain ⟨ad, cap, rfl, _, _⟩ := hw
  generalize TakeQ R w (laterR st ws) = QQ at *
  generalize laterR st ws = LR at *
  generalize (pinR ws).2 = ok at *
  generalize (pinR ws).1 = p at *
  clear h hz he
  cases ok
  · go_enter Tryz.func36, Tryz.ntmps36
    go_wp2_with (go_at_call 53; refine HRP.out.mono ?_; rintro e w1 ⟨rfl, hb⟩; have HB1 := hide3 (below_then hb (boxB w1 (.cells #[.string p.nm, .int .i64 p.a, .int .i64 p.b, .int .i64 p.c] 49))); clear hb)
    exact HNO.out _ (by rw [HL.out]; rfl) (HLO.out _ HB1.out)
  · go_enter Tryz.func36, Tryz.ntmps36
    go_wp2_with (first
      | (go_at_call 53; refine HRP.out.mono ?_; rintro e w1 ⟨rfl, hb⟩; have HB1 := hide3 (below_then hb (boxB w1 (.cells #[.string p.nm, .int .i64 p.a, .int .i64 p.b, .int .i64 p.c] 49))); clear hb)
      | (go_at_call 52; refine (HBG.out _ p HB1.out).mono ?_; rintro e w2 ⟨rfl, hs, hb2⟩))
    exact HYE.out _ _ HL.out hs ((HLO.out _ HB1.out).trans hb2)

set_option maxHeartbeats 12800000 in
theorem takePin_any {R : Nat} {st : List Nd} {w : World} {vw : Value} {ws : List Bs} (h : RS R st w) (hne : st ≠ []) (hlz : ∀ n ∈ st, n.cx.length ≤ 1000000) (hw : WordsAt w vw ws) (hz : ∀ x ∈ ws, x.length ≤ 2000000) (he : Env w) : Calls Tryz.prog 37 #[.pointer (some ⟨R, 0, none⟩), vw] w (TakeQ R w (pinsR st ws)) := by
  have HRP := hide3 (readPin_any hw hz he)
  have HLO : Hid (∀ W, Below w.heap.size w W → Below R w W) := fun W hb => h.low hb
  have HRS := hide3 h
  have HYE : Hid (∀ st' w', pinsR st ws = some st' → RS R st' w' → Below R w w' → TakeQ R w (pinsR st ws) (.returned (.bool true)) w') := fun st' w' e hs hb => TakeQ.yes e hb hs
  have HNO : Hid (∀ w', pinsR st ws = none → Below R w w' → TakeQ R w (pinsR st ws) (.returned (.bool false)) w') := fun w' e hb => TakeQ.no e hb
  obtain ⟨ad, cap, rfl, _, _⟩ := hw
  obtain ⟨⟨hR, hf0, hf1⟩, hor⟩ := h
  obtain ⟨g, gc, dn, lt, rfl, k0, k1, k2, k3⟩ := hor.resolve_left (fun q => hne q.1)
  have HL : Hid (pinsR ((dn ++ [lt]).map NV.nd) ws = if (pinR ws).2 = true ∧ lt.nd.ed = [] then some (dn.map NV.nd ++ [addP (pinR ws).1 lt.nd]) else none) := by
    unfold Hid pinsR
    rw [List.map_append, List.map_cons, List.map_nil, lastE_snoc, modLast_snoc]
  have hzl := hlz lt.nd (by simp)
  generalize TakeQ R w (pinsR ((dn ++ [lt]).map NV.nd) ws) = QQ at *
  generalize pinsR ((dn ++ [lt]).map NV.nd) ws = LR at *
  generalize (pinR ws).2 = ok at *
  generalize (pinR ws).1 = p at *
  have HFX : Hid (∀ W, Below w.heap.size w W → (R < W.heap.size ∧ W.frozen? ⟨R, 0, none⟩ = false ∧ W.frozen? ⟨R, 1, none⟩ = false) ∧ W.cell? ⟨R, 0, none⟩ = some (.slice (some ⟨g, 0, none⟩) (dn.length + 1) gc) ∧ W.cell? ⟨R, 1, none⟩ = some (.pointer (some ⟨g, dn.length * 6, none⟩)) ∧ RA W (R + 1) (.slice (some ⟨g, 0, none⟩) (dn.length + 1) gc) (dn ++ [lt])) := fun W hb =>
    ⟨⟨Nat.lt_of_lt_of_le hR hb.size, (hb.frozen (p := ⟨R, 0, none⟩) hR).trans hf0, (hb.frozen (p := ⟨R, 1, none⟩) hR).trans hf1⟩, (hb.cell (p := ⟨R, 0, none⟩) hR).trans k0, (hb.cell (p := ⟨R, 1, none⟩) hR).trans k1, k2.below hb⟩
  have HLA := hide3 k3
  have HCE : Hid (∀ W, RA W (R + 1) (.slice (some ⟨g, 0, none⟩) (dn.length + 1) gc) (dn ++ [lt]) → W.cell? ⟨g, dn.length * 6 + 4, none⟩ = some lt.vc ∧ W.cell? ⟨g, dn.length * 6 + 5, none⟩ = some lt.ve) := fun W hr => by
    have hrow := hr.1
    rw [show (dn ++ [lt]).length = dn.length + 1 by simp] at hrow
    exact ⟨by rw [hrow.cellAt (dn.length * 6 + 4) (by omega), flat_get]; rfl, by rw [hrow.cellAt (dn.length * 6 + 5) (by omega), flat_get]; rfl⟩
  obtain ⟨ho1, ho2⟩ := k2.2 lt (by simp)
  obtain ⟨a4, c4, hv4⟩ : ∃ a c, lt.vc = .slice a lt.nd.cx.length c := by
    rcases ho1.2 with ⟨e, hn⟩ | ⟨gx, cx, _, e, _⟩
    · exact ⟨none, 0, by rw [e, hn]⟩
    · exact ⟨_, _, e⟩
  obtain ⟨a5, c5, hv5⟩ : ∃ a c, lt.ve = .slice a lt.nd.ed.length c := by
    rcases ho2.2 with ⟨e, hn⟩ | ⟨gx, cx, _, e, _⟩
    · exact ⟨none, 0, by rw [e, hn]⟩
    · exact ⟨_, _, e⟩
  clear hz he hlz hor k0 k1 k2 k3 ho1 ho2 hf0 hf1 hne
  cases ok
  · go_enter Tryz.func37, Tryz.ntmps37
    go_wp2_with (go_at_call 53; refine HRP.out.mono ?_; rintro e w1 ⟨rfl, hb⟩; have HB1 := hide3 (below_then hb (boxB w1 (.cells #[.string p.nm, .int .i64 p.a, .int .i64 p.b, .int .i64 p.c] 49))); clear hb)
    exact HNO.out _ (by rw [HL.out]; simp) (HLO.out _ HB1.out)
  · by_cases hed : lt.nd.ed = []
    · have hel : ((lt.nd.ed.length : Int)) = 0 := by rw [hed]; rfl
      have HL2 : Hid (LR = some (dn.map NV.nd ++ [addP p lt.nd])) := by unfold Hid; rw [HL.out, if_pos ⟨rfl, hed⟩]
      rw [hed, List.length_nil] at hv5
      clear HL hed hel
      go_enter Tryz.func37, Tryz.ntmps37
      go_wp2_with (go_at_call 53; refine HRP.out.mono ?_; rintro e w1 ⟨rfl, hb⟩; have HB1 := hide3 (below_then hb (boxB w1 (.cells #[.string p.nm, .int .i64 p.a, .int .i64 p.b, .int .i64 p.c] 49))); obtain ⟨_, x0, x1, x2⟩ := HFX.out _ HB1.out; obtain ⟨x3, x4⟩ := HCE.out _ x2; have HX2 := hide3 x2; rw [hv5] at x4; rw [hv4] at x3; clear hb x2)
      have HOW : Hid ((w1.alloc (.cells #[.string p.nm, .int .i64 p.a, .int .i64 p.b, .int .i64 p.c] 49)).ownsRow (R + 1) 49 4 (.slice a4 lt.nd.cx.length c4) lt.nd.cx.length (lt.nd.cx.flatMap pnC)) := by
        have := (HX2.out.2 lt (by simp)).1
        rw [hv4] at this
        exact this
      obtain ⟨⟨y1, y2, y3⟩, _⟩ := HFX.out _ HB1.out
      have HPN : Hid (∀ w2 v1, w2.ownsRow (R + 1) 49 4 v1 (lt.nd.cx.length + 1) (lt.nd.cx.flatMap pnC ++ pnC p) → (w1.alloc (.cells #[.string p.nm, .int .i64 p.a, .int .i64 p.b, .int .i64 p.c] 49)).grownBy w2 (Value.slice a4 lt.nd.cx.length c4).ownBlock → (v1.ownBlock = (Value.slice a4 lt.nd.cx.length c4).ownBlock ∨ ∃ k, v1.ownBlock = some k ∧ (w1.alloc (.cells #[.string p.nm, .int .i64 p.a, .int .i64 p.b, .int .i64 p.c] 49)).heap.size ≤ k) → (w2.cell? ⟨R, 1, none⟩ = some (.pointer (some ⟨g, dn.length * 6, none⟩)) ∧ w2.cell? ⟨g, dn.length * 6 + 4, none⟩ = some (Value.slice a4 lt.nd.cx.length c4) ∧ w2.frozen? ⟨g, dn.length * 6 + 4, none⟩ = false) ∧ RS R (dn.map NV.nd ++ [addP p lt.nd]) (w2.setCell ⟨g, dn.length * 6 + 4, none⟩ v1) ∧ Below R (w1.alloc (.cells #[.string p.nm, .int .i64 p.a, .int .i64 p.b, .int .i64 p.c] 49)) (w2.setCell ⟨g, dn.length * 6 + 4, none⟩ v1)) := fun w2 v1 ho hg hat => by
        have := RS.pinned (p := p) (w1 := w2) (v1 := v1) y1 y2 y3 x0 x1 HX2.out HLA.out ho (by rw [hv4]; exact hg) (by rw [hv4]; exact hat)
        rw [hv4] at this
        exact this
      have hRw : R + 1 ≤ (w1.alloc (.cells #[.string p.nm, .int .i64 p.a, .int .i64 p.b, .int .i64 p.c] 49)).heap.size := y1
      have x1' := ((boxB (w1.alloc (.cells #[.string p.nm, .int .i64 p.a, .int .i64 p.b, .int .i64 p.c] 49)) (.cells #[.string p.nm, .int .i64 p.a, .int .i64 p.b, .int .i64 p.c] 49)).cell (p := ⟨R, 1, none⟩) y1).trans x1
      have x3' := ((boxB (w1.alloc (.cells #[.string p.nm, .int .i64 p.a, .int .i64 p.b, .int .i64 p.c] 49)) (.cells #[.string p.nm, .int .i64 p.a, .int .i64 p.b, .int .i64 p.c] 49)).cell (p := ⟨g, dn.length * 6 + 4, none⟩) (cell_in x3)).trans x3
      clear y2 y3
      go_region_law (refine step_own (B := R + 1) (M := w1.heap.size + 1) (wx := (w1.alloc (.cells #[.string p.nm, .int .i64 p.a, .int .i64 p.b, .int .i64 p.c] 49)).drew) (v := .slice a4 lt.nd.cx.length c4) infoPin Tryz.underlying40 rfl (by decide) (by decide) rfl (.tmp 35) (.tmp 37) rfl rfl HOW.out.drew hRw #[.string p.nm, .int .i64 p.a, .int .i64 p.b, .int .i64 p.c] rfl (by simp [Value.oneCell']) (by simp) rfl (by omega) ?_; intro v1 w2 ho hg hat; obtain ⟨g1, cap1, rfl, _⟩ := ho.form (by omega); have HP2 := hide3 (HPN.out w2 _ ho (grown_pre (below_then (Below.refl _ _).drew (boxB _ _)) hg) (hat.imp id fun e => ⟨_, e, by simp⟩)); obtain ⟨⟨n1, n4, nf⟩, _, _⟩ := HP2.out; clear ho hg hat)
      all_goals go_wp2
      all_goals exact HYE.out _ _ HL2.out HP2.out.2.1 ((HLO.out _ HB1.out).trans HP2.out.2.2)
    · have hel : (0 : Int) < (lt.nd.ed.length : Int) := by
        have : lt.nd.ed.length ≠ 0 := fun e => hed (List.eq_nil_of_length_eq_zero e)
        omega
      have hel2 : 0 < lt.nd.ed.length := by omega
      have HL2 : Hid (LR = none) := by unfold Hid; rw [HL.out, if_neg (fun q => hed q.2)]
      clear HL hed
      go_enter Tryz.func37, Tryz.ntmps37
      go_wp2_with (go_at_call 53; refine HRP.out.mono ?_; rintro e w1 ⟨rfl, hb⟩; have HB1 := hide3 (below_then hb (boxB w1 (.cells #[.string p.nm, .int .i64 p.a, .int .i64 p.b, .int .i64 p.c] 49))); obtain ⟨_, x0, x1, x2⟩ := HFX.out _ HB1.out; obtain ⟨x3, x4⟩ := HCE.out _ x2; rw [hv5] at x4; rw [hv4] at x3; clear hb x2)
      exact HNO.out _ HL2.out (HLO.out _ HB1.out)

set_option maxHeartbeats 12800000 in
theorem takeEdge_any {R : Nat} {st : List Nd} {w : World} {vw : Value} {ws : List Bs} (h : RS R st w) (hne : st ≠ []) (hlz : ∀ n ∈ st, n.ed.length ≤ 1000000) (hw : WordsAt w vw ws) (hz : ∀ x ∈ ws, x.length ≤ 2000000) (he : Env w) : Calls Tryz.prog 38 #[.pointer (some ⟨R, 0, none⟩), vw] w (TakeQ R w (edgesR st ws)) := by
  have HRP := hide3 (readEdge_any hw hz he)
  have HLO : Hid (∀ W, Below w.heap.size w W → Below R w W) := fun W hb => h.low hb
  have HRS := hide3 h
  have HYE : Hid (∀ st' w', edgesR st ws = some st' → RS R st' w' → Below R w w' → TakeQ R w (edgesR st ws) (.returned (.bool true)) w') := fun st' w' e hs hb => TakeQ.yes e hb hs
  have HNO : Hid (∀ w', edgesR st ws = none → Below R w w' → TakeQ R w (edgesR st ws) (.returned (.bool false)) w') := fun w' e hb => TakeQ.no e hb
  obtain ⟨ad, cap, rfl, _, _⟩ := hw
  obtain ⟨⟨hR, hf0, hf1⟩, hor⟩ := h
  obtain ⟨g, gc, dn, lt, rfl, k0, k1, k2, k3⟩ := hor.resolve_left (fun q => hne q.1)
  have HL : Hid (edgesR ((dn ++ [lt]).map NV.nd) ws = if (edgR ws).2 = true then some (dn.map NV.nd ++ [addE (edgR ws).1 lt.nd]) else none) := by
    unfold Hid edgesR
    rw [List.map_append, List.map_cons, List.map_nil, modLast_snoc]
  have hzl := hlz lt.nd (by simp)
  generalize TakeQ R w (edgesR ((dn ++ [lt]).map NV.nd) ws) = QQ at *
  generalize edgesR ((dn ++ [lt]).map NV.nd) ws = LR at *
  generalize (edgR ws).2 = ok at *
  generalize (edgR ws).1 = p at *
  have HFX : Hid (∀ W, Below w.heap.size w W → (R < W.heap.size ∧ W.frozen? ⟨R, 0, none⟩ = false ∧ W.frozen? ⟨R, 1, none⟩ = false) ∧ W.cell? ⟨R, 0, none⟩ = some (.slice (some ⟨g, 0, none⟩) (dn.length + 1) gc) ∧ W.cell? ⟨R, 1, none⟩ = some (.pointer (some ⟨g, dn.length * 6, none⟩)) ∧ RA W (R + 1) (.slice (some ⟨g, 0, none⟩) (dn.length + 1) gc) (dn ++ [lt])) := fun W hb =>
    ⟨⟨Nat.lt_of_lt_of_le hR hb.size, (hb.frozen (p := ⟨R, 0, none⟩) hR).trans hf0, (hb.frozen (p := ⟨R, 1, none⟩) hR).trans hf1⟩, (hb.cell (p := ⟨R, 0, none⟩) hR).trans k0, (hb.cell (p := ⟨R, 1, none⟩) hR).trans k1, k2.below hb⟩
  have HLA := hide3 k3
  have HCE : Hid (∀ W, RA W (R + 1) (.slice (some ⟨g, 0, none⟩) (dn.length + 1) gc) (dn ++ [lt]) → W.cell? ⟨g, dn.length * 6 + 4, none⟩ = some lt.vc ∧ W.cell? ⟨g, dn.length * 6 + 5, none⟩ = some lt.ve) := fun W hr => by
    have hrow := hr.1
    rw [show (dn ++ [lt]).length = dn.length + 1 by simp] at hrow
    exact ⟨by rw [hrow.cellAt (dn.length * 6 + 4) (by omega), flat_get]; rfl, by rw [hrow.cellAt (dn.length * 6 + 5) (by omega), flat_get]; rfl⟩
  obtain ⟨ho1, ho2⟩ := k2.2 lt (by simp)
  obtain ⟨a4, c4, hv4⟩ : ∃ a c, lt.vc = .slice a lt.nd.cx.length c := by
    rcases ho1.2 with ⟨e, hn⟩ | ⟨gx, cx, _, e, _⟩
    · exact ⟨none, 0, by rw [e, hn]⟩
    · exact ⟨_, _, e⟩
  obtain ⟨a5, c5, hv5⟩ : ∃ a c, lt.ve = .slice a lt.nd.ed.length c := by
    rcases ho2.2 with ⟨e, hn⟩ | ⟨gx, cx, _, e, _⟩
    · exact ⟨none, 0, by rw [e, hn]⟩
    · exact ⟨_, _, e⟩
  clear hz he hlz hor k0 k1 k2 k3 ho1 ho2 hf0 hf1 hne
  cases ok
  · go_enter Tryz.func38, Tryz.ntmps38
    go_wp2_with (go_at_call 54; refine HRP.out.mono ?_; rintro e w1 ⟨rfl, hb⟩; have HB1 := hide3 (below_then hb (boxB w1 (.cells #[.string p.lb, .int .i64 p.to] 51))); clear hb)
    exact HNO.out _ (by rw [HL.out]; simp) (HLO.out _ HB1.out)
  · have HL2 : Hid (LR = some (dn.map NV.nd ++ [addE p lt.nd])) := by unfold Hid; rw [HL.out, if_pos rfl]
    clear HL
    go_enter Tryz.func38, Tryz.ntmps38
    go_wp2_with (go_at_call 54; refine HRP.out.mono ?_; rintro e w1 ⟨rfl, hb⟩; have HB1 := hide3 (below_then hb (boxB w1 (.cells #[.string p.lb, .int .i64 p.to] 51))); obtain ⟨_, x0, x1, x2⟩ := HFX.out _ HB1.out; obtain ⟨x3, x4⟩ := HCE.out _ x2; have HX2 := hide3 x2; rw [hv5] at x4; rw [hv4] at x3; clear hb x2)
    have HOW : Hid ((w1.alloc (.cells #[.string p.lb, .int .i64 p.to] 51)).ownsRow (R + 1) 51 2 (.slice a5 lt.nd.ed.length c5) lt.nd.ed.length (lt.nd.ed.flatMap egC)) := by
      have := (HX2.out.2 lt (by simp)).2
      rw [hv5] at this
      exact this
    obtain ⟨⟨y1, y2, y3⟩, _⟩ := HFX.out _ HB1.out
    have HPN : Hid (∀ w2 v1, w2.ownsRow (R + 1) 51 2 v1 (lt.nd.ed.length + 1) (lt.nd.ed.flatMap egC ++ egC p) → (w1.alloc (.cells #[.string p.lb, .int .i64 p.to] 51)).grownBy w2 (Value.slice a5 lt.nd.ed.length c5).ownBlock → (v1.ownBlock = (Value.slice a5 lt.nd.ed.length c5).ownBlock ∨ ∃ k, v1.ownBlock = some k ∧ (w1.alloc (.cells #[.string p.lb, .int .i64 p.to] 51)).heap.size ≤ k) → (w2.cell? ⟨R, 1, none⟩ = some (.pointer (some ⟨g, dn.length * 6, none⟩)) ∧ w2.cell? ⟨g, dn.length * 6 + 5, none⟩ = some (Value.slice a5 lt.nd.ed.length c5) ∧ w2.frozen? ⟨g, dn.length * 6 + 5, none⟩ = false) ∧ RS R (dn.map NV.nd ++ [addE p lt.nd]) (w2.setCell ⟨g, dn.length * 6 + 5, none⟩ v1) ∧ Below R (w1.alloc (.cells #[.string p.lb, .int .i64 p.to] 51)) (w2.setCell ⟨g, dn.length * 6 + 5, none⟩ v1)) := fun w2 v1 ho hg hat => by
      have := RS.edged (p := p) (w1 := w2) (v1 := v1) y1 y2 y3 x0 x1 HX2.out HLA.out ho (by rw [hv5]; exact hg) (by rw [hv5]; exact hat)
      rw [hv5] at this
      exact this
    have hRw : R + 1 ≤ (w1.alloc (.cells #[.string p.lb, .int .i64 p.to] 51)).heap.size := y1
    have x1' := ((boxB (w1.alloc (.cells #[.string p.lb, .int .i64 p.to] 51)) (.cells #[.string p.lb, .int .i64 p.to] 51)).cell (p := ⟨R, 1, none⟩) y1).trans x1
    have x4' := ((boxB (w1.alloc (.cells #[.string p.lb, .int .i64 p.to] 51)) (.cells #[.string p.lb, .int .i64 p.to] 51)).cell (p := ⟨g, dn.length * 6 + 5, none⟩) (cell_in x4)).trans x4
    clear y2 y3
    go_region_law (refine step_own (B := R + 1) (M := w1.heap.size + 1) (wx := (w1.alloc (.cells #[.string p.lb, .int .i64 p.to] 51)).drew) (v := .slice a5 lt.nd.ed.length c5) infoEdge Tryz.underlying41 rfl (by decide) (by decide) rfl (.tmp 24) (.tmp 26) rfl rfl HOW.out.drew hRw #[.string p.lb, .int .i64 p.to] rfl (by simp [Value.oneCell']) (by simp) rfl (by omega) ?_; intro v1 w2 ho hg hat; obtain ⟨g1, cap1, rfl, _⟩ := ho.form (by omega); have HP2 := hide3 (HPN.out w2 _ ho (grown_pre (below_then (Below.refl _ _).drew (boxB _ _)) hg) (hat.imp id fun e => ⟨_, e, by simp⟩)); obtain ⟨⟨n1, n4, nf⟩, _, _⟩ := HP2.out; clear ho hg hat)
    all_goals go_wp2
    all_goals exact HYE.out _ _ HL2.out HP2.out.2.1 ((HLO.out _ HB1.out).trans HP2.out.2.2)

end Go.Proofs.YtjbohacllhjgmaaGreatDoor
namespace Go.Proofs.YtjbohacllhjgmaaGreatDoor
open Go.RowKit
open Sc (KeepP hide3 keepBelow Bs ba WordsAt)
set_option maxRecDepth 100000

def wRoot : Bs := [114, 111, 111, 116]
def wNode : Bs := [110, 111, 100, 101]
def wWith : Bs := [119, 105, 116, 104]
def wTo : Bs := [116, 111]
/-- What take answers. -/
def takeR (st : List Nd) (x : Bs) (ws : List Bs) : Option (List Nd) :=
  if x = wRoot then (if st = [] then firstR st ws else none)
  else if st = [] then none
  else if x = wNode then laterR st ws else if x = wWith then pinsR st ws else if x = wTo then edgesR st ws else none
theorem ba_toL (x : Bs) : (ba x).toList = x := by rw [ByteArray.toList_eq, Sc.ba_list]
theorem ba_is (x y : Bs) : ((ba x).toList == y) = decide (x = y) := by
  rw [ba_toL]
  by_cases h : x = y
  · rw [decide_eq_true h, h]; simp
  · rw [decide_eq_false h, beq_eq_false_iff_ne]; exact h

set_option maxHeartbeats 3200000 in
theorem take_any {R : Nat} {st : List Nd} {w : World} {vw : Value} {x : Bs} {ws : List Bs} (h : RS R st w) (hlen : st.length ≤ 1000000) (hlz : ∀ n ∈ st, n.cx.length ≤ 1000000 ∧ n.ed.length ≤ 1000000) (hw : WordsAt w vw ws) (hz : ∀ x ∈ ws, x.length ≤ 2000000) (he : Env w) :
    Calls Tryz.prog 19 #[.pointer (some ⟨R, 0, none⟩), .string (ba x), vw] w (TakeQ R w (takeR st x ws)) := by
  have q1 := ba_is x [114, 111, 111, 116]
  have q2 := ba_is x [110, 111, 100, 101]
  have q3 := ba_is x [119, 105, 116, 104]
  have q4 := ba_is x [116, 111]
  have HNO : Hid (∀ r, r = none → TakeQ R w r (.returned (.bool false)) w) := fun r hr => TakeQ.no hr (Below.refl _ _)
  have HTF : Hid (Calls Tryz.prog 35 #[.pointer (some ⟨R, 0, none⟩), vw] w (TakeQ R w (firstR st ws))) := takeFirst_any h hlen hw
  have HTL : Hid (Calls Tryz.prog 36 #[.pointer (some ⟨R, 0, none⟩), vw] w (TakeQ R w (laterR st ws))) := takeLater_any h hlen hw hz he
  have HTP : Hid (st ≠ [] → Calls Tryz.prog 37 #[.pointer (some ⟨R, 0, none⟩), vw] w (TakeQ R w (pinsR st ws))) := fun hne => takePin_any h hne (fun n hn => (hlz n hn).1) hw hz he
  have HTE : Hid (st ≠ [] → Calls Tryz.prog 38 #[.pointer (some ⟨R, 0, none⟩), vw] w (TakeQ R w (edgesR st ws))) := fun hne => takeEdge_any h hne (fun n hn => (hlz n hn).2) hw hz he
  have HBO : Hid (∀ r e w', TakeQ R w r e w' → ∃ b, e = .returned (.bool b)) := fun r e w' hq => by
    rcases hq.2 with ⟨_, _, he, _⟩ | ⟨_, he⟩
    · exact ⟨_, he⟩
    · exact ⟨_, he⟩
  obtain ⟨ad, cap, rfl, _, _⟩ := hw
  clear hz he hlz
  by_cases hst : st = []
  · have c1 : w.cell? ⟨R, 1, none⟩ = some (.pointer none) := by
      rcases h.2 with ⟨_, _, k⟩ | ⟨g, gc, dn, lt, e, _⟩
      · exact k
      · rw [hst] at e; simp at e
    clear h
    by_cases h1 : x = wRoot
    · have e1 : takeR st x ws = firstR st ws := by unfold takeR; rw [if_pos h1, if_pos hst]
      rw [decide_eq_true (show x = [114, 111, 111, 116] from h1)] at q1
      have HQ1 := hide3 (HBO.out (firstR st ws))
      rw [e1]
      generalize TakeQ R w (firstR st ws) = QQ at *
      clear e1 h1 hst q2 q3 q4
      generalize ba x = sx at *
      go_enter Tryz.func19, Tryz.ntmps19
      go_wp2_with (go_at_call 35; refine HTF.out.mono ?_; intro e w1 hq1; obtain ⟨b1, rfl⟩ := HQ1.out _ _ hq1)
      exact hq1
    · have e1 : takeR st x ws = none := by unfold takeR; rw [if_neg h1, if_pos hst]
      rw [decide_eq_false (show ¬ x = [114, 111, 111, 116] from h1)] at q1
      rw [e1]
      have HN := hide3 (HNO.out none rfl)
      generalize TakeQ R w none = QQ at *
      clear e1 h1 hst q2 q3 q4
      generalize ba x = sx at *
      go_enter Tryz.func19, Tryz.ntmps19
      go_wp2
      exact HN.out
  · obtain ⟨g1, o1, c1⟩ : ∃ g o, w.cell? ⟨R, 1, none⟩ = some (.pointer (some ⟨g, o, none⟩)) := by
      rcases h.2 with ⟨e, _⟩ | ⟨g, gc, dn, lt, _, _, k, _⟩
      · exact absurd e hst
      · exact ⟨_, _, k⟩
    clear h
    by_cases h1 : x = wRoot
    · have e1 : takeR st x ws = none := by unfold takeR; rw [if_pos h1, if_neg hst]
      rw [decide_eq_true (show x = [114, 111, 111, 116] from h1)] at q1
      rw [e1]
      have HN := hide3 (HNO.out none rfl)
      generalize TakeQ R w none = QQ at *
      clear e1 h1 hst q2 q3 q4
      generalize ba x = sx at *
      go_enter Tryz.func19, Tryz.ntmps19
      go_wp2
      exact HN.out
    · rw [decide_eq_false (show ¬ x = [114, 111, 111, 116] from h1)] at q1
      by_cases h2 : x = wNode
      · have e1 : takeR st x ws = laterR st ws := by unfold takeR; rw [if_neg h1, if_neg hst, if_pos h2]
        rw [decide_eq_true (show x = [110, 111, 100, 101] from h2)] at q2
        have HQ1 := hide3 (HBO.out (laterR st ws))
        rw [e1]
        generalize TakeQ R w (laterR st ws) = QQ at *
        clear e1 h1 h2 hst q3 q4
        generalize ba x = sx at *
        go_enter Tryz.func19, Tryz.ntmps19
        go_wp2_with (go_at_call 36; refine HTL.out.mono ?_; intro e w1 hq1; obtain ⟨b1, rfl⟩ := HQ1.out _ _ hq1)
        exact hq1
      · rw [decide_eq_false (show ¬ x = [110, 111, 100, 101] from h2)] at q2
        by_cases h3 : x = wWith
        · have e1 : takeR st x ws = pinsR st ws := by unfold takeR; rw [if_neg h1, if_neg hst, if_neg h2, if_pos h3]
          rw [decide_eq_true (show x = [119, 105, 116, 104] from h3)] at q3
          have HT := hide3 (HTP.out hst)
          have HQ1 := hide3 (HBO.out (pinsR st ws))
          rw [e1]
          generalize TakeQ R w (pinsR st ws) = QQ at *
          clear e1 h1 h2 h3 hst q4
          generalize ba x = sx at *
          go_enter Tryz.func19, Tryz.ntmps19
          go_wp2_with (go_at_call 37; refine HT.out.mono ?_; intro e w1 hq1; obtain ⟨b1, rfl⟩ := HQ1.out _ _ hq1)
          exact hq1
        · rw [decide_eq_false (show ¬ x = [119, 105, 116, 104] from h3)] at q3
          by_cases h4 : x = wTo
          · have e1 : takeR st x ws = edgesR st ws := by unfold takeR; rw [if_neg h1, if_neg hst, if_neg h2, if_neg h3, if_pos h4]
            rw [decide_eq_true (show x = [116, 111] from h4)] at q4
            have HT := hide3 (HTE.out hst)
            have HQ1 := hide3 (HBO.out (edgesR st ws))
            rw [e1]
            generalize TakeQ R w (edgesR st ws) = QQ at *
            clear e1 h1 h2 h3 h4 hst
            generalize ba x = sx at *
            go_enter Tryz.func19, Tryz.ntmps19
            go_wp2_with (go_at_call 38; refine HT.out.mono ?_; intro e w1 hq1; obtain ⟨b1, rfl⟩ := HQ1.out _ _ hq1)
            exact hq1
          · have e1 : takeR st x ws = none := by unfold takeR; rw [if_neg h1, if_neg hst, if_neg h2, if_neg h3, if_neg h4]
            rw [decide_eq_false (show ¬ x = [116, 111] from h4)] at q4
            rw [e1]
            have HN := hide3 (HNO.out none rfl)
            generalize TakeQ R w none = QQ at *
            clear e1 h1 h2 h3 h4 hst
            generalize ba x = sx at *
            go_enter Tryz.func19, Tryz.ntmps19
            go_wp2
            exact HN.out
end Go.Proofs.YtjbohacllhjgmaaGreatDoor
namespace Go.Proofs.YtjbohacllhjgmaaGreatDoor
open Go.RowKit
open Sc (KeepP hide3 keepBelow Bs ba WordsAt LinesAt isL)
set_option maxRecDepth 100000

/-- The lines behind the first one, one by one. -/
def foldT : List Nd → List (List Bs) → Option (List Nd)
  | st, [] => some st
  | _, [] :: _ => none
  | st, (x :: ws) :: r => match takeR st x ws with
    | some st' => foldT st' r
    | none => none
def wLock : Bs := [108, 111, 99, 107]
def readG : List (List Bs) → Option (List Nd)
  | [] => none
  | h :: r => if h = [wLock] then foldT [] r else none
theorem foldT_snoc : ∀ (L : List (List Bs)) (st : List Nd) (x : Bs) (ws : List Bs), foldT st (L ++ [x :: ws]) = match foldT st L with
    | some st' => takeR st' x ws
    | none => none
  | [], st, x, ws => by
    simp only [List.nil_append, foldT]
    cases takeR st x ws <;> rfl
  | [] :: L, st, x, ws => rfl
  | (y :: vs) :: L, st, x, ws => by
    simp only [List.cons_append, foldT]
    cases takeR st y vs with
    | none => rfl
    | some st' => exact foldT_snoc L st' x ws
theorem foldT_none : ∀ (L M : List (List Bs)) (st : List Nd), foldT st L = none → foldT st (L ++ M) = none
  | [], M, st, h => by cases h
  | [] :: L, M, st, _ => rfl
  | (y :: vs) :: L, M, st, h => by
    simp only [List.cons_append, foldT] at h ⊢
    cases ht : takeR st y vs with
    | none => rfl
    | some st' => rw [ht] at h; exact foldT_none L M st' h

/-- Not too many. -/
def Bd (m : Nat) (st : List Nd) : Prop := st.length ≤ m ∧ ∀ n ∈ st, n.cx.length ≤ m ∧ n.ed.length ≤ m
theorem mem_mod {f : Nd → Nd} : ∀ {st : List Nd} {n : Nd}, n ∈ modLast f st → n ∈ st ∨ ∃ l ∈ st, n = f l
  | [], n, h => by cases h
  | [l], n, h => by
    unfold modLast at h
    exact Or.inr ⟨l, by simp, List.mem_singleton.1 h⟩
  | x :: y :: r, n, h => by
    unfold modLast at h
    rcases List.mem_cons.1 h with rfl | h
    · exact Or.inl (by simp)
    · rcases mem_mod h with h | ⟨l, hl, e⟩
      · exact Or.inl (List.mem_cons_of_mem _ h)
      · exact Or.inr ⟨l, List.mem_cons_of_mem _ hl, e⟩
theorem len_mod {f : Nd → Nd} : ∀ st : List Nd, (modLast f st).length = st.length
  | [] => rfl
  | [l] => rfl
  | x :: y :: r => by
    unfold modLast
    rw [List.length_cons, len_mod (y :: r)]
    rfl
theorem bd_snoc {m : Nat} {st : List Nd} (h : Bd m st) (n : Nd) (hc : n.cx = []) (he : n.ed = []) : Bd (m + 1) (st ++ [n]) := by
  refine ⟨by have := h.1; simp; omega, fun x hx => ?_⟩
  rcases List.mem_append.1 hx with hx | hx
  · have := h.2 x hx
    exact ⟨by omega, by omega⟩
  · obtain rfl := List.mem_singleton.1 hx
    rw [hc, he]
    simp
theorem take_bd {m : Nat} {st st' : List Nd} {x : Bs} {ws : List Bs} (h : Bd m st) (ht : takeR st x ws = some st') : Bd (m + 1) st' := by
  unfold takeR at ht
  split at ht
  · split at ht
    · unfold firstR at ht
      split at ht
      · cases ht; exact bd_snoc h _ rfl rfl
      · cases ht
    · cases ht
  · split at ht
    · cases ht
    · split at ht
      · unfold laterR at ht
        split at ht
        · cases ht; exact bd_snoc h _ rfl rfl
        · cases ht
      · split at ht
        · unfold pinsR at ht
          split at ht
          · cases ht
            refine ⟨by rw [len_mod]; have := h.1; omega, fun n hn => ?_⟩
            rcases mem_mod hn with hn | ⟨l, hl, rfl⟩
            · have := h.2 n hn
              exact ⟨by omega, by omega⟩
            · have := h.2 l hl
              simp only [addP, List.length_append, List.length_singleton]
              exact ⟨by omega, by omega⟩
          · cases ht
        · split at ht
          · unfold edgesR at ht
            split at ht
            · cases ht
              refine ⟨by rw [len_mod]; have := h.1; omega, fun n hn => ?_⟩
              rcases mem_mod hn with hn | ⟨l, hl, rfl⟩
              · have := h.2 n hn
                exact ⟨by omega, by omega⟩
              · have := h.2 l hl
                simp only [addE, List.length_append, List.length_singleton]
                exact ⟨by omega, by omega⟩
            · cases ht
          · cases ht

/-- What read answers. -/
def GrQ (w : World) (r : Option (List Nd)) (e : Ending) (w' : World) : Prop := Below w.heap.size w w' ∧
  ((∃ ad cap all, r = some (all.map NV.nd) ∧ e = .returned (.tuple #[.agg #[.slice ad all.length cap], .bool true]) ∧ RA w' w.heap.size (.slice ad all.length cap) all) ∨ (r = none ∧ e = .returned (.tuple #[.agg #[.slice none 0 0], .bool false])))
/-- A graph's variable that may be written. -/
def BxGF (w : World) (N : Nat) (v : Value) : Prop := BxG w N v ∧ w.frozen? ⟨N, 0, none⟩ = false
theorem keepBxGF (N : Nat) (v : Value) : KeepP fun w1 => BxGF w1 N v := fun _ _ h hb => ⟨keepBxG _ _ _ _ h.1 hb, (hb.frozen (p := ⟨N, 0, none⟩) h.1.2).trans h.2⟩
theorem BxGF.new {w : World} {N : Nat} (hN : w.heap.size = N) (v : Value) : BxGF (w.alloc (.cells #[v] 24)) N v := by
  refine ⟨BxG.new hN _, ?_⟩
  subst hN
  simp
theorem BxGF.of {w w' : World} {R N : Nat} {v : Value} (h : BxGF w N v) (hb : Below R w w') (hN : N < R) : BxGF w' N v := ⟨⟨(hb.cell (p := ⟨N, 0, none⟩) hN).trans h.1.1, Nat.lt_of_lt_of_le h.1.2 hb.size⟩, (hb.frozen (p := ⟨N, 0, none⟩) hN).trans h.2⟩
theorem own_low {w : World} {B C : Nat} {e : TypeId} {z : Nat} {v : Value} {n : Nat} {xs : List Value} (h : w.ownsRow B e z v n xs) (hc : C ≤ B) : w.ownsRow C e z v n xs := by
  refine ⟨h.1, h.2.imp id ?_⟩
  rintro ⟨g, cap, cur, rfl, hB, r⟩
  exact ⟨g, cap, cur, rfl, Nat.le_trans hc hB, r⟩
theorem readG_cons (h : List Bs) (r : List (List Bs)) : readG (h :: r) = if h = [wLock] then foldT [] r else none := rfl
theorem RA.low {w : World} {B C : Nat} {v : Value} {all : List NV} (h : RA w B v all) (hc : C ≤ B) : RA w C v all := ⟨own_low h.1 hc, fun x hx => ⟨own_low (h.2 x hx).1 hc, own_low (h.2 x hx).2 hc⟩⟩
theorem RS.start {w : World} {R : Nat} (hR : w.heap.size = R) : RS R [] (w.alloc (.cells #[.slice none 0 0, .pointer none] 59)) := by
  subst hR
  refine ⟨⟨by simp, by simp, by simp⟩, Or.inl ⟨rfl, by simp, by simp⟩⟩

set_option maxHeartbeats 12800000 in
theorem read_any {L : List (List Bs)} {v : Value} {w : World} (hv : LinesAt w v L) (hl : L.all isL = true) (hLl : L.length ≤ 900000) (hz : ∀ l ∈ L, ∀ x ∈ l, x.length ≤ 2000000) (he : Env w) :
    Calls Tryz.prog 9 #[v] w (GrQ w (readG L)) := by
  have HNO : Hid (∀ w', readG L = none → Below w.heap.size w w' → GrQ w (readG L) (.returned (.tuple #[.agg #[.slice none 0 0], .bool false])) w') := fun w' e hb => ⟨hb, Or.inr ⟨e, rfl⟩⟩
  have HYE : Hid (∀ w' ad cap all, readG L = some (all.map NV.nd) → Below w.heap.size w w' → RA w' w.heap.size (.slice ad all.length cap) all → GrQ w (readG L) (.returned (.tuple #[.agg #[.slice ad all.length cap], .bool true])) w') := fun w' ad cap all e hb hr => ⟨hb, Or.inl ⟨ad, cap, all, e, rfl, hr⟩⟩
  obtain ⟨ad, cap, rfl, hcap, hcs⟩ := hv
  have HB0 : Hid (Below w.heap.size w (w.alloc (.cells #[.slice none 0 0] 24)) ∧ BxGF (w.alloc (.cells #[.slice none 0 0] 24)) w.heap.size (.slice none 0 0)) := ⟨boxB _ _, BxGF.new rfl _⟩
  obtain ⟨⟨z0, z1⟩, z2⟩ := HB0.out.2
  cases L with
  | nil =>
    have hR : readG [] = none := rfl
    generalize GrQ w (readG []) = QQ at *
    rw [List.length_nil]
    go_enter Tryz.func9, Tryz.ntmps9
    go_wp2
    try simp only [Exit.inBlock, Exit.then]
    refine bodyPost_ret (by simp [results, Tryz.results9, go_sem]; try rfl) rfl ?_
    exact HNO.out _ hR (by first | exact HB0.out.1.setCell (p := ⟨w.heap.size, 0, none⟩) (Nat.le_refl _) _ | exact HB0.out.1)
  | cons h r =>
    obtain ⟨g, o, rfl, hg, hcs⟩ : ∃ g o, ad = some ⟨g, o, none⟩ ∧ g < w.heap.size ∧ ∀ i (hi : i < (h :: r).length), ∃ u, w.cell? ⟨g, o + i, none⟩ = some u ∧ WordsAt w u (h :: r)[i] := by
      rcases hcs with q | q
      · cases q
      · exact q
    obtain ⟨u, c0, hu⟩ := hcs 0 (by simp)
    have c0' : w.cell? ⟨g, o, none⟩ = some u := c0
    have hu' : WordsAt w u h := hu
    have k0 := ((boxB w (.cells #[.slice none 0 0] 24)).cell (p := ⟨g, o, none⟩) hg).trans c0'
    obtain ⟨au, cu, rfl, hcu, hx⟩ := hu'
    rw [List.length_cons]
    have hb0 : (0 : Int) < (r.length : Int) + 1 := by omega
    have hb1 : (1 : Int) ≤ (r.length : Int) + 1 := by omega
    have hb2 : (r.length : Int) + 1 ≤ (cap : Int) := by simp at hcap; omega
    have hb3 : ((r.length : Int) + 1 == 0) = false := by rw [beq_eq_false_iff_ne]; omega
    clear c0 hu c0'
    by_cases h1 : h.length = 1
    · obtain ⟨x, rfl⟩ : ∃ x, h = [x] := by
        match h, h1 with
        | [x], _ => exact ⟨x, rfl⟩
      obtain ⟨gu, ou, rfl, hgu, hx⟩ : ∃ g o, au = some ⟨g, o, none⟩ ∧ g < w.heap.size ∧ ∀ i (hi : i < [x].length), w.cell? ⟨g, o + i, none⟩ = some (.string (ba [x][i])) := by
        rcases hx with q | q
        · cases q
        · exact q
      have cx : w.cell? ⟨gu, ou, none⟩ = some (.string (ba x)) := hx 0 (by simp)
      have kx := ((boxB w (.cells #[.slice none 0 0] 24)).cell (p := ⟨gu, ou, none⟩) hgu).trans cx
      have q1 := ba_is x [108, 111, 99, 107]
      rw [show ([x] : List Bs).length = 1 from rfl] at k0
      by_cases hx1 : x = wLock
      · rw [decide_eq_true (show x = [108, 111, 99, 107] from hx1)] at q1
        have HRG : Hid (readG ([x] :: r) = foldT [] r) := by unfold Hid; rw [readG_cons, if_pos (by rw [hx1])]
        have hr : ∀ i (hi : i < r.length), ∃ u, w.cell? ⟨g, o + 1 + i, none⟩ = some u ∧ WordsAt w u r[i] := fun i hi => by
          have := hcs (i + 1) (by simpa using hi)
          simpa [Nat.add_assoc, Nat.add_comm 1 i] using this
        have HR := hide3 hr
        have HRL : Hid (∀ i (hi : i < r.length), isL r[i] = true) := fun i hi => by
          rw [List.all_cons, Bool.and_eq_true] at hl
          exact List.all_eq_true.1 hl.2 _ (List.getElem_mem hi)
        have HRZ : Hid (∀ i (hi : i < r.length), ∀ x ∈ r[i], x.length ≤ 2000000) := fun i hi => hz _ (List.mem_cons_of_mem _ (List.getElem_mem hi))
        have HEV := hide3 he
        have hrl : r.length ≤ 900000 := by simp at hLl; omega
        have HS0 : Hid (RS (w.heap.size + 1) [] ((w.alloc (.cells #[.slice none 0 0] 24)).alloc (.cells #[.slice none 0 0, .pointer none] 59))) := RS.start (by simp)
        have HB2 : Hid (Below w.heap.size w ((w.alloc (.cells #[.slice none 0 0] 24)).alloc (.cells #[.slice none 0 0, .pointer none] 59)) ∧ BxGF ((w.alloc (.cells #[.slice none 0 0] 24)).alloc (.cells #[.slice none 0 0, .pointer none] 59)) w.heap.size (.slice none 0 0)) := ⟨below_then HB0.out.1 (boxB _ _), keepBxGF _ _ _ _ HB0.out.2 (boxB _ _)⟩
        clear hcs hx hl hLl hz he cx hx1 hr hcu
        generalize ba x = sx at *
        generalize GrQ w (readG ([x] :: r)) = QQ at *
        by_cases hcap1 : cap = 1
        · subst hcap1
          have hr00 : r.length ≤ 0 := by omega
          have hb5 : ((r.length : Int) + 1 - 1) = (r.length : Int) := by omega
          go_enter Tryz.func9, Tryz.ntmps9
          go_wp2_with fail
          obtain ⟨W2, hW2⟩ : ∃ W2, W2 = ((w.alloc (.cells #[.slice none 0 0] 24)).alloc (.cells #[.slice none 0 0, .pointer none] 59)) := ⟨_, rfl⟩
          have HS1 : Hid (Below (w.heap.size + 1) W2 ((w.alloc (.cells #[.slice none 0 0] 24)).alloc (.cells #[.slice none 0 0, .pointer none] 59))) := by unfold Hid; rw [hW2]; exact Below.refl _ _
          rw [← hW2] at HB2
          clear hW2
          go_loopw [29] (fun i wr => ∃ (k : Nat) (st : List Nd), k ≤ r.length ∧ i = .int .i64 k ∧ RS (w.heap.size + 1) st wr ∧ Below (w.heap.size + 1) W2 wr ∧ foldT [] (r.take k) = some st ∧ Bd k st) (fun i _ => r.length - (intOf i).toNat)
          case atStart => exact ⟨0, [], Nat.zero_le _, rfl, HS0.out, HS1.out, rfl, Nat.le_refl _, fun n hn => by cases hn⟩
          case round =>
            obtain ⟨k, st, hk, rfl, hrs, hb, hft, hbd⟩ := hrel
            have HRS := hide3 hrs
            have HBW : Hid (Below w.heap.size w wr) := HB2.out.1.trans (hb.mono (Nat.le_succ _))
            have HBR := hide3 hb
            have HFT := hide3 hft
            have HBD := hide3 hbd
            have HGF : Hid (BxGF wr w.heap.size (.slice none 0 0)) := HB2.out.2.of hb (Nat.lt_succ_self _)
            clear hrs hb hft hbd
            by_cases hlt : k < r.length
            · exact absurd hlt (by omega)
            · obtain rfl : k = r.length := by omega
              rw [List.take_length] at HFT
              obtain ⟨ad2, cap2, all, rfl, m0, m1, _⟩ := HRS.out.all
              have HM1 := hide3 m1
              obtain ⟨⟨n0, n1⟩, n2⟩ := HGF.out
              have s1 := fun u => World.cell?_setCell_same wr ⟨w.heap.size, 0, none⟩ u n0
              have hki : ¬ ((r.length : Int) < (r.length : Int)) := by omega
              clear m1
              go_wp2
              try simp only [Exit.inBlock, Exit.then]
              refine bodyPost_ret (by simp [results, Tryz.results9, s1, go_sem]; try rfl) rfl ?_
              refine HYE.out _ ad2 cap2 all (by rw [HRG.out, HFT.out]) (HBW.out.setCell (p := ⟨w.heap.size, 0, none⟩) (Nat.le_refl _) _) ((HM1.out.low (by omega : w.heap.size + 1 ≤ w.heap.size + 1 + 1)).of (fun q hq _ => Below.heap_setCell _ _ _ _ (by simp only; omega)) |>.low (Nat.le_succ _))
        · have hc1 : (1 : Int) < (cap : Int) := by omega
          go_enter Tryz.func9, Tryz.ntmps9
          go_wp2_with fail
          obtain ⟨W2, hW2⟩ : ∃ W2, W2 = ((w.alloc (.cells #[.slice none 0 0] 24)).alloc (.cells #[.slice none 0 0, .pointer none] 59)) := ⟨_, rfl⟩
          have HS1 : Hid (Below (w.heap.size + 1) W2 ((w.alloc (.cells #[.slice none 0 0] 24)).alloc (.cells #[.slice none 0 0, .pointer none] 59))) := by unfold Hid; rw [hW2]; exact Below.refl _ _
          rw [← hW2] at HB2
          clear hW2
          go_loopw [29] (fun i wr => ∃ (k : Nat) (st : List Nd), k ≤ r.length ∧ i = .int .i64 k ∧ RS (w.heap.size + 1) st wr ∧ Below (w.heap.size + 1) W2 wr ∧ foldT [] (r.take k) = some st ∧ Bd k st) (fun i _ => r.length - (intOf i).toNat)
          case atStart => exact ⟨0, [], Nat.zero_le _, rfl, HS0.out, HS1.out, rfl, Nat.le_refl _, fun n hn => by cases hn⟩
          case round =>
            obtain ⟨k, st, hk, rfl, hrs, hb, hft, hbd⟩ := hrel
            have HRS := hide3 hrs
            have HBW : Hid (Below w.heap.size w wr) := HB2.out.1.trans (hb.mono (Nat.le_succ _))
            have HBR := hide3 hb
            have HFT := hide3 hft
            have HBD := hide3 hbd
            have HGF : Hid (BxGF wr w.heap.size (.slice none 0 0)) := HB2.out.2.of hb (Nat.lt_succ_self _)
            clear hrs hb hft hbd
            by_cases hlt : k < r.length
            · have hki : (k : Int) < (r.length : Int) := by omega
              obtain ⟨u2, c2, hu2⟩ := HR.out k hlt
              have hil := HRL.out k hlt
              have hzk := HRZ.out k hlt
              obtain ⟨l, hl⟩ : ∃ l, l = r[k] := ⟨_, rfl⟩
              rw [← hl] at hu2 hil hzk
              have HLN0 := hide3 hl
              clear hl
              cases l with
              | nil => exact absurd hil (by decide)
              | cons x' ws' =>
              have HLN : Hid (x' :: ws' = r[k]) := HLN0.out
              obtain ⟨au2, cu2, rfl, hcu2, hx2⟩ := hu2
              obtain ⟨gu2, ou2, rfl, hgu2, hx2⟩ : ∃ g o, au2 = some ⟨g, o, none⟩ ∧ g < w.heap.size ∧ ∀ i (hi : i < (x' :: ws').length), w.cell? ⟨g, o + i, none⟩ = some (.string (ba (x' :: ws')[i])) := by
                rcases hx2 with q | q
                · cases q
                · exact q
              have cx2 : w.cell? ⟨gu2, ou2, none⟩ = some (.string (ba x')) := hx2 0 (by simp)
              have d2 := (HBW.out.cell (p := ⟨g, o + 1 + k, none⟩) hg).trans c2
              have d3 := (HBW.out.cell (p := ⟨gu2, ou2, none⟩) hgu2).trans cx2
              have HCX : Hid (∀ W, Below (w.heap.size + 1) wr.drew W → W.cell? ⟨gu2, ou2, none⟩ = some (.string (ba x'))) := fun W hb => (hb.cell (p := ⟨gu2, ou2, none⟩) (by simp only; omega)).trans d3
              have HTK : Hid (∀ vw, WordsAt wr.drew vw ws' → Calls Tryz.prog 19 #[.pointer (some ⟨w.heap.size + 1, 0, none⟩), .string (ba x'), vw] wr.drew (TakeQ (w.heap.size + 1) wr.drew (takeR st x' ws'))) := fun vw hvw => take_any (HRS.out.below (Below.refl _ _).drew) (by have := HBD.out.1; omega) (fun n hn => by have := HBD.out.2 n hn; exact ⟨by omega, by omega⟩) hvw (fun y hy => hzk y (List.mem_cons_of_mem _ hy)) (HEV.out.below HBW.out.drew)
              have hwl : (x' :: ws').length = ws'.length + 1 := rfl
              rw [hwl] at d2 hcu2
              have hv1 : (1 : Int) ≤ (ws'.length : Int) + 1 := by omega
              have hv2 : (ws'.length : Int) + 1 ≤ (cu2 : Int) := by omega
              have hv3 : (0 : Int) < (ws'.length : Int) + 1 := by omega
              by_cases hcu1 : cu2 = 1
              · subst hcu1
                obtain rfl : ws' = [] := List.eq_nil_of_length_eq_zero (by omega)
                have HW1 : Hid (WordsAt wr.drew (.slice (some ⟨gu2, ou2, none⟩) 0 0) []) := ⟨_, _, rfl, Nat.le_refl _, Or.inl rfl⟩
                rw [List.length_nil] at d2
                clear hx2 hzk hil hwl hcu2 cx2 c2 HLN0 hv1 hv2 hv3
                cases htk : takeR st x' [] with
                | none =>
                  have HTN : Hid (readG ([x] :: r) = none) := by
                    unfold Hid
                    rw [HRG.out]
                    have e1 := foldT_snoc (r.take k) [] x' []
                    rw [HFT.out] at e1
                    simp only [htk] at e1
                    have e2 := foldT_none (r.take k ++ [x' :: []]) (r.drop (k + 1)) [] e1
                    rw [HLN.out, ← List.take_succ_eq_append_getElem hlt, List.take_append_drop] at e2
                    exact e2
                  rw [htk] at HTK
                  clear htk
                  go_wp2_with fail
                  go_region_held3 (fun w' => w'.cell? ⟨gu2, ou2, none⟩ = some (.string (ba x'))) (go_keep)
                    (first | (go_at_call 19; refine (HTK.out _ HW1.out).mono ?_; rintro e w5 ⟨hb5, hq5⟩; obtain ⟨_, rfl⟩ := hq5.resolve_left (fun ⟨_, q, _⟩ => by cases q); have d5 := HCX.out _ hb5; have HG5 := hide3 ((HGF.out.of (Below.refl _ _).drew (Nat.lt_succ_self _)).of hb5 (Nat.lt_succ_self _)); obtain ⟨⟨n0, n1⟩, n2⟩ := HG5.out; have s1 := fun u => World.cell?_setCell_same w5 ⟨w.heap.size, 0, none⟩ u n0; have HB5 := hide3 (HBW.out.drew.trans (hb5.mono (Nat.le_succ _))); clear hb5 hq5))
                  all_goals go_wp2
                  all_goals try simp only [Exit.inBlock, Exit.then]
                  all_goals refine bodyPost_ret (by simp [results, Tryz.results9, s1, go_sem]; try rfl) rfl ?_
                  all_goals exact HNO.out _ HTN.out (HB5.out.setCell (p := ⟨w.heap.size, 0, none⟩) (Nat.le_refl _) _)
                | some st2 =>
                  have HTS : Hid (foldT [] (r.take (k + 1)) = some st2) := by
                    unfold Hid
                    have e1 := foldT_snoc (r.take k) [] x' []
                    rw [HFT.out] at e1
                    simp only [htk] at e1
                    rw [HLN.out, ← List.take_succ_eq_append_getElem hlt] at e1
                    exact e1
                  have HBD2 := hide3 (take_bd HBD.out htk)
                  rw [htk] at HTK
                  clear htk
                  go_wp2_with fail
                  go_region_held3 (fun w' => w'.cell? ⟨gu2, ou2, none⟩ = some (.string (ba x'))) (go_keep)
                    (first | (go_at_call 19; refine (HTK.out _ HW1.out).mono ?_; rintro e w5 ⟨hb5, hq5⟩; obtain ⟨st3, h3, rfl, hr3⟩ := hq5.resolve_right (fun q => by cases q.1); cases h3; have d5 := HCX.out _ hb5; have HR5 := hide3 hr3; have HB5 := hide3 (HBR.out.drew.trans hb5); clear hb5 hq5 hr3))
                  all_goals go_wp2
                  all_goals exact ⟨⟨k + 1, st2, by omega, by go_num, HR5.out, HB5.out, HTS.out, HBD2.out⟩, by simp [intOf]; omega⟩
              · have HW1 : Hid (WordsAt wr.drew (.slice (some ⟨gu2, ou2 + 1, none⟩) ws'.length (cu2 - 1)) ws') := ⟨_, _, rfl, by omega, Or.inr ⟨gu2, ou2 + 1, rfl, Nat.lt_of_lt_of_le hgu2 HBW.out.size, fun i hi => by
                  have := hx2 (i + 1) (by simpa using hi)
                  have e : ou2 + (i + 1) = ou2 + 1 + i := by omega
                  rw [e] at this
                  have h2 : wr.drew.cell? ⟨gu2, ou2 + 1 + i, none⟩ = w.cell? ⟨gu2, ou2 + 1 + i, none⟩ := HBW.out.drew.cell (p := ⟨gu2, ou2 + 1 + i, none⟩) hgu2
                  rw [h2]
                  exact this⟩⟩
                clear hx2 hzk hil hwl cx2 c2 HLN0
                cases htk : takeR st x' ws' with
                | none =>
                  have HTN : Hid (readG ([x] :: r) = none) := by
                    unfold Hid
                    rw [HRG.out]
                    have e1 := foldT_snoc (r.take k) [] x' ws'
                    rw [HFT.out] at e1
                    simp only [htk] at e1
                    have e2 := foldT_none (r.take k ++ [x' :: ws']) (r.drop (k + 1)) [] e1
                    rw [HLN.out, ← List.take_succ_eq_append_getElem hlt, List.take_append_drop] at e2
                    exact e2
                  rw [htk] at HTK
                  clear htk
                  go_wp2_with fail
                  go_region_held3 (fun w' => w'.cell? ⟨gu2, ou2, none⟩ = some (.string (ba x'))) (go_keep)
                    (first | (go_at_call 19; refine (HTK.out _ HW1.out).mono ?_; rintro e w5 ⟨hb5, hq5⟩; obtain ⟨_, rfl⟩ := hq5.resolve_left (fun ⟨_, q, _⟩ => by cases q); have d5 := HCX.out _ hb5; have HG5 := hide3 ((HGF.out.of (Below.refl _ _).drew (Nat.lt_succ_self _)).of hb5 (Nat.lt_succ_self _)); obtain ⟨⟨n0, n1⟩, n2⟩ := HG5.out; have s1 := fun u => World.cell?_setCell_same w5 ⟨w.heap.size, 0, none⟩ u n0; have HB5 := hide3 (HBW.out.drew.trans (hb5.mono (Nat.le_succ _))); clear hb5 hq5))
                  all_goals go_wp2
                  all_goals try simp only [Exit.inBlock, Exit.then]
                  all_goals refine bodyPost_ret (by simp [results, Tryz.results9, s1, go_sem]; try rfl) rfl ?_
                  all_goals exact HNO.out _ HTN.out (HB5.out.setCell (p := ⟨w.heap.size, 0, none⟩) (Nat.le_refl _) _)
                | some st2 =>
                  have HTS : Hid (foldT [] (r.take (k + 1)) = some st2) := by
                    unfold Hid
                    have e1 := foldT_snoc (r.take k) [] x' ws'
                    rw [HFT.out] at e1
                    simp only [htk] at e1
                    rw [HLN.out, ← List.take_succ_eq_append_getElem hlt] at e1
                    exact e1
                  have HBD2 := hide3 (take_bd HBD.out htk)
                  rw [htk] at HTK
                  clear htk
                  go_wp2_with fail
                  go_region_held3 (fun w' => w'.cell? ⟨gu2, ou2, none⟩ = some (.string (ba x'))) (go_keep)
                    (first | (go_at_call 19; refine (HTK.out _ HW1.out).mono ?_; rintro e w5 ⟨hb5, hq5⟩; obtain ⟨st3, h3, rfl, hr3⟩ := hq5.resolve_right (fun q => by cases q.1); cases h3; have d5 := HCX.out _ hb5; have HR5 := hide3 hr3; have HB5 := hide3 (HBR.out.drew.trans hb5); clear hb5 hq5 hr3))
                  all_goals go_wp2
                  all_goals exact ⟨⟨k + 1, st2, by omega, by go_num, HR5.out, HB5.out, HTS.out, HBD2.out⟩, by simp [intOf]; omega⟩
            · obtain rfl : k = r.length := by omega
              rw [List.take_length] at HFT
              obtain ⟨ad2, cap2, all, rfl, m0, m1, _⟩ := HRS.out.all
              have HM1 := hide3 m1
              obtain ⟨⟨n0, n1⟩, n2⟩ := HGF.out
              have s1 := fun u => World.cell?_setCell_same wr ⟨w.heap.size, 0, none⟩ u n0
              have hki : ¬ ((r.length : Int) < (r.length : Int)) := by omega
              clear m1
              go_wp2
              try simp only [Exit.inBlock, Exit.then]
              refine bodyPost_ret (by simp [results, Tryz.results9, s1, go_sem]; try rfl) rfl ?_
              refine HYE.out _ ad2 cap2 all (by rw [HRG.out, HFT.out]) (HBW.out.setCell (p := ⟨w.heap.size, 0, none⟩) (Nat.le_refl _) _) ((HM1.out.low (by omega : w.heap.size + 1 ≤ w.heap.size + 1 + 1)).of (fun q hq _ => Below.heap_setCell _ _ _ _ (by simp only; omega)) |>.low (Nat.le_succ _))
      · rw [decide_eq_false (show ¬ x = [108, 111, 99, 107] from hx1)] at q1
        have hR : readG ([x] :: r) = none := by rw [readG_cons, if_neg (fun e => hx1 (by cases e; rfl))]
        generalize GrQ w (readG ([x] :: r)) = QQ at *
        clear hcs hx hl hz he cx
        generalize ba x = sx at *
        go_enter Tryz.func9, Tryz.ntmps9
        go_wp2
        try simp only [Exit.inBlock, Exit.then]
        refine bodyPost_ret (by simp [results, Tryz.results9, go_sem]; try rfl) rfl ?_
        exact HNO.out _ hR (by first | exact HB0.out.1.setCell (p := ⟨w.heap.size, 0, none⟩) (Nat.le_refl _) _ | exact HB0.out.1)
    · have hb4 : ((h.length : Int) == 1) = false := by rw [beq_eq_false_iff_ne]; omega
      have hR : readG (h :: r) = none := by rw [readG_cons, if_neg (fun e => h1 (by rw [e]; rfl))]
      generalize GrQ w (readG (h :: r)) = QQ at *
      have hb5 : ((h.length : Int) != 1) = true := by rw [bne, hb4]; rfl
      have hb6 : (h.length : Int) ≠ 1 := by omega
      clear hcs hx hl hz he
      go_enter Tryz.func9, Tryz.ntmps9
      go_wp2
      try simp only [Exit.inBlock, Exit.then]
      refine bodyPost_ret (by simp [results, Tryz.results9, go_sem]; try rfl) rfl ?_
      exact HNO.out _ hR (by first | exact HB0.out.1.setCell (p := ⟨w.heap.size, 0, none⟩) (Nat.le_refl _) _ | exact HB0.out.1)
end Go.Proofs.YtjbohacllhjgmaaGreatDoor
