/- We4, RwR, laid in one text. -/
import Derived.Test.YtjpmlagofcgheaaGreatDoorMg30
namespace Go.Proofs.YtjpmlagofcgheaaGreatDoor
open Go.RowKit Go.Maps Go.WideMaps
set_option maxRecDepth 100000

set_option maxHeartbeats 25600000 in
theorem wantsPeers_walk {w : World} (he : Env w) (hf : FL w) {ap : Option Addr} {cp : Nat} {Ps : List Pg} (hps : PgsAt w (.slice ap Ps.length cp) Ps) (hpz : Ps.length ≤ 9223372036854775807) (hpo : ∀ P ∈ Ps, PgOk P) {x1 x2 x3 x4 : Option Addr} {y1 y2 y3 y4 z1 z2 z3 z4 : Nat} {O : List Dp} (ho : DepsAt w (.slice x4 y4 z4) O) (hol : O.length ≤ 9223372036854775807) (hon : ∀ d ∈ O, d.nm.size ≤ 9223372036854775807) (hor : ∀ d ∈ O, d.rg.length * 48 ≤ 140737488355328) {xe : Option Addr} {ye ze : Nat} {Es : List Pn} (hpe : PinsAt w (.slice xe ye ze) Es) (hel : Es.length ≤ 9223372036854775807) (hen : ∀ q ∈ Es, q.nm.size ≤ 9223372036854775807) (hei : ∀ q ∈ Es, I64 q.a ∧ I64 q.b ∧ I64 q.c) (p : Pn) (hkp : KeyOk p.nm p.a p.b p.c) :
    Calls Tryz.prog 6 #[.agg #[.slice ap Ps.length cp, .slice x1 y1 z1, .slice x2 y2 z2, .slice x3 y3 z3, .slice x4 y4 z4], .slice xe ye ze, .agg #[.string p.nm, .int .i64 p.a, .int .i64 p.b, .int .i64 p.c]] w fun e w' => e = .returned (.bool true) ∧ Below w.heap.size w w' := by
  have HBX : Hid (Below w.heap.size w ((w.alloc (.cells #[.slice ap Ps.length cp, .slice x1 y1 z1, .slice x2 y2 z2, .slice x3 y3 z3, .slice x4 y4 z4] 56)).alloc (.cells #[.string p.nm, .int .i64 p.a, .int .i64 p.b, .int .i64 p.c] 58))) := boxB2 _ _ _
  have HWA : Hid (∀ W0, Below w.heap.size w W0 → Calls Tryz.prog 23 #[.agg #[.slice ap Ps.length cp, .slice x1 y1 z1, .slice x2 y2 z2, .slice x3 y3 z3, .slice x4 y4 z4]] W0 (fun e w' => BothQ W0 w' e)) := fun W0 hb => both_any (he.below hb) (hf.below hb) (hps.below hb) hpz hpo
  have HKN : Hid (∀ W, Below w.heap.size w W → Calls Tryz.prog 24 #[] W fun e w' => e = .returned (.bool true) ∧ Below W.heap.size W w') := fun W hb => known_wa (he.below hb) (hf.below hb)
  have HCX : Hid (∀ (W0 w1 W : World) (C E M : Nat) (L R : List CV), BothAt W0 w1 C E M L R → Below w1.heap.size w1 W → Below w.heap.size w W → Calls Tryz.prog 25 #[.pointer (some ⟨C, 0, none⟩), .agg #[.slice x1 y1 z1, .slice x2 y2 z2, .slice x3 y3 z3, .slice x4 y4 z4], .slice xe ye ze, .agg #[.string p.nm, .int .i64 p.a, .int .i64 p.b, .int .i64 p.c]] W fun e w' => ∃ r b v ts, r = ctxC L O Es p ∧ b = r.isSome ∧ e = .returned (.tuple #[v, .bool b]) ∧ OwnPn w' W.heap.size v ts ∧ TsOk L r ts ∧ Below W.heap.size W w') := fun W0 w1 W C E M L R hq h1 hb => (ctx_any (hq.1.1.below h1) hq.1.2 (ho.below hb) hol hon (hpe.below hb) hel hen hei p hkp).mono fun e w' h => by
    obtain ⟨v, ts, h1, h2, h3, h4⟩ := ctx_w h
    exact ⟨_, _, v, ts, rfl, rfl, h1, h2, h3, h4⟩
  have HP0 : Hid (∀ (W : World) (ds : List Dp) (np : Nat) nm a b c p1 q1 r1 p2 r2 p3 q3 r3, Below w.heap.size w W → np = ds.length → DepsAt W (.slice p2 np r2) ds → SmD ds → Calls Tryz.prog 29 #[.agg #[.string nm, .int .i64 a, .int .i64 b, .int .i64 c, .slice p1 q1 r1, .slice p2 np r2, .slice p3 q3 r3], .agg #[.slice x1 y1 z1, .slice x2 y2 z2, .slice x3 y3 z3, .slice x4 y4 z4]] W fun e w' => ∃ v ps, e = .returned v ∧ OwnD w' W.heap.size v ps ∧ ps.map (·.1) = peersD O ds ∧ Below W.heap.size W w') := fun W ds np nm a b c p1 q1 r1 p2 r2 p3 q3 r3 hb hnp hd hs => by
    subst hnp
    refine (peers_any (ho.below hb) hol hon nm a b c hd (fitP_of hor hs)).mono ?_
    rintro e w' ⟨v, rfl, ps, h1, h2, h3⟩
    exact ⟨v, ps, rfl, h1, h2, h3⟩
  have HX0 : Hid (WcBx ((w.alloc (.cells #[.slice ap Ps.length cp, .slice x1 y1 z1, .slice x2 y2 z2, .slice x3 y3 z3, .slice x4 y4 z4] 56)).alloc (.cells #[.string p.nm, .int .i64 p.a, .int .i64 p.b, .int .i64 p.c] 58)) w.heap.size (.slice ap Ps.length cp) (.slice x1 y1 z1) (.slice x2 y2 z2) (.slice x3 y3 z3) (.slice x4 y4 z4) p) := WcBx.new _ _ _ _ _ _ _
  obtain ⟨⟨⟨d0, d1, d2, d3, d4⟩, q0, q1, q2, q3⟩, dl⟩ := HX0.out
  clear he hf hps hpz hpo ho hol hon hpe hel hen hei hkp hor
  go_enter Tryz.func6, Tryz.ntmps6
  go_upto_region 1 with fail
  generalize ((w.alloc (.cells #[.slice ap Ps.length cp, .slice x1 y1 z1, .slice x2 y2 z2, .slice x3 y3 z3, .slice x4 y4 z4] 56)).alloc (.cells #[.string p.nm, .int .i64 p.a, .int .i64 p.b, .int .i64 p.c] 58)) = W0 at *
  have HW0 := HBX
  go_upto_region 5 with (first
    | (go_at_call 25; have _t := HW2; refine (HCX.out _ _ _ _ _ _ _ _ HQ.out HB2.out HW2.out).mono ?_; rintro e w3 ⟨r, b, v3, ts, hr, hbs, rfl, ho3, hts, hb3⟩; have HR := hide3 hr; have HBS := hide3 hbs; have HO3 := hide3 ho3; have HT3 := hide3 hts; obtain ⟨a3, a3c, rfl⟩ := own_len ho3; have HB13 := hide3 (below_then HB2.out hb3); clear ho3 hts hr hbs; have HX3 := hide3 (HX2.out.below hb3); have HW3 := hide3 (below_then HW2.out hb3); clear d0 d1 d2 d3 d4 q0 q1 q2 q3 dl; obtain ⟨⟨⟨d0, d1, d2, d3, d4⟩, q0, q1, q2, q3⟩, dl⟩ := HX3.out)
    | (go_at_call 24; refine (HKN.out _ HW1.out).mono ?_; rintro e w2 ⟨rfl, hb2⟩; have HB2 := hide3 hb2; have HX2 := hide3 (HX1.out.below hb2); have HW2 := hide3 (below_then HW1.out hb2); clear d0 d1 d2 d3 d4 q0 q1 q2 q3 dl; obtain ⟨⟨⟨d0, d1, d2, d3, d4⟩, q0, q1, q2, q3⟩, dl⟩ := HX2.out)
    | (go_at_call 23; refine (HWA.out _ HW0.out).mono ?_; rintro e w1 ⟨C, Ec, M, L, R, rfl, hq⟩; have HQ := hide3 hq; have hb1 := hq.2.2.2; clear hq; have HX1 := hide3 (HX0.out.below hb1); have HW1 := hide3 (below_then HW0.out hb1); clear d0 d1 d2 d3 d4 q0 q1 q2 q3 dl; obtain ⟨⟨⟨d0, d1, d2, d3, d4⟩, q0, q1, q2, q3⟩, dl⟩ := HX1.out))
  rcases r with _ | out
  · obtain rfl : b = false := HBS.out
    obtain rfl : ts = [] := HT3.out.1 rfl
    go_wp2_with fail
    go_ret
    exact ⟨rfl, HW3.out⟩
  · obtain rfl : b = true := HBS.out
    obtain ⟨htp, htw, htg⟩ := HT3.out.2 out rfl
    have htl : ts.length ≤ 2048 := by rw [htp.length_eq]; exact htg.len (both_peers HQ.out)
    have HAT : Hid (∀ y, (y = p ∨ y ∈ ts) → ∃ x, catC L y.nm y.a y.b y.c = some x ∧ x.pg.p = peersOf L y) := fun y hy => ask_there HR.out.symm htp hy
    have HAI : Hid (∀ e ∈ askL L O p ts, ∃ q ∈ ts, q.nm = e.nm ∧ inL e.rg q.a q.b q.c = true) := fun e he => ask_in HR.out.symm htp he
    have HAH : Hid (∀ q ∈ ts, ∃ e ∈ askL L O p ts, e.nm = q.nm) := fun q hq => ask_has HR.out.symm htp hq
    have HSD : Hid (∀ y, (y = p ∨ y ∈ ts) → SmD (peersOf L y) ∧ (peersOf L y).length ≤ 16) := fun y hy => by
      obtain ⟨x, h1, h2⟩ := HAT.out y hy
      have hf := HQ.out.1.1.find h1
      rw [← h2]
      exact ⟨hf.2.2.2.2.2.2.2.2.2.1, (peers_short hf.2.2.2.2.2.2.1).1⟩
    have HPL : Hid (∀ y, (y = p ∨ y ∈ ts) → (peersOf L y).length ≤ 16) := fun y hy => (HSD.out y hy).2
    have HAL : Hid (∀ i, (askL L O p (ts.take i)).length ≤ 16 * ((ts.take i).length + 1)) := fun i => ask_len fun y hy => HPL.out y (hy.imp id List.mem_of_mem_take)
    have HGT : Hid (∀ (W : World) (y : Pn), Below w3.heap.size w3 W → (y = p ∨ y ∈ ts) → Calls Tryz.prog 13 #[.pointer (some ⟨C, 0, none⟩), .string y.nm, .agg #[.int .i64 y.a, .int .i64 y.b, .int .i64 y.c]] W (GetQ W (peersOf L y))) := fun W y hb hy => by
      obtain ⟨x, h1, h2⟩ := HAT.out y hy
      exact get_q (HQ.out.1.1.below (below_then HB13.out hb)) h1 h2
    have HPE : Hid (∀ (W : World) (y : Pn) nm a b c p1 q1 r1 p2 np r2 p3 q3 r3, Below w3.heap.size w3 W → (y = p ∨ y ∈ ts) → np = (peersOf L y).length → DepsAt W (.slice p2 np r2) (peersOf L y) → Calls Tryz.prog 29 #[.agg #[.string nm, .int .i64 a, .int .i64 b, .int .i64 c, .slice p1 q1 r1, .slice p2 np r2, .slice p3 q3 r3], .agg #[.slice x1 y1 z1, .slice x2 y2 z2, .slice x3 y3 z3, .slice x4 y4 z4]] W fun e w' => ∃ v ps, e = .returned v ∧ OwnD w' W.heap.size v ps ∧ ps.map (·.1) = peersD O (peersOf L y) ∧ Below W.heap.size W w') := fun W y nm a b c p1 q1 r1 p2 np r2 p3 q3 r3 hb hy hn hd => HP0.out W _ np nm a b c p1 q1 r1 p2 r2 p3 q3 r3 (below_then HW3.out hb) hn hd (HSD.out y hy).1
    clear htp htw htg
    go_wp2_with (first
      | (go_at_call 29; have _t := HD4; refine (HPE.out _ p nm a b c _ _ _ _ _ _ _ _ _ HW4b.out (Or.inl rfl) HNP.out HD4.out).mono ?_; rintro e w5 ⟨v5, ps5, rfl, ho5, hq5, hb5⟩; have HO5 := hide3 (ho5.base HW4b.out.size); have HQ5 := hide3 hq5; obtain ⟨a5, c5, rfl⟩ := ho5.len; have HW5 : Hid (Below w3.heap.size w3 w5) := below_then HW4b.out hb5; clear ho5 hq5 hb5)
      | (go_at_call 13; refine (HGT.out _ p (Below.refl _ _) (Or.inl rfl)).mono ?_; rintro e w4 ⟨nm, a, b, c, p1, q1', r1, p2, r2, p3, q3', r3, qs, rfl, ⟨hqs, hqm⟩, hb4⟩; obtain ⟨np, hnp⟩ : ∃ n, n = (peersOf L p).length := ⟨_, rfl⟩; rw [← hnp] at hqs; rw [← hnp]; have HNP := hide3 hnp; have HW4b : Hid (Below w3.heap.size w3 (w4.alloc (.cells #[.string nm, .int .i64 a, .int .i64 b, .int .i64 c, .slice p1 q1' r1, .slice p2 np r2, .slice p3 q3' r3] 34))) := below_then hb4 (boxB _ _); have HD4 : Hid (DepsAt (w4.alloc (.cells #[.string nm, .int .i64 a, .int .i64 b, .int .i64 c, .slice p1 q1' r1, .slice p2 np r2, .slice p3 q3' r3] 34)) (.slice p2 np r2) (peersOf L p)) := (by have e := (hqs.below (boxB w4 (.cells #[.string nm, .int .i64 a, .int .i64 b, .int .i64 c, .slice p1 q1' r1, .slice p2 np r2, .slice p3 q3' r3] 34))).at; rw [hqm] at e; exact e); have HX4 := hide3 (HX3.out.below HW4b.out); clear hqs hqm hb4 hnp; clear d0 d1 d2 d3 d4 q0 q1 q2 q3 dl; obtain ⟨⟨⟨d0, d1, d2, d3, d4⟩, q0, q1, q2, q3⟩, dl⟩ := HX4.out))
    have hgp := guardPn
    clear d0 d1 d2 d3 d4 q0 q1 q2 q3 dl
    go_loopw [13, 14] (fun va vi wr => ∃ (i : Nat) (ps : List (Dp × Value)), i ≤ ts.length ∧ vi = .int .i64 i ∧ OwnD wr w3.heap.size va ps ∧ ps.map (·.1) = askL L O p (ts.take i) ∧ Below w3.heap.size w3 wr) (fun _ vi _ => ts.length - (intOf vi).toNat)
    case atStart => exact ⟨0, ps5, Nat.zero_le _, rfl, HO5.out, by rw [HQ5.out]; unfold askL; simp, HW5.out⟩
    case round =>
      obtain ⟨i, ps, hi, rfl, hod, hps, hbw⟩ := hrel
      obtain ⟨ao, co, rfl⟩ := hod.len
      have HB := hide3 hbw
      have HOD := hide3 hod
      have HPS := hide3 hps
      have hpl : ps.length ≤ 16 * (i + 1) := by
        have e := congrArg List.length hps
        rw [List.length_map] at e
        rw [e]
        exact Nat.le_trans (HAL.out i) (by rw [List.length_take]; omega)
      have hpz : ps.length ≤ 100000 := by omega
      clear hod hps hbw hpl
      by_cases hlt : i < ts.length
      · have hki : (i : Int) < (ts.length : Int) := by omega
        obtain ⟨ga, capa, _, hga, hva, _, ⟨p0, p1, p2, p3⟩, _⟩ := pn_cells HO3.out i hlt
        injection hva with hq1 hq2 hq3
        subst hq1
        clear hq2 hq3
        have HXM : Hid (ts[i] = p ∨ ts[i] ∈ ts) := Or.inr (List.getElem_mem hlt)
        have HSN : Hid (askL L O p (ts.take (i + 1)) = askL L O p (ts.take i) ++ peersD O (peersOf L ts[i])) := ask_snoc hlt
        obtain ⟨x, hx⟩ : ∃ x, x = ts[i] := ⟨_, rfl⟩
        rw [← hx] at p0 p1 p2 p3 HXM HSN
        clear hx
        have HKT : Hid (Below w3.heap.size w3 wr ∧ OwnD wr w3.heap.size (.slice ao ps.length co) ps) := ⟨HB.out, HOD.out⟩
        have HTF : Hid (∀ a b, (Below w3.heap.size w3 a ∧ OwnD a w3.heap.size (.slice ao ps.length co) ps) → Below a.heap.size a b → (Below w3.heap.size w3 b ∧ OwnD b w3.heap.size (.slice ao ps.length co) ps)) := fun a b hx hab => ⟨below_then hx.1 hab, hx.2.below hab⟩
        have HCL : Hid (∀ W, Below w3.heap.size w3 W → W.cell? ⟨ga, i * 4, none⟩ = some (.string x.nm) ∧ W.cell? ⟨ga, i * 4 + 1, none⟩ = some (.int .i64 x.a) ∧ W.cell? ⟨ga, i * 4 + 2, none⟩ = some (.int .i64 x.b) ∧ W.cell? ⟨ga, i * 4 + 3, none⟩ = some (.int .i64 x.c)) := fun W hb => ⟨(hb.cell (p := ⟨ga, i * 4, none⟩) hga).trans p0, (hb.cell (p := ⟨ga, i * 4 + 1, none⟩) hga).trans p1, (hb.cell (p := ⟨ga, i * 4 + 2, none⟩) hga).trans p2, (hb.cell (p := ⟨ga, i * 4 + 3, none⟩) hga).trans p3⟩
        have HGX : Hid (∀ W, Below w3.heap.size w3 W → Calls Tryz.prog 13 #[.pointer (some ⟨C, 0, none⟩), .string x.nm, .agg #[.int .i64 x.a, .int .i64 x.b, .int .i64 x.c]] W (GetQ W (peersOf L x))) := fun W hb => HGT.out W x hb HXM.out
        obtain ⟨m0, m1, m2, m3⟩ := HCL.out _ HB.out
        clear p0 p1 p2 p3
        go_upto_region 14 with fail
        go_cut [15, 16] from 63 to 91 (fun s15 s16 wx => ∃ gb nm a b c p1 q1 r1 p2 r2 p3 q3 r3, s15 = .pointer (some ⟨gb, 0, none⟩) ∧ s16 = .bool true ∧ ((wx.cell? ⟨gb, 0, none⟩ = some (.string nm) ∧ wx.cell? ⟨gb, 1, none⟩ = some (.int .i64 a) ∧ wx.cell? ⟨gb, 2, none⟩ = some (.int .i64 b) ∧ wx.cell? ⟨gb, 3, none⟩ = some (.int .i64 c) ∧ wx.cell? ⟨gb, 4, none⟩ = some (.slice p1 q1 r1) ∧ wx.cell? ⟨gb, 5, none⟩ = some (.slice p2 (peersOf L x).length r2) ∧ wx.cell? ⟨gb, 6, none⟩ = some (.slice p3 q3 r3)) ∧ gb < wx.heap.size) ∧ DepsAt wx (.slice p2 (peersOf L x).length r2) (peersOf L x) ∧ (Below w3.heap.size w3 wx ∧ OwnD wx w3.heap.size (.slice ao ps.length co) ps))
        case first =>
          have HOAt : Hid (Below w3.heap.size w3 (wr.alloc (.cells #[.string ⟨#[]⟩, .int .i64 0, .int .i64 0, .int .i64 0, .slice none 0 0, .slice none 0 0, .slice none 0 0] 34)).drew ∧ OwnD (wr.alloc (.cells #[.string ⟨#[]⟩, .int .i64 0, .int .i64 0, .int .i64 0, .slice none 0 0, .slice none 0 0, .slice none 0 0] 34)).drew w3.heap.size (.slice ao ps.length co) ps) := HTF.out _ _ (HTF.out _ _ HKT.out (boxB _ _)) (Below.refl _ _).drew
          have HOBt : Hid (Below w3.heap.size w3 wr.drew ∧ OwnD wr.drew w3.heap.size (.slice ao ps.length co) ps) := HTF.out _ _ HKT.out (Below.refl _ _).drew
          have HZF : Hid (∀ b, Below (wr.alloc (.cells #[.string ⟨#[]⟩, .int .i64 0, .int .i64 0, .int .i64 0, .slice none 0 0, .slice none 0 0, .slice none 0 0] 34)).drew.heap.size (wr.alloc (.cells #[.string ⟨#[]⟩, .int .i64 0, .int .i64 0, .int .i64 0, .slice none 0 0, .slice none 0 0, .slice none 0 0] 34)).drew b → BxPF b wr.heap.size ⟨#[]⟩ 0 0 0 (.slice none 0 0) (.slice none 0 0) (.slice none 0 0)) := fun b hb => keepBxPF _ _ _ _ _ _ _ _ _ _ (keepBxPF _ _ _ _ _ _ _ _ _ _ (BxPF.new rfl _ _ _ _ _ _ _) (Below.refl _ _).drew) hb
          have HZS : Hid ((wr.alloc (.cells #[.string ⟨#[]⟩, .int .i64 0, .int .i64 0, .int .i64 0, .slice none 0 0, .slice none 0 0, .slice none 0 0] 34)).drew.heap.size = wr.heap.size + 1) := by unfold Hid; simp
          have nb0 := World.new_ne wr ⟨ga, i * 4, none⟩ m0
          go_region_held3 (fun w' => w'.cell? ⟨ga, i * 4, none⟩ = some (.string x.nm) ∧ w'.cell? ⟨ga, i * 4 + 1, none⟩ = some (.int .i64 x.a) ∧ w'.cell? ⟨ga, i * 4 + 2, none⟩ = some (.int .i64 x.b) ∧ w'.cell? ⟨ga, i * 4 + 3, none⟩ = some (.int .i64 x.c)) (go_keep) (first
            | (go_at_call 13; refine (HGX.out _ HOAt.out.1).mono ?_; rintro e w7 ⟨nm, a, b, c, p1, q1, r1, p2, r2, p3, q3, r3, qs, rfl, ⟨hqs, hqm⟩, hb⟩; have HK7 : Hid (Below w3.heap.size w3 w7 ∧ OwnD w7 w3.heap.size (.slice ao ps.length co) ps) := (by with_reducible exact hide3 (HTF.out _ _ HOAt.out hb)); have HQS := hide3 hqs; have HQM := hide3 hqm; have HZ2 := hide3 (HZF.out _ hb); have HB17 : Hid (Below wr.heap.size wr w7) := below_then ((boxB _ _).drew) hb; obtain ⟨⟨r0, r1', r2', r3', r4, r5, r6, r7⟩, hfz⟩ := HZ2.out; have f0 := hfz 0 (by decide); have f1 := hfz 1 (by decide); have f2 := hfz 2 (by decide); have f3 := hfz 3 (by decide); have f4 := hfz 4 (by decide); have f5 := hfz 5 (by decide); have f6 := hfz 6 (by decide); clear hfz; obtain ⟨m0, m1, m2, m3⟩ := HCL.out _ HK7.out.1; clear hb hqs hqm)
            | (go_at_call 13; refine (HGX.out _ HOBt.out.1).mono ?_; rintro e w7 ⟨nm, a, b, c, p1, q1, r1, p2, r2, p3, q3, r3, qs, rfl, ⟨hqs, hqm⟩, hb⟩; have HK7 : Hid (Below w3.heap.size w3 w7 ∧ OwnD w7 w3.heap.size (.slice ao ps.length co) ps) := (by with_reducible exact hide3 (HTF.out _ _ HOBt.out hb)); have HQS := hide3 hqs; have HQM := hide3 hqm; obtain ⟨m0, m1, m2, m3⟩ := HCL.out _ HK7.out.1; have nb2 := World.new_ne w7 ⟨ga, i * 4, none⟩ m0; clear hb hqs hqm))
          all_goals first
            | (have _t := HZ2; have HC8 := hide3 (set7 r0 r1' r2' r3' r4 r5 r6 (.string nm) (.int .i64 a) (.int .i64 b) (.int .i64 c) (.slice p1 q1 r1) (.slice p2 (peersOf L x).length r2) (.slice p3 q3 r3)); have HK8 : Hid (Below w3.heap.size w3 (((((((w7.setCell ⟨wr.heap.size, 0, none⟩ (.string nm)).setCell ⟨wr.heap.size, 1, none⟩ (.int .i64 a)).setCell ⟨wr.heap.size, 2, none⟩ (.int .i64 b)).setCell ⟨wr.heap.size, 3, none⟩ (.int .i64 c)).setCell ⟨wr.heap.size, 4, none⟩ (.slice p1 q1 r1)).setCell ⟨wr.heap.size, 5, none⟩ (.slice p2 (peersOf L x).length r2)).setCell ⟨wr.heap.size, 6, none⟩ (.slice p3 q3 r3)) ∧ OwnD (((((((w7.setCell ⟨wr.heap.size, 0, none⟩ (.string nm)).setCell ⟨wr.heap.size, 1, none⟩ (.int .i64 a)).setCell ⟨wr.heap.size, 2, none⟩ (.int .i64 b)).setCell ⟨wr.heap.size, 3, none⟩ (.int .i64 c)).setCell ⟨wr.heap.size, 4, none⟩ (.slice p1 q1 r1)).setCell ⟨wr.heap.size, 5, none⟩ (.slice p2 (peersOf L x).length r2)).setCell ⟨wr.heap.size, 6, none⟩ (.slice p3 q3 r3)) w3.heap.size (.slice ao ps.length co) ps) := HTF.out _ _ HKT.out (below_set7 (Nat.le_refl _) HB17.out); have HD8 : Hid (DepsAt (((((((w7.setCell ⟨wr.heap.size, 0, none⟩ (.string nm)).setCell ⟨wr.heap.size, 1, none⟩ (.int .i64 a)).setCell ⟨wr.heap.size, 2, none⟩ (.int .i64 b)).setCell ⟨wr.heap.size, 3, none⟩ (.int .i64 c)).setCell ⟨wr.heap.size, 4, none⟩ (.slice p1 q1 r1)).setCell ⟨wr.heap.size, 5, none⟩ (.slice p2 (peersOf L x).length r2)).setCell ⟨wr.heap.size, 6, none⟩ (.slice p3 q3 r3)) (.slice p2 (peersOf L x).length r2) (peersOf L x)) := (by have e := (HQS.out.of (w' := (((((((w7.setCell ⟨wr.heap.size, 0, none⟩ (.string nm)).setCell ⟨wr.heap.size, 1, none⟩ (.int .i64 a)).setCell ⟨wr.heap.size, 2, none⟩ (.int .i64 b)).setCell ⟨wr.heap.size, 3, none⟩ (.int .i64 c)).setCell ⟨wr.heap.size, 4, none⟩ (.slice p1 q1 r1)).setCell ⟨wr.heap.size, 5, none⟩ (.slice p2 (peersOf L x).length r2)).setCell ⟨wr.heap.size, 6, none⟩ (.slice p3 q3 r3))) fun g hg _ => heap7 (by rw [HZS.out] at hg; omega)).at; rw [HQM.out] at e; exact e); have hl8 : wr.heap.size < (((((((w7.setCell ⟨wr.heap.size, 0, none⟩ (.string nm)).setCell ⟨wr.heap.size, 1, none⟩ (.int .i64 a)).setCell ⟨wr.heap.size, 2, none⟩ (.int .i64 b)).setCell ⟨wr.heap.size, 3, none⟩ (.int .i64 c)).setCell ⟨wr.heap.size, 4, none⟩ (.slice p1 q1 r1)).setCell ⟨wr.heap.size, 5, none⟩ (.slice p2 (peersOf L x).length r2)).setCell ⟨wr.heap.size, 6, none⟩ (.slice p3 q3 r3)).heap.size := (by have := HB17.out.size; have e := World.block_lt_of_cell? _ _ HC8.out.1; exact e); clear _t HZ2 r0 r1' r2' r3' r4 r5 r6 r7 f0 f1 f2 f3 f4 f5 f6; generalize (((((((w7.setCell ⟨wr.heap.size, 0, none⟩ (.string nm)).setCell ⟨wr.heap.size, 1, none⟩ (.int .i64 a)).setCell ⟨wr.heap.size, 2, none⟩ (.int .i64 b)).setCell ⟨wr.heap.size, 3, none⟩ (.int .i64 c)).setCell ⟨wr.heap.size, 4, none⟩ (.slice p1 q1 r1)).setCell ⟨wr.heap.size, 5, none⟩ (.slice p2 (peersOf L x).length r2)).setCell ⟨wr.heap.size, 6, none⟩ (.slice p3 q3 r3)) = w8 at *)
            | (have HC8 := hide3 (BxPF.new (w := w7) rfl nm a b c (.slice p1 q1 r1) (.slice p2 (peersOf L x).length r2) (.slice p3 q3 r3)).1; have HK8 : Hid (Below w3.heap.size w3 (w7.alloc (.cells #[.string nm, .int .i64 a, .int .i64 b, .int .i64 c, .slice p1 q1 r1, .slice p2 (peersOf L x).length r2, .slice p3 q3 r3] 34)) ∧ OwnD (w7.alloc (.cells #[.string nm, .int .i64 a, .int .i64 b, .int .i64 c, .slice p1 q1 r1, .slice p2 (peersOf L x).length r2, .slice p3 q3 r3] 34)) w3.heap.size (.slice ao ps.length co) ps) := HTF.out _ _ HK7.out (boxB _ _); have HD8 : Hid (DepsAt (w7.alloc (.cells #[.string nm, .int .i64 a, .int .i64 b, .int .i64 c, .slice p1 q1 r1, .slice p2 (peersOf L x).length r2, .slice p3 q3 r3] 34)) (.slice p2 (peersOf L x).length r2) (peersOf L x)) := (by have e := (HQS.out.below (boxB w7 (.cells #[.string nm, .int .i64 a, .int .i64 b, .int .i64 c, .slice p1 q1 r1, .slice p2 (peersOf L x).length r2, .slice p3 q3 r3] 34))).at; rw [HQM.out] at e; exact e); generalize (w7.alloc (.cells #[.string nm, .int .i64 a, .int .i64 b, .int .i64 c, .slice p1 q1 r1, .slice p2 (peersOf L x).length r2, .slice p3 q3 r3] 34)) = w8 at *)
          all_goals go_wp2_with fail
          all_goals go_meet
          all_goals first
            | (obtain ⟨u0, u1, u2, u3, u4, u5, u6⟩ := HC8.out; exact ⟨_, nm, a, b, c, p1, q1, r1, p2, r2, p3, q3, r3, rfl, rfl, ⟨⟨u0, u1, u2, u3, u4, u5, u6⟩, hl8⟩, HD8.out, HK8.out⟩)
            | (obtain ⟨u0, u1, u2, u3, u4, u5, u6, u7⟩ := HC8.out; exact ⟨_, nm, a, b, c, p1, q1, r1, p2, r2, p3, q3, r3, rfl, rfl, ⟨⟨u0, u1, u2, u3, u4, u5, u6⟩, u7⟩, HD8.out, HK8.out⟩)
        case rest =>
          obtain ⟨gb, nm, a, b, c, p1, q1, r1, p2, r2, p3, q3, r3, rfl, rfl, ⟨⟨u0, u1, u2, u3, u4, u5, u6⟩, u7⟩, hd8, hk8⟩ := hcut
          have HD8 := hide3 hd8
          have HK8 := hide3 hk8
          have HX8 := hide3 (HX3.out.below hk8.1)
          obtain ⟨⟨⟨d0, d1, d2, d3, d4⟩, _, _, _, _⟩, dl⟩ := HX8.out
          clear hd8 hk8 m0 m1 m2 m3
          obtain ⟨np, hnp⟩ : ∃ n, n = (peersOf L x).length := ⟨_, rfl⟩
          rw [← hnp] at u5 HD8
          have HNP := hide3 hnp
          clear hnp
          go_wp2_with (first
            | (at_builtin; have _t := HO9; refine wp_ownR (B := w3.heap.size) (wx := w9) (v := .slice ao ps.length co) (x := .slice a9 qs.length c9) infoDp Tryz.underlying32 rfl (by decide) (by decide) rfl (.tmp 86) (.tmp 90) rfl rfl HK9.out.2.1 HK9.out.1.size rfl HO9.out.1 (dp_ones HO9.out) (by have := HLQ.out; omega) ?_; intro v1 w10 ho hgr hat; have HO10 := hide3 (OwnD.two HK9.out.2 HO9.out HK8.out.1.size ho hgr); have HB10 : Hid (Below w3.heap.size w3 w10) := HK9.out.1.grown hgr HK9.out.1.size (fun k hk => (World.ownsRow.lt HK9.out.2.1 k hk).1); obtain ⟨a10, c10, hv10⟩ := own_len ho; subst hv10; clear ho hgr hat)
            | (go_at_call 29; refine (HPE.out wc x nm a b c _ _ _ _ _ _ _ _ _ HK8.out.1 HXM.out HNP.out HD8.out).mono ?_; rintro e w9 ⟨v9, qs, rfl, ho9, hq9, hb9⟩; have HO9 := hide3 ho9; have HQ9 := hide3 hq9; obtain ⟨a9, c9, rfl⟩ := ho9.len; have HK9 : Hid (Below w3.heap.size w3 w9 ∧ OwnD w9 w3.heap.size (.slice ao ps.length co) ps) := HTF.out _ _ HK8.out hb9; have HLQ : Hid (qs.length ≤ 16) := (by have e := congrArg List.length hq9; unfold peersD at e; rw [List.length_map, List.length_map] at e; rw [e]; exact HPL.out _ HXM.out); clear ho9 hq9 hb9))
          refine ⟨⟨i + 1, ps ++ qs, by omega, by go_num, ?_, ?_, HB10.out⟩, by simp [intOf]; omega⟩
          · exact HO10.out
          · rw [List.map_append, HPS.out, HQ9.out, HSN.out]
      · obtain rfl : i = ts.length := by omega
        have hki : ¬ ((ts.length : Int) < (ts.length : Int)) := by omega
        rw [List.take_length] at HPS
        go_wp2_with fail
        obtain ⟨Q, hQ⟩ : ∃ Q, Q = askL L O p ts := ⟨_, rfl⟩
        have HQI : Hid (∀ e ∈ Q, ∃ q ∈ ts, q.nm = e.nm ∧ inL e.rg q.a q.b q.c = true) := by
          rw [hQ]
          exact HAI.out
        have HQH : Hid (∀ q ∈ ts, ∃ e ∈ Q, e.nm = q.nm) := by
          rw [hQ]
          exact HAH.out
        rw [← hQ] at HPS
        have HDQ : Hid (DepsAt wr (.slice ao ps.length co) Q) := by
          have e := HOD.out.at
          rw [HPS.out] at e
          exact e
        have hpq : ps.length = Q.length := by
          have e := congrArg List.length HPS.out
          rw [List.length_map] at e
          exact e
        have hql : Q.length ≤ 100000 := by omega
        rw [hpq] at HDQ
        rw [hpq]
        have HEL : Hid (∀ k (_ : k < Q.length), ∃ g o, ao = some ⟨g, o, none⟩ ∧ ∃ au nu cu, DpIn wr g (o + k * 2) Q[k] (.slice au nu cu)) := by
          obtain ⟨ad', cap', e, _, hel⟩ := HDQ.out.el
          injection e with e1 _ _
          subst e1
          exact hel
        have HB6 := HB
        obtain ⟨w6, hw6⟩ : ∃ x, x = wr := ⟨_, rfl⟩
        rw [← hw6] at HEL HB6
        rw [← hw6]
        clear hw6 hpq HOD HPS HDQ hQ HB hpz HAI HAH HGT HPE
        go_loopw [17] (fun vi wr => ∃ i : Nat, i ≤ Q.length ∧ vi = .int .i64 i ∧ Below w6.heap.size w6 wr) (fun vi _ => Q.length - (intOf vi).toNat)
        case atStart => exact ⟨0, Nat.zero_le _, rfl, Below.refl _ _⟩
        case round =>
          obtain ⟨i, hi, rfl, hbw⟩ := hrel
          have HB := hide3 hbw
          clear hbw
          by_cases hlt : i < Q.length
          · have hki : (i : Int) < (Q.length : Int) := by omega
            obtain ⟨g, o, rfl, au, nu, cu, e0, e1, hsp, hg⟩ := HEL.out i hlt
            have HME : Hid (∃ q ∈ ts, q.nm = Q[i].nm ∧ inL Q[i].rg q.a q.b q.c = true) := HQI.out _ (List.getElem_mem hlt)
            obtain ⟨d, hd⟩ : ∃ d, d = Q[i] := ⟨_, rfl⟩
            rw [← hd] at e0 hsp HME
            have HSP := hide3 hsp.1
            clear hd hsp
            have HIN : Hid (∀ (W : World) (q : Pn), Below w6.heap.size w6 W → Calls Tryz.prog 30 #[.slice au nu cu, .agg #[.int .i64 q.a, .int .i64 q.b, .int .i64 q.c]] W fun e w' => e = .returned (.bool (inL d.rg q.a q.b q.c)) ∧ Below W.heap.size W w') := fun W q hb => rIn_any (HSP.out.1.below hb) _ _ _
            go_wp2_with fail
            go_loopw [18, 19] (fun vn vj wq => ∃ j : Nat, j ≤ ts.length ∧ vj = .int .i64 j ∧ vn = .bool ((ts.take j).any fun q => decide (q.nm = d.nm) && inL d.rg q.a q.b q.c) ∧ Below w6.heap.size w6 wq) (fun _ vj _ => ts.length - (intOf vj).toNat)
            case atStart => exact ⟨0, Nat.zero_le _, rfl, by simp, HB.out⟩
            case round =>
              obtain ⟨j, hj, rfl, rfl, hbj⟩ := hrel
              have HBJ := hide3 hbj
              clear hbj
              by_cases hjt : j < ts.length
              · have hjk : (j : Int) < (ts.length : Int) := by omega
                obtain ⟨gc, capc, _, hgc, hvc, _, ⟨s0, s1, s2, s3⟩, _⟩ := pn_cells HO3.out j hjt
                injection hvc with hq1 hq2 hq3
                subst hq1
                clear hq2 hq3
                have HTK : Hid ((ts.take (j + 1)).any (fun q => decide (q.nm = d.nm) && inL d.rg q.a q.b q.c) = ((ts.take j).any (fun q => decide (q.nm = d.nm) && inL d.rg q.a q.b q.c) || (decide (ts[j].nm = d.nm) && inL d.rg ts[j].a ts[j].b ts[j].c))) := by
                  unfold Hid
                  rw [List.take_succ_eq_append_getElem hjt, List.any_append]
                  simp
                obtain ⟨x', hx'⟩ : ∃ x', x' = ts[j] := ⟨_, rfl⟩
                rw [← hx'] at s0 s1 s2 s3 HTK
                clear hx'
                have HB3J : Hid (Below w3.heap.size w3 wr) := below_then HB6.out HBJ.out
                have f0 := (HB3J.out.cell (p := ⟨gc, j * 4, none⟩) hgc).trans s0
                have f1 := (HB3J.out.cell (p := ⟨gc, j * 4 + 1, none⟩) hgc).trans s1
                have f2 := (HB3J.out.cell (p := ⟨gc, j * 4 + 2, none⟩) hgc).trans s2
                have f3 := (HB3J.out.cell (p := ⟨gc, j * 4 + 3, none⟩) hgc).trans s3
                have h0 := (HBJ.out.cell (p := ⟨g, o + i * 2, none⟩) hg).trans e0
                have h1 := (HBJ.out.cell (p := ⟨g, o + i * 2 + 1, none⟩) hg).trans e1
                clear s0 s1 s2 s3
                have HIX : Hid (∀ W, Below w6.heap.size w6 W → Calls Tryz.prog 30 #[.slice au nu cu, .agg #[.int .i64 x'.a, .int .i64 x'.b, .int .i64 x'.c]] W fun e w' => e = .returned (.bool (inL d.rg x'.a x'.b x'.c)) ∧ Below W.heap.size W w') := fun W hb => HIN.out W x' hb
                have hgcw : gc < wr.heap.size := Nat.lt_of_lt_of_le hgc HB3J.out.size
                have hgw : g < wr.heap.size := Nat.lt_of_lt_of_le hg HBJ.out.size
                generalize inL d.rg x'.a x'.b x'.c = bq at *
                generalize (ts.take j).any (fun q => decide (q.nm = d.nm) && inL d.rg q.a q.b q.c) = bn at *
                cases bn
                · by_cases hnm : x'.nm = d.nm
                  · rw [decide_eq_true hnm] at HTK
                    rw [hnm] at f0
                    clear hnm
                    have HK : Hid (KeepP fun w1 => Below w6.heap.size w6 w1 ∧ Sc.CellK w1 gc (j * 4) (.string d.nm) ∧ Sc.CellK w1 gc (j * 4 + 1) (.int .i64 x'.a) ∧ Sc.CellK w1 gc (j * 4 + 2) (.int .i64 x'.b) ∧ Sc.CellK w1 gc (j * 4 + 3) (.int .i64 x'.c) ∧ Sc.CellK w1 g (o + i * 2) (.string d.nm) ∧ Sc.CellK w1 g (o + i * 2 + 1) (.slice au nu cu)) := KeepP.and (keepBelow w6) (KeepP.and (keepCk _ _ _) (KeepP.and (keepCk _ _ _) (KeepP.and (keepCk _ _ _) (KeepP.and (keepCk _ _ _) (KeepP.and (keepCk _ _ _) (keepCk _ _ _))))))
                    have HO : Hid (Below w6.heap.size w6 wr ∧ Sc.CellK wr gc (j * 4) (.string d.nm) ∧ Sc.CellK wr gc (j * 4 + 1) (.int .i64 x'.a) ∧ Sc.CellK wr gc (j * 4 + 2) (.int .i64 x'.b) ∧ Sc.CellK wr gc (j * 4 + 3) (.int .i64 x'.c) ∧ Sc.CellK wr g (o + i * 2) (.string d.nm) ∧ Sc.CellK wr g (o + i * 2 + 1) (.slice au nu cu)) := ⟨HBJ.out, ⟨f0, hgcw⟩, ⟨f1, hgcw⟩, ⟨f2, hgcw⟩, ⟨f3, hgcw⟩, ⟨h0, hgw⟩, ⟨h1, hgw⟩⟩
                    clear f0 f1 f2 f3 h0 h1
                    have HIC : Hid (∀ w1, (Below w6.heap.size w6 w1 ∧ Sc.CellK w1 gc (j * 4) (.string d.nm) ∧ Sc.CellK w1 gc (j * 4 + 1) (.int .i64 x'.a) ∧ Sc.CellK w1 gc (j * 4 + 2) (.int .i64 x'.b) ∧ Sc.CellK w1 gc (j * 4 + 3) (.int .i64 x'.c) ∧ Sc.CellK w1 g (o + i * 2) (.string d.nm) ∧ Sc.CellK w1 g (o + i * 2 + 1) (.slice au nu cu)) → Calls Tryz.prog 30 #[.slice au nu cu, .agg #[.int .i64 x'.a, .int .i64 x'.b, .int .i64 x'.c]] w1 fun e w' => e = .returned (.bool bq) ∧ Below w1.heap.size w1 w') := fun w1 h => HIX.out w1 h.1
                    go_wp2_with fail
                    refine wp_region_keep HK.out (by kernel_rfl) (by kernel_rfl) (by first | exact HO.out | exact HK.out.drew HO.out) ?_
                    intro C hin hout
                    have HIN := hide3 hin
                    have HOUT := hide3 hout
                    clear hin hout HO
                    repeat
                      (with_reducible refine wpQuiet_step (fun K hK => ?_)
                       go_simp
                       first
                         | (refine hK _ ?_; clear hK K)
                         | (apply Exists.intro; refine ⟨fun w1 hC => ?_, hK _ ?_⟩; (focus ((first | (go_at_call 30; with_reducible exact callC' HIN.out HOUT.out HK.out HIC.out w1 hC) | (exact rfl) | (obtain ⟨hb10, ⟨t0, _⟩, ⟨t1, _⟩, ⟨t2, _⟩, ⟨t3, _⟩, ⟨t4, _⟩, ⟨t5, _⟩⟩ := HOUT.out w1 hC; clear hC; go_simp; first | done | exact rfl)); done)); clear hK K))
                    refine wpQuiet_nil ?_
                    intro w10 hC
                    have HO := hide3 (HOUT.out _ hC)
                    clear hC HIN HOUT C
                    obtain ⟨hb10, ⟨t0, _⟩, ⟨t1, _⟩, ⟨t2, _⟩, ⟨t3, _⟩, ⟨t4, _⟩, ⟨t5, _⟩⟩ := HO.out
                    go_wp2_with fail
                    exact ⟨⟨j + 1, by omega, by go_num, by rw [HTK.out]; rfl, hb10⟩, by simp [intOf]; omega⟩
                  · have hne : (x'.nm.toList == d.nm.toList) = false := by
                      rw [beq_eq_false_iff_ne]
                      exact fun e => hnm (bytes_same e)
                    rw [decide_eq_false hnm] at HTK
                    clear hnm
                    generalize x'.nm = xn at *
                    go_wp2_with fail
                    go_quiet (fail)
                    go_wp2_with fail
                    exact ⟨⟨j + 1, by omega, by go_num, by rw [HTK.out]; rfl, Go.Proofs.YtjpmlagofcgheaaGreatDoor.Below.drewN HBJ.out _⟩, by simp [intOf]; omega⟩
                · go_wp2_with fail
                  go_quiet (fail)
                  go_wp2_with fail
                  exact ⟨⟨j + 1, by omega, by go_num, by rw [HTK.out]; rfl, Go.Proofs.YtjpmlagofcgheaaGreatDoor.Below.drewN HBJ.out _⟩, by simp [intOf]; omega⟩
              · obtain rfl : j = ts.length := by omega
                have hjk : ¬ ((ts.length : Int) < (ts.length : Int)) := by omega
                have hall : (ts.take ts.length).any (fun q => decide (q.nm = d.nm) && inL d.rg q.a q.b q.c) = true := by
                  rw [List.take_length]
                  obtain ⟨q, h1, h2, h3⟩ := HME.out
                  exact List.any_eq_true.2 ⟨q, h1, by rw [decide_eq_true h2, h3]; rfl⟩
                rw [hall]
                go_wp2_with fail
                exact ⟨⟨i + 1, by omega, by go_num, HBJ.out⟩, by simp [intOf]; omega⟩
          · obtain rfl : i = Q.length := by omega
            have hki : ¬ ((Q.length : Int) < (Q.length : Int)) := by omega
            go_wp2_with fail
            obtain ⟨w8, hw8⟩ : ∃ x, x = wr := ⟨_, rfl⟩
            rw [← hw8] at HB
            rw [← hw8]
            clear hw8
            go_loopw [20] (fun vi wr => ∃ i : Nat, i ≤ ts.length ∧ vi = .int .i64 i ∧ Below w6.heap.size w6 wr) (fun vi _ => ts.length - (intOf vi).toNat)
            case atStart => exact ⟨0, Nat.zero_le _, rfl, HB.out⟩
            case round =>
              obtain ⟨i, hi, rfl, hbw⟩ := hrel
              have HB' := hide3 hbw
              clear hbw
              by_cases hlt : i < ts.length
              · have hki : (i : Int) < (ts.length : Int) := by omega
                obtain ⟨gc, capc, _, hgc, hvc, _, ⟨s0, s1, s2, s3⟩, _⟩ := pn_cells HO3.out i hlt
                injection hvc with hq1 hq2 hq3
                subst hq1
                clear hq2 hq3 s1 s2 s3
                have HME : Hid (∃ e ∈ Q, e.nm = ts[i].nm) := HQH.out _ (List.getElem_mem hlt)
                obtain ⟨xn, hxn⟩ : ∃ x, x = ts[i].nm := ⟨_, rfl⟩
                rw [← hxn] at s0 HME
                clear hxn
                go_wp2_with fail
                go_loopw [21, 22] (fun vn vj wq => ∃ j : Nat, j ≤ Q.length ∧ vj = .int .i64 j ∧ vn = .bool ((Q.take j).any fun e => decide (xn = e.nm)) ∧ Below w6.heap.size w6 wq) (fun _ vj _ => Q.length - (intOf vj).toNat)
                case atStart => exact ⟨0, Nat.zero_le _, rfl, by simp, HB'.out⟩
                case round =>
                  obtain ⟨j, hj, rfl, rfl, hbj⟩ := hrel
                  have HBJ := hide3 hbj
                  clear hbj
                  by_cases hjt : j < Q.length
                  · have hjk : (j : Int) < (Q.length : Int) := by omega
                    obtain ⟨g, o, rfl, au, nu, cu, e0, _, _, hg⟩ := HEL.out j hjt
                    have HTK : Hid ((Q.take (j + 1)).any (fun e => decide (xn = e.nm)) = ((Q.take j).any (fun e => decide (xn = e.nm)) || decide (xn = Q[j].nm))) := by
                      unfold Hid
                      rw [List.take_succ_eq_append_getElem hjt, List.any_append]
                      simp
                    obtain ⟨yn, hyn⟩ : ∃ y, y = Q[j].nm := ⟨_, rfl⟩
                    rw [← hyn] at e0 HTK
                    clear hyn
                    have HB3J : Hid (Below w3.heap.size w3 wr) := below_then HB6.out HBJ.out
                    have f0 := (HB3J.out.cell (p := ⟨gc, i * 4, none⟩) hgc).trans s0
                    have h0 := (HBJ.out.cell (p := ⟨g, o + j * 2, none⟩) hg).trans e0
                    generalize (Q.take j).any (fun e => decide (xn = e.nm)) = bn at *
                    cases bn
                    · by_cases hnm : xn = yn
                      · rw [decide_eq_true hnm] at HTK
                        rw [← hnm] at h0
                        clear hnm
                        go_wp2_with fail
                        go_quiet (fail)
                        go_wp2_with fail
                        exact ⟨⟨j + 1, by omega, by go_num, by rw [HTK.out]; rfl, Go.Proofs.YtjpmlagofcgheaaGreatDoor.Below.drewN HBJ.out _⟩, by simp [intOf]; omega⟩
                      · have hne : (xn.toList == yn.toList) = false := by
                          rw [beq_eq_false_iff_ne]
                          exact fun e => hnm (bytes_same e)
                        rw [decide_eq_false hnm] at HTK
                        clear hnm
                        go_wp2_with fail
                        go_quiet (fail)
                        go_wp2_with fail
                        exact ⟨⟨j + 1, by omega, by go_num, by rw [HTK.out]; rfl, Go.Proofs.YtjpmlagofcgheaaGreatDoor.Below.drewN HBJ.out _⟩, by simp [intOf]; omega⟩
                    · go_wp2_with fail
                      go_quiet (fail)
                      go_wp2_with fail
                      exact ⟨⟨j + 1, by omega, by go_num, by rw [HTK.out]; rfl, Go.Proofs.YtjpmlagofcgheaaGreatDoor.Below.drewN HBJ.out _⟩, by simp [intOf]; omega⟩
                  · obtain rfl : j = Q.length := by omega
                    have hjk : ¬ ((Q.length : Int) < (Q.length : Int)) := by omega
                    have hall : (Q.take Q.length).any (fun e => decide (xn = e.nm)) = true := by
                      rw [List.take_length]
                      obtain ⟨e, h1, h2⟩ := HME.out
                      exact List.any_eq_true.2 ⟨e, h1, decide_eq_true h2.symm⟩
                    rw [hall]
                    go_wp2_with fail
                    exact ⟨⟨i + 1, by omega, by go_num, HBJ.out⟩, by simp [intOf]; omega⟩
              · obtain rfl : i = ts.length := by omega
                have hki' : ¬ ((ts.length : Int) < (ts.length : Int)) := by omega
                go_wp2_with fail
                go_ret
                exact ⟨rfl, below_then HW3.out (below_then HB6.out HB'.out)⟩
end Go.Proofs.YtjpmlagofcgheaaGreatDoor
namespace Go.Proofs.YtjpmlagofcgheaaGreatDoor
open Go.ChangeShapes Go.WideShapes Go.ChangeAt Go.RowKit
set_option maxRecDepth 100000

theorem each_all {H : Type} : ∀ {ts : List TypeId} {ds : List (DataW H)} {i : Nat} {t : TypeId} {d : DataW H}, (DataW.weightsEach Tryz.prog ts ds).all (· ≤ reachBytes) = true → ts[i]? = some t → ds[i]? = some d → (d.weights Tryz.prog t).all (· ≤ reachBytes) = true
  | [], _, _, _, _, _, h, _ => by simp at h
  | _ :: _, [], _, _, _, _, _, h => by simp at h
  | t :: ts, d :: ds, 0, t', d', ha, h1, h2 => by
    simp at h1 h2
    subst h1 h2
    unfold DataW.weightsEach at ha
    rw [List.all_append, Bool.and_eq_true] at ha
    exact ha.1
  | t :: ts, d :: ds, i + 1, t', d', ha, h1, h2 => by
    unfold DataW.weightsEach at ha
    rw [List.all_append, Bool.and_eq_true] at ha
    exact each_all ha.2 (by simpa using h1) (by simpa using h2)

theorem all_each {H : Type} {t : TypeId} : ∀ {ds : List (DataW H)} {d : DataW H}, (DataW.weightsAll Tryz.prog t ds).all (· ≤ reachBytes) = true → d ∈ ds → (d.weights Tryz.prog t).all (· ≤ reachBytes) = true
  | [], _, _, h => by cases h
  | d :: ds, d', ha, h => by
    unfold DataW.weightsAll at ha
    rw [List.all_append, Bool.and_eq_true] at ha
    rcases List.mem_cons.1 h with rfl | h
    · exact ha.1
    · exact all_each ha.2 h

theorem rch_part {H : Type} {t : TypeId} {fs : Array Field} (ht : Tryz.prog.underlying t = some (.struct fs)) {parts : List (DataW H)} (h : ((DataW.agg parts).weights Tryz.prog t).all (· ≤ reachBytes) = true) {i : Nat} {f : Field} (hf : fs[i]? = some f) {d : DataW H} (hd : parts[i]? = some d) : (d.weights Tryz.prog f.type).all (· ≤ reachBytes) = true := by
  unfold DataW.weights at h
  rw [ht] at h
  refine each_all h (i := i) (t := f.type) ?_ hd
  rw [List.getElem?_map, Array.getElem?_toList, hf]
  rfl

theorem rch_slice {H : Type} {t e : TypeId} (ht : Tryz.prog.underlying t = some (.slice e)) {el sp : List (DataW H)} (h : ((DataW.slice el sp).weights Tryz.prog t).all (· ≤ reachBytes) = true) : (el.length + sp.length) * Tryz.prog.bytesOf e ≤ reachBytes ∧ ∀ d ∈ el, (d.weights Tryz.prog e).all (· ≤ reachBytes) = true := by
  unfold DataW.weights at h
  rw [ht] at h
  rw [List.all_cons, Bool.and_eq_true, List.all_append, Bool.and_eq_true] at h
  exact ⟨of_decide_eq_true h.1, fun d hd => all_each h.2.1 hd⟩

theorem bytesSp : Tryz.prog.bytesOf 80 = 48 := by kernel_rfl

theorem deps_reach {H : Type} {enc : TypeId × Value → H} {W : World} {base fuel : Nat} {held : Bool} {v : Value} {x : DataW H × List MemPlace} (h : DataW.trod enc Tryz.prog W base (fun _ => true) held fuel 32 [v] = some x) (hr : (x.1.weights Tryz.prog 32).all (· ≤ reachBytes) = true) {L : List Dp} (hL : DepsAt W v L) : ∀ d ∈ L, d.rg.length * 48 ≤ 140737488355328 := by
  intro d hd
  obtain ⟨i, hi, rfl⟩ := List.getElem_of_mem hd
  rcases Go.Deep.open_slice Tryz.underlying32 h with ⟨hcs, _⟩ | ⟨ad, len, cap, m, n, D, Pl, hcs, _, hl, hcm, hm, hx, hel⟩
  · obtain ⟨ad', cap', hv, _⟩ := hL
    rw [List.cons.injEq] at hcs
    rw [hcs.1] at hv
    injection hv with _ e _
    omega
  · obtain ⟨ad', cap', hv, _, hq⟩ := hL
    rw [List.cons.injEq] at hcs
    rw [hcs.1] at hv
    injection hv with e1 e2 _
    rcases hq with e | ⟨g, off, e3, _, hs⟩
    · rw [e] at hi; cases hi
    · rw [e3] at e1
      injection e1 with e1
      subst e1
      obtain ⟨u, c0, c1, ⟨hsp, _⟩, _⟩ := hs i hi
      rw [cellsDep] at hel
      have hmm : len ≤ m := by rw [hm]; simp; exact hl
      obtain ⟨cs, hc, ht⟩ := hel i (by omega)
      have ad2 : ∀ o i, (⟨g, o, none⟩ : Addr).add i = ⟨g, o + i, none⟩ := fun o i => by unfold Addr.add; split <;> simp_all
      rw [ad2] at hc
      obtain ⟨_, hcl, hq⟩ := World.cells?_some hc
      have q1 := hq 1 (by decide)
      rw [ad2, c1] at q1
      have hst : Tryz.prog.underlying 70 = some (.struct (Tryz.prog.fieldsOf 70)) := by kernel_rfl
      obtain ⟨xs, n', _, hxx, _, hxl, hf⟩ := DataW.trod_struct hst ht
      have hsz : (Tryz.prog.fieldsOf 70).size = 2 := by kernel_rfl
      obtain ⟨f1, i1, t1, o1⟩ := field_at (fs := Tryz.prog.fieldsOf 70) (i := 1) (ty := 39) (off := 1) (by kernel_rfl)
      have r1 := hf 1 f1 i1
      rw [t1, o1, cellsSps, List.getElem?_eq_getElem (by omega : 1 < xs.length)] at r1
      have hcs1 : (cs.drop 1).take 1 = [u] := by
        have h1 : 1 < cs.length := by omega
        rw [List.drop_eq_getElem_cons h1]
        have e : cs[1] = u := by
          rw [List.getElem?_eq_getElem h1] at q1
          exact (Option.some.inj q1).symm
        rw [e]
        simp
      rw [hcs1] at r1
      have hxi : x.1 = .slice ((List.range len).map D) ((List.range (m - len)).map fun j => D (len + j)) := by rw [hx]
      rw [hxi] at hr
      have hD := (rch_slice Tryz.underlying32 hr).2 (D i) (List.mem_map.2 ⟨i, List.mem_range.2 (by omega), rfl⟩)
      have hDi : D i = .agg (xs.map (·.1)) := congrArg Prod.fst hxx
      rw [hDi] at hD
      have hp := rch_part hst hD i1 (d := xs[1].1) (by rw [List.getElem?_map, List.getElem?_eq_getElem (by omega : 1 < xs.length)]; rfl)
      rw [t1] at hp
      obtain ⟨⟨a', c', hu, _⟩, _⟩ := hsp
      rcases Go.Deep.open_slice Tryz.underlying39 r1 with ⟨hcs2, _⟩ | ⟨ad3, len3, cap3, m3, n3, D3, Pl3, hcs2, _, _, _, _, hx3, _⟩
      · rw [List.cons.injEq, hu] at hcs2
        injection hcs2.1 with _ e _
        omega
      · rw [List.cons.injEq, hu] at hcs2
        injection hcs2.1 with _ e _
        rw [hx3] at hp
        have hb := (rch_slice Tryz.underlying39 hp).1
        rw [List.length_map, List.length_range, bytesSp] at hb
        rw [e]
        unfold reachBytes at hb
        omega

theorem wor_reach {H : Type} {enc : TypeId × Value → H} {W : World} {base : Nat} {held : Bool} {v0 v1 v2 v3 v4 : Value} {d : DataW H} {p : List MemPlace} (h : DataW.Trod enc Tryz.prog W base (fun _ => true) held 56 (.agg #[v0, v1, v2, v3, v4]) d p) (hr : (d.weights Tryz.prog 56).all (· ≤ reachBytes) = true) {L : List Dp} (hL : DepsAt W v4 L) : ∀ d ∈ L, d.rg.length * 48 ≤ 140737488355328 := by
  obtain ⟨n, h⟩ := h
  have hs : Tryz.prog.underlying 56 = some (.struct (Tryz.prog.fieldsOf 56)) := by kernel_rfl
  have hs2 : Tryz.prog.underlying 54 = some (.struct (Tryz.prog.fieldsOf 54)) := by kernel_rfl
  obtain ⟨xs, n', _, hxx, _, hxl, hf⟩ := DataW.trod_struct hs h
  have hfz : (Tryz.prog.fieldsOf 56).size = 2 := by kernel_rfl
  have hfz2 : (Tryz.prog.fieldsOf 54).size = 4 := by kernel_rfl
  obtain ⟨f1, i1, t1, o1⟩ := field_at (fs := Tryz.prog.fieldsOf 56) (i := 1) (ty := 54) (off := 1) (by kernel_rfl)
  have r1 := hf 1 f1 i1
  rw [t1, o1, cellsManW, List.getElem?_eq_getElem (by omega : 1 < xs.length)] at r1
  have hd : d = .agg (xs.map (·.1)) := congrArg Prod.fst hxx
  rw [hd] at hr
  have hp := rch_part hs hr i1 (d := xs[1].1) (by rw [List.getElem?_map, List.getElem?_eq_getElem (by omega : 1 < xs.length)]; rfl)
  rw [t1] at hp
  obtain ⟨ys, n2, _, hyy, _, hyl, hg⟩ := DataW.trod_struct hs2 r1
  obtain ⟨f3, i3, t3, o3⟩ := field_at (fs := Tryz.prog.fieldsOf 54) (i := 3) (ty := 32) (off := 3) (by kernel_rfl)
  have r3 := hg 3 f3 i3
  rw [t3, o3, cellsDeps, List.getElem?_eq_getElem (by omega : 3 < ys.length)] at r3
  rw [congrArg Prod.fst hyy] at hp
  have hp2 := rch_part hs2 hp i3 (d := ys[3].1) (by rw [List.getElem?_map, List.getElem?_eq_getElem (by omega : 3 < ys.length)]; rfl)
  rw [t3] at hp2
  exact deps_reach r3 hp2 hL

theorem wpeers_row {W : World} (he : Env W) (hf : FL W) {v0 v1 v2 v3 v4 ve : Value} {Ps : List Pg} {L1 L2 L3 L4 : List Dp} {Es : List Pn} (h0 : PgsAt W v0 Ps ∧ Ps.length ≤ 9223372036854775807 ∧ ∀ P ∈ Ps, PgOk P) (h1 : DpsOk W v1 L1) (h2 : DpsOk W v2 L2) (h3 : DpsOk W v3 L3) (h4 : DpsOk W v4 L4) (h5 : ∀ d ∈ L4, d.rg.length * 48 ≤ 140737488355328) (hp : PinsAt W ve Es) (hz : Es.length ≤ 9223372036854775807) (hn : ∀ q ∈ Es, PnOkS q) (p : Pn) (hk : KeyOk p.nm p.a p.b p.c) :
    Calls Tryz.prog 6 #[.agg #[v0, v1, v2, v3, v4], ve, .agg #[.string p.nm, .int .i64 p.a, .int .i64 p.b, .int .i64 p.c]] W fun e w' => e = .returned (.bool true) ∧ Below W.heap.size W w' := by
  obtain ⟨q0, h0b, h0c⟩ := h0
  obtain ⟨_, _, rfl, _⟩ := q0.sl
  obtain ⟨_, _, rfl, _, _⟩ := h1.1.el
  obtain ⟨_, _, rfl, _, _⟩ := h2.1.el
  obtain ⟨_, _, rfl, _, _⟩ := h3.1.el
  obtain ⟨_, _, rfl, _, _⟩ := h4.1.el
  obtain ⟨_, _, rfl, _, _⟩ := hp.el
  exact wantsPeers_walk he hf q0 h0b h0c h4.1 h4.2.1 h4.2.2 h5 hp hz (fun q hq => (hn q hq).1) (fun q hq => (hn q hq).2) p hk
end Go.Proofs.YtjpmlagofcgheaaGreatDoor
