/- Tf2, Tc9, Rk1, Rk2, laid in one text. -/
import Derived.Test.YtcclfaioicklaaaGreatDoorMg18
namespace Go.Proofs.YtcclfaioicklaaaGreatDoor
open Go.Shelf Go.RowKit Go.Lib Go.Sort
set_option maxRecDepth 100000

/-- What CompactFunc answers. -/
def CptQ (w : World) (B : Nat) (ts : List DV) (e : Ending) (w' : World) : Prop := ∃ v', e = .returned v' ∧ DirsAt w' v' ((cm ts).map (·.d)) ∧ Below B w w'
theorem cm_short {ts : List DV} (h : ts.length < 2) : cm ts = ts := by
  match ts, h with
  | [], _ => rfl
  | [x], _ => rfl
  | _ :: _ :: _, h => simp at h; omega
theorem cm_first {ts : List DV} (h : 0 < ts.length) : cm (ts.take 1) = ts.take 1 := cm_short (by rw [List.length_take]; omega)

/-- What stands behind a number of rounds. -/
def CI (w0 w : World) (B g : Nat) (ts : List DV) (p i kk : Nat) (zs : List DV) (wq : World) : Prop := (p + i + 1 ≤ ts.length ∧ zs.length = ts.length ∧ kk ≤ p + i) ∧ cm (ts.take (p + i + 1)) = zs.take kk ∧ (∀ q (h1 : q < zs.length) (h2 : q < ts.length), p + i ≤ q → zs[q] = ts[q]) ∧ RowD wq g zs ∧ (∀ x ∈ zs, InD w0 x) ∧ Below B w wq
theorem CI.same {w0 w : World} {B g : Nat} {ts : List DV} {p i kk : Nat} {zs : List DV} {wq wz : World} (h : CI w0 w B g ts p i kk zs wq) (hlt : p + i + 1 < ts.length) (hq : eqB (keyD (ts[p + i + 1]'hlt).d) (keyD (ts[p + i]'(by omega)).d) = true) (hr : RowD wz g zs) (hb : Below B w wz) : CI w0 w B g ts p (i + 1) kk zs wz := by
  obtain ⟨⟨h1, h2, h3⟩, h4, h5, _, h7, _⟩ := h
  refine ⟨⟨by omega, h2, by omega⟩, ?_, fun q q1 q2 q3 => h5 q q1 q2 (by omega), hr, h7, hb⟩
  have q := cm_snoc hlt
  rw [if_pos hq, List.append_nil, h4] at q
  exact q
theorem CI.other {w0 w : World} {B g : Nat} {ts : List DV} {p i kk : Nat} {zs : List DV} {wq wz : World} (h : CI w0 w B g ts p i kk zs wq) (hlt : p + i + 1 < ts.length) (hq : eqB (keyD (ts[p + i + 1]'hlt).d) (keyD (ts[p + i]'(by omega)).d) = false) (hr : RowD wz g (zs.set kk (ts[p + i + 1]'hlt))) (hin : InD w0 (ts[p + i + 1]'hlt)) (hb : Below B w wz) : CI w0 w B g ts p (i + 1) (kk + 1) (zs.set kk (ts[p + i + 1]'hlt)) wz := by
  obtain ⟨⟨h1, h2, h3⟩, h4, h5, _, h7, _⟩ := h
  refine ⟨⟨by omega, by rw [List.length_set]; exact h2, by omega⟩, ?_, fun q q1 q2 q3 => ?_, hr, fun x hx => ?_, hb⟩
  · have q := cm_snoc hlt
    rw [if_neg (by rw [hq]; simp), h4] at q
    rw [show p + (i + 1) + 1 = p + i + 2 by omega, q, List.take_succ_eq_append_getElem (by rw [List.length_set]; omega), List.getElem_set_self, List.take_set_of_le (Nat.le_refl _)]
  · rw [List.getElem_set_ne (by omega)]
    exact h5 q (by rw [List.length_set] at q1; exact q1) q2 (by omega)
  · rcases List.mem_or_eq_of_mem_set hx with q | q
    · exact h7 x q
    · rw [q]
      exact hin

/-- Two of the row compared. -/
theorem same_dv {w0 w1 : World} {x y : DV} (hx : InD w0 x) (hy : InD w0 y) (hb : Below w0.heap.size w0 w1) :
    Calls Tryz.prog 53 #[.agg #[x.u, .string x.d.pk.nm, .int .i64 x.d.pk.a, .int .i64 x.d.pk.b, .int .i64 x.d.pk.c, x.v1, x.v2, x.v3, .int .i64 x.d.nd], .agg #[y.u, .string y.d.pk.nm, .int .i64 y.d.pk.a, .int .i64 y.d.pk.b, .int .i64 y.d.pk.c, y.v1, y.v2, y.v3, .int .i64 y.d.nd]] w1 fun r w' => r = .returned (.bool (eqB (keyD x.d) (keyD y.d))) ∧ Below w1.heap.size w1 w' :=
  sameDir_any (hx.below hb).1.1 (hx.below hb).1.2 (hy.below hb).1.1 (hy.below hb).1.2 hx.2.1 hx.2.2

set_option maxHeartbeats 800000 in
theorem compact_short {w0 w : World} {B : Nat} {v : Value} {ts : List DV} (h : OwnDr w0 w B v ts) (hb0 : Below w0.heap.size w0 w) (h2 : ts.length < 2) :
    Calls Tryz.prog 77 #[v, .func (.func 53) #[] #[]] w fun e w' => CptQ w B ts e w' := by
  have HQ : Hid (CptQ w B ts (.returned v) w) := ⟨v, rfl, by rw [cm_short h2]; exact h.at hb0, Below.refl _ _⟩
  obtain ⟨ad, cap, rfl, _⟩ := (h.at hb0).sl
  rw [List.length_map] at HQ ⊢
  have h2i : decide ((ts.length : Int) < 2) = true := decide_eq_true (by omega)
  clear h hb0
  go_enter Tryz.func77, Tryz.ntmps77
  go_wp2
  go_ret
  exact HQ.out

set_option maxHeartbeats 12800000 in
theorem compact_long {w0 w : World} {B : Nat} {v : Value} {ts : List DV} (h : OwnDr w0 w B v ts) (hb0 : Below w0.heap.size w0 w) (hB : w0.heap.size ≤ B) (hn2 : 2 ≤ ts.length) (hA : ts.length ≤ 1000000000000) :
    Calls Tryz.prog 77 #[v, .func (.func 53) #[] #[]] w fun e w' => CptQ w B ts e w' := by
  obtain ⟨g, cap, rfl, hcap, hBg, hrow⟩ := h.row (by omega)
  have HIN : Hid (∀ x ∈ ts, InD w0 x) := h.2
  have HRW := hide3 hrow
  have hgl : g < w.heap.size := hrow.lt (by omega)
  have HQ : Hid (∀ us wz, RowD wz g us → us = cm ts → (∀ x ∈ us, InD w0 x) → us.length ≤ cap → Below B w wz → CptQ w B ts (.returned (.slice (some ⟨g, 0, none⟩) us.length cap)) wz) := fun us wz hr he hi hl hb => by
    refine ⟨_, rfl, ?_, hb⟩
    rw [← he]
    exact hr.at hi (hb0.trans (hb.mono hB)) cap hl
  have HB0 : Hid (∀ wz, Below B w wz → Below w0.heap.size w0 wz) := fun wz hb => hb0.trans (hb.mono hB)
  have h2i : decide ((ts.length : Int) < 2) = false := decide_eq_false (by omega)
  clear h hrow
  go_enter Tryz.func77, Tryz.ntmps77
  go_wp2_with fail
  go_loopw [5] (fun vk wr => ∃ j : Nat, j < ts.length ∧ vk = .int .i64 ((j + 1 : Nat) : Int) ∧ Below w.heap.size w wr ∧ cm (ts.take (j + 1)) = ts.take (j + 1)) (fun vk _ => ts.length - (intOf vk).toNat)
  case atStart => exact ⟨0, by omega, rfl, Below.refl _ _, cm_first (by omega)⟩
  case round =>
    obtain ⟨j, hj, rfl, hb, hcm⟩ := hrel
    have HB := hide3 hb
    have HCM := hide3 hcm
    have HBB : Hid (Below B w wr) := hb.mono (by omega)
    by_cases hlt : j + 1 < ts.length
    · have HRR := hide3 (HRW.out.below (by omega) hb)
      have i1 := HIN.out _ (List.getElem_mem hlt)
      have i2 := HIN.out _ (List.getElem_mem hj)
      have d1 := HRR.out.el (HB0.out wr HBB.out) hlt i1
      have d2 := HRR.out.el (HB0.out wr HBB.out) hj i2
      have HSD : Hid (∀ w1, Below wr.heap.size wr w1 → Calls Tryz.prog 53 #[.agg #[ts[j + 1].u, .string ts[j + 1].d.pk.nm, .int .i64 ts[j + 1].d.pk.a, .int .i64 ts[j + 1].d.pk.b, .int .i64 ts[j + 1].d.pk.c, ts[j + 1].v1, ts[j + 1].v2, ts[j + 1].v3, .int .i64 ts[j + 1].d.nd], .agg #[ts[j].u, .string ts[j].d.pk.nm, .int .i64 ts[j].d.pk.a, .int .i64 ts[j].d.pk.b, .int .i64 ts[j].d.pk.c, ts[j].v1, ts[j].v2, ts[j].v3, .int .i64 ts[j].d.nd]] w1 fun r w' => r = .returned (.bool (eqB (keyD ts[j + 1].d) (keyD ts[j].d))) ∧ Below w1.heap.size w1 w') := fun w1 h1 => same_dv i1 i2 (below_then (HB0.out wr HBB.out) h1)
      have HSN := hide3 (cm_snoc hlt)
      obtain ⟨uax, ucx, e0x⟩ := i1.1.1.sl
      obtain ⟨a1x, c1x, e1x⟩ := i1.1.2.1.sl
      obtain ⟨a2x, c2x, e2x⟩ := i1.1.2.2.1.sl
      obtain ⟨a3x, c3x, e3x⟩ := i1.1.2.2.2.sl
      obtain ⟨uay, ucy, e0y⟩ := i2.1.1.sl
      obtain ⟨a1y, c1y, e1y⟩ := i2.1.2.1.sl
      obtain ⟨a2y, c2y, e2y⟩ := i2.1.2.2.1.sl
      obtain ⟨a3y, c3y, e3y⟩ := i2.1.2.2.2.sl
      rw [e0x, e1x, e2x, e3x] at d1
      rw [e0y, e1y, e2y, e3y] at d2
      rw [e0x, e1x, e2x, e3x, e0y, e1y, e2y, e3y] at HSD
      have hw1 : IntKind.i64.wrap (j : Int) = j := wrapN (by omega)
      have hji : (j : Int) + 1 < ts.length := by omega
      have hj0 : (0 : Int) ≤ (j : Int) + 1 := by omega
      have hjj : (j : Int) < ts.length := by omega
      have HK : Hid (KeepP fun w1 => Below wr.heap.size wr w1 ∧ DrIn w1 g ((j + 1) * 9) ts[j + 1].d (.slice uax ts[j + 1].d.pa.length ucx) (.slice a1x ts[j + 1].d.pk.d.length c1x) (.slice a2x ts[j + 1].d.pk.p.length c2x) (.slice a3x ts[j + 1].d.pk.o.length c3x) ∧ DrIn w1 g (j * 9) ts[j].d (.slice uay ts[j].d.pa.length ucy) (.slice a1y ts[j].d.pk.d.length c1y) (.slice a2y ts[j].d.pk.p.length c2y) (.slice a3y ts[j].d.pk.o.length c3y)) := (keepBelow wr).and ((keepDr _ _ _ _ _ _ _).and (keepDr _ _ _ _ _ _ _))
      have HO : Hid (Below wr.heap.size wr wr ∧ DrIn wr g ((j + 1) * 9) ts[j + 1].d (.slice uax ts[j + 1].d.pa.length ucx) (.slice a1x ts[j + 1].d.pk.d.length c1x) (.slice a2x ts[j + 1].d.pk.p.length c2x) (.slice a3x ts[j + 1].d.pk.o.length c3x) ∧ DrIn wr g (j * 9) ts[j].d (.slice uay ts[j].d.pa.length ucy) (.slice a1y ts[j].d.pk.d.length c1y) (.slice a2y ts[j].d.pk.p.length c2y) (.slice a3y ts[j].d.pk.o.length c3y)) := ⟨Below.refl _ _, d1, d2⟩
      clear d1 d2 i1 i2 hb hcm e0x e1x e2x e3x e0y e1y e2y e3y
      cases hq : eqB (keyD ts[j + 1].d) (keyD ts[j].d)
      · have HCN : Hid (cm (ts.take (j + 1 + 1)) = ts.take (j + 1 + 1)) := by
          have q := HSN.out
          rw [hq, if_neg (by simp), HCM.out, ← List.take_succ_eq_append_getElem hlt] at q
          exact q
        rw [hq] at HSD
        clear hq HSN
        go_wp2_with fail
        refine wp_region_keep HK.out (by kernel_rfl) (by kernel_rfl) (by first | exact HO.out | exact HK.out.drew HO.out) ?_
        intro C hin hout
        have HIN := hide3 hin
        have HOUT := hide3 hout
        clear hin hout HO
        repeat
          (with_reducible refine wpQuiet_step (fun K hK => ?_)
           go_simp
           first
             | (refine hK _ ?_; clear hK K)
             | (apply Exists.intro; refine ⟨fun w1 hC => ?_, hK _ ?_⟩; (focus ((first | (go_at_call 53; with_reducible exact callC' HIN.out HOUT.out HK.out (fun w1 hk => HSD.out w1 hk.1) w1 hC) | (exact rfl) | (obtain ⟨hb1, ⟨⟨p0, p1, p2, p3, p4, p5, p6, p7, p8⟩, _, p9⟩, ⟨⟨q0, q1, q2, q3, q4, q5, q6, q7, q8⟩, _, q9⟩⟩ := HOUT.out w1 hC; clear hC; go_simp; first | done | exact rfl)); done)); clear hK K))
        refine wpQuiet_nil ?_
        intro wn hC
        have HO := hide3 (HOUT.out _ hC)
        clear hC HIN HOUT C
        obtain ⟨hb1, ⟨⟨p0, p1, p2, p3, p4, p5, p6, p7, p8⟩, _, p9⟩, ⟨⟨q0, q1, q2, q3, q4, q5, q6, q7, q8⟩, _, q9⟩⟩ := HO.out
        go_wp2
        exact ⟨⟨j + 1, by omega, by go_num, below_then HB.out HO.out.1, HCN.out⟩, by simp [intOf]; omega⟩
      · have HCN : Hid (cm (ts.take (j + 1 + 1)) = ts.take (j + 1)) := by
          have q := HSN.out
          rw [hq, if_pos rfl, HCM.out, List.append_nil] at q
          exact q
        rw [hq] at HSD
        clear hq HSN
        go_wp2_with fail
        refine wp_region_keep HK.out (by kernel_rfl) (by kernel_rfl) (by first | exact HO.out | exact HK.out.drew HO.out) ?_
        intro C hin hout
        have HIN := hide3 hin
        have HOUT := hide3 hout
        clear hin hout HO
        repeat
          (with_reducible refine wpQuiet_step (fun K hK => ?_)
           go_simp
           first
             | (refine hK _ ?_; clear hK K)
             | (apply Exists.intro; refine ⟨fun w1 hC => ?_, hK _ ?_⟩; (focus ((first | (go_at_call 53; with_reducible exact callC' HIN.out HOUT.out HK.out (fun w1 hk => HSD.out w1 hk.1) w1 hC) | (exact rfl) | (obtain ⟨hb1, ⟨⟨p0, p1, p2, p3, p4, p5, p6, p7, p8⟩, _, p9⟩, ⟨⟨q0, q1, q2, q3, q4, q5, q6, q7, q8⟩, _, q9⟩⟩ := HOUT.out w1 hC; clear hC; go_simp; first | done | exact rfl)); done)); clear hK K))
        refine wpQuiet_nil ?_
        intro wn hC
        have HO := hide3 (HOUT.out _ hC)
        clear hC HIN HOUT C
        obtain ⟨hb1, ⟨⟨p0, p1, p2, p3, p4, p5, p6, p7, p8⟩, _, p9⟩, ⟨⟨q0, q1, q2, q3, q4, q5, q6, q7, q8⟩, _, q9⟩⟩ := HO.out
        have HBN := hide3 (below_then HB.out hb1)
        clear p0 p1 p2 p3 p4 p5 p6 p7 p8 p9 q0 q1 q2 q3 q4 q5 q6 q7 q8 q9 hb1 HO HK HSD HRR HBB
        have HRN := hide3 (HRW.out.below (by omega) HBN.out)
        have HCI : Hid (CI w0 w B g ts (j + 1) 0 (j + 1) ts wn) := ⟨⟨by omega, rfl, by omega⟩, HCN.out, fun q q1 q2 _ => rfl, HRN.out, HIN.out, HBN.out.mono (by omega)⟩
        have s1 : j + 1 ≤ ts.length := by omega
        have s2 : (j : Int) + 1 ≤ ts.length := by omega
        have s3 : (j : Int) + 1 ≤ cap := by omega
        have s4 : ¬ cap = j + 1 := by omega
        clear HRN HCN HCM HB
        go_wp2_with fail
        generalize hm : ts.length - (j + 1) = m at *
        generalize cap - (j + 1) = m2 at *
        have hm1 : m + (j + 1) ≤ ts.length := by omega
        have hm2 : ts.length ≤ m + (j + 1) := by omega
        clear hm
        go_loopw [5, 7] (fun vk vi wr => ∃ (i kk : Nat) (zs : List DV), vi = .int .i64 ((i + 1 : Nat) : Int) ∧ vk = .int .i64 (kk : Nat) ∧ CI w0 w B g ts (j + 1) i kk zs wr) (fun _ vi _ => ts.length - (intOf vi).toNat)
        case atStart => exact ⟨0, j + 1, ts, rfl, by go_num, HCI.out⟩
        case round =>
          clear HCI HBN
          obtain ⟨i, kk, zs, rfl, rfl, hci⟩ := hrel
          have HCI := hide3 hci
          obtain ⟨⟨c1, c2, c3⟩, c4, c5, c6, c7, c8⟩ := hci
          have HRZ := hide3 c6
          have HIZ := hide3 c7
          have HBZ := hide3 c8
          have HC4 := hide3 c4
          have HC2 := hide3 c2
          by_cases hlt2 : j + 1 + i + 1 < ts.length
          · skip
            have hz1 : j + 1 + i + 1 < zs.length := by omega
            have hz2 : j + 1 + i < zs.length := by omega
            have hx := c5 (j + 1 + i + 1) hz1 hlt2 (by omega)
            have hy := c5 (j + 1 + i) hz2 (by omega) (by omega)
            have i1 : InD w0 ts[j + 1 + i + 1] := HIN.out _ (List.getElem_mem hlt2)
            have i2 : InD w0 ts[j + 1 + i] := HIN.out _ (List.getElem_mem (by omega))
            have d1 := c6.el (HB0.out wr c8) hz1 (by rw [hx]; exact i1)
            have d2 := c6.el (HB0.out wr c8) hz2 (by rw [hy]; exact i2)
            rw [hx, show (j + 1 + i + 1) * 9 = (j + 1) * 9 + (i + 1) * 9 by omega] at d1
            rw [hy, show (j + 1 + i) * 9 = (j + 1) * 9 + i * 9 by omega] at d2
            have HSD : Hid (∀ w1, Below wr.heap.size wr w1 → Calls Tryz.prog 53 #[.agg #[ts[j + 1 + i + 1].u, .string ts[j + 1 + i + 1].d.pk.nm, .int .i64 ts[j + 1 + i + 1].d.pk.a, .int .i64 ts[j + 1 + i + 1].d.pk.b, .int .i64 ts[j + 1 + i + 1].d.pk.c, ts[j + 1 + i + 1].v1, ts[j + 1 + i + 1].v2, ts[j + 1 + i + 1].v3, .int .i64 ts[j + 1 + i + 1].d.nd], .agg #[ts[j + 1 + i].u, .string ts[j + 1 + i].d.pk.nm, .int .i64 ts[j + 1 + i].d.pk.a, .int .i64 ts[j + 1 + i].d.pk.b, .int .i64 ts[j + 1 + i].d.pk.c, ts[j + 1 + i].v1, ts[j + 1 + i].v2, ts[j + 1 + i].v3, .int .i64 ts[j + 1 + i].d.nd]] w1 fun r w' => r = .returned (.bool (eqB (keyD ts[j + 1 + i + 1].d) (keyD ts[j + 1 + i].d))) ∧ Below w1.heap.size w1 w') := fun w1 h1 => same_dv i1 i2 (below_then (HB0.out wr c8) h1)
            have HI1 := hide3 i1
            obtain ⟨uax, ucx, e0x⟩ := i1.1.1.sl
            obtain ⟨a1x, c1x, e1x⟩ := i1.1.2.1.sl
            obtain ⟨a2x, c2x, e2x⟩ := i1.1.2.2.1.sl
            obtain ⟨a3x, c3x, e3x⟩ := i1.1.2.2.2.sl
            obtain ⟨uay, ucy, e0y⟩ := i2.1.1.sl
            obtain ⟨a1y, c1y, e1y⟩ := i2.1.2.1.sl
            obtain ⟨a2y, c2y, e2y⟩ := i2.1.2.2.1.sl
            obtain ⟨a3y, c3y, e3y⟩ := i2.1.2.2.2.sl
            rw [e0x, e1x, e2x, e3x] at d1
            rw [e0y, e1y, e2y, e3y] at d2
            rw [e0x, e1x, e2x, e3x, e0y, e1y, e2y, e3y] at HSD
            have HEX : Hid (encD ts[j + 1 + i + 1] = [.slice uax ts[j + 1 + i + 1].d.pa.length ucx, .string ts[j + 1 + i + 1].d.pk.nm, .int .i64 ts[j + 1 + i + 1].d.pk.a, .int .i64 ts[j + 1 + i + 1].d.pk.b, .int .i64 ts[j + 1 + i + 1].d.pk.c, .slice a1x ts[j + 1 + i + 1].d.pk.d.length c1x, .slice a2x ts[j + 1 + i + 1].d.pk.p.length c2x, .slice a3x ts[j + 1 + i + 1].d.pk.o.length c3x, .int .i64 ts[j + 1 + i + 1].d.nd]) := by unfold Hid encD; rw [e0x, e1x, e2x, e3x]
            have hw1 : IntKind.i64.wrap (i : Int) = i := wrapN (by omega)
            have hii : (i : Int) + 1 < m := by omega
            have hi0 : (0 : Int) ≤ (i : Int) + 1 := by omega
            have hij : (i : Int) < m := by omega
            have hBw : B ≤ wr.heap.size := by have q := c8.size; omega
            have HK : Hid (KeepP fun w9 => Below wr.heap.size wr w9 ∧ DrIn w9 g ((j + 1) * 9 + (i + 1) * 9) ts[j + 1 + i + 1].d (.slice uax ts[j + 1 + i + 1].d.pa.length ucx) (.slice a1x ts[j + 1 + i + 1].d.pk.d.length c1x) (.slice a2x ts[j + 1 + i + 1].d.pk.p.length c2x) (.slice a3x ts[j + 1 + i + 1].d.pk.o.length c3x) ∧ DrIn w9 g ((j + 1) * 9 + i * 9) ts[j + 1 + i].d (.slice uay ts[j + 1 + i].d.pa.length ucy) (.slice a1y ts[j + 1 + i].d.pk.d.length c1y) (.slice a2y ts[j + 1 + i].d.pk.p.length c2y) (.slice a3y ts[j + 1 + i].d.pk.o.length c3y) ∧ RowD w9 g zs) := (keepBelow wr).and ((keepDr _ _ _ _ _ _ _).and ((keepDr _ _ _ _ _ _ _).and (fun _ _ h hb => h.below (by omega) hb)))
            have HO : Hid (Below wr.heap.size wr wr ∧ DrIn wr g ((j + 1) * 9 + (i + 1) * 9) ts[j + 1 + i + 1].d (.slice uax ts[j + 1 + i + 1].d.pa.length ucx) (.slice a1x ts[j + 1 + i + 1].d.pk.d.length c1x) (.slice a2x ts[j + 1 + i + 1].d.pk.p.length c2x) (.slice a3x ts[j + 1 + i + 1].d.pk.o.length c3x) ∧ DrIn wr g ((j + 1) * 9 + i * 9) ts[j + 1 + i].d (.slice uay ts[j + 1 + i].d.pa.length ucy) (.slice a1y ts[j + 1 + i].d.pk.d.length c1y) (.slice a2y ts[j + 1 + i].d.pk.p.length c2y) (.slice a3y ts[j + 1 + i].d.pk.o.length c3y) ∧ RowD wr g zs) := ⟨Below.refl _ _, d1, d2, c6⟩
            clear d1 d2 i1 i2 e0x e1x e2x e3x e0y e1y e2y e3y hx hy c2 c4 c5 c6 c7 c8
            cases hq : eqB (keyD ts[j + 1 + i + 1].d) (keyD ts[j + 1 + i].d)
            · have HNX := hide3 (fun wz hr hb => HCI.out.other (wz := wz) hlt2 hq hr HI1.out hb)
              rw [hq] at HSD
              clear hq
              go_wp2_with fail
              refine wp_region_keep HK.out (by kernel_rfl) (by kernel_rfl) (by first | exact HO.out | exact HK.out.drew HO.out) ?_
              intro C hin hout
              have HIN := hide3 hin
              have HOUT := hide3 hout
              clear hin hout HO
              repeat
                (with_reducible refine wpQuiet_step (fun K hK => ?_)
                 go_simp
                 first
                   | (refine hK _ ?_; clear hK K)
                   | (apply Exists.intro; refine ⟨fun w1 hC => ?_, hK _ ?_⟩; (focus ((first | (go_at_call 53; with_reducible exact callC' HIN.out HOUT.out HK.out (fun w1 hk => HSD.out w1 hk.1) w1 hC) | (exact rfl) | (obtain ⟨hb1, ⟨⟨p0, p1, p2, p3, p4, p5, p6, p7, p8⟩, _, p9⟩, ⟨⟨q0, q1, q2, q3, q4, q5, q6, q7, q8⟩, _, q9⟩, hrw⟩ := HOUT.out w1 hC; clear hC; go_simp; first | done | exact rfl)); done)); clear hK K))
              refine wpQuiet_nil ?_
              intro wn hC
              have HO := hide3 (HOUT.out _ hC)
              clear hC HIN HOUT C
              obtain ⟨hb1, ⟨⟨p0, p1, p2, p3, p4, p5, p6, p7, p8⟩, _, p9⟩, ⟨⟨q0, q1, q2, q3, q4, q5, q6, q7, q8⟩, _, q9⟩, hrw⟩ := HO.out
              have HRN := hide3 hrw
              have HBN2 : Hid (Below B w wn) := HBZ.out.trans (hb1.mono hBw)
              have hkz : kk < zs.length := by omega
              have hkt : (kk : Int) < ts.length := by omega
              have k0 := (hrw kk hkz 0 (by decide)).1
              have k1 := (hrw kk hkz 1 (by decide)).1
              have k2 := (hrw kk hkz 2 (by decide)).1
              have k3 := (hrw kk hkz 3 (by decide)).1
              have k4 := (hrw kk hkz 4 (by decide)).1
              have k5 := (hrw kk hkz 5 (by decide)).1
              have k6 := (hrw kk hkz 6 (by decide)).1
              have k7 := (hrw kk hkz 7 (by decide)).1
              have k8 := (hrw kk hkz 8 (by decide)).1
              have f0 := (hrw kk hkz 0 (by decide)).2
              have f1 := (hrw kk hkz 1 (by decide)).2
              have f2 := (hrw kk hkz 2 (by decide)).2
              have f3 := (hrw kk hkz 3 (by decide)).2
              have f4 := (hrw kk hkz 4 (by decide)).2
              have f5 := (hrw kk hkz 5 (by decide)).2
              have f6 := (hrw kk hkz 6 (by decide)).2
              have f7 := (hrw kk hkz 7 (by decide)).2
              have f8 := (hrw kk hkz 8 (by decide)).2
              simp only [encD, List.getElem?_cons_zero, List.getElem?_cons_succ, Nat.add_zero] at k0 k1 k2 k3 k4 k5 k6 k7 k8 f0
              clear q0 q1 q2 q3 q4 q5 q6 q7 q8 q9 hrw hb1 HO HK HSD
              go_wp2
              refine ⟨⟨i + 1, kk + 1, zs.set kk ts[j + 1 + i + 1], by go_num, by go_num, HNX.out _ ?_ ?_⟩, by simp [intOf]; omega⟩
              · have q := HRN.out.set kk ts[j + 1 + i + 1]
                rw [HEX.out] at q
                exact q
              · have q := below_setCells hBg (encD ts[j + 1 + i + 1]) (kk * 9) wn HBN2.out
                rw [HEX.out] at q
                exact q
            · have HNX := hide3 (fun wz hr hb => HCI.out.same (wz := wz) hlt2 hq hr hb)
              rw [hq] at HSD
              clear hq
              go_wp2_with fail
              refine wp_region_keep HK.out (by kernel_rfl) (by kernel_rfl) (by first | exact HO.out | exact HK.out.drew HO.out) ?_
              intro C hin hout
              have HIN := hide3 hin
              have HOUT := hide3 hout
              clear hin hout HO
              repeat
                (with_reducible refine wpQuiet_step (fun K hK => ?_)
                 go_simp
                 first
                   | (refine hK _ ?_; clear hK K)
                   | (apply Exists.intro; refine ⟨fun w1 hC => ?_, hK _ ?_⟩; (focus ((first | (go_at_call 53; with_reducible exact callC' HIN.out HOUT.out HK.out (fun w1 hk => HSD.out w1 hk.1) w1 hC) | (exact rfl) | (obtain ⟨hb1, ⟨⟨p0, p1, p2, p3, p4, p5, p6, p7, p8⟩, _, p9⟩, ⟨⟨q0, q1, q2, q3, q4, q5, q6, q7, q8⟩, _, q9⟩, hrw⟩ := HOUT.out w1 hC; clear hC; go_simp; first | done | exact rfl)); done)); clear hK K))
              refine wpQuiet_nil ?_
              intro wn hC
              have HO := hide3 (HOUT.out _ hC)
              clear hC HIN HOUT C
              obtain ⟨hb1, ⟨⟨p0, p1, p2, p3, p4, p5, p6, p7, p8⟩, _, p9⟩, ⟨⟨q0, q1, q2, q3, q4, q5, q6, q7, q8⟩, _, q9⟩, hrw⟩ := HO.out
              have HRN := hide3 hrw
              have HBN2 : Hid (Below B w wn) := HBZ.out.trans (hb1.mono hBw)
              clear p0 p1 p2 p3 p4 p5 p6 p7 p8 p9 q0 q1 q2 q3 q4 q5 q6 q7 q8 q9 hrw hb1 HO HK HSD
              go_wp2
              exact ⟨⟨i + 1, kk, zs, by go_num, rfl, HNX.out _ HRN.out HBN2.out⟩, by simp [intOf]; omega⟩
          · skip
            have hkl : kk < ts.length := by omega
            have hkz : kk ≤ zs.length := by omega
            obtain ⟨Z, hcl⟩ := run_clear_dirs wr g kk (ts.length - kk) (cap - kk) (by omega) HRZ.out (by omega)
            obtain ⟨wc, hwc⟩ : ∃ x, x = wr.setCells g (kk * 9) Z := ⟨_, rfl⟩
            have HFI : Hid (CptQ w B ts (.returned (.slice (some ⟨g, 0, none⟩) kk cap)) wc) := by
              have q := HQ.out (zs.take kk) wc (by rw [hwc]; exact HRZ.out.cleared kk Z) (by rw [← HC4.out, List.take_of_length_le (by omega)]) (fun x hx => HIZ.out x (List.mem_of_mem_take hx)) (by rw [List.length_take]; omega) (by rw [hwc]; exact below_setCells hBg Z (kk * 9) wr HBZ.out)
              rw [show (zs.take kk).length = kk by rw [List.length_take]; omega] at q
              exact q
            rw [← hwc] at hcl
            have hk1 : kk ≤ ts.length := by omega
            have hk2 : (kk : Int) ≤ ts.length := by omega
            have hk3 : (kk : Int) ≤ cap := by omega
            have hk4 : ¬ cap = kk := by omega
            have hii : ¬ ((i : Int) + 1 < m) := by omega
            clear c4 c5 c6 c7 c8 c2 hwc
            go_wp2
            go_ret
            exact HFI.out
    · have HCT : Hid (ts = cm ts) := by
        have q := HCM.out
        rw [List.take_of_length_le (by omega)] at q
        exact q.symm
      have hki : ¬ ((j : Int) + 1 < ts.length) := by omega
      have HRR := hide3 (HRW.out.below (by omega) hb)
      clear hb hcm
      go_wp2
      go_ret
      exact HQ.out ts wr HRR.out HCT.out HIN.out hcap HBB.out
end Go.Proofs.YtcclfaioicklaaaGreatDoor
namespace Go.Proofs.YtcclfaioicklaaaGreatDoor
open Go.Shelf Go.RowKit Go.Lib Go.Sort
set_option maxRecDepth 100000

/-- The small tree in memory. -/
def smCells (g1 : Nat) : Array Value := #[.slice none 0 0, .string ⟨#[]⟩, .int .i64 0, .int .i64 0, .int .i64 0, .slice none 0 0, .slice none 0 0, .slice none 0 0, .int .i64 0, .slice (some ⟨g1, 0, none⟩) 1 1, .string ⟨#[97]⟩, .int .i64 1, .int .i64 0, .int .i64 0, .slice none 0 0, .slice none 0 0, .slice none 0 0, .int .i64 1]
theorem small_at {w : World} {g g1 : Nat} (hg : g < w.heap.size) (hg1 : g1 < w.heap.size) (h1 : w.cell? ⟨g1, 0, none⟩ = some (.string ⟨#[97]⟩)) (h : ∀ j v, (smCells g1)[j]? = some v → w.cell? ⟨g, j, none⟩ = some v) : DirsAt w (.slice (some ⟨g, 0, none⟩) 2 2) smallL := by
  have hp : PathAt w (.slice (some ⟨g1, 0, none⟩) 1 1) [sA] := ⟨_, 1, rfl, Nat.le_refl _, Or.inr ⟨g1, 0, rfl, fun i hi => by
    obtain rfl : i = 0 := by simpa using hi
    exact ⟨h1, hg1⟩⟩⟩
  refine ⟨_, 2, rfl, Nat.le_refl _, Or.inr ⟨g, 0, rfl, fun i hi => ?_⟩⟩
  rcases (show i = 0 ∨ i = 1 by have : smallL.length = 2 := rfl; omega) with rfl | rfl
  · exact ⟨.slice none 0 0, .slice none 0 0, .slice none 0 0, .slice none 0 0, ⟨h 0 _ rfl, h 1 _ rfl, h 2 _ rfl, h 3 _ rfl, h 4 _ rfl, h 5 _ rfl, h 6 _ rfl, h 7 _ rfl, h 8 _ rfl⟩, ⟨path_none _, deps_none _, deps_none _, deps_none _⟩, hg⟩
  · exact ⟨.slice (some ⟨g1, 0, none⟩) 1 1, .slice none 0 0, .slice none 0 0, .slice none 0 0, ⟨h 9 _ rfl, h 10 _ rfl, h 11 _ rfl, h 12 _ rfl, h 13 _ rfl, h 14 _ rfl, h 15 _ rfl, h 16 _ rfl, h 17 _ rfl⟩, ⟨hp, deps_none _, deps_none _, deps_none _⟩, hg⟩
theorem small_fit : FitK smallL := fun d hd => by
  simp only [smallL, List.mem_cons, List.not_mem_nil, or_false] at hd
  rcases hd with rfl | rfl <;> exact ⟨by decide, by decide, by decide, by decide⟩
theorem small_nodup : (keysD smallL).Nodup := by
  show [keyD ⟨[], zeroPg, 0⟩, keyD ⟨[sA], pkA, 1⟩].Nodup
  rw [List.nodup_cons]
  refine ⟨?_, List.nodup_cons.2 ⟨by simp, List.nodup_nil⟩⟩
  intro h
  rw [List.mem_singleton] at h
  unfold keyD at h
  cases h
theorem small_same : sameK smallL smallL = true := by
  unfold sameK
  exact @decide_eq_true _ (Classical.propDecidable _) fun k => Iff.rfl

set_option maxHeartbeats 1600000 in
theorem small12_any (w : World) : Calls Tryz.prog 33 #[] w fun e w' => ∃ g, e = .returned (.agg #[.slice (some ⟨g, 0, none⟩) 2 2]) ∧ DirsAt w' (.slice (some ⟨g, 0, none⟩) 2 2) smallL ∧ Below w.heap.size w w' := by
  go_enter Tryz.func33, Tryz.ntmps33
  go_wp2
  refine bodyPost_ret (by simp [results, Tryz.results33, go_sem]; try rfl) rfl ?_
  refine ⟨w.heap.size + 1 + 1 + 1, rfl, small_at (g1 := w.heap.size + 1 + 1) ?_ ?_ ?_ (fun j v hj => ?_), ?_⟩
  · simp
  · simp
  · have hb := heap_alloc_new ((w.alloc (.cells #[.slice (some ⟨w.heap.size + 1 + 1 + 1, 0, none⟩) 2 2] 24)).alloc (.cells #[.int .i64 1, .int .i64 0, .int .i64 0] 41)) (.cells #[.string ⟨#[97]⟩] 9)
    have hsz : ((w.alloc (.cells #[.slice (some ⟨w.heap.size + 1 + 1 + 1, 0, none⟩) 2 2] 24)).alloc (.cells #[.int .i64 1, .int .i64 0, .int .i64 0] 41)).heap.size = w.heap.size + 1 + 1 := by simp
    rw [hsz] at hb
    refine ((boxB _ _).cell (p := ⟨w.heap.size + 1 + 1, 0, none⟩) (by simp)).trans ?_
    exact (Lib.cell_of_heap hb 0).trans rfl
  · have hb := heap_alloc_new (((w.alloc (.cells #[.slice (some ⟨w.heap.size + 1 + 1 + 1, 0, none⟩) 2 2] 24)).alloc (.cells #[.int .i64 1, .int .i64 0, .int .i64 0] 41)).alloc (.cells #[.string ⟨#[97]⟩] 9)) (.cells (smCells (w.heap.size + 1 + 1)) 46)
    have hsz : (((w.alloc (.cells #[.slice (some ⟨w.heap.size + 1 + 1 + 1, 0, none⟩) 2 2] 24)).alloc (.cells #[.int .i64 1, .int .i64 0, .int .i64 0] 41)).alloc (.cells #[.string ⟨#[97]⟩] 9)).heap.size = w.heap.size + 1 + 1 + 1 := by simp
    rw [hsz] at hb
    exact (Lib.cell_of_heap hb j).trans hj
  · exact below_then (boxB2 w _ _) (boxB2 _ _ _)

set_option maxHeartbeats 3200000 in
theorem lives12_any {w : World} (he : Env w) (hf : FL w) :
    Calls Tryz.prog 11 #[] w fun e w' => e = .returned (.bool true) ∧ Below w.heap.size w w' := by
  have HSM := hide3 (small12_any w)
  have HCK : Hid (∀ w1 v, Below w.heap.size w w1 → DirsAt w1 v smallL → Calls Tryz.prog 9 #[.agg #[v]] w1 fun e w' => e = .returned (.int .i64 0) ∧ Below w1.heap.size w1 w') := fun w1 v hb hd => by
    have h := tCheck_any hd (by decide) small_ok (he.below hb) (hf.below hb)
    rw [small_check] at h
    exact h
  have HCN : Hid (∀ w1, Below w.heap.size w w1 → Calls Tryz.prog 9 #[.agg #[.slice none 0 0]] w1 fun e w' => e = .returned (.int .i64 42) ∧ Below w1.heap.size w1 w') := fun w1 hb => by
    have h := tCheck_any (L := []) (v := .slice none 0 0) (w := w1) ⟨none, 0, rfl, Nat.le_refl _, Or.inl rfl⟩ (by decide) ⟨(fun d hd => by cases hd), fun d hd => by cases hd⟩ (he.below hb) (hf.below hb)
    rw [checkB_no (L := []) (fun q => by simp at q)] at h
    exact h
  have HFI : Hid (∀ w1 v vp, DirsAt w1 v smallL → PathAt w1 vp [sA] → Calls Tryz.prog 17 #[.agg #[v], vp] w1 fun e w' => e = .returned (.int .i64 1) ∧ Below w1.heap.size w1 w') := fun w1 v vp hd hp => by
    have h := tFind_any hd (by decide) (fun d hd => (small_fit d hd).1) hp
    rw [find_a] at h
    exact h
  have HTX : Hid (∀ w1 vp, PathAt w1 vp [sA, sB] → Calls Tryz.prog 12 #[vp] w1 fun e w' => e = .returned (.string ⟨#[47, 109, 111, 100, 117, 108, 101, 115, 47, 97, 47, 109, 111, 100, 117, 108, 101, 115, 47, 98]⟩) ∧ Below w1.heap.size w1 w') := fun w1 vp hp => by
    have h := tText_any hp (by decide)
    have e1 : textPa [sA, sB] = ⟨#[47, 109, 111, 100, 117, 108, 101, 115, 47, 97, 47, 109, 111, 100, 117, 108, 101, 115, 47, 98]⟩ := by decide +kernel
    rw [e1] at h
    exact h
  have HSA : Hid (∀ w1 v, DirsAt w1 v smallL → Calls Tryz.prog 25 #[.agg #[v], .agg #[v]] w1 fun e w' => e = .returned (.bool true) ∧ Below w1.heap.size w1 w') := fun w1 v hd => by
    obtain ⟨ad, cap, e, _⟩ := hd.sl
    have h := tSame_of (A := smallL) (B := smallL) (va := v) (vb := v) (w := w1) ⟨_, _, _, e⟩ ⟨_, _, _, e⟩ (fun W hb => sorted_nd (hd.below hb) small_fit (by decide) small_nodup) (fun W hb => sorted_nd (hd.below hb) small_fit (by decide) small_nodup)
    rw [small_same] at h
    exact h
  have HP1 : Hid (∀ W : World, PathAt (W.alloc (.cells #[.string ⟨#[97]⟩] 9)) (.slice (some ⟨W.heap.size, 0, none⟩) 1 1) [sA]) := fun W => ⟨_, 1, rfl, Nat.le_refl _, Or.inr ⟨W.heap.size, 0, rfl, fun i hi => by
    obtain rfl : i = 0 := by simpa using hi
    exact ⟨by simp [sA], by simp⟩⟩⟩
  have HP2 : Hid (∀ W : World, PathAt (W.alloc (.cells #[.string ⟨#[97]⟩, .string ⟨#[98]⟩] 9)) (.slice (some ⟨W.heap.size, 0, none⟩) 2 2) [sA, sB]) := fun W => ⟨_, 2, rfl, Nat.le_refl _, Or.inr ⟨W.heap.size, 0, rfl, fun i hi => by
    rcases (show i = 0 ∨ i = 1 by simp at hi; omega) with rfl | rfl <;> exact ⟨by simp [sA, sB], by simp⟩⟩⟩
  clear he hf
  have t1 : True := trivial
  go_enter Tryz.func11, Tryz.ntmps11
  go_wp2_with (first
    | (have _t := HB5; go_at_call 25; refine (HSA.out _ _ (HD.out.below HBD.out)).mono ?_; rintro e w6 ⟨rfl, ok⟩; have HB6 := hide3 (below_then HB5.out ok); clear ok)
    | (have _t := HB4; go_at_call 12; refine (HTX.out _ _ (HP2.out _)).mono ?_; rintro e w5 ⟨rfl, ok⟩; have HBD := hide3 (below_then HBC.out (below_then (boxB w4 _) ok)); have HB5 := hide3 (below_then HB4.out (below_then (boxB w4 _) ok)); have b5 := (HBD.out.cell (p := ⟨w1.heap.size, 0, none⟩) (by simp)).trans b1; clear ok)
    | (have _t := HB3; go_at_call 17; refine (HFI.out _ _ _ (HD.out.below (below_then HBB.out (boxB w3 _))) (HP1.out _)).mono ?_; rintro e w4 ⟨rfl, ok⟩; have HBC := hide3 (below_then HBB.out (below_then (boxB w3 _) ok)); have HB4 := hide3 (below_then HB3.out (below_then (boxB w3 _) ok)); clear ok)
    | (have _t := HB2; go_at_call 9; refine (HCN.out _ HB2.out).mono ?_; rintro e w3 ⟨rfl, ok⟩; have HBB := hide3 (below_then HBA.out ok); have HB3 := hide3 (below_then HB2.out ok); have b3 := (HBB.out.cell (p := ⟨w1.heap.size, 0, none⟩) (by simp)).trans b1; clear ok HB2)
    | (have _t := t1; have b1 : (w1.alloc (.cells #[.slice (some ⟨g, 0, none⟩) 2 2] 24)).cell? ⟨w1.heap.size, 0, none⟩ = some (.slice (some ⟨g, 0, none⟩) 2 2) := (by simp); go_at_call 9; refine (HCK.out _ _ (below_then HB1.out (boxB _ _)) HD.out).mono ?_; rintro e w2 ⟨rfl, ok⟩; have HBA := hide3 ok; have HB2 := hide3 (below_then (below_then HB1.out (boxB _ _)) ok); clear ok t1)
    | (go_at_call 33; refine HSM.out.mono ?_; rintro e w1 ⟨g, rfl, hd, ok⟩; have HD : Hid (DirsAt (w1.alloc (.cells #[.slice (some ⟨g, 0, none⟩) 2 2] 24)) (.slice (some ⟨g, 0, none⟩) 2 2) smallL) := hd.below (boxB _ _); have HB1 := hide3 ok; clear hd ok))
  go_ret
  exact ⟨rfl, HB6.out⟩
end Go.Proofs.YtcclfaioicklaaaGreatDoor
namespace Go.Proofs.YtcclfaioicklaaaGreatDoor
open Go.RowKit
set_option maxRecDepth 100000

set_option maxHeartbeats 1600000 in
theorem rSpans_walk (A B : List Sp) (hAB : A.length = B.length) (hsz : A.length ≤ 9223372036854775807) (ga oa ca gb ob cb : Nat) (w : World) (hga : ga < w.heap.size) (hgb : gb < w.heap.size) (hla : ∀ i (h : i < A.length), SpAt w ga (oa + i * 6) A[i]) (hlb : ∀ i (h : i < B.length), SpAt w gb (ob + i * 6) B[i]) :
    Calls Tryz.prog 83 #[.slice (some ⟨ga, oa, none⟩) A.length ca, .slice (some ⟨gb, ob, none⟩) B.length cb] w fun e w' => e = .returned (.bool (eqB A B)) ∧ Below w.heap.size w w' := by
  have HL : Hid (∀ w1, Below w.heap.size w w1 → ∀ i (h : i < A.length) (h2 : i < B.length), SpIn w1 ga (oa + i * 6) A[i] ∧ SpIn w1 gb (ob + i * 6) B[i]) := fun w1 hb i hi hi2 => ⟨⟨(hla i hi).below hb hga, Nat.lt_of_lt_of_le hga hb.size⟩, ⟨(hlb i hi2).below hb hgb, Nat.lt_of_lt_of_le hgb hb.size⟩⟩
  have HAB := hide3 hAB
  clear hla hlb
  rw [← hAB]
  clear hAB
  go_enter Tryz.func83, Tryz.ntmps83
  go_wp2_with fail
  go_loopw [5] (fun i wr => ∃ k : Nat, k ≤ A.length ∧ i = .int .i64 k ∧ Below w.heap.size w wr ∧ ∀ j (h : j < k) (h1 : j < A.length) (h2 : j < B.length), A[j] = B[j]) (fun i _ => A.length - (intOf i).toNat)
  case atStart => exact ⟨0, Nat.zero_le _, rfl, Below.refl _ _, fun j h => by omega⟩
  case round =>
    obtain ⟨k, hk, rfl, hb, hall⟩ := hrel
    have HALL := hide3 hall
    have HB := hide3 hb
    clear hall
    by_cases hlt : k < A.length
    · have hltB : k < B.length := HAB.out ▸ hlt
      have HO : Hid (Below w.heap.size w wr ∧ SpIn wr ga (oa + k * 6) A[k] ∧ SpIn wr gb (ob + k * 6) B[k]) := ⟨hb, HL.out wr hb k hlt hltB⟩
      have HK : Hid (KeepP fun w1 => Below w.heap.size w w1 ∧ SpIn w1 ga (oa + k * 6) A[k] ∧ SpIn w1 gb (ob + k * 6) B[k]) := (keepBelow w).and ((keepSp _ _ _).and (keepSp _ _ _))
      have HNE : Hid (eqS A[k] B[k] = false → eqB A B = false) := fun h => eqB_no fun e => by subst e; rw [(eqS_iff).2 rfl] at h; cases h
      have HST : Hid (eqS A[k] B[k] = true → ∀ j (h : j < k + 1) (h1 : j < A.length) (h2 : j < B.length), A[j] = B[j]) := fun h j hj h1 h2 => by
        rcases Nat.lt_or_ge j k with hjk | hjk
        · exact HALL.out j hjk h1 h2
        · obtain rfl : j = k := by omega
          exact eqS_iff.1 h
      generalize A[k] = s at *
      generalize B[k] = t at *
      obtain ⟨a, b, c, x, y, z⟩ := s
      obtain ⟨a', b', c', x', y', z'⟩ := t
      have he := neqSp2 a b c x y z a' b' c' x' y' z'
      have hgd := guardSp
      cases hq : eqS ⟨a, b, c, x, y, z⟩ ⟨a', b', c', x', y', z'⟩
      · have HR := hide3 (HNE.out hq)
        rw [hq] at he
        clear hb HNE HST HALL
        go_wp2_with fail
        refine wp_region_keep HK.out (by kernel_rfl) (by kernel_rfl) (by first | exact HO.out | exact HK.out.drew HO.out) ?_
        intro C hin hout
        have HIN := hide3 hin
        have HOUT := hide3 hout
        clear hin hout HO
        repeat
          (with_reducible refine wpQuiet_step (fun K hK => ?_)
           go_simp
           first
             | (refine hK _ ?_; clear hK K)
             | (apply Exists.intro; refine ⟨fun w1 hC => ?_, hK _ ?_⟩; (focus ((first | (exact rfl) | (obtain ⟨hb1, ⟨⟨p0, p1, p2, p3, p4, p5⟩, p6⟩, ⟨⟨q0, q1, q2, q3, q4, q5⟩, q6⟩⟩ := HOUT.out w1 hC; clear hC; go_simp; first | done | exact rfl)); done)); clear hK K))
        refine wpQuiet_nil ?_
        intro wn hC
        have HO := hide3 (HOUT.out _ hC)
        clear hC HIN HOUT C
        obtain ⟨hb1, ⟨⟨p0, p1, p2, p3, p4, p5⟩, p6⟩, ⟨⟨q0, q1, q2, q3, q4, q5⟩, q6⟩⟩ := HO.out
        go_wp2
        go_ret
        exact ⟨ret_bool HR.out.symm, HO.out.1⟩
      · have HR := hide3 (HST.out hq)
        rw [hq] at he
        clear hb HNE HST HALL
        go_wp2_with fail
        refine wp_region_keep HK.out (by kernel_rfl) (by kernel_rfl) (by first | exact HO.out | exact HK.out.drew HO.out) ?_
        intro C hin hout
        have HIN := hide3 hin
        have HOUT := hide3 hout
        clear hin hout HO
        repeat
          (with_reducible refine wpQuiet_step (fun K hK => ?_)
           go_simp
           first
             | (refine hK _ ?_; clear hK K)
             | (apply Exists.intro; refine ⟨fun w1 hC => ?_, hK _ ?_⟩; (focus ((first | (exact rfl) | (obtain ⟨hb1, ⟨⟨p0, p1, p2, p3, p4, p5⟩, p6⟩, ⟨⟨q0, q1, q2, q3, q4, q5⟩, q6⟩⟩ := HOUT.out w1 hC; clear hC; go_simp; first | done | exact rfl)); done)); clear hK K))
        refine wpQuiet_nil ?_
        intro wn hC
        have HO := hide3 (HOUT.out _ hC)
        clear hC HIN HOUT C
        obtain ⟨hb1, ⟨⟨p0, p1, p2, p3, p4, p5⟩, p6⟩, ⟨⟨q0, q1, q2, q3, q4, q5⟩, q6⟩⟩ := HO.out
        go_wp2
        exact ⟨⟨k + 1, by omega, by go_num, HO.out.1, HR.out⟩, by simp [intOf]; omega⟩
    · have hke : k = A.length := by omega
      subst hke
      have HR : Hid (eqB A B = true) := eqB_yes (List.ext_getElem HAB.out fun j h1 h2 => HALL.out j h1 h1 h2)
      clear hb
      go_wp2
      go_ret
      exact ⟨ret_bool HR.out.symm, HB.out⟩

theorem rSpans_nil (ad bd : Option Addr) (ca cb : Nat) (w : World) :
    Calls Tryz.prog 83 #[.slice ad 0 ca, .slice bd 0 cb] w fun e w' => e = .returned (.bool true) ∧ Below w.heap.size w w' := by
  go_enter Tryz.func83, Tryz.ntmps83
  go_wp2_with fail
  go_loop [5] (fun i => i = .int .i64 0) (fun _ => 0)
  case atStart => rfl
  case round =>
    subst hrel
    go_wp2
    go_ret
    exact ⟨rfl, Below.refl _ _⟩

theorem rSpans_len (ad bd : Option Addr) (n m ca cb : Nat) (h : n ≠ m) (w : World) :
    Calls Tryz.prog 83 #[.slice ad n ca, .slice bd m cb] w fun e w' => e = .returned (.bool false) ∧ Below w.heap.size w w' := by
  have hn : ((n : Int) = (m : Int)) = False := by simp; omega
  go_enter Tryz.func83, Tryz.ntmps83
  go_wp2
  go_ret
  exact ⟨rfl, Below.refl _ _⟩

theorem rSpans_any {A B : List Sp} {va vb : Value} {w : World} (ha : SpansAt w va A) (hb : SpansAt w vb B) (hsz : A.length ≤ 9223372036854775807) :
    Calls Tryz.prog 83 #[va, vb] w fun e w' => e = .returned (.bool (eqB A B)) ∧ Below w.heap.size w w' := by
  obtain ⟨ad, ca, rfl, hl⟩ := ha
  obtain ⟨bd, cb, rfl, hm⟩ := hb
  by_cases hn : A.length = B.length
  · rcases hl with rfl | ⟨ga, oa, rfl, hga, hla⟩
    · obtain rfl : B = [] := List.eq_nil_of_length_eq_zero (by simpa using hn.symm)
      rw [eqB_yes rfl]
      exact rSpans_nil _ _ _ _ w
    · rcases hm with rfl | ⟨gb, ob, rfl, hgb, hlb⟩
      · obtain rfl : A = [] := List.eq_nil_of_length_eq_zero (by simpa using hn)
        rw [eqB_yes rfl]
        exact rSpans_nil _ _ _ _ w
      · exact rSpans_walk A B hn hsz ga oa ca gb ob cb w hga hgb hla hlb
  · rw [eqB_no fun e => hn (by rw [e])]
    exact rSpans_len _ _ _ _ _ _ hn w

set_option maxHeartbeats 3200000 in
theorem rDeps_walk (A B : List Dp) (hAB : A.length = B.length) (hsz : A.length ≤ 9223372036854775807) (ga oa ca gb ob cb : Nat) (w : World) (hla : ∀ i (h : i < A.length), ∃ u, DpIn w ga (oa + i * 2) A[i] u) (hlb : ∀ i (h : i < B.length), ∃ u, DpIn w gb (ob + i * 2) B[i] u) :
    Calls Tryz.prog 62 #[.slice (some ⟨ga, oa, none⟩) A.length ca, .slice (some ⟨gb, ob, none⟩) B.length cb] w fun e w' => e = .returned (.bool (eqB A B)) ∧ Below w.heap.size w w' := by
  have HL : Hid (∀ w1, Below w.heap.size w w1 → ∀ i (h : i < A.length) (h2 : i < B.length), (∃ u, DpIn w1 ga (oa + i * 2) A[i] u) ∧ ∃ u, DpIn w1 gb (ob + i * 2) B[i] u) := fun w1 hb i hi hi2 => ⟨(hla i hi).imp fun u h => h.below hb, (hlb i hi2).imp fun u h => h.below hb⟩
  have HAB := hide3 hAB
  clear hla hlb
  rw [← hAB]
  clear hAB
  go_enter Tryz.func62, Tryz.ntmps62
  go_wp2_with fail
  go_loopw [5] (fun i wr => ∃ k : Nat, k ≤ A.length ∧ i = .int .i64 k ∧ Below w.heap.size w wr ∧ ∀ j (h : j < k) (h1 : j < A.length) (h2 : j < B.length), A[j] = B[j]) (fun i _ => A.length - (intOf i).toNat)
  case atStart => exact ⟨0, Nat.zero_le _, rfl, Below.refl _ _, fun j h => by omega⟩
  case round =>
    obtain ⟨k, hk, rfl, hb, hall⟩ := hrel
    have HALL := hide3 hall
    have HB := hide3 hb
    clear hall
    by_cases hlt : k < A.length
    · have hltB : k < B.length := HAB.out ▸ hlt
      obtain ⟨⟨u, hu⟩, ⟨v, hv⟩⟩ := HL.out wr hb k hlt hltB
      have HO : Hid (Below w.heap.size w wr ∧ DpIn wr ga (oa + k * 2) A[k] u ∧ DpIn wr gb (ob + k * 2) B[k] v) := ⟨hb, hu, hv⟩
      have HK : Hid (KeepP fun w1 => Below w.heap.size w w1 ∧ DpIn w1 ga (oa + k * 2) A[k] u ∧ DpIn w1 gb (ob + k * 2) B[k] v) := (keepBelow w).and ((keepDp _ _ _ _).and (keepDp _ _ _ _))
      have HC : Hid (∀ w1, (Below w.heap.size w w1 ∧ DpIn w1 ga (oa + k * 2) A[k] u ∧ DpIn w1 gb (ob + k * 2) B[k] v) → Calls Tryz.prog 83 #[u, v] w1 fun x w' => x = .returned (.bool (eqB A[k].rg B[k].rg)) ∧ Below w1.heap.size w1 w') := fun w1 h => rSpans_any h.2.1.2.2.1.1.1 h.2.2.2.2.1.1.1 h.2.1.2.2.1.2
      have HNE : Hid (A[k] ≠ B[k] → eqB A B = false) := fun h => eqB_no fun e => by subst e; exact h rfl
      have HST : Hid (A[k] = B[k] → ∀ j (h : j < k + 1) (h1 : j < A.length) (h2 : j < B.length), A[j] = B[j]) := fun h j hj h1 h2 => by
        rcases Nat.lt_or_ge j k with hjk | hjk
        · exact HALL.out j hjk h1 h2
        · obtain rfl : j = k := by omega
          exact h
      obtain ⟨au, cu, rfl⟩ := hu.2.2.1.1.1.sl
      obtain ⟨av, cv, rfl⟩ := hv.2.2.1.1.1.sl
      clear hu hv
      generalize A[k] = d at *
      generalize B[k] = e at *
      obtain ⟨n, r⟩ := d
      obtain ⟨m, q⟩ := e
      simp only at *
      by_cases hn : n = m
      · subst hn
        have hq : (n.toList == n.toList) = true := by simp
        cases hr : eqB r q
        · have HR := hide3 (HNE.out fun e => by injection e with _ e2; rw [eqB_yes e2] at hr; cases hr)
          rw [hr] at HC
          clear hb HNE HST HALL hr
          go_wp2_with fail
          refine wp_region_keep HK.out (by kernel_rfl) (by kernel_rfl) (by first | exact HO.out | exact HK.out.drew HO.out) ?_
          intro C hin hout
          have HIN := hide3 hin
          have HOUT := hide3 hout
          clear hin hout HO
          repeat
            (with_reducible refine wpQuiet_step (fun K hK => ?_)
             go_simp
             first
               | (refine hK _ ?_; clear hK K)
               | (apply Exists.intro; refine ⟨fun w1 hC => ?_, hK _ ?_⟩; (focus ((first | (go_at_call 83; with_reducible exact callC' HIN.out HOUT.out HK.out HC.out w1 hC) | (exact rfl) | (obtain ⟨hb1, ⟨p0, p1, ph, p3⟩, ⟨q0, q1, qh, q3⟩⟩ := HOUT.out w1 hC; clear hC; go_simp; first | done | exact rfl)); done)); clear hK K))
          refine wpQuiet_nil ?_
          intro wn hC
          have HO := hide3 (HOUT.out _ hC)
          clear hC HIN HOUT C
          obtain ⟨hb1, ⟨p0, p1, ph, p3⟩, ⟨q0, q1, qh, q3⟩⟩ := HO.out
          go_wp2
          go_ret
          exact ⟨ret_bool HR.out.symm, HO.out.1⟩
        · have HR := hide3 (HST.out (by rw [eqB_iff.1 hr]))
          rw [hr] at HC
          clear hb HNE HST HALL hr
          go_wp2_with fail
          refine wp_region_keep HK.out (by kernel_rfl) (by kernel_rfl) (by first | exact HO.out | exact HK.out.drew HO.out) ?_
          intro C hin hout
          have HIN := hide3 hin
          have HOUT := hide3 hout
          clear hin hout HO
          repeat
            (with_reducible refine wpQuiet_step (fun K hK => ?_)
             go_simp
             first
               | (refine hK _ ?_; clear hK K)
               | (apply Exists.intro; refine ⟨fun w1 hC => ?_, hK _ ?_⟩; (focus ((first | (go_at_call 83; with_reducible exact callC' HIN.out HOUT.out HK.out HC.out w1 hC) | (exact rfl) | (obtain ⟨hb1, ⟨p0, p1, ph, p3⟩, ⟨q0, q1, qh, q3⟩⟩ := HOUT.out w1 hC; clear hC; go_simp; first | done | exact rfl)); done)); clear hK K))
          refine wpQuiet_nil ?_
          intro wn hC
          have HO := hide3 (HOUT.out _ hC)
          clear hC HIN HOUT C
          obtain ⟨hb1, ⟨p0, p1, ph, p3⟩, ⟨q0, q1, qh, q3⟩⟩ := HO.out
          go_wp2
          exact ⟨⟨k + 1, by omega, by go_num, HO.out.1, HR.out⟩, by simp [intOf]; omega⟩
      · have HR := hide3 (HNE.out fun e => hn (by injection e))
        have hq : (n.toList == m.toList) = false := beq_eq_false_iff_ne.2 fun e => hn (bytes_same e)
        clear hb HNE HST HALL HC
        go_wp2_with fail
        refine wp_region_keep HK.out (by kernel_rfl) (by kernel_rfl) (by first | exact HO.out | exact HK.out.drew HO.out) ?_
        intro C hin hout
        have HIN := hide3 hin
        have HOUT := hide3 hout
        clear hin hout HO
        repeat
          (with_reducible refine wpQuiet_step (fun K hK => ?_)
           go_simp
           first
             | (refine hK _ ?_; clear hK K)
             | (apply Exists.intro; refine ⟨fun w1 hC => ?_, hK _ ?_⟩; (focus ((first | (exact rfl) | (obtain ⟨hb1, ⟨p0, p1, ph, p3⟩, ⟨q0, q1, qh, q3⟩⟩ := HOUT.out w1 hC; clear hC; go_simp; first | done | exact rfl)); done)); clear hK K))
        refine wpQuiet_nil ?_
        intro wn hC
        have HO := hide3 (HOUT.out _ hC)
        clear hC HIN HOUT C
        obtain ⟨hb1, ⟨p0, p1, ph, p3⟩, ⟨q0, q1, qh, q3⟩⟩ := HO.out
        go_wp2
        go_ret
        exact ⟨ret_bool HR.out.symm, HO.out.1⟩
    · have hke : k = A.length := by omega
      subst hke
      have HR : Hid (eqB A B = true) := eqB_yes (List.ext_getElem HAB.out fun j h1 h2 => HALL.out j h1 h1 h2)
      clear hb
      go_wp2
      go_ret
      exact ⟨ret_bool HR.out.symm, HB.out⟩

theorem rDeps_nil (ad bd : Option Addr) (ca cb : Nat) (w : World) :
    Calls Tryz.prog 62 #[.slice ad 0 ca, .slice bd 0 cb] w fun e w' => e = .returned (.bool true) ∧ Below w.heap.size w w' := by
  go_enter Tryz.func62, Tryz.ntmps62
  go_wp2_with fail
  go_loop [5] (fun i => i = .int .i64 0) (fun _ => 0)
  case atStart => rfl
  case round =>
    subst hrel
    go_wp2
    go_ret
    exact ⟨rfl, Below.refl _ _⟩

theorem rDeps_len (ad bd : Option Addr) (n m ca cb : Nat) (h : n ≠ m) (w : World) :
    Calls Tryz.prog 62 #[.slice ad n ca, .slice bd m cb] w fun e w' => e = .returned (.bool false) ∧ Below w.heap.size w w' := by
  have hn : ((n : Int) = (m : Int)) = False := by simp; omega
  go_enter Tryz.func62, Tryz.ntmps62
  go_wp2
  go_ret
  exact ⟨rfl, Below.refl _ _⟩

theorem rDeps_any {A B : List Dp} {va vb : Value} {w : World} (ha : DepsAt w va A) (hb : DepsAt w vb B) (hsz : A.length ≤ 9223372036854775807) :
    Calls Tryz.prog 62 #[va, vb] w fun e w' => e = .returned (.bool (eqB A B)) ∧ Below w.heap.size w w' := by
  obtain ⟨ad, ca, rfl, _, hl⟩ := ha
  obtain ⟨bd, cb, rfl, _, hm⟩ := hb
  by_cases hn : A.length = B.length
  · rcases hl with rfl | ⟨ga, oa, rfl, hga, hla⟩
    · obtain rfl : B = [] := List.eq_nil_of_length_eq_zero (by simpa using hn.symm)
      rw [eqB_yes rfl]
      exact rDeps_nil _ _ _ _ w
    · rcases hm with rfl | ⟨gb, ob, rfl, hgb, hlb⟩
      · obtain rfl : A = [] := List.eq_nil_of_length_eq_zero (by simpa using hn)
        rw [eqB_yes rfl]
        exact rDeps_nil _ _ _ _ w
      · exact rDeps_walk A B hn hsz ga oa ca gb ob cb w hla hlb
  · rw [eqB_no fun e => hn (by rw [e])]
    exact rDeps_len _ _ _ _ _ _ hn w
end Go.Proofs.YtcclfaioicklaaaGreatDoor
namespace Go.Proofs.YtcclfaioicklaaaGreatDoor
open Go.RowKit
set_option maxRecDepth 100000

set_option maxHeartbeats 1600000 in
theorem rSamePk_any {P Q : Pg} {v1 v2 v3 u1 u2 u3 : Value} {w : World} (hp : PgAt w P v1 v2 v3) (hq : PgAt w Q u1 u2 u3) (hd : P.d.length ≤ 9223372036854775807) (he : P.p.length ≤ 9223372036854775807) (ho : P.o.length ≤ 9223372036854775807) :
    Calls Tryz.prog 31 #[.agg #[.string P.nm, .int .i64 P.a, .int .i64 P.b, .int .i64 P.c, v1, v2, v3], .agg #[.string Q.nm, .int .i64 Q.a, .int .i64 Q.b, .int .i64 Q.c, u1, u2, u3]] w fun x w' => x = .returned (.bool (eqB P Q)) ∧ Below w.heap.size w w' := by
  have H1 : Hid (∀ w1, Below w.heap.size w w1 → Calls Tryz.prog 62 #[v1, u1] w1 fun e w' => e = .returned (.bool (eqB P.d Q.d)) ∧ Below w1.heap.size w1 w') := fun w1 h => rDeps_any (hp.1.below h) (hq.1.below h) hd
  have H2 : Hid (∀ w1, Below w.heap.size w w1 → Calls Tryz.prog 62 #[v2, u2] w1 fun e w' => e = .returned (.bool (eqB P.p Q.p)) ∧ Below w1.heap.size w1 w') := fun w1 h => rDeps_any (hp.2.1.below h) (hq.2.1.below h) he
  have H3 : Hid (∀ w1, Below w.heap.size w w1 → Calls Tryz.prog 62 #[v3, u3] w1 fun e w' => e = .returned (.bool (eqB P.o Q.o)) ∧ Below w1.heap.size w1 w') := fun w1 h => rDeps_any (hp.2.2.below h) (hq.2.2.below h) ho
  have HR : Hid (eqB P Q = (decide (P.nm.toList = Q.nm.toList) && (decide (P.a = Q.a) && decide (P.b = Q.b) && decide (P.c = Q.c)) && eqB P.d Q.d && eqB P.p Q.p && eqB P.o Q.o)) := by
    refine eqB_and ?_
    obtain ⟨n, a, b, c, d, e, o⟩ := P
    obtain ⟨n', a', b', c', d', e', o'⟩ := Q
    simp only [Bool.and_eq_true, decide_eq_true_eq, eqB_iff, Pg.mk.injEq]
    exact ⟨fun ⟨h1, h2, h3, h4, h5, h6, h7⟩ => ⟨⟨⟨⟨by rw [h1], ⟨h2, h3⟩, h4⟩, h5⟩, h6⟩, h7⟩, fun ⟨⟨⟨⟨h1, ⟨h2, h3⟩, h4⟩, h5⟩, h6⟩, h7⟩ => ⟨bytes_same h1, h2, h3, h4, h5, h6, h7⟩⟩
  obtain ⟨a1, c1, rfl⟩ := hp.1.sl
  obtain ⟨a2, c2, rfl⟩ := hp.2.1.sl
  obtain ⟨a3, c3, rfl⟩ := hp.2.2.sl
  obtain ⟨b1, d1, rfl⟩ := hq.1.sl
  obtain ⟨b2, d2, rfl⟩ := hq.2.1.sl
  obtain ⟨b3, d3, rfl⟩ := hq.2.2.sl
  clear hp hq hd he ho
  have hv := eqV2 P.a P.b P.c Q.a Q.b Q.c
  have hgd := guardV
  obtain ⟨n, a, b, c, d, e, o⟩ := P
  obtain ⟨n', a', b', c', d', e', o'⟩ := Q
  simp only at *
  generalize eqB d d' = x1 at *
  generalize eqB e e' = x2 at *
  generalize eqB o o' = x3 at *
  generalize (decide (a = a') && decide (b = b') && decide (c = c')) = xv at *
  generalize d.length = l1 at *
  generalize e.length = l2 at *
  generalize o.length = l3 at *
  generalize d'.length = m1 at *
  generalize e'.length = m2 at *
  generalize o'.length = m3 at *
  have HB : Hid (BxP ((w.alloc (.cells #[.string n, .int .i64 a, .int .i64 b, .int .i64 c, .slice a1 l1 c1, .slice a2 l2 c2, .slice a3 l3 c3] 44)).alloc (.cells #[.string n', .int .i64 a', .int .i64 b', .int .i64 c', .slice b1 m1 d1, .slice b2 m2 d2, .slice b3 m3 d3] 44)) w.heap.size n a b c (.slice a1 l1 c1) (.slice a2 l2 c2) (.slice a3 l3 c3) ∧ BxP ((w.alloc (.cells #[.string n, .int .i64 a, .int .i64 b, .int .i64 c, .slice a1 l1 c1, .slice a2 l2 c2, .slice a3 l3 c3] 44)).alloc (.cells #[.string n', .int .i64 a', .int .i64 b', .int .i64 c', .slice b1 m1 d1, .slice b2 m2 d2, .slice b3 m3 d3] 44)) (w.heap.size + 1) n' a' b' c' (.slice b1 m1 d1) (.slice b2 m2 d2) (.slice b3 m3 d3)) := ⟨keepBxP _ _ _ _ _ _ _ _ _ _ (BxP.new rfl _ _ _ _ _ _ _) (boxB _ _), BxP.new (by simp) _ _ _ _ _ _ _⟩
  have HK : Hid (KeepP fun w1 => BxP w1 w.heap.size n a b c (.slice a1 l1 c1) (.slice a2 l2 c2) (.slice a3 l3 c3) ∧ BxP w1 (w.heap.size + 1) n' a' b' c' (.slice b1 m1 d1) (.slice b2 m2 d2) (.slice b3 m3 d3)) := (keepBxP _ _ _ _ _ _ _ _).and (keepBxP _ _ _ _ _ _ _ _)
  have t1 : True := trivial
  have t2 : True := trivial
  by_cases hn : n.toList = n'.toList
  · cases xv
    · go_enter Tryz.func31, Tryz.ntmps31
      go_wp2
      go_ret
      exact ⟨ret_bool (by rw [HR.out]; simp), boxB2 _ _ _⟩
    · go_enter Tryz.func31, Tryz.ntmps31
      cases x1
      · go_wp2_with (go_at_call 62; refine (H1.out _ (boxB2 _ _ _)).mono ?_; rintro x w1 ⟨rfl, ok⟩)
        go_ret
        exact ⟨ret_bool (by rw [HR.out]; simp), below_then (boxB2 _ _ _) ok⟩
      · cases x2
        · go_wp2_with (first
            | (have _t := t1; go_at_call 62; refine (H1.out _ (boxB2 _ _ _)).mono ?_; rintro x w1 ⟨rfl, ok⟩; clear t1; have HB1 := hide3 (HK.out _ _ HB.out ok); obtain ⟨⟨p0, p1, p2, p3, p4, p5, p6, p7⟩, ⟨q0, q1, q2, q3, q4, q5, q6, q7⟩⟩ := HB1.out)
            | (go_at_call 62; refine (H2.out _ (below_then (boxB2 _ _ _) ok)).mono ?_; rintro x w2 ⟨rfl, ok2⟩))
          go_ret
          exact ⟨ret_bool (by rw [HR.out]; simp), below_then (below_then (boxB2 _ _ _) ok) ok2⟩
        · go_wp2_with (first
            | (have _t := t1; go_at_call 62; refine (H1.out _ (boxB2 _ _ _)).mono ?_; rintro x w1 ⟨rfl, ok⟩; clear t1; have HB1 := hide3 (HK.out _ _ HB.out ok); obtain ⟨⟨p0, p1, p2, p3, p4, p5, p6, p7⟩, ⟨q0, q1, q2, q3, q4, q5, q6, q7⟩⟩ := HB1.out)
            | (have _t := t2; go_at_call 62; refine (H2.out _ (below_then (boxB2 _ _ _) ok)).mono ?_; rintro x w2 ⟨rfl, ok2⟩; clear t2; have HB2 := hide3 (HK.out _ _ HB1.out ok2); clear p0 p1 p2 p3 p4 p5 p6 p7 q0 q1 q2 q3 q4 q5 q6 q7; obtain ⟨⟨p0, p1, p2, p3, p4, p5, p6, p7⟩, ⟨q0, q1, q2, q3, q4, q5, q6, q7⟩⟩ := HB2.out)
            | (go_at_call 62; refine (H3.out _ (below_then (below_then (boxB2 _ _ _) ok) ok2)).mono ?_; rintro x w3 ⟨rfl, ok3⟩))
          go_ret
          exact ⟨ret_bool (by rw [HR.out]; simp [hn]), below_then (below_then (below_then (boxB2 _ _ _) ok) ok2) ok3⟩
  · go_enter Tryz.func31, Tryz.ntmps31
    go_wp2
    go_ret
    exact ⟨ret_bool (by rw [HR.out]; simp [hn]), boxB2 _ _ _⟩
end Go.Proofs.YtcclfaioicklaaaGreatDoor
