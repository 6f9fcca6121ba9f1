/- Tr5, Kn2, Env1, RowS, RwD, RwP, RwTr, laid in one text. -/
import Derived.Test.YtfnmbjddlkfooaaDoorMg12
namespace Go.Proofs.YtfnmbjddlkfooaaDoor
open Go.RowKit
set_option maxRecDepth 100000

theorem neqV2 (p q r : Int) (w : World) : (binOp .neq 36 (.agg #[.int .i64 p, .int .i64 q, .int .i64 r]) (.agg #[.int .i64 p, .int .i64 q, .int .i64 r])).run Tryd.prog w = .ok (.bool false) w := by
  have u3 := Tryd.underlying3
  have a3 := Tryd.isAgg3
  have z3 := Tryd.sizeOf3
  rw [run_neq_struct, show (10000 : Nat) = 9999 + 1 from rfl, run_equalIn_agg w 9999 36 _ _ (by kernel_rfl) (by kernel_rfl)]
  simp only [Program.fieldsOf, Tryd.underlying36]
  go_simp

/-- The memory while a map is looked at: the variables of tree and graph, the map's row (block g). -/
def StR (w : World) (vt vg : Value) (g : Nat) (m : List Int) (wr : World) : Prop :=
  (Below w.heap.size w wr ∧ BxT wr w.heap.size vt ∧ BxT wr (w.heap.size + 1) vg) ∧ ∀ j (h : j < m.length), InI wr g j m[j]
theorem keepStR (w : World) (vt vg : Value) (g : Nat) (m : List Int) : KeepP (StR w vt vg g m) := fun _ _ h hb =>
  ⟨⟨below_then h.1.1 hb, keepBxT _ _ _ _ h.1.2.1 hb, keepBxT _ _ _ _ h.1.2.2 hb⟩, fun j hj => keepInI _ _ _ _ _ (h.2 j hj) hb⟩
theorem StR.bel {w : World} {vt vg : Value} {g : Nat} {m : List Int} {wr : World} (h : StR w vt vg g m wr) : Below w.heap.size w wr := h.1.1
theorem keepEg (g o : Nat) (e : Eg) : KeepP fun w1 => EgIn w1 g o e := fun _ _ h hb => h.below hb
theorem own_cells {w : World} {B g n c : Nat} {m : List Int} (h : w.ownsRow B 3 1 (.slice (some ⟨g, 0, none⟩) n c) n (ints m)) (hn : m.length = n) : ∀ j (h : j < m.length), InI w g j m[j] := fun j hj => by
  have e := World.ownsRow.cellAt h j (by omega)
  have e2 : (ints m)[j]? = some (.int .i64 m[j]) := by simp [ints, hj]
  exact ⟨e.trans e2, (World.ownsRow.lt h g rfl).2⟩

theorem map_no {L : List Dr} {G : List Nd} (h : ¬ (checkB L = true ∧ leadB G = true ∧ ∃ m, mapV L G = some m)) : (mapE L G == 0) = false ∧ mapO L G = [] := by
  unfold mapE mapO
  by_cases h1 : checkB L = true
  · by_cases h2 : leadB G = true
    · cases h3 : mapV L G with
      | some m => exact absurd ⟨h1, h2, m, h3⟩ h
      | none => rw [if_pos h1, if_pos h2, if_neg (by simp), if_pos ⟨h1, h2⟩]; exact ⟨rfl, rfl⟩
    · rw [if_pos h1, if_neg h2, if_neg (fun hh => h2 hh.2)]; exact ⟨rfl, rfl⟩
  · rw [if_neg h1, if_neg (fun hh => h1 hh.1)]; exact ⟨rfl, rfl⟩

set_option maxHeartbeats 12800000 in
theorem walkupRight_walk {L : List Dr} {G : List Nd} {vt vg : Value} {w : World} (ht : DirsAt w vt L) (hz : L.length ≤ 9223372036854775807) (hk : DrsOk L) (hg : NodesAt w vg G) (hgz : GrOk G) (he : Env w) (hf : FL w) :
    Calls Tryd.prog 4 #[.agg #[vt], .agg #[vg]] w fun e w' => e = .returned (.bool true) ∧ Below w.heap.size w w' := by
  have HMP : Hid (∀ w1, Below w.heap.size w w1 → Calls Tryd.prog 8 #[.agg #[vt], .agg #[vg]] w1 fun e w' => MapQ w1 L G e w') := fun w1 hb => map_any (ht.below hb) hz hk (hg.below hb) hgz (he.below hb) (hf.below hb)
  have HLK : Hid (∀ w1, Below w.heap.size w w1 → ∀ (r : Nat) s, Calls Tryd.prog 5 #[.agg #[vt], .int .i64 r, .string s] w1 fun e w' => e = .returned (.int .i64 (lookV L r s)) ∧ Below w1.heap.size w1 w') := fun w1 hb r s => look_any (ht.below hb) hz hk.1 r s
  have HLV : Hid (∀ w1, Below w.heap.size w w1 → Calls Tryd.prog 7 #[] w1 fun e w' => e = .returned (.bool true) ∧ Below w1.heap.size w1 w') := fun w1 hb => lives_any (he.below hb) (hf.below hb)
  have HDT := hide3 ht
  have HDG := hide3 hg
  obtain ⟨ta, tc, rfl, htc, htx⟩ := ht.sl
  obtain ⟨ga, gc, rfl, hgc, hgx⟩ := hg
  have HKB : Hid (KeepP fun w1 => Below w.heap.size w w1 ∧ BxT w1 w.heap.size (.slice ta L.length tc) ∧ BxT w1 (w.heap.size + 1) (.slice ga G.length gc)) := (keepBelow w).and ((keepBxT _ _).and (keepBxT _ _))
  have HBX : Hid (Below w.heap.size w ((w.alloc (.cells #[.slice ta L.length tc] 24)).alloc (.cells #[.slice ga G.length gc] 30)) ∧ BxT ((w.alloc (.cells #[.slice ta L.length tc] 24)).alloc (.cells #[.slice ga G.length gc] 30)) w.heap.size (.slice ta L.length tc) ∧ BxT ((w.alloc (.cells #[.slice ta L.length tc] 24)).alloc (.cells #[.slice ga G.length gc] 30)) (w.heap.size + 1) (.slice ga G.length gc)) := ⟨boxB2 _ _ _, keepBxT _ _ _ _ (BxT.new _ _) (boxB _ _), by have h := BxG.new (w.alloc (.cells #[.slice ta L.length tc] 24)) (.slice ga G.length gc); rw [show (w.alloc (.cells #[.slice ta L.length tc] 24)).heap.size = w.heap.size + 1 by simp] at h; exact h⟩
  have hgz1 := hgz.1
  have HGZ := hide3 hgz.2
  clear ht he hf hk hgz htx hgx
  by_cases hall : checkB L = true ∧ leadB G = true ∧ ∃ m, mapV L G = some m
  · obtain ⟨hc, hl, m, hm⟩ := hall
    have hcl := (checkB_iff.1 hc).1
    have hL1 : 0 < L.length := hcl.1
    obtain ⟨hmL, ⟨hm0, hm00⟩, hme, hmr⟩ := map_right hL1 hl hm
    have HMM : Hid (∀ w1, Below w.heap.size w w1 → Calls Tryd.prog 8 #[.agg #[.slice ta L.length tc], .agg #[.slice ga G.length gc]] w1 fun e w' => ∃ g c, e = .returned (.tuple #[.slice (some ⟨g, 0, none⟩) L.length c, .int .i64 0]) ∧ (∀ j (h : j < m.length), InI w' g j m[j]) ∧ Below w1.heap.size w1 w') := fun w1 hb => by
      refine (HMP.out w1 hb).mono ?_
      rintro e w' ⟨v', rfl, ho, hb'⟩
      have e1 : mapE L G = 0 := by unfold mapE; rw [if_pos hc, if_pos hl, if_pos (by rw [hm]; rfl)]
      have e2 : mapO L G = m := by unfold mapO; rw [if_pos ⟨hc, hl⟩, hm]; rfl
      rw [e1]
      rw [e2] at ho
      unfold OwnI at ho
      rw [hmL] at ho
      obtain ⟨g, c, rfl, _⟩ := ho.form hL1
      exact ⟨g, c, rfl, own_cells ho hmL, hb'⟩
    have HME := hide3 hme
    have HMR := hide3 hmr
    have HM0 : Hid (∃ h0 : 0 < m.length, m[0] = 0) := ⟨hm0, hm00⟩
    have HML := hide3 hmL
    have hl257 : L.length ≤ 257 := hcl.2
    clear hcl hc hl hm hme hmr hm0 hm00 hmL
    go_enter Tryd.func4, Tryd.ntmps4
    go_wp2_with (go_at_call 8; refine (HMM.out _ HBX.out.1).mono ?_; rintro e w3 ⟨g, c, rfl, hrow, ok⟩; have HB3 : Hid (StR w (.slice ta L.length tc) (.slice ga G.length gc) g m w3) := ⟨HKB.out _ _ HBX.out ok, hrow⟩; obtain ⟨⟨_, ⟨x0, x1⟩, ⟨y0, y1⟩⟩, _⟩ := HB3.out; have z0 : w3.cell? ⟨g, 0, none⟩ = some (.int .i64 0) := (by obtain ⟨h0, h1⟩ := HM0.out; have h := (hrow 0 h0).1; rw [h1] at h; exact h); clear ok hrow)
    clear x0 x1 y0 y1 z0
    go_loopw [7] (fun vi wr => ∃ i : Nat, i ≤ L.length ∧ vi = .int .i64 i ∧ StR w (.slice ta L.length tc) (.slice ga G.length gc) g m wr) (fun vi _ => L.length - (intOf vi).toNat)
    case atStart => exact ⟨0, Nat.zero_le _, rfl, HB3.out⟩
    case round =>
      obtain ⟨i, hi, rfl, hst⟩ := hrel
      obtain ⟨wa, rfl⟩ : ∃ x, x = wr := ⟨wr, rfl⟩
      by_cases hlt : i < L.length
      · have him : i < m.length := by rw [HML.out]; exact hlt
        have i1 := hst.2 i him
        rcases HME.out i him with hx | hx
        · rw [hx] at i1
          have HK : Hid (KeepP fun w1 => StR w (.slice ta L.length tc) (.slice ga G.length gc) g m w1 ∧ InI w1 g i (-1)) := (keepStR _ _ _ _ _).and (keepInI _ _ _)
          have HO : Hid (StR w (.slice ta L.length tc) (.slice ga G.length gc) g m wa ∧ InI wa g i (-1)) := ⟨hst, i1⟩
          clear hst i1 hx him
          go_wp2_with fail
          refine wp_region_keep HK.out (by kernel_rfl) (by kernel_rfl) (by first | exact HO.out | exact HK.out.drew HO.out) ?_
          intro C hin hout
          have HIN := hide3 hin
          have HOUT := hide3 hout
          clear hin hout HO
          repeat
            (with_reducible refine wpQuiet_step (fun K hK => ?_)
             go_simp
             first
               | (refine hK _ ?_; clear hK K)
               | (apply Exists.intro; refine ⟨fun w1 hC => ?_, hK _ ?_⟩; (focus ((first | (exact rfl) | (obtain ⟨⟨⟨hb1, ⟨t0, t1⟩, ⟨u0, u1⟩⟩, _⟩, ⟨p0, p1⟩⟩ := HOUT.out w1 hC; clear hC; go_simp; first | done | exact rfl)); done)); clear hK K))
          refine wpQuiet_nil ?_
          intro wn hC
          have HO := hide3 (HOUT.out _ hC)
          clear hC HIN HOUT C
          obtain ⟨⟨⟨hb1, ⟨t0, t1⟩, ⟨u0, u1⟩⟩, _⟩, ⟨p0, p1⟩⟩ := HO.out
          go_wp2
          exact ⟨⟨i + 1, by omega, by go_num, HO.out.1⟩, by simp [intOf]; omega⟩
        · obtain ⟨y, hy⟩ : ∃ y : Nat, m[i] = y := ⟨m[i].toNat, by omega⟩
          have hyG : y < G.length := by omega
          have HRT := hide3 (HMR.out i y him hy hyG)
          rw [hy] at i1
          obtain ⟨ga', gc', eq, _, hnd⟩ := HDG.out
          cases eq
          obtain ⟨gg, go, rfl, _, hnz⟩ : ∃ g o, ga = some ⟨g, o, none⟩ ∧ g < w.heap.size ∧ ∀ i (h : i < G.length), ∃ vc ve, NdIn w g (o + i * 6) G[i] vc ve := by
            rcases hnd with h | h
            · rw [h] at hyG; simp at hyG
            · exact h
          obtain ⟨vc, ve, hni⟩ := hnz y hyG
          have HNZ := hide3 hnz
          have HEA : Hid (∀ w1, Below w.heap.size w w1 → EdgesAt w1 ve G[y].ed) := fun w1 hb => hni.2.1.2.below hb
          have hez := HGZ.out _ (List.getElem_mem hyG)
          obtain ⟨ea, ec, rfl⟩ := hni.2.1.2.sl
          obtain ⟨pa, pc, rfl⟩ := hni.2.1.1.sl
          generalize G[y] = nd at *
          have HK : Hid (KeepP fun w1 => StR w (.slice ta L.length tc) (.slice (some ⟨gg, go, none⟩) G.length gc) g m w1 ∧ InI w1 g i (y : Int) ∧ NdIn w1 gg (go + y * 6) nd (.slice pa nd.cx.length pc) (.slice ea nd.ed.length ec)) := (keepStR _ _ _ _ _).and ((keepInI _ _ _).and (keepNd _ _ _ _ _))
          have HO : Hid (StR w (.slice ta L.length tc) (.slice (some ⟨gg, go, none⟩) G.length gc) g m wa ∧ InI wa g i (y : Int) ∧ NdIn wa gg (go + y * 6) nd (.slice pa nd.cx.length pc) (.slice ea nd.ed.length ec)) := ⟨hst, i1, hni.below hst.1.1⟩
          have hyi : ¬ ((G.length : Int) ≤ (y : Int)) := by omega
          have hyi2 : ¬ ((y : Int) < -1) := by omega
          clear hst i1 hx hy him hnd hnz hni
          go_wp2_with fail
          refine wp_region_keep HK.out (by kernel_rfl) (by kernel_rfl) (by first | exact HO.out | exact HK.out.drew HO.out) ?_
          intro C hin hout
          have HIN := hide3 hin
          have HOUT := hide3 hout
          clear hin hout HO
          repeat
            (with_reducible refine wpQuiet_step (fun K hK => ?_)
             go_simp
             first
               | (refine hK _ ?_; clear hK K)
               | (apply Exists.intro; refine ⟨fun w1 hC => ?_, hK _ ?_⟩; (focus ((first | (exact rfl) | (obtain ⟨⟨⟨hb1, ⟨t0, t1⟩, ⟨u0, u1⟩⟩, _⟩, ⟨p0, p1⟩, ⟨⟨d0, d1, d2, d3, d4, d5⟩, _, dg⟩⟩ := HOUT.out w1 hC; clear hC; go_simp; first | done | exact rfl)); done)); clear hK K))
          refine wpQuiet_nil ?_
          intro wn hC
          have HO := hide3 (HOUT.out _ hC)
          clear hC HIN HOUT C
          obtain ⟨⟨⟨hb1, ⟨t0, t1⟩, ⟨u0, u1⟩⟩, _⟩, ⟨p0, p1⟩, ⟨⟨d0, d1, d2, d3, d4, d5⟩, _, dg⟩⟩ := HO.out
          go_wp2_with fail
          clear hb1 t0 t1 u0 u1 p0 p1 d0 d1 d2 d3 d4 d5 dg
          refine wp_region_keep HK.out (by kernel_rfl) (by kernel_rfl) (by first | exact HO.out | exact HK.out.drew HO.out) ?_
          intro C hin hout
          have HIN := hide3 hin
          have HOUT := hide3 hout
          clear hin hout HO
          repeat
            (with_reducible refine wpQuiet_step (fun K hK => ?_)
             go_simp
             first
               | (refine hK _ ?_; clear hK K)
               | (apply Exists.intro; refine ⟨fun w1 hC => ?_, hK _ ?_⟩; (focus ((first | (exact rfl) | (obtain ⟨⟨⟨hb1, ⟨t0, t1⟩, ⟨u0, u1⟩⟩, _⟩, ⟨p0, p1⟩, ⟨⟨d0, d1, d2, d3, d4, d5⟩, _, dg⟩⟩ := HOUT.out w1 hC; clear hC; go_simp; first | done | exact rfl)); done)); clear hK K))
          refine wpQuiet_nil ?_
          intro wm hC
          have HO := hide3 (HOUT.out _ hC)
          clear hC HIN HOUT C
          obtain ⟨⟨⟨hb1, ⟨t0, t1⟩, ⟨u0, u1⟩⟩, _⟩, ⟨p0, p1⟩, ⟨⟨d0, d1, d2, d3, d4, d5⟩, _, dg⟩⟩ := HO.out
          go_wp2_with fail
          have HS0 := hide3 HO.out.1
          clear HO HK hb1 t0 t1 u0 u1 p0 p1 d0 d1 d2 d3 d4 d5 dg
          go_loopw [9] (fun vj wx => ∃ j : Nat, j ≤ nd.ed.length ∧ vj = .int .i64 j ∧ StR w (.slice ta L.length tc) (.slice (some ⟨gg, go, none⟩) G.length gc) g m wx) (fun vj _ => nd.ed.length - (intOf vj).toNat)
          case atStart => exact ⟨0, Nat.zero_le _, rfl, HS0.out⟩
          case round =>
            obtain ⟨j, hj, rfl, hst⟩ := hrel
            by_cases hlj : j < nd.ed.length
            · obtain ⟨k, z, hkL, hkm, hzG, hlk, hto, hmk, hnm, hva, hvb, hvc⟩ := HRT.out _ (List.getElem_mem hlj)
              obtain ⟨ea', ec', eq2, _, hcs⟩ := HEA.out wr hst.1.1
              cases eq2
              obtain ⟨eg, eo, rfl, heg, hcz⟩ : ∃ g o, ea = some ⟨g, o, none⟩ ∧ g < wr.heap.size ∧ ∀ i (h : i < nd.ed.length), EgIn wr g (o + i * 2) nd.ed[i] := by
                rcases hcs with h | h
                · rw [h] at hlj; simp at hlj
                · exact h
              have he1 := hcz j hlj
              obtain ⟨ta', tc', eq3, _, hdd⟩ := HDT.out
              cases eq3
              obtain ⟨tg, tf, rfl, hds⟩ : ∃ g o, ta = some ⟨g, o, none⟩ ∧ ∀ i (h : i < L.length), ∃ u v1 v2 v3, DrIn w g (o + i * 9) L[i] u v1 v2 v3 := by
                rcases hdd with h | h
                · rw [h] at hL1; simp at hL1
                · exact h
              obtain ⟨u, v1, v2, v3, hdk⟩ := hds k hkL
              obtain ⟨vc2, ve2, hn2⟩ := HNZ.out z hzG
              obtain ⟨ua, uc, rfl⟩ := hdk.2.1.1.sl
              obtain ⟨x1, z1, rfl⟩ := hdk.2.1.2.1.sl
              obtain ⟨x2, z2, rfl⟩ := hdk.2.1.2.2.1.sl
              obtain ⟨x3, z3, rfl⟩ := hdk.2.1.2.2.2.sl
              obtain ⟨y1, k1, rfl⟩ := hn2.2.1.1.sl
              obtain ⟨y2, k2, rfl⟩ := hn2.2.1.2.sl
              have HL := hide3 (fun w1 hb => HLK.out w1 hb i nd.ed[j].lb)
              rw [hlk] at HL
              have i2 := hst.2 k hkm
              rw [hmk] at i2
              have hv : ∀ w, (binOp .neq 36 (.agg #[.int .i64 L[k].pk.a, .int .i64 L[k].pk.b, .int .i64 L[k].pk.c]) (.agg #[.int .i64 G[z].a, .int .i64 G[z].b, .int .i64 G[z].c])).run Tryd.prog w = .ok (.bool false) w := by
                rw [← hva, ← hvb, ← hvc]
                exact neqV2 _ _ _
              have hgd := guardV
              have q1 : (L[k].pk.nm.toList == G[z].nm.toList) = true := by rw [hnm]; simp
              have HD2 : Hid (∀ w1, Below w.heap.size w w1 → DrIn w1 tg (tf + k * 9) L[k] (.slice ua L[k].pa.length uc) (.slice x1 L[k].pk.d.length z1) (.slice x2 L[k].pk.p.length z2) (.slice x3 L[k].pk.o.length z3) ∧ NdIn w1 gg (go + z * 6) G[z] (.slice y1 G[z].cx.length k1) (.slice y2 G[z].ed.length k2)) := fun w1 hb => ⟨hdk.below hb, hn2.below hb⟩
              clear hnm hva hvb hvc hdk hn2 hmk hlk hcs hcz hdd hds hkm
              generalize nd.ed[j] = e at *
              generalize L[k] = dk at *
              generalize G[z] = n2 at *
              have HK : Hid (KeepP fun w1 => StR w (.slice (some ⟨tg, tf, none⟩) L.length tc) (.slice (some ⟨gg, go, none⟩) G.length gc) g m w1 ∧ InI w1 g k (z : Int) ∧ EgIn w1 eg (eo + j * 2) e) := (keepStR _ _ _ _ _).and ((keepInI _ _ _).and (keepEg _ _ _))
              have HO : Hid (StR w (.slice (some ⟨tg, tf, none⟩) L.length tc) (.slice (some ⟨gg, go, none⟩) G.length gc) g m wr ∧ InI wr g k (z : Int) ∧ EgIn wr eg (eo + j * 2) e) := ⟨hst, i2, he1⟩
              clear hst i2 he1
              go_wp2_with fail
              refine wp_region_keep HK.out (by kernel_rfl) (by kernel_rfl) (by first | exact HO.out | exact HK.out.drew HO.out) ?_
              intro C hin hout
              have HIN := hide3 hin
              have HOUT := hide3 hout
              clear hin hout HO
              repeat
                (with_reducible refine wpQuiet_step (fun K hK => ?_)
                 go_simp
                 first
                   | (refine hK _ ?_; clear hK K)
                   | (apply Exists.intro; refine ⟨fun w1 hC => ?_, hK _ ?_⟩; (focus ((first | (go_at_call 5; with_reducible exact callC' HIN.out HOUT.out HK.out (fun w1 hk => HL.out w1 (StR.bel hk.1)) w1 hC) | (exact rfl) | (obtain ⟨⟨⟨hb1, ⟨t0, t1⟩, ⟨u0, u1⟩⟩, _⟩, ⟨p0, p1⟩, ⟨⟨e0, e1⟩, e2⟩⟩ := HOUT.out w1 hC; clear hC; go_simp; first | done | exact rfl)); done)); clear hK K))
              refine wpQuiet_nil ?_
              intro w16 hC
              have HO := hide3 (HOUT.out _ hC)
              clear hC HIN HOUT C
              obtain ⟨⟨⟨hb1, ⟨t0, t1⟩, ⟨u0, u1⟩⟩, _⟩, ⟨p0, p1⟩, ⟨⟨e0, e1⟩, e2⟩⟩ := HO.out
              go_wp2_with fail
              have HO16 := hide3 HO.out
              clear HO HK hb1 t0 t1 u0 u1 p0 p1 e0 e1 e2
              have HK : Hid (KeepP fun w1 => StR w (.slice (some ⟨tg, tf, none⟩) L.length tc) (.slice (some ⟨gg, go, none⟩) G.length gc) g m w1 ∧ (InI w1 g k (z : Int) ∧ EgIn w1 eg (eo + j * 2) e) ∧ DrIn w1 tg (tf + k * 9) dk (.slice ua dk.pa.length uc) (.slice x1 dk.pk.d.length z1) (.slice x2 dk.pk.p.length z2) (.slice x3 dk.pk.o.length z3) ∧ NdIn w1 gg (go + z * 6) n2 (.slice y1 n2.cx.length k1) (.slice y2 n2.ed.length k2)) := (keepStR _ _ _ _ _).and (((keepInI _ _ _).and (keepEg _ _ _)).and ((keepDr _ _ _ _ _ _ _).and (keepNd _ _ _ _ _)))
              have HO : Hid (StR w (.slice (some ⟨tg, tf, none⟩) L.length tc) (.slice (some ⟨gg, go, none⟩) G.length gc) g m w16 ∧ (InI w16 g k (z : Int) ∧ EgIn w16 eg (eo + j * 2) e) ∧ DrIn w16 tg (tf + k * 9) dk (.slice ua dk.pa.length uc) (.slice x1 dk.pk.d.length z1) (.slice x2 dk.pk.p.length z2) (.slice x3 dk.pk.o.length z3) ∧ NdIn w16 gg (go + z * 6) n2 (.slice y1 n2.cx.length k1) (.slice y2 n2.ed.length k2)) := ⟨HO16.out.1, ⟨HO16.out.2.1, HO16.out.2.2⟩, HD2.out _ HO16.out.1.1.1⟩
              refine wp_region_keep HK.out (by kernel_rfl) (by kernel_rfl) (by first | exact HO.out | exact HK.out.drew HO.out) ?_
              intro C hin hout
              have HIN := hide3 hin
              have HOUT := hide3 hout
              clear hin hout HO
              repeat
                (with_reducible refine wpQuiet_step (fun K hK => ?_)
                 go_simp
                 first
                   | (refine hK _ ?_; clear hK K)
                   | (apply Exists.intro; refine ⟨fun w1 hC => ?_, hK _ ?_⟩; (focus ((first | (exact rfl) | (obtain ⟨⟨⟨hb1, ⟨t0, t1⟩, ⟨u0, u1⟩⟩, _⟩, ⟨⟨p0, p1⟩, ⟨⟨e0, e1⟩, e2⟩⟩, ⟨⟨d0, d1, d2, d3, d4, d5, d6, d7, d8⟩, _, dg⟩, ⟨⟨m0, m1, m2, m3, m4, m5⟩, _, mg⟩⟩ := HOUT.out w1 hC; clear hC; go_simp; first | done | exact rfl)); done)); clear hK K))
              refine wpQuiet_nil ?_
              intro w17 hC
              have HO := hide3 (HOUT.out _ hC)
              clear hC HIN HOUT C
              obtain ⟨⟨⟨hb1, ⟨t0, t1⟩, ⟨u0, u1⟩⟩, _⟩, ⟨⟨p0, p1⟩, ⟨⟨e0, e1⟩, e2⟩⟩, ⟨⟨d0, d1, d2, d3, d4, d5, d6, d7, d8⟩, _, dg⟩, ⟨⟨m0, m1, m2, m3, m4, m5⟩, _, mg⟩⟩ := HO.out
              go_wp2
              exact ⟨⟨j + 1, by omega, by go_num, HO.out.1⟩, by simp [intOf]; omega⟩
            · obtain rfl : j = nd.ed.length := by omega
              have HS1 := hide3 hst
              clear hst
              go_wp2
              exact ⟨⟨i + 1, by omega, by go_num, HS1.out⟩, by simp [intOf]; omega⟩
      · obtain rfl : i = L.length := by omega
        have HC := hide3 (HLV.out wa hst.1.1)
        have HB := hide3 hst.1.1
        clear hst
        go_wp2_with (go_at_call 7; refine HC.out.mono ?_; rintro e w9 ⟨rfl, ok⟩; have HB9 := hide3 (below_then HB.out ok); clear ok)
        go_ret
        exact ⟨rfl, HB9.out⟩
  · obtain ⟨h1, h2⟩ := map_no hall
    have HMM : Hid (∀ w1, Below w.heap.size w w1 → Calls Tryd.prog 8 #[.agg #[.slice ta L.length tc], .agg #[.slice ga G.length gc]] w1 fun e w' => ∃ a c, e = .returned (.tuple #[.slice a 0 c, .int .i64 (mapE L G)]) ∧ Below w1.heap.size w1 w') := fun w1 hb => by
      refine (HMP.out w1 hb).mono ?_
      rintro e w' ⟨v', rfl, ho, hb'⟩
      rw [h2] at ho
      rcases ho.2 with ⟨rfl, _⟩ | ⟨g, cap, cur, rfl, _⟩
      · exact ⟨_, _, rfl, hb'⟩
      · exact ⟨_, _, rfl, hb'⟩
    generalize mapE L G = x at *
    clear hall h2
    go_enter Tryd.func4, Tryd.ntmps4
    go_wp2_with (first
      | (go_at_call 8; refine (HMM.out _ HBX.out.1).mono ?_; rintro e w3 ⟨a3, c3, rfl, ok⟩; have HB3 := hide3 (below_then HBX.out.1 ok); clear ok)
      | (go_at_call 7; refine (HLV.out _ HB3.out).mono ?_; rintro e w9 ⟨rfl, ok⟩; have HB9 := hide3 (below_then HB3.out ok); clear ok))
    go_ret
    exact ⟨rfl, HB9.out⟩
end Go.Proofs.YtfnmbjddlkfooaaDoor
namespace Go.Proofs.YtfnmbjddlkfooaaDoor
open Go.RowKit
set_option maxRecDepth 100000

theorem alt_known : altR ⟨#[94, 49, 46, 50, 46, 51]⟩ = some [(1002003, 1999999)] := by decide +kernel
theorem pieces_known : piecesB ⟨#[94, 49, 46, 50, 46, 51]⟩ ⟨#[124, 124]⟩ = [⟨#[94, 49, 46, 50, 46, 51]⟩] := by decide +kernel
theorem pieces_known2 : piecesB ⟨#[94, 49, 46, 50, 46, 51]⟩ ⟨#[32]⟩ = [⟨#[94, 49, 46, 50, 46, 51]⟩] := by decide +kernel
theorem print_known : printR [(1002003, 1999999)] = ⟨#[62, 61, 49, 46, 50, 46, 51, 32, 60, 61, 49, 46, 57, 57, 57, 46, 57, 57, 57]⟩ := by decide +kernel
theorem rg_known : RangeR [(1002003, 1999999)] := ⟨by decide, by decide, by decide, trivial⟩
theorem in_known : inL (([(1002003, 1999999)] : Rg).map spR) 1 9 0 = true := by
  rw [in_rg rg_known (by decide)]
  exact ⟨by decide, Or.inl (by decide)⟩
theorem ascii_of {l : List UInt8} (h : (l.all fun b => decide (b.toNat < 128)) = true) : ∀ (j : Nat) b, l[j]? = some b → b.toNat < 128 := by
  intro j b hj
  have := List.all_eq_true.1 h b (List.mem_of_getElem? hj)
  simpa using this
theorem plain_known : PlainT ⟨#[94, 49, 46, 50, 46, 51]⟩ := by
  unfold PlainT
  rw [pieces_known]
  intro a ha
  rw [List.mem_singleton] at ha
  subst ha
  rw [pieces_known2]
  intro p hp _
  rw [List.mem_singleton] at hp
  subst hp
  exact Or.inr (ascii_of (by decide))

end Go.Proofs.YtfnmbjddlkfooaaDoor
namespace Go.Proofs.YtfnmbjddlkfooaaDoor
open Go.ChangeShapes Go.WideShapes Go.ChangeAt Go.RowKit
set_option maxRecDepth 100000

theorem star : "*" ++ "errors.errorString" = "*errors.errorString" := by decide

theorem max_cell {W : World} (h : W.ShapedOpen Tryd.prog) : ∃ m, W.cell? ⟨3, 0, none⟩ = some (.int .i64 m) :=
  cell_of_shapedOpen_int (t := 3) (zero := #[.int .i64 0]) h (by decide +kernel) (by kernel_rfl) rfl (by kernel_rfl) (by kernel_rfl) Tryd.underlying3

end Go.Proofs.YtfnmbjddlkfooaaDoor
namespace Go.Proofs.YtfnmbjddlkfooaaDoor
open Go.ChangeShapes Go.WideShapes Go.ChangeAt Go.RowKit
set_option maxRecDepth 100000

theorem cellsSp : Tryd.prog.cellsOf 100 = 6 := by kernel_rfl

theorem ints_of {H : Type} {enc : TypeId × Value → H} {W : World} {base : Nat} {spare : Nat → Bool} {held : Bool} {n : Nat} {cs : List Value} {x : DataW H × List MemPlace} (h : DataW.trod enc Tryd.prog W base spare held n 36 cs = some x) :
    ∃ a b c, cs[0]? = some (.int .i64 a) ∧ cs[1]? = some (.int .i64 b) ∧ cs[2]? = some (.int .i64 c) ∧ x.1 = .agg [.lit (.int .i64 a), .lit (.int .i64 b), .lit (.int .i64 c)] := by
  have hs : Tryd.prog.underlying 36 = some (.struct (Tryd.prog.fieldsOf 36)) := by kernel_rfl
  obtain ⟨xs, n', _, hx, _, hxl, hf⟩ := DataW.trod_struct hs h
  have hfz : (Tryd.prog.fieldsOf 36).size = 3 := by kernel_rfl
  have ints : ∀ i off, ((Tryd.prog.fieldsOf 36)[i]?).map (fun f => (f.type, f.offset)) = some (3, off) → i < 3 → ∃ k, cs[off]? = some (.int .i64 k) ∧ xs[i]? = some (.lit (.int .i64 k), []) := by
    intro i off hfd hi
    obtain ⟨f, h1, h2, h3⟩ := field_at hfd
    have hr := hf i f h1
    rw [h2, h3, cellsInt, List.getElem?_eq_getElem (by omega : i < xs.length)] at hr
    obtain ⟨k, e1, e2, wk⟩ := DataW.trod_int Tryd.underlying3 hr
    exact ⟨k, take_one e1, by rw [List.getElem?_eq_getElem (by omega : i < xs.length), e2]⟩
  obtain ⟨a, a0, x0⟩ := ints 0 0 (by kernel_rfl) (by decide)
  obtain ⟨b, a1, x1⟩ := ints 1 1 (by kernel_rfl) (by decide)
  obtain ⟨c, a2, x2⟩ := ints 2 2 (by kernel_rfl) (by decide)
  refine ⟨a, b, c, a0, a1, a2, ?_⟩
  rw [hx]
  obtain ⟨y0, y1, y2, rfl⟩ := list3 (l := xs) (by omega)
  simp at x0 x1 x2
  subst x0 x1 x2
  rfl

theorem span_read {H : Type} {enc : TypeId × Value → H} {W : World} {base : Nat} {spare : Nat → Bool} {held : Bool} {n : Nat} {g o : Nat} {cs : List Value} {x : DataW H × List MemPlace} (hc : W.cells? base ⟨g, o, none⟩ 6 = some cs) (h : DataW.trod enc Tryd.prog W base spare held n 100 cs = some x) : ∃ s, SpAt W g o s := by
  have hs : Tryd.prog.underlying 100 = some (.struct (Tryd.prog.fieldsOf 100)) := by kernel_rfl
  obtain ⟨xs, n', _, _, _, hxl, hf⟩ := DataW.trod_struct hs h
  have hsz : (Tryd.prog.fieldsOf 100).size = 2 := by kernel_rfl
  obtain ⟨_, _, hq⟩ := World.cells?_some hc
  have vers : ∀ i off, ((Tryd.prog.fieldsOf 100)[i]?).map (fun f => (f.type, f.offset)) = some (36, off) → i < 2 → ∃ a b c, cs[off]? = some (.int .i64 a) ∧ cs[off + 1]? = some (.int .i64 b) ∧ cs[off + 2]? = some (.int .i64 c) := by
    intro i off hfd hi
    obtain ⟨f, h1, h2, h3⟩ := field_at hfd
    have hr := hf i f h1
    rw [h2, h3, cellsVer, List.getElem?_eq_getElem (by omega : i < xs.length)] at hr
    obtain ⟨a, b, c, e0, e1, e2, _⟩ := ints_of hr
    simp at e0 e1 e2
    exact ⟨a, b, c, e0, e1, e2⟩
  obtain ⟨a, b, c, a0, a1, a2⟩ := vers 0 0 (by kernel_rfl) (by decide)
  obtain ⟨x, y, z, a3, a4, a5⟩ := vers 1 3 (by kernel_rfl) (by decide)
  have ad : ∀ i, (⟨g, o, none⟩ : Addr).add i = ⟨g, o + i, none⟩ := fun i => by unfold Addr.add; split <;> simp_all
  have q0 := hq 0 (by decide)
  have q1 := hq 1 (by decide)
  have q2 := hq 2 (by decide)
  have q3 := hq 3 (by decide)
  have q4 := hq 4 (by decide)
  have q5 := hq 5 (by decide)
  rw [ad] at q0 q1 q2 q3 q4 q5
  exact ⟨⟨a, b, c, x, y, z⟩, by rw [← a0, ← q0]; rfl, by rw [← a1, ← q1], by rw [← a2, ← q2], by rw [← a3, ← q3], by rw [← a4, ← q4], by rw [← a5, ← q5]⟩

theorem list_of {P : Nat → Sp → Prop} : ∀ {n : Nat}, (∀ i, i < n → ∃ s, P i s) → ∃ L : List Sp, L.length = n ∧ ∀ i (h : i < L.length), P i L[i]
  | 0, _ => ⟨[], rfl, fun i h => by simp at h⟩
  | n + 1, h => by
    obtain ⟨L, hl, hP⟩ := list_of (n := n) fun i hi => h i (by omega)
    obtain ⟨s, hs⟩ := h n (by omega)
    refine ⟨L ++ [s], by simp [hl], fun i hi => ?_⟩
    by_cases hin : i < L.length
    · rw [List.getElem_append_left hin]; exact hP i hin
    · have : i = n := by simp at hi; omega
      subst this
      simpa [hl] using hs

/-- A list of spans that came in. -/
theorem open_spans {H : Type} {enc : TypeId × Value → H} {W : World} {base fuel : Nat} {held : Bool} {a : Option Addr} {len cap : Nat} {x : DataW H × List MemPlace} (h : DataW.trod enc Tryd.prog W base (fun _ => true) held fuel 79 [.slice a len cap] = some x) :
    ∃ L : List Sp, SpansC W (.slice a len cap) L := by
  rcases Go.Deep.open_slice Tryd.underlying79 h with ⟨hcs, _⟩ | ⟨ad, l, c, m, n, D, Pl, hcs, _, hl, _, hm, hx, hel⟩
  · simp only [List.cons.injEq, Value.slice.injEq, and_true] at hcs
    obtain ⟨rfl, rfl, rfl⟩ := hcs
    exact ⟨[], ⟨_, _, rfl, Or.inl rfl⟩, _, _, _, rfl, Nat.le_refl _⟩
  · simp only [List.cons.injEq, Value.slice.injEq, and_true] at hcs
    obtain ⟨rfl, rfl, rfl⟩ := hcs
    rcases Nat.eq_zero_or_pos len with h0 | h0
    · subst h0
      exact ⟨[], ⟨_, _, rfl, Or.inl rfl⟩, _, _, _, rfl, hl⟩
    · have hmm : len ≤ m := by rw [hm]; simp; exact hl
      rw [cellsSp] at hel
      obtain ⟨g, off, spot⟩ := ad
      obtain ⟨cs0, hc0, _⟩ := hel 0 (by omega)
      obtain ⟨_, hln, hq⟩ := World.cells?_some hc0
      have hcell := hq 0 (by decide)
      rw [List.getElem?_eq_getElem (by omega : 0 < cs0.length)] at hcell
      have hspot : spot = none := by simpa [Addr.add] using World.cell?_spot hcell
      subst hspot
      have ad2 : ∀ o i, (⟨g, o, none⟩ : Addr).add i = ⟨g, o + i, none⟩ := fun o i => by unfold Addr.add; split <;> simp_all
      obtain ⟨L, hL, hP⟩ := list_of (P := fun i s => SpAt W g (off + i * 6) s) (n := len) fun i hi => by
        obtain ⟨cs, hc, ht⟩ := hel i (by omega)
        rw [ad2] at hc
        exact span_read hc ht
      subst hL
      refine ⟨L, ⟨_, _, rfl, Or.inr ⟨g, off, rfl, ?_, hP⟩⟩, _, _, _, rfl, hl⟩
      have := cell_in hcell
      rw [ad2, ad2] at this; exact this

/-- A variable of three ints that is listed first. -/
theorem ver_laid {W : World} {nm : String} {a b c : Int} {r : List (String × DataW Unit)} {g : Nat} (hg : Tryd.prog.globalNamed nm = some g) (hty : (Tryd.prog.globals[g]?).map (·.type) = some 36)
    (h : laidMet Tryd.prog ((nm, .agg [.lit (.int .i64 a), .lit (.int .i64 b), .lit (.int .i64 c)]) :: r) W) :
    W.cell? ⟨g, 0, none⟩ = some (.int .i64 a) ∧ W.cell? ⟨g, 1, none⟩ = some (.int .i64 b) ∧ W.cell? ⟨g, 2, none⟩ = some (.int .i64 c) := by
  obtain ⟨ps, ⟨g', t', cs, fuel, p, q, hg', ht', hvar, hd, _, _⟩, _⟩ := h
  obtain rfl := Option.some.inj (hg.symm.trans hg')
  obtain rfl := Option.some.inj (hty.symm.trans ht')
  obtain ⟨x, y, z, e0, e1, e2, hx⟩ := ints_of hd
  simp at hx
  obtain ⟨rfl, rfl, rfl⟩ := hx
  have c0 := World.var?_cell hg hvar 0
  have c1 := World.var?_cell hg hvar 1
  have c2 := World.var?_cell hg hvar 2
  exact ⟨by rw [c0]; simpa using e0, by rw [c1]; simpa using e1, by rw [c2]; simpa using e2⟩

/-- What the rows of a layer without a parser list. -/
abbrev laid3 : List (String × DataW Unit) := [("math/bits.deBruijn32tab", Rows.laid_math_bits_deBruijn32tab), ("math/bits.deBruijn64tab", Rows.laid_math_bits_deBruijn64tab), ("internal/strconv.uint64pow10", Rows.laid_internal_strconv_uint64pow10), ("halyard/span.first", Rows.laid_halyard_span_first), ("halyard/span.last", Rows.laid_halyard_span_last)]
theorem env3_of {W : World} (h : laidMet Tryd.prog laid3 W) : Env W ∧ FL W := by
  have hT := tab_is h
  have h5 := laidMet.tail (laidMet.tail (laidMet.tail h))
  have h6 := laidMet.tail h5
  have f1 := ver_laid (g := 0) (by kernel_rfl) (by kernel_rfl) h5
  have f2 := ver_laid (g := 1) (by kernel_rfl) (by kernel_rfl) h6
  exact ⟨{ tab := hT }, f1, f2, cell_in f1.1, cell_in f2.1⟩

end Go.Proofs.YtfnmbjddlkfooaaDoor
namespace Go.Proofs.YtfnmbjddlkfooaaDoor
open Go.ChangeShapes Go.WideShapes Go.ChangeAt Go.RowKit
set_option maxRecDepth 100000

theorem cellsStrD : Tryd.prog.cellsOf 9 = 1 := by kernel_rfl
theorem cellsSps : Tryd.prog.cellsOf 79 = 1 := by kernel_rfl
theorem cellsDep : Tryd.prog.cellsOf 81 = 2 := by kernel_rfl
theorem cellsDeps : Tryd.prog.cellsOf 43 = 1 := by kernel_rfl
theorem list_any {α : Type} {P : Nat → α → Prop} : ∀ {n : Nat}, (∀ i, i < n → ∃ s, P i s) → ∃ L : List α, L.length = n ∧ ∀ i (h : i < L.length), P i L[i]
  | 0, _ => ⟨[], rfl, fun i h => by simp at h⟩
  | n + 1, h => by
    obtain ⟨L, hl, hP⟩ := list_any (n := n) fun i hi => h i (by omega)
    obtain ⟨s, hs⟩ := h n (by omega)
    refine ⟨L ++ [s], by simp [hl], fun i hi => ?_⟩
    by_cases hin : i < L.length
    · rw [List.getElem_append_left hin]; exact hP i hin
    · have : i = n := by simp at hi; omega
      subst this
      simpa [hl] using hs
theorem take1 {cs : List Value} {o : Nat} {v : Value} (h : (cs.drop o).take 1 = [v]) : cs[o]? = some v := by
  have h0 : ((cs.drop o).take 1)[0]? = some v := by rw [h]; rfl
  simpa using h0

theorem spans_cs {H : Type} {enc : TypeId × Value → H} {W : World} {base fuel : Nat} {held : Bool} {cs : List Value} {x : DataW H × List MemPlace} (h : DataW.trod enc Tryd.prog W base (fun _ => true) held fuel 79 cs = some x) :
    ∃ v L, cs = [v] ∧ SpansC W v L ∧ L.length ≤ 9223372036854775807 := by
  rcases Go.Deep.open_slice Tryd.underlying79 h with ⟨rfl, _⟩ | ⟨ad, l, c, m, n, D, Pl, rfl, _, hl, hm, _⟩
  · obtain ⟨L, hL⟩ := open_spans h
    obtain ⟨a', c', e, _⟩ := hL.1
    cases L with
    | nil => exact ⟨_, [], rfl, hL, by simp⟩
    | cons s L => simp at e
  · obtain ⟨L, hL⟩ := open_spans h
    refine ⟨_, L, rfl, hL, ?_⟩
    obtain ⟨a', c', e, _⟩ := hL.1
    simp only [Value.slice.injEq] at e
    obtain ⟨_, rfl, _⟩ := e
    unfold maxLen at hm
    omega
theorem dep_read {H : Type} {enc : TypeId × Value → H} {W : World} {base : Nat} {held : Bool} {n : Nat} {g o : Nat} {cs : List Value} {x : DataW H × List MemPlace} (hc : W.cells? base ⟨g, o, none⟩ 2 = some cs) (h : DataW.trod enc Tryd.prog W base (fun _ => true) held n 81 cs = some x) : ∃ d : Dp, (∃ u, DpIn W g o d u) ∧ d.nm.size ≤ 9223372036854775807 := by
  have hs : Tryd.prog.underlying 81 = some (.struct (Tryd.prog.fieldsOf 81)) := by kernel_rfl
  obtain ⟨xs, n', _, _, _, hxl, hf⟩ := DataW.trod_struct hs h
  have hsz : (Tryd.prog.fieldsOf 81).size = 2 := by kernel_rfl
  obtain ⟨_, hcl, hq⟩ := World.cells?_some hc
  obtain ⟨f0, i0, t0, o0⟩ := field_at (fs := Tryd.prog.fieldsOf 81) (i := 0) (ty := 9) (off := 0) (by kernel_rfl)
  obtain ⟨f1, i1, t1, o1⟩ := field_at (fs := Tryd.prog.fieldsOf 81) (i := 1) (ty := 79) (off := 1) (by kernel_rfl)
  have r0 := hf 0 f0 i0
  have r1 := hf 1 f1 i1
  rw [t0, o0, cellsStrD, List.getElem?_eq_getElem (by omega : 0 < xs.length)] at r0
  rw [t1, o1, cellsSps, List.getElem?_eq_getElem (by omega : 1 < xs.length)] at r1
  obtain ⟨s, e0, _, hs0⟩ := DataW.trod_string Tryd.underlying9 r0
  obtain ⟨v, L, e1, hL, hz⟩ := spans_cs r1
  have q0 := hq 0 (by decide)
  have q1 := hq 1 (by decide)
  have ad : ∀ i, (⟨g, o, none⟩ : Addr).add i = ⟨g, o + i, none⟩ := fun i => by unfold Addr.add; split <;> simp_all
  rw [ad, take1 e0] at q0
  rw [ad, take1 e1] at q1
  exact ⟨⟨s, L⟩, ⟨v, q0, q1, ⟨hL, hz⟩, cell_in q1⟩, by unfold maxLen at hs0; exact hs0⟩
/-- A list of dependencies that came in. -/
theorem deps_cs {H : Type} {enc : TypeId × Value → H} {W : World} {base fuel : Nat} {held : Bool} {cs : List Value} {x : DataW H × List MemPlace} (h : DataW.trod enc Tryd.prog W base (fun _ => true) held fuel 43 cs = some x) :
    ∃ v L, cs = [v] ∧ DepsAt W v L ∧ L.length ≤ 9223372036854775807 ∧ ∀ d ∈ L, d.nm.size ≤ 9223372036854775807 := by
  rcases Go.Deep.open_slice Tryd.underlying43 h with ⟨rfl, _⟩ | ⟨ad, len, cap, m, n, D, Pl, rfl, _, hl, hcm, hm, hx, hel⟩
  · exact ⟨_, [], rfl, ⟨none, 0, rfl, Nat.le_refl _, Or.inl rfl⟩, by simp, (fun d hd => by cases hd)⟩
  · have hz : len ≤ 9223372036854775807 := by unfold maxLen at hcm; omega
    rcases Nat.eq_zero_or_pos len with h0 | h0
    · subst h0
      exact ⟨_, [], rfl, ⟨_, _, rfl, Nat.zero_le _, Or.inl rfl⟩, by simp, (fun d hd => by cases hd)⟩
    · have hmm : len ≤ m := by rw [hm]; simp; exact hl
      rw [cellsDep] at hel
      obtain ⟨g, off, spot⟩ := ad
      obtain ⟨cs0, hc0, _⟩ := hel 0 (by omega)
      obtain ⟨_, hln, hq⟩ := World.cells?_some hc0
      have hcell := hq 0 (by decide)
      rw [List.getElem?_eq_getElem (by omega : 0 < cs0.length)] at hcell
      have hspot : spot = none := by simpa [Addr.add] using World.cell?_spot hcell
      subst hspot
      have ad2 : ∀ o i, (⟨g, o, none⟩ : Addr).add i = ⟨g, o + i, none⟩ := fun o i => by unfold Addr.add; split <;> simp_all
      obtain ⟨L, hL, hP⟩ := list_any (P := fun i (d : Dp) => (∃ u, DpIn W g (off + i * 2) d u) ∧ d.nm.size ≤ 9223372036854775807) (n := len) fun i hi => by
        obtain ⟨cs, hc, ht⟩ := hel i (by omega)
        rw [ad2] at hc
        exact dep_read hc ht
      subst hL
      refine ⟨_, L, rfl, ⟨_, _, rfl, hl, Or.inr ⟨g, off, rfl, ?_, fun i hi => (hP i hi).1⟩⟩, hz, ?_⟩
      · have := cell_in hcell
        rw [ad2, ad2] at this; exact this
      · intro d hd
        obtain ⟨i, hi, rfl⟩ := List.getElem_of_mem hd
        exact (hP i hi).2
end Go.Proofs.YtfnmbjddlkfooaaDoor
namespace Go.Proofs.YtfnmbjddlkfooaaDoor
open Go.ChangeShapes Go.WideShapes Go.ChangeAt Go.RowKit
set_option maxRecDepth 100000

theorem cellsPkg : Tryd.prog.cellsOf 45 = 7 := by kernel_rfl
theorem list7 {α : Type} {l : List α} (h : l.length = 7) : ∃ a b c d e f g, l = [a, b, c, d, e, f, g] := by
  match l, h with
  | [a, b, c, d, e, f, g], _ => exact ⟨a, b, c, d, e, f, g, rfl⟩
theorem open_pkg {H : Type} {enc : TypeId × Value → H} {W : World} {base b0 : Nat} {held : Bool} {v : Value} {d : DataW H} {p : List MemPlace} (hv : Value.okWide Tryd.prog W .any b0 45 v) (h : DataW.Trod enc Tryd.prog W base (fun _ => true) held 45 v d p) :
    ∃ (P : Pg) (v1 v2 v3 : Value), v = .agg #[.string P.nm, .int .i64 P.a, .int .i64 P.b, .int .i64 P.c, v1, v2, v3] ∧ PgAt W P v1 v2 v3 ∧ (P.d.length ≤ 9223372036854775807 ∧ P.p.length ≤ 9223372036854775807 ∧ P.o.length ≤ 9223372036854775807) ∧ (P.nm.size ≤ 9223372036854775807 ∧ (∀ d ∈ P.d, d.nm.size ≤ 9223372036854775807) ∧ (∀ d ∈ P.p, d.nm.size ≤ 9223372036854775807) ∧ ∀ d ∈ P.o, d.nm.size ≤ 9223372036854775807) := by
  have hs : Tryd.prog.underlying 45 = some (.struct (Tryd.prog.fieldsOf 45)) := by kernel_rfl
  obtain ⟨cs, rfl, hsz⟩ := okWide_struct hs hv
  obtain ⟨n, h⟩ := h
  obtain ⟨xs, n', _, _, _, hxl, hf⟩ := DataW.trod_struct hs h
  have hfz : (Tryd.prog.fieldsOf 45).size = 5 := by kernel_rfl
  rw [cellsPkg] at hsz
  obtain ⟨f0, i0, t0, o0⟩ := field_at (fs := Tryd.prog.fieldsOf 45) (i := 0) (ty := 9) (off := 0) (by kernel_rfl)
  obtain ⟨f1, i1, t1, o1⟩ := field_at (fs := Tryd.prog.fieldsOf 45) (i := 1) (ty := 36) (off := 1) (by kernel_rfl)
  obtain ⟨f2, i2, t2, o2⟩ := field_at (fs := Tryd.prog.fieldsOf 45) (i := 2) (ty := 43) (off := 4) (by kernel_rfl)
  obtain ⟨f3, i3, t3, o3⟩ := field_at (fs := Tryd.prog.fieldsOf 45) (i := 3) (ty := 43) (off := 5) (by kernel_rfl)
  obtain ⟨f4, i4, t4, o4⟩ := field_at (fs := Tryd.prog.fieldsOf 45) (i := 4) (ty := 43) (off := 6) (by kernel_rfl)
  have r0 := hf 0 f0 i0
  have r1 := hf 1 f1 i1
  have r2 := hf 2 f2 i2
  have r3 := hf 3 f3 i3
  have r4 := hf 4 f4 i4
  rw [t0, o0, cellsStrD, List.getElem?_eq_getElem (by omega : 0 < xs.length)] at r0
  rw [t1, o1, cellsVer, List.getElem?_eq_getElem (by omega : 1 < xs.length)] at r1
  rw [t2, o2, cellsDeps, List.getElem?_eq_getElem (by omega : 2 < xs.length)] at r2
  rw [t3, o3, cellsDeps, List.getElem?_eq_getElem (by omega : 3 < xs.length)] at r3
  rw [t4, o4, cellsDeps, List.getElem?_eq_getElem (by omega : 4 < xs.length)] at r4
  obtain ⟨s, e0, _, hs0⟩ := DataW.trod_string Tryd.underlying9 r0
  obtain ⟨a, b, c, ea, eb, ec, _⟩ := ints_of r1
  obtain ⟨v1, L1, e2, h1, z1, m1⟩ := deps_cs r2
  obtain ⟨v2, L2, e3, h2, z2, m2⟩ := deps_cs r3
  obtain ⟨v3, L3, e4, h3, z3, m3⟩ := deps_cs r4
  have k0 : cs.toList[0]? = some (.string s) := take1 e0
  have k2 : cs.toList[4]? = some v1 := take1 e2
  have k3 : cs.toList[5]? = some v2 := take1 e3
  have k4 : cs.toList[6]? = some v3 := take1 e4
  have ka : ((cs.toList.drop 1).take 3)[0]? = some (.int .i64 a) := ea
  have kb : ((cs.toList.drop 1).take 3)[1]? = some (.int .i64 b) := eb
  have kc : ((cs.toList.drop 1).take 3)[2]? = some (.int .i64 c) := ec
  obtain ⟨l⟩ := cs
  obtain ⟨x0, x1, x2, x3, x4, x5, x6, rfl⟩ := list7 (l := l) (by simpa using hsz)
  simp at k0 k2 k3 k4 ka kb kc
  subst k0 k2 k3 k4 ka kb kc
  exact ⟨⟨s, a, b, c, L1, L2, L3⟩, _, _, _, rfl, ⟨h1, h2, h3⟩, ⟨z1, z2, z3⟩, by unfold maxLen at hs0; exact hs0, m1, m2, m3⟩
end Go.Proofs.YtfnmbjddlkfooaaDoor
namespace Go.Proofs.YtfnmbjddlkfooaaDoor
open Go.ChangeShapes Go.WideShapes Go.ChangeAt Go.RowKit
set_option maxRecDepth 100000

theorem each_all {H : Type} : ∀ {ts : List TypeId} {ds : List (DataW H)} {i : Nat} {t : TypeId} {d : DataW H}, (DataW.weightsEach Tryd.prog ts ds).all (· ≤ reachBytes) = true → ts[i]? = some t → ds[i]? = some d → (d.weights Tryd.prog t).all (· ≤ reachBytes) = true
  | [], _, _, _, _, _, h, _ => by simp at h
  | _ :: _, [], _, _, _, _, _, h => by simp at h
  | t :: ts, d :: ds, 0, t', d', ha, h1, h2 => by
    simp at h1 h2
    subst h1 h2
    unfold DataW.weightsEach at ha
    rw [List.all_append, Bool.and_eq_true] at ha
    exact ha.1
  | t :: ts, d :: ds, i + 1, t', d', ha, h1, h2 => by
    unfold DataW.weightsEach at ha
    rw [List.all_append, Bool.and_eq_true] at ha
    exact each_all ha.2 (by simpa using h1) (by simpa using h2)

theorem all_each {H : Type} {t : TypeId} : ∀ {ds : List (DataW H)} {d : DataW H}, (DataW.weightsAll Tryd.prog t ds).all (· ≤ reachBytes) = true → d ∈ ds → (d.weights Tryd.prog t).all (· ≤ reachBytes) = true
  | [], _, _, h => by cases h
  | d :: ds, d', ha, h => by
    unfold DataW.weightsAll at ha
    rw [List.all_append, Bool.and_eq_true] at ha
    rcases List.mem_cons.1 h with rfl | h
    · exact ha.1
    · exact all_each ha.2 h

theorem rch_part {H : Type} {t : TypeId} {fs : Array Field} (ht : Tryd.prog.underlying t = some (.struct fs)) {parts : List (DataW H)} (h : ((DataW.agg parts).weights Tryd.prog t).all (· ≤ reachBytes) = true) {i : Nat} {f : Field} (hf : fs[i]? = some f) {d : DataW H} (hd : parts[i]? = some d) : (d.weights Tryd.prog f.type).all (· ≤ reachBytes) = true := by
  unfold DataW.weights at h
  rw [ht] at h
  refine each_all h (i := i) (t := f.type) ?_ hd
  rw [List.getElem?_map, Array.getElem?_toList, hf]
  rfl

theorem rch_slice {H : Type} {t e : TypeId} (ht : Tryd.prog.underlying t = some (.slice e)) {el sp : List (DataW H)} (h : ((DataW.slice el sp).weights Tryd.prog t).all (· ≤ reachBytes) = true) : (el.length + sp.length) * Tryd.prog.bytesOf e ≤ reachBytes ∧ ∀ d ∈ el, (d.weights Tryd.prog e).all (· ≤ reachBytes) = true := by
  unfold DataW.weights at h
  rw [ht] at h
  rw [List.all_cons, Bool.and_eq_true, List.all_append, Bool.and_eq_true] at h
  exact ⟨of_decide_eq_true h.1, fun d hd => all_each h.2.1 hd⟩

theorem cellsStrsT : Tryd.prog.cellsOf 46 = 1 := by kernel_rfl
theorem cellsDirT : Tryd.prog.cellsOf 48 = 9 := by kernel_rfl
theorem cellsDirsT : Tryd.prog.cellsOf 22 = 1 := by kernel_rfl
theorem cellsTreeT : Tryd.prog.cellsOf 24 = 1 := by kernel_rfl
theorem bytesStrT : Tryd.prog.bytesOf 9 = 16 := by kernel_rfl
theorem addT (g o i : Nat) : (⟨g, o, none⟩ : Addr).add i = ⟨g, o + i, none⟩ := by unfold Addr.add; split <;> simp_all

/-- Names that came in. -/
theorem strs_cs {H : Type} {enc : TypeId × Value → H} {W : World} {base fuel : Nat} {held : Bool} {cs : List Value} {x : DataW H × List MemPlace} (h : DataW.trod enc Tryd.prog W base (fun _ => true) held fuel 46 cs = some x) :
    ∃ v L, cs = [v] ∧ PathAt W v L ∧ (∀ s ∈ L, s.size ≤ 9223372036854775807) ∧ ((x.1.weights Tryd.prog 46).all (· ≤ reachBytes) = true → L.length * 16 ≤ 140737488355328) := by
  rcases Go.Deep.open_slice Tryd.underlying46 h with ⟨rfl, _⟩ | ⟨ad, len, cap, m, n, D, Pl, rfl, _, hl, hcm, hm, hx, hel⟩
  · exact ⟨_, [], rfl, ⟨none, 0, rfl, Nat.le_refl _, Or.inl rfl⟩, (fun s hs => by cases hs), fun _ => by simp⟩
  · have hwt : (x.1.weights Tryd.prog 46).all (· ≤ reachBytes) = true → len * 16 ≤ 140737488355328 := fun hr => by
      have hxi : x.1 = .slice ((List.range len).map D) ((List.range (m - len)).map fun j => D (len + j)) := by rw [hx]
      rw [hxi] at hr
      have hb := (rch_slice Tryd.underlying46 hr).1
      rw [List.length_map, List.length_range, bytesStrT] at hb
      unfold reachBytes at hb
      omega
    rcases Nat.eq_zero_or_pos len with h0 | h0
    · subst h0
      exact ⟨_, [], rfl, ⟨_, _, rfl, Nat.zero_le _, Or.inl rfl⟩, (fun s hs => by cases hs), fun _ => by simp⟩
    · have hmm : len ≤ m := by rw [hm]; simp; exact hl
      rw [cellsStrD] at hel
      obtain ⟨g, off, spot⟩ := ad
      obtain ⟨cs0, hc0, _⟩ := hel 0 (by omega)
      obtain ⟨_, hln, hq⟩ := World.cells?_some hc0
      have hcell := hq 0 (by decide)
      rw [List.getElem?_eq_getElem (by omega : 0 < cs0.length)] at hcell
      have hspot : spot = none := by simpa [Addr.add] using World.cell?_spot hcell
      subst hspot
      obtain ⟨L, hL, hP⟩ := list_any (P := fun i (s : ByteArray) => StIn W g (off + i) s ∧ s.size ≤ 9223372036854775807) (n := len) fun i hi => by
        obtain ⟨cs, hc, ht⟩ := hel i (by omega)
        rw [addT, Nat.mul_one] at hc
        obtain ⟨_, hcl, hq⟩ := World.cells?_some hc
        obtain ⟨s, e0, _, hs0⟩ := DataW.trod_string Tryd.underlying9 ht
        have q0 := hq 0 (by decide)
        rw [addT, e0] at q0
        exact ⟨s, ⟨q0, Sc.cell_in q0⟩, by unfold maxLen at hs0; exact hs0⟩
      subst hL
      refine ⟨_, L, rfl, ⟨_, _, rfl, hl, Or.inr ⟨g, off, rfl, fun i hi => (hP i hi).1⟩⟩, ?_, hwt⟩
      intro s hs
      obtain ⟨i, hi, rfl⟩ := List.getElem_of_mem hs
      exact (hP i hi).2

/-- The names of a package's lists are not too great. -/
def PgN (P : Pg) : Prop := P.nm.size ≤ 9223372036854775807 ∧ (∀ d ∈ P.d, d.nm.size ≤ 9223372036854775807) ∧ (∀ d ∈ P.p, d.nm.size ≤ 9223372036854775807) ∧ ∀ d ∈ P.o, d.nm.size ≤ 9223372036854775807
/-- A package's cells. -/
theorem pkg_cs {H : Type} {enc : TypeId × Value → H} {W : World} {base fuel : Nat} {held : Bool} {cs : List Value} {x : DataW H × List MemPlace} (h : DataW.trod enc Tryd.prog W base (fun _ => true) held fuel 45 cs = some x) :
    ∃ (P : Pg) (v1 v2 v3 : Value), (cs[0]? = some (.string P.nm) ∧ cs[1]? = some (.int .i64 P.a) ∧ cs[2]? = some (.int .i64 P.b) ∧ cs[3]? = some (.int .i64 P.c) ∧ cs[4]? = some v1 ∧ cs[5]? = some v2 ∧ cs[6]? = some v3) ∧ PgAt W P v1 v2 v3 ∧ PgZ P ∧ PgN P := by
  have hs : Tryd.prog.underlying 45 = some (.struct (Tryd.prog.fieldsOf 45)) := by kernel_rfl
  obtain ⟨xs, n', _, _, _, hxl, hf⟩ := DataW.trod_struct hs h
  have hfz : (Tryd.prog.fieldsOf 45).size = 5 := by kernel_rfl
  obtain ⟨f0, i0, t0, o0⟩ := field_at (fs := Tryd.prog.fieldsOf 45) (i := 0) (ty := 9) (off := 0) (by kernel_rfl)
  obtain ⟨f1, i1, t1, o1⟩ := field_at (fs := Tryd.prog.fieldsOf 45) (i := 1) (ty := 36) (off := 1) (by kernel_rfl)
  obtain ⟨f2, i2, t2, o2⟩ := field_at (fs := Tryd.prog.fieldsOf 45) (i := 2) (ty := 43) (off := 4) (by kernel_rfl)
  obtain ⟨f3, i3, t3, o3⟩ := field_at (fs := Tryd.prog.fieldsOf 45) (i := 3) (ty := 43) (off := 5) (by kernel_rfl)
  obtain ⟨f4, i4, t4, o4⟩ := field_at (fs := Tryd.prog.fieldsOf 45) (i := 4) (ty := 43) (off := 6) (by kernel_rfl)
  have r0 := hf 0 f0 i0
  have r1 := hf 1 f1 i1
  have r2 := hf 2 f2 i2
  have r3 := hf 3 f3 i3
  have r4 := hf 4 f4 i4
  rw [t0, o0, cellsStrD, List.getElem?_eq_getElem (by omega : 0 < xs.length)] at r0
  rw [t1, o1, cellsVer, List.getElem?_eq_getElem (by omega : 1 < xs.length)] at r1
  rw [t2, o2, cellsDeps, List.getElem?_eq_getElem (by omega : 2 < xs.length)] at r2
  rw [t3, o3, cellsDeps, List.getElem?_eq_getElem (by omega : 3 < xs.length)] at r3
  rw [t4, o4, cellsDeps, List.getElem?_eq_getElem (by omega : 4 < xs.length)] at r4
  obtain ⟨s, e0, _, hs0⟩ := DataW.trod_string Tryd.underlying9 r0
  obtain ⟨a, b, c, ea, eb, ec, _⟩ := ints_of r1
  obtain ⟨v1, L1, e2, h1, z1, m1⟩ := deps_cs r2
  obtain ⟨v2, L2, e3, h2, z2, m2⟩ := deps_cs r3
  obtain ⟨v3, L3, e4, h3, z3, m3⟩ := deps_cs r4
  have ka : ((cs.drop 1).take 3)[0]? = some (.int .i64 a) := ea
  have kb : ((cs.drop 1).take 3)[1]? = some (.int .i64 b) := eb
  have kc : ((cs.drop 1).take 3)[2]? = some (.int .i64 c) := ec
  simp at ka kb kc
  exact ⟨⟨s, a, b, c, L1, L2, L3⟩, v1, v2, v3, ⟨take1 e0, ka, kb, kc, take1 e2, take1 e3, take1 e4⟩, ⟨h1, h2, h3⟩, ⟨z1, z2, z3⟩, by unfold maxLen at hs0; exact hs0, m1, m2, m3⟩

/-- A directory that came in is not too great. -/
def DrN (d : Dr) : Prop := PgZ d.pk ∧ PgN d.pk ∧ ∀ s ∈ d.pa, s.size ≤ 9223372036854775807
theorem take7 {cs : List Value} {i : Nat} (hi : i < 7) : ((cs.drop 1).take 7)[i]? = cs[i + 1]? := by
  rw [List.getElem?_take, if_pos hi, List.getElem?_drop, Nat.add_comm]
theorem dir_read {H : Type} {enc : TypeId × Value → H} {W : World} {base : Nat} {held : Bool} {n : Nat} {g o : Nat} {cs : List Value} {x : DataW H × List MemPlace} (hc : W.cells? base ⟨g, o, none⟩ 9 = some cs) (h : DataW.trod enc Tryd.prog W base (fun _ => true) held n 48 cs = some x) :
    ∃ D : Dr, (∃ u v1 v2 v3, DrIn W g o D u v1 v2 v3) ∧ DrN D ∧ ((x.1.weights Tryd.prog 48).all (· ≤ reachBytes) = true → D.pa.length * 16 ≤ 140737488355328) := by
  have hs : Tryd.prog.underlying 48 = some (.struct (Tryd.prog.fieldsOf 48)) := by kernel_rfl
  obtain ⟨xs, n', _, hxx, _, hxl, hf⟩ := DataW.trod_struct hs h
  have hfz : (Tryd.prog.fieldsOf 48).size = 3 := by kernel_rfl
  obtain ⟨_, hcl, hq⟩ := World.cells?_some hc
  obtain ⟨f0, i0, t0, o0⟩ := field_at (fs := Tryd.prog.fieldsOf 48) (i := 0) (ty := 46) (off := 0) (by kernel_rfl)
  obtain ⟨f1, i1, t1, o1⟩ := field_at (fs := Tryd.prog.fieldsOf 48) (i := 1) (ty := 45) (off := 1) (by kernel_rfl)
  obtain ⟨f2, i2, t2, o2⟩ := field_at (fs := Tryd.prog.fieldsOf 48) (i := 2) (ty := 3) (off := 8) (by kernel_rfl)
  have r0 := hf 0 f0 i0
  have r1 := hf 1 f1 i1
  have r2 := hf 2 f2 i2
  rw [t0, o0, cellsStrsT, List.getElem?_eq_getElem (by omega : 0 < xs.length)] at r0
  rw [t1, o1, cellsPkg, List.getElem?_eq_getElem (by omega : 1 < xs.length)] at r1
  rw [t2, o2, cellsInt, List.getElem?_eq_getElem (by omega : 2 < xs.length)] at r2
  obtain ⟨u, L, e0, hp, hsz, hwt⟩ := strs_cs r0
  obtain ⟨P, v1, v2, v3, ⟨p0, p1, p2, p3, p4, p5, p6⟩, hpg, hpz, hpn⟩ := pkg_cs r1
  obtain ⟨k, e2, _, _⟩ := DataW.trod_int Tryd.underlying3 r2
  rw [take7 (by decide)] at p0 p1 p2 p3 p4 p5 p6
  have c0 := hq 0 (by decide)
  have c1 := hq 1 (by decide)
  have c2 := hq 2 (by decide)
  have c3 := hq 3 (by decide)
  have c4 := hq 4 (by decide)
  have c5 := hq 5 (by decide)
  have c6 := hq 6 (by decide)
  have c7 := hq 7 (by decide)
  have c8 := hq 8 (by decide)
  rw [addT, take1 e0] at c0
  rw [addT, p0] at c1
  rw [addT, p1] at c2
  rw [addT, p2] at c3
  rw [addT, p3] at c4
  rw [addT, p4] at c5
  rw [addT, p5] at c6
  rw [addT, p6] at c7
  rw [addT, take_one e2] at c8
  refine ⟨⟨L, P, k⟩, ⟨u, v1, v2, v3, ⟨c0, c1, c2, c3, c4, c5, c6, c7, c8⟩, ⟨hp, hpg⟩, Sc.cell_in c0⟩, ⟨hpz, hpn, hsz⟩, fun hr => ?_⟩
  have hd : x.1 = .agg (xs.map (·.1)) := congrArg Prod.fst hxx
  rw [hd] at hr
  have hp2 := rch_part hs hr i0 (d := xs[0].1) (by rw [List.getElem?_map, List.getElem?_eq_getElem (by omega : 0 < xs.length)]; rfl)
  rw [t0] at hp2
  exact hwt hp2

/-- Directories that came in. -/
theorem dirs_cs {H : Type} {enc : TypeId × Value → H} {W : World} {base fuel : Nat} {held : Bool} {cs : List Value} {x : DataW H × List MemPlace} (h : DataW.trod enc Tryd.prog W base (fun _ => true) held fuel 22 cs = some x) :
    ∃ v L, cs = [v] ∧ DirsAt W v L ∧ L.length ≤ 9223372036854775807 ∧ (∀ d ∈ L, DrN d) ∧ ((x.1.weights Tryd.prog 22).all (· ≤ reachBytes) = true → FitP1 L) := by
  rcases Go.Deep.open_slice Tryd.underlying22 h with ⟨rfl, _⟩ | ⟨ad, len, cap, m, n, D, Pl, rfl, _, hl, hcm, hm, hx, hel⟩
  · exact ⟨_, [], rfl, ⟨none, 0, rfl, Nat.le_refl _, Or.inl rfl⟩, by simp, (fun d hd => by cases hd), fun _ d hd => by cases hd⟩
  · have hz : len ≤ 9223372036854775807 := by unfold maxLen at hcm; omega
    rcases Nat.eq_zero_or_pos len with h0 | h0
    · subst h0
      exact ⟨_, [], rfl, ⟨_, _, rfl, Nat.zero_le _, Or.inl rfl⟩, by simp, (fun d hd => by cases hd), fun _ d hd => by cases hd⟩
    · have hmm : len ≤ m := by rw [hm]; simp; exact hl
      rw [cellsDirT] at hel
      obtain ⟨g, off, spot⟩ := ad
      obtain ⟨cs0, hc0, _⟩ := hel 0 (by omega)
      obtain ⟨_, hln, hq⟩ := World.cells?_some hc0
      have hcell := hq 0 (by decide)
      rw [List.getElem?_eq_getElem (by omega : 0 < cs0.length)] at hcell
      have hspot : spot = none := by simpa [Addr.add] using World.cell?_spot hcell
      subst hspot
      obtain ⟨L, hL, hP⟩ := list_any (P := fun i (d : Dr) => (∃ u v1 v2 v3, DrIn W g (off + i * 9) d u v1 v2 v3) ∧ DrN d ∧ (((D i).weights Tryd.prog 48).all (· ≤ reachBytes) = true → d.pa.length * 16 ≤ 140737488355328)) (n := len) fun i hi => by
        obtain ⟨cs, hc, ht⟩ := hel i (by omega)
        rw [addT] at hc
        exact dir_read hc ht
      subst hL
      refine ⟨_, L, rfl, ⟨_, _, rfl, hl, Or.inr ⟨g, off, rfl, fun i hi => (hP i hi).1⟩⟩, hz, ?_, fun hr => ?_⟩
      · intro d hd
        obtain ⟨i, hi, rfl⟩ := List.getElem_of_mem hd
        exact (hP i hi).2.1
      · intro d hd
        obtain ⟨i, hi, rfl⟩ := List.getElem_of_mem hd
        have hxi : x.1 = .slice ((List.range L.length).map D) ((List.range (m - L.length)).map fun j => D (L.length + j)) := by rw [hx]
        rw [hxi] at hr
        exact (hP i hi).2.2 ((rch_slice Tryd.underlying22 hr).2 (D i) (List.mem_map.2 ⟨i, List.mem_range.2 (by omega), rfl⟩))

/-- A tree that came in. -/
theorem open_tree {H : Type} {enc : TypeId × Value → H} {W : World} {base b0 : Nat} {held : Bool} {v : Value} {d : DataW H} {p : List MemPlace} (hv : Value.okWide Tryd.prog W .any b0 24 v) (h : DataW.Trod enc Tryd.prog W base (fun _ => true) held 24 v d p) :
    ∃ (L : List Dr) (vt : Value), v = .agg #[vt] ∧ DirsAt W vt L ∧ L.length ≤ 9223372036854775807 ∧ (∀ d ∈ L, DrN d) ∧ ((d.weights Tryd.prog 24).all (· ≤ reachBytes) = true → FitP1 L) := by
  have hs : Tryd.prog.underlying 24 = some (.struct (Tryd.prog.fieldsOf 24)) := by kernel_rfl
  obtain ⟨cs, rfl, hsz⟩ := okWide_struct hs hv
  obtain ⟨n, h⟩ := h
  obtain ⟨xs, n', _, hxx, _, hxl, hf⟩ := DataW.trod_struct hs h
  have hfz : (Tryd.prog.fieldsOf 24).size = 1 := by kernel_rfl
  obtain ⟨f0, i0, t0, o0⟩ := field_at (fs := Tryd.prog.fieldsOf 24) (i := 0) (ty := 22) (off := 0) (by kernel_rfl)
  have r0 := hf 0 f0 i0
  rw [t0, o0, cellsDirsT, List.getElem?_eq_getElem (by omega : 0 < xs.length)] at r0
  obtain ⟨vt, L, e0, hd, hz, hn, hwt⟩ := dirs_cs r0
  have k0 : cs.toList[0]? = some vt := take1 e0
  rw [cellsTreeT] at hsz
  refine ⟨L, vt, ?_, hd, hz, hn, fun hr => ?_⟩
  · congr 1
    apply Array.ext'
    rcases hcs : cs.toList with _ | ⟨y, _ | ⟨z, r⟩⟩
    · rw [hcs] at k0; cases k0
    · rw [hcs] at k0
      simp at k0
      rw [k0]
    · have : cs.toList.length = 1 := by rw [Array.length_toList]; exact hsz
      rw [hcs] at this
      simp at this
  · have hdd : d = .agg (xs.map (·.1)) := congrArg Prod.fst hxx
    rw [hdd] at hr
    have hp2 := rch_part hs hr i0 (d := xs[0].1) (by rw [List.getElem?_map, List.getElem?_eq_getElem (by omega : 0 < xs.length)]; rfl)
    rw [t0] at hp2
    exact hwt hp2
theorem drs_ok {L : List Dr} (h1 : FitP1 L) (h2 : ∀ d ∈ L, DrN d) : DrsOk L := ⟨h1, fun d hd => (h2 d hd).1⟩
end Go.Proofs.YtfnmbjddlkfooaaDoor
