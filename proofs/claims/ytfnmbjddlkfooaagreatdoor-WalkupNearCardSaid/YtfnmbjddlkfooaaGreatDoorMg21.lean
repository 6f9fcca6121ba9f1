/- Ts6, laid in one text. -/
import Derived.Test.YtfnmbjddlkfooaaGreatDoorMg20
namespace Go.Proofs.YtfnmbjddlkfooaaGreatDoor
open Go.RowKit
set_option maxRecDepth 100000

/-- A directory's path in memory, open. -/
theorem dir_open {L : List Dr} {w : World} {g o : Nat} {i : Nat} {hi : i < L.length} {u v1 v2 v3 : Value} (hd : DrIn w g (o + i * 9) L[i] u v1 v2 v3) : ∃ ua uc, u = .slice ua L[i].pa.length uc ∧ L[i].pa.length ≤ uc ∧ (∀ m, L[i].pa.length = m + 1 → ∃ gu ou, ua = some ⟨gu, ou, none⟩ ∧ StIn w gu (ou + m) (lastP L[i].pa)) := by
  obtain ⟨ua, uc, rfl, huc, hux⟩ := hd.2.1.1.el
  refine ⟨ua, uc, rfl, huc, fun m hm => ?_⟩
  obtain ⟨gu, ou, e, hs⟩ := hux m (by omega)
  refine ⟨gu, ou, e, ?_⟩
  rw [lastP_at (by omega)]
  have : L[i].pa[L[i].pa.length - 1]'(by omega) = L[i].pa[m]'(by omega) := by congr 1; omega
  rw [this]
  exact hs

set_option maxHeartbeats 25600000 in
theorem walkupNear_walk {L : List Dr} {v : Value} {w : World} (h : DirsAt w v L) (hz : L.length ≤ 9223372036854775807) (hk : DrsOk L) (hn : ∀ d ∈ L, PgN d.pk ∧ ∀ s ∈ d.pa, s.size ≤ 9223372036854775807) (f : Int) (s : ByteArray) (he : Env w) (hf : FL w) :
    Calls Tryz.prog 4 #[.agg #[v], .int .i64 f, .string s] w fun e w' => e = .returned (.bool true) ∧ Below w.heap.size w w' := by
  have HCK : Hid (∀ w1, Below w.heap.size w w1 → Calls Tryz.prog 9 #[.agg #[v]] w1 fun e w' => e = .returned (.int .i64 (errT (checkB L))) ∧ Below w1.heap.size w1 w') := fun w1 hb => rCheck_any (h.below hb) hz hk hn
  have HLV : Hid (∀ w1, Below w.heap.size w w1 → Calls Tryz.prog 8 #[] w1 fun e w' => e = .returned (.bool true) ∧ Below w1.heap.size w1 w') := fun w1 hb => lives_any (he.below hb) (hf.below hb)
  have HLK : Hid (∀ w1, Below w.heap.size w w1 → ∀ (r : Nat) s, Calls Tryz.prog 10 #[.agg #[v], .int .i64 r, .string s] w1 fun e w' => e = .returned (.int .i64 (lookV L r s)) ∧ Below w1.heap.size w1 w') := fun w1 hb r s => look_any (h.below hb) hz hk.1 r s
  have HFT := hide3 hk.1
  obtain ⟨ad, cap, rfl, hc, hsl⟩ := h.sl
  clear h hk hn he hf
  have HKB : Hid (KeepP fun w1 => Below w.heap.size w w1 ∧ BxT w1 w.heap.size (.slice ad L.length cap)) := (keepBelow w).and (keepBxT _ _)
  have HBX : Hid (Below w.heap.size w (w.alloc (.cells #[.slice ad L.length cap] 24)) ∧ BxT (w.alloc (.cells #[.slice ad L.length cap] 24)) w.heap.size (.slice ad L.length cap)) := ⟨boxB _ _, BxT.new _ _⟩
  cases hcb : checkB L
  · rw [hcb, show errT false = 42 from rfl] at HCK
    clear hsl
    go_enter Tryz.func4, Tryz.ntmps4
    go_wp2_with (first
      | (go_at_call 9; refine (HCK.out _ HBX.out.1).mono ?_; rintro e w2 ⟨rfl, ok⟩; have HB2 := hide3 (HKB.out _ _ HBX.out ok); clear ok)
      | (go_at_call 8; refine (HLV.out _ HB2.out.1).mono ?_; rintro e w9 ⟨rfl, ok⟩; have HB9 := hide3 (below_then HB2.out.1 ok); clear ok))
    go_ret
    exact ⟨rfl, HB9.out⟩
  · rw [hcb, show errT true = 0 from rfl] at HCK
    by_cases hf1 : f < 0
    · clear hsl
      go_enter Tryz.func4, Tryz.ntmps4
      go_wp2_with (first
        | (go_at_call 9; refine (HCK.out _ HBX.out.1).mono ?_; rintro e w2 ⟨rfl, ok⟩; have HB2 := hide3 (HKB.out _ _ HBX.out ok); clear ok)
        | (go_at_call 8; refine (HLV.out _ HB2.out.1).mono ?_; rintro e w9 ⟨rfl, ok⟩; have HB9 := hide3 (below_then HB2.out.1 ok); clear ok))
      go_ret
      exact ⟨rfl, HB9.out⟩
    · by_cases hf2 : (L.length : Int) ≤ f
      · clear hsl
        go_enter Tryz.func4, Tryz.ntmps4
        go_wp2_with (first
          | (go_at_call 9; refine (HCK.out _ HBX.out.1).mono ?_; rintro e w2 ⟨rfl, ok⟩; have HB2 := hide3 (HKB.out _ _ HBX.out ok); obtain ⟨_, z0, z1⟩ := HB2.out; clear ok)
          | (go_at_call 8; refine (HLV.out _ HB2.out.1).mono ?_; rintro e w9 ⟨rfl, ok⟩; have HB9 := hide3 (below_then HB2.out.1 ok); clear ok))
        go_ret
        exact ⟨rfl, HB9.out⟩
      · obtain ⟨k, rfl⟩ : ∃ k : Nat, f = k := ⟨f.toNat, by omega⟩
        have hkL : k < L.length := by omega
        have hkd : decide ((k : Int) < 0) = false := decide_eq_false (by omega)
        have hkl : decide (L.length ≤ k) = false := decide_eq_false (by omega)
        have HAT : Hid (∀ a : Nat, lookV L (k : Int) s = a → ∃ (ha : a < L.length) (m : Nat), L[a].pa.length = m + 1 ∧ m ≤ L[k].pa.length ∧ lastP L[a].pa = s ∧ L[a].pa.take m = L[k].pa.take m) := fun a h => near_at hkL h
        have HNN : Hid (∀ i m (hi : i < L.length), L[i].pa.length = m + 1 → m ≤ L[k].pa.length → lastP L[i].pa = s → L[i].pa.take m = L[k].pa.take m → ∃ (a : Nat) (ha : a < L.length), lookV L (k : Int) s = a ∧ L[i].pa.length ≤ L[a].pa.length) := fun i m hi h1 h2 h3 h4 => near_no hcb hkL hi h1 h2 h3 h4
        have HL := hide3 (fun w1 hb => HLK.out w1 hb k s)
        obtain ⟨g, o, rfl, u, v1, v2, v3, hdk⟩ := hsl k hkL
        have HS : Hid (∀ w1, Below w.heap.size w w1 → ∀ i (hi : i < L.length), ∃ u v1 v2 v3, DrIn w1 g (o + i * 9) L[i] u v1 v2 v3) := fun w1 hb i hi => by
          obtain ⟨g', o', e, u, v1, v2, v3, hd⟩ := hsl i hi
          cases e
          exact ⟨u, v1, v2, v3, hd.below hb⟩
        obtain ⟨ua, uc, rfl, huc, hul⟩ := dir_open hdk
        have HPA : Hid (∀ w1, Below w.heap.size w w1 → ∀ i m (hi : i < L.length) pa pc, PathAt w1 (.slice pa L[i].pa.length pc) L[i].pa → L[i].pa.length = m + 1 → m ≤ L[k].pa.length → Calls Tryz.prog 11 #[.slice pa m pc, .slice ua m uc] w1 fun e w' => e = .returned (.bool (eqB (L[i].pa.take m) (L[k].pa.take m))) ∧ Below w1.heap.size w1 w') := fun w1 hb i m hi pa pc hp h1 h2 => by
          have hfi := HFT.out _ (List.getElem_mem hi)
          exact rPath_any (hp.cut (by omega)) ((hdk.2.1.1.below hb).cut h2) (by rw [List.length_take]; omega)
        have HCK2 : Hid (∀ w1, Below w.heap.size w w1 → w1.cell? ⟨g, o + k * 9, none⟩ = some (.slice ua L[k].pa.length uc)) := fun w1 hb => (hdk.below hb).1.1
        have hlv := lookV_lt L (k : Int) s
        have hfk := HFT.out _ (List.getElem_mem hkL)
        clear hcb hdk hul hsl HLK
        generalize lookV L (k : Int) s = av at *
        generalize hpk : L[k].pa = p at *
        rcases (show av = -1 ∨ ∃ a : Nat, av = a by
          rcases (show av = -1 ∨ 0 ≤ av by omega) with h | h
          · exact Or.inl h
          · exact Or.inr ⟨av.toNat, by omega⟩) with rfl | ⟨a, rfl⟩
        · go_enter Tryz.func4, Tryz.ntmps4
          go_wp2_with (first | (go_at_call 9; refine (HCK.out _ HBX.out.1).mono ?_; rintro e w2 ⟨rfl, ok⟩; have HB2 := hide3 (HKB.out _ _ HBX.out ok); obtain ⟨_, z0, z1⟩ := HB2.out; clear ok) | (go_at_call 10; refine (HL.out _ HB2.out.1).mono ?_; rintro e w3 ⟨rfl, ok⟩; have HB3 := hide3 (HKB.out _ _ HB2.out ok); clear z0 z1; obtain ⟨_, z0, z1⟩ := HB3.out; have p0 := HCK2.out _ HB3.out.1; clear ok))
          have HBS := HB3
          clear z0 z1 p0
          go_loopw [11] (fun vi wr => ∃ i : Nat, i ≤ L.length ∧ vi = .int .i64 i ∧ Below w.heap.size w wr ∧ BxT wr w.heap.size (.slice (some ⟨g, o, none⟩) L.length cap)) (fun vi _ => L.length - (intOf vi).toNat)
          case atStart => exact ⟨0, Nat.zero_le _, rfl, HBS.out⟩
          case round =>
            obtain ⟨i, hi, rfl, hb, bx0, bx1⟩ := hrel
            have HBR : Hid (Below w.heap.size w wr ∧ BxT wr w.heap.size (.slice (some ⟨g, o, none⟩) L.length cap)) := ⟨hb, bx0, bx1⟩
            by_cases hlt : i < L.length
            · obtain ⟨qu, qv1, qv2, qv3, hd⟩ := HS.out wr hb i hlt
              obtain ⟨qa, qc, rfl, hqc, hql⟩ := dir_open hd
              have c0 := hd.1.1
              have hfi := HFT.out _ (List.getElem_mem hlt)
              have HPI : Hid (∀ w1, Below wr.heap.size wr w1 → PathAt w1 (.slice qa L[i].pa.length qc) L[i].pa) := fun w1 hb => hd.2.1.1.below hb
              have HQL := hide3 hql
              clear hd hql hb
              by_cases hia : False
              · exact hia.elim
              · have e1 : ((i : Int) == -1) = false := by rw [beq_eq_false_iff_ne]; omega
                have e4 : ((i : Int) = -1) = False := eq_false (by omega)
                rcases Nat.eq_zero_or_pos L[i].pa.length with hq0 | hq0
                · rw [hq0] at c0
                  clear HQL HPI
                  go_wp2
                  exact ⟨⟨i + 1, by omega, by go_num, HBR.out⟩, by simp [intOf]; omega⟩
                · obtain ⟨m, hm⟩ : ∃ m, L[i].pa.length = m + 1 := ⟨L[i].pa.length - 1, by omega⟩
                  have e5 : ((m : Int) + 1 == 0) = false := by rw [beq_eq_false_iff_ne]; omega
                  obtain ⟨gu, ou, rfl, hls⟩ := HQL.out m hm
                  obtain ⟨l0, l1⟩ := hls
                  rw [hm] at c0 hqc hfi
                  by_cases hmp : m ≤ p.length
                  · have e6 : ¬ (p.length < m) := by omega
                    have e7 : decide (p.length < m) = false := decide_eq_false e6
                    have e8 : decide ((m : Int) > (p.length : Int)) = false := decide_eq_false (by omega)
                    by_cases hsl : lastP L[i].pa = s
                    · have HPC : Hid (∀ w1, Below w.heap.size w w1 → PathAt w1 (.slice (some ⟨gu, ou, none⟩) L[i].pa.length qc) L[i].pa → Calls Tryz.prog 11 #[.slice (some ⟨gu, ou, none⟩) m qc, .slice ua m uc] w1 fun e w' => e = .returned (.bool (eqB (L[i].pa.take m) (p.take m))) ∧ Below w1.heap.size w1 w') := fun w1 hb hp => HPA.out w1 hb i m hlt _ _ hp hm hmp
                      have HQN : Hid (L[i].pa.take m = p.take m → ∃ (a2 : Nat) (ha : a2 < L.length), (-1 : Int) = (a2 : Int) ∧ L[i].pa.length ≤ L[a2].pa.length) := fun h => HNN.out i m hlt hm hmp hsl h
                      rw [hsl] at l0
                      have HK : Hid (KeepP fun w1 => (Below w.heap.size w w1 ∧ BxT w1 w.heap.size (.slice (some ⟨g, o, none⟩) L.length cap)) ∧ PathAt w1 (.slice (some ⟨gu, ou, none⟩) L[i].pa.length qc) L[i].pa) := HKB.out.and (keepPath _ _)
                      have HO : Hid ((Below w.heap.size w wr ∧ BxT wr w.heap.size (.slice (some ⟨g, o, none⟩) L.length cap)) ∧ PathAt wr (.slice (some ⟨gu, ou, none⟩) L[i].pa.length qc) L[i].pa) := ⟨HBR.out, HPI.out _ (Below.refl _ _)⟩
                      have hwm : IntKind.i64.wrap (m : Int) = m := wrapN (by omega)
                      have hmc : m ≤ qc := by omega
                      have hmu : m ≤ uc := by omega
                      by_cases hbb : L[i].pa.take m = p.take m
                      · obtain ⟨a', ha', haa, hll⟩ := HQN.out hbb
                        rw [eqB_yes hbb] at HPC
                        clear hbb HQN HQL hsl
                        omega
                      · rw [eqB_no hbb] at HPC
                        clear hbb HQN HQL hsl
                        go_wp2_with fail
                        clear bx0 bx1 c0 l0 l1
                        refine wp_region_keep HK.out (by kernel_rfl) (by kernel_rfl) (by first | exact HO.out | exact HK.out.drew HO.out) ?_
                        intro C hin hout
                        have HIN := hide3 hin
                        have HOUT := hide3 hout
                        clear hin hout HO
                        repeat
                          (with_reducible refine wpQuiet_step (fun K hK => ?_)
                           go_simp
                           first
                             | (refine hK _ ?_; clear hK K)
                             | (apply Exists.intro; refine ⟨fun w1 hC => ?_, hK _ ?_⟩; (focus ((first | (go_at_call 11; with_reducible exact callC' HIN.out HOUT.out HK.out (fun w1 hk => HPC.out w1 hk.1.1 hk.2) w1 hC) | (exact rfl) | (obtain ⟨⟨hb1, ⟨t0, t1⟩⟩, _⟩ := HOUT.out w1 hC; clear hC; go_simp; first | done | exact rfl)); done)); clear hK K))
                        refine wpQuiet_nil ?_
                        intro w17 hC
                        have HO := hide3 (HOUT.out _ hC)
                        clear hC HIN HOUT C
                        obtain ⟨⟨hb1, ⟨t0, t1⟩⟩, _⟩ := HO.out
                        go_wp2
                        exact ⟨⟨i + 1, by omega, by go_num, HO.out.1⟩, by simp [intOf]; omega⟩
                    · have q1 : ((lastP L[i].pa).toList == s.toList) = false := by rw [beq_eq_false_iff_ne]; exact fun e => hsl (bytes_same e)
                      clear HQL HPI
                      generalize lastP L[i].pa = ls at *
                      go_wp2
                      exact ⟨⟨i + 1, by omega, by go_num, HBR.out⟩, by simp [intOf]; omega⟩
                  · have e6 : p.length < m := by omega
                    have e7 : decide (p.length < m) = true := decide_eq_true e6
                    have e8 : decide ((m : Int) > (p.length : Int)) = true := decide_eq_true (by omega)
                    clear HQL HPI
                    go_wp2
                    exact ⟨⟨i + 1, by omega, by go_num, HBR.out⟩, by simp [intOf]; omega⟩
            · obtain rfl : i = L.length := by omega
              have HC := hide3 (HLV.out wr hb)
              clear hb
              go_wp2_with (go_at_call 8; refine HC.out.mono ?_; rintro e w9 ⟨rfl, ok⟩; have HB9 := hide3 (below_then HBR.out.1 ok); clear ok)
              go_ret
              exact ⟨rfl, HB9.out⟩
        · obtain ⟨haL, m0, hm0, hmp0, hs0, ht0⟩ := HAT.out a rfl
          obtain ⟨xu, xv1, xv2, xv3, hxd⟩ := HS.out w (Below.refl _ _) a haL
          obtain ⟨xa, xc, rfl, hxc, hxl⟩ := dir_open hxd
          obtain ⟨xg, xo, rfl, hxs⟩ := hxl m0 hm0
          rw [hs0] at hxs
          have HXC : Hid (∀ w1, Below w.heap.size w w1 → w1.cell? ⟨g, o + a * 9, none⟩ = some (.slice (some ⟨xg, xo, none⟩) (m0 + 1) xc) ∧ StIn w1 xg (xo + m0) s ∧ PathAt w1 (.slice (some ⟨xg, xo, none⟩) L[a].pa.length xc) L[a].pa) := fun w1 hb => ⟨by rw [← hm0]; exact (hxd.below hb).1.1, hxs.below hb, hxd.2.1.1.below hb⟩
          have HXP : Hid (∀ w1, Below w.heap.size w w1 → PathAt w1 (.slice (some ⟨xg, xo, none⟩) L[a].pa.length xc) L[a].pa → Calls Tryz.prog 11 #[.slice (some ⟨xg, xo, none⟩) m0 xc, .slice ua m0 uc] w1 fun e w' => e = .returned (.bool true) ∧ Below w1.heap.size w1 w') := fun w1 hb hp => by
            have := HPA.out w1 hb a m0 haL _ _ hp hm0 hmp0
            rw [eqB_yes ht0] at this
            exact this
          have hfa := HFT.out _ (List.getElem_mem haL)
          rw [hm0] at hxc hfa
          have haI : (a : Int) < (L.length : Int) := by omega
          have g1 : ((m0 : Int) + 1 == 0) = false := by rw [beq_eq_false_iff_ne]; omega
          have g2 : ¬ (p.length < m0) := by omega
          have g3 : decide (p.length < m0) = false := decide_eq_false g2
          have g4 : decide ((m0 : Int) > (p.length : Int)) = false := decide_eq_false (by omega)
          have hwm0 : IntKind.i64.wrap (m0 : Int) = m0 := wrapN (by omega)
          have hmc0 : m0 ≤ xc := by omega
          have hmu0 : m0 ≤ uc := by omega
          clear hxd hxl hxs hs0 ht0 hm0
          go_enter Tryz.func4, Tryz.ntmps4
          go_wp2_with (first | (go_at_call 9; refine (HCK.out _ HBX.out.1).mono ?_; rintro e w2 ⟨rfl, ok⟩; have HB2 := hide3 (HKB.out _ _ HBX.out ok); obtain ⟨_, z0, z1⟩ := HB2.out; clear ok) | (go_at_call 10; refine (HL.out _ HB2.out.1).mono ?_; rintro e w3 ⟨rfl, ok⟩; have HB3 := hide3 (HKB.out _ _ HB2.out ok); clear z0 z1; obtain ⟨_, z0, z1⟩ := HB3.out; have p0 := HCK2.out _ HB3.out.1; obtain ⟨x0, ⟨x1, x2⟩, _⟩ := HXC.out _ HB3.out.1; clear ok))
          have HK : Hid (KeepP fun w1 => (Below w.heap.size w w1 ∧ BxT w1 w.heap.size (.slice (some ⟨g, o, none⟩) L.length cap)) ∧ PathAt w1 (.slice (some ⟨xg, xo, none⟩) L[a].pa.length xc) L[a].pa) := HKB.out.and (keepPath _ _)
          have HO : Hid ((Below w.heap.size w w3 ∧ BxT w3 w.heap.size (.slice (some ⟨g, o, none⟩) L.length cap)) ∧ PathAt w3 (.slice (some ⟨xg, xo, none⟩) L[a].pa.length xc) L[a].pa) := ⟨HB3.out, (HXC.out _ HB3.out.1).2.2⟩
          clear z0 z1 p0 x0 x1 x2
          refine wp_region_keep HK.out (by kernel_rfl) (by kernel_rfl) (by first | exact HO.out | exact HK.out.drew HO.out) ?_
          intro C hin hout
          have HIN := hide3 hin
          have HOUT := hide3 hout
          clear hin hout HO
          repeat
            (with_reducible refine wpQuiet_step (fun K hK => ?_)
             go_simp
             first
               | (refine hK _ ?_; clear hK K)
               | (apply Exists.intro; refine ⟨fun w1 hC => ?_, hK _ ?_⟩; (focus ((first | (go_at_call 11; with_reducible exact callC' HIN.out HOUT.out HK.out (fun w1 hk => HXP.out w1 hk.1.1 hk.2) w1 hC) | (exact rfl) | (obtain ⟨⟨hb1, ⟨t0, t1⟩⟩, _⟩ := HOUT.out w1 hC; clear hC; go_simp; first | done | exact rfl)); done)); clear hK K))
          refine wpQuiet_nil ?_
          intro w9 hC
          have HO := hide3 (HOUT.out _ hC)
          clear hC HIN HOUT C
          obtain ⟨⟨hb1, ⟨t0, t1⟩⟩, _⟩ := HO.out
          go_wp2_with fail
          have HBS : Hid (Below w.heap.size w w9 ∧ BxT w9 w.heap.size (.slice (some ⟨g, o, none⟩) L.length cap)) := HO.out.1
          clear HO HK hb1 t0 t1
          go_loopw [11] (fun vi wr => ∃ i : Nat, i ≤ L.length ∧ vi = .int .i64 i ∧ Below w.heap.size w wr ∧ BxT wr w.heap.size (.slice (some ⟨g, o, none⟩) L.length cap)) (fun vi _ => L.length - (intOf vi).toNat)
          case atStart => exact ⟨0, Nat.zero_le _, rfl, HBS.out⟩
          case round =>
            obtain ⟨i, hi, rfl, hb, bx0, bx1⟩ := hrel
            have HBR : Hid (Below w.heap.size w wr ∧ BxT wr w.heap.size (.slice (some ⟨g, o, none⟩) L.length cap)) := ⟨hb, bx0, bx1⟩
            by_cases hlt : i < L.length
            · obtain ⟨qu, qv1, qv2, qv3, hd⟩ := HS.out wr hb i hlt
              obtain ⟨qa, qc, rfl, hqc, hql⟩ := dir_open hd
              have c0 := hd.1.1
              have hfi := HFT.out _ (List.getElem_mem hlt)
              have HPI : Hid (∀ w1, Below wr.heap.size wr w1 → PathAt w1 (.slice qa L[i].pa.length qc) L[i].pa) := fun w1 hb => hd.2.1.1.below hb
              have HQL := hide3 hql
              clear hd hql hb
              by_cases hia : i = a
              · subst hia
                clear HQL HPI
                go_wp2
                exact ⟨⟨i + 1, by omega, by go_num, HBR.out⟩, by simp [intOf]; omega⟩
              · have e1 : ((i : Int) == (a : Int)) = false := by rw [beq_eq_false_iff_ne]; omega
                have e2 : (i == a) = false := by rw [beq_eq_false_iff_ne]; exact hia
                have e3 : (i = a) = False := eq_false hia
                have e4 : ((i : Int) = (a : Int)) = False := eq_false (by omega)
                rcases Nat.eq_zero_or_pos L[i].pa.length with hq0 | hq0
                · rw [hq0] at c0
                  clear HQL HPI
                  go_wp2
                  exact ⟨⟨i + 1, by omega, by go_num, HBR.out⟩, by simp [intOf]; omega⟩
                · obtain ⟨m, hm⟩ : ∃ m, L[i].pa.length = m + 1 := ⟨L[i].pa.length - 1, by omega⟩
                  have e5 : ((m : Int) + 1 == 0) = false := by rw [beq_eq_false_iff_ne]; omega
                  obtain ⟨gu, ou, rfl, hls⟩ := HQL.out m hm
                  obtain ⟨l0, l1⟩ := hls
                  rw [hm] at c0 hqc hfi
                  by_cases hmp : m ≤ p.length
                  · have e6 : ¬ (p.length < m) := by omega
                    have e7 : decide (p.length < m) = false := decide_eq_false e6
                    have e8 : decide ((m : Int) > (p.length : Int)) = false := decide_eq_false (by omega)
                    by_cases hsl : lastP L[i].pa = s
                    · have HPC : Hid (∀ w1, Below w.heap.size w w1 → PathAt w1 (.slice (some ⟨gu, ou, none⟩) L[i].pa.length qc) L[i].pa → Calls Tryz.prog 11 #[.slice (some ⟨gu, ou, none⟩) m qc, .slice ua m uc] w1 fun e w' => e = .returned (.bool (eqB (L[i].pa.take m) (p.take m))) ∧ Below w1.heap.size w1 w') := fun w1 hb hp => HPA.out w1 hb i m hlt _ _ hp hm hmp
                      have HQN : Hid (L[i].pa.take m = p.take m → ∃ (a2 : Nat) (ha : a2 < L.length), (a : Int) = (a2 : Int) ∧ L[i].pa.length ≤ L[a2].pa.length) := fun h => HNN.out i m hlt hm hmp hsl h
                      rw [hsl] at l0
                      have HK : Hid (KeepP fun w1 => (Below w.heap.size w w1 ∧ BxT w1 w.heap.size (.slice (some ⟨g, o, none⟩) L.length cap)) ∧ PathAt w1 (.slice (some ⟨gu, ou, none⟩) L[i].pa.length qc) L[i].pa) := HKB.out.and (keepPath _ _)
                      have HO : Hid ((Below w.heap.size w wr ∧ BxT wr w.heap.size (.slice (some ⟨g, o, none⟩) L.length cap)) ∧ PathAt wr (.slice (some ⟨gu, ou, none⟩) L[i].pa.length qc) L[i].pa) := ⟨HBR.out, HPI.out _ (Below.refl _ _)⟩
                      have hwm : IntKind.i64.wrap (m : Int) = m := wrapN (by omega)
                      have hmc : m ≤ qc := by omega
                      have hmu : m ≤ uc := by omega
                      by_cases hbb : L[i].pa.take m = p.take m
                      · obtain ⟨a', ha', haa, hll⟩ := HQN.out hbb
                        rw [eqB_yes hbb] at HPC
                        clear hbb HQN HQL hsl
                        obtain rfl : a = a' := by omega
                        obtain ⟨au, av1, av2, av3, had⟩ := HS.out w (Below.refl _ _) a ha'
                        obtain ⟨aa, ac, rfl, hac, _⟩ := dir_open had
                        have HAC : Hid (∀ w1, Below w.heap.size w w1 → w1.cell? ⟨g, o + a * 9, none⟩ = some (.slice aa L[a].pa.length ac)) := fun w1 hb => (had.below hb).1.1
                        rw [hm] at hll
                        clear had
                        generalize L[a].pa.length = la at *
                        have e9 : ¬ (la < m + 1) := by omega
                        have e10 : decide (la < m + 1) = false := decide_eq_false e9
                        have e11 : decide ((m : Int) + 1 > (la : Int)) = false := decide_eq_false (by omega)
                        have e12 : ¬ ((a : Int) < 0) := by omega
                        have e13 : decide ((a : Int) < 0) = false := decide_eq_false e12
                        go_wp2_with fail
                        clear bx0 bx1 c0 l0 l1
                        refine wp_region_keep HK.out (by kernel_rfl) (by kernel_rfl) (by first | exact HO.out | exact HK.out.drew HO.out) ?_
                        intro C hin hout
                        have HIN := hide3 hin
                        have HOUT := hide3 hout
                        clear hin hout HO
                        repeat
                          (with_reducible refine wpQuiet_step (fun K hK => ?_)
                           go_simp
                           first
                             | (refine hK _ ?_; clear hK K)
                             | (apply Exists.intro; refine ⟨fun w1 hC => ?_, hK _ ?_⟩; (focus ((first | (go_at_call 11; with_reducible exact callC' HIN.out HOUT.out HK.out (fun w1 hk => HPC.out w1 hk.1.1 hk.2) w1 hC) | (exact rfl) | (obtain ⟨⟨hb1, ⟨t0, t1⟩⟩, _⟩ := HOUT.out w1 hC; clear hC; go_simp; first | done | exact rfl)); done)); clear hK K))
                        refine wpQuiet_nil ?_
                        intro w17 hC
                        have HO := hide3 (HOUT.out _ hC)
                        clear hC HIN HOUT C
                        obtain ⟨⟨hb1, ⟨t0, t1⟩⟩, _⟩ := HO.out
                        have x0 := HAC.out _ HO.out.1.1
                        go_wp2
                        exact ⟨⟨i + 1, by omega, by go_num, HO.out.1⟩, by simp [intOf]; omega⟩
                      · rw [eqB_no hbb] at HPC
                        clear hbb HQN HQL hsl
                        go_wp2_with fail
                        clear bx0 bx1 c0 l0 l1
                        refine wp_region_keep HK.out (by kernel_rfl) (by kernel_rfl) (by first | exact HO.out | exact HK.out.drew HO.out) ?_
                        intro C hin hout
                        have HIN := hide3 hin
                        have HOUT := hide3 hout
                        clear hin hout HO
                        repeat
                          (with_reducible refine wpQuiet_step (fun K hK => ?_)
                           go_simp
                           first
                             | (refine hK _ ?_; clear hK K)
                             | (apply Exists.intro; refine ⟨fun w1 hC => ?_, hK _ ?_⟩; (focus ((first | (go_at_call 11; with_reducible exact callC' HIN.out HOUT.out HK.out (fun w1 hk => HPC.out w1 hk.1.1 hk.2) w1 hC) | (exact rfl) | (obtain ⟨⟨hb1, ⟨t0, t1⟩⟩, _⟩ := HOUT.out w1 hC; clear hC; go_simp; first | done | exact rfl)); done)); clear hK K))
                        refine wpQuiet_nil ?_
                        intro w17 hC
                        have HO := hide3 (HOUT.out _ hC)
                        clear hC HIN HOUT C
                        obtain ⟨⟨hb1, ⟨t0, t1⟩⟩, _⟩ := HO.out
                        go_wp2
                        exact ⟨⟨i + 1, by omega, by go_num, HO.out.1⟩, by simp [intOf]; omega⟩
                    · have q1 : ((lastP L[i].pa).toList == s.toList) = false := by rw [beq_eq_false_iff_ne]; exact fun e => hsl (bytes_same e)
                      clear HQL HPI
                      generalize lastP L[i].pa = ls at *
                      go_wp2
                      exact ⟨⟨i + 1, by omega, by go_num, HBR.out⟩, by simp [intOf]; omega⟩
                  · have e6 : p.length < m := by omega
                    have e7 : decide (p.length < m) = true := decide_eq_true e6
                    have e8 : decide ((m : Int) > (p.length : Int)) = true := decide_eq_true (by omega)
                    clear HQL HPI
                    go_wp2
                    exact ⟨⟨i + 1, by omega, by go_num, HBR.out⟩, by simp [intOf]; omega⟩
            · obtain rfl : i = L.length := by omega
              have HC := hide3 (HLV.out wr hb)
              clear hb
              go_wp2_with (go_at_call 8; refine HC.out.mono ?_; rintro e w9 ⟨rfl, ok⟩; have HB9 := hide3 (below_then HBR.out.1 ok); clear ok)
              go_ret
              exact ⟨rfl, HB9.out⟩
end Go.Proofs.YtfnmbjddlkfooaaGreatDoor
