/- Ts2, Te4, laid in one text. -/
import Derived.Test.YtcclfaioicklaaaGreatDoorMg23
namespace Go.Proofs.YtcclfaioicklaaaGreatDoor
open Go.RowKit
set_option maxRecDepth 100000

/-- A directory other than the root may stand where it does: what the document asks, in its order. -/
theorem foll_stand {L : List Dr} {i : Nat} (hi : i < L.length) : follI L i = (mayPaB L[i].pa && decide (0 < L[i].nd) && eqB L[i].pk.nm (lastP L[i].pa) && writtenB L[i].pk && decide (findV L L[i].pa = i) && (decide (0 ≤ findV L (L[i].pa.take (L[i].pa.length - 1))) && decide (findV L (L[i].pa.take (L[i].pa.length - 1)) < i))) := by
  rw [follI_at hi]
  unfold follD
  have hl : (L.take i).length = i := by rw [List.length_take]; omega
  have h1 : decide (findV (L.take i) L[i].pa < 0) = decide (findV L L[i].pa = i) := by
    rcases findV_or (L.take i) L[i].pa with ⟨e, hall⟩ | ⟨k, hk, e, hp, hall⟩
    · have : findV L L[i].pa = i := findV_at hi rfl fun j hj h1 => by
        have := hall j (by omega)
        rwa [List.getElem_take] at this
      rw [e, this]
      simp
    · have hk' : k < i := by omega
      have : findV L L[i].pa = k := findV_at (by omega) (by rw [List.getElem_take] at hp; exact hp) fun j hj h1 => by
        have := hall j hj (by omega)
        rwa [List.getElem_take] at this
      rw [e, this, decide_eq_false (by omega), decide_eq_false (by omega)]
  have h2 : decide (0 ≤ findV (L.take i) (L[i].pa.take (L[i].pa.length - 1))) = (decide (0 ≤ findV L (L[i].pa.take (L[i].pa.length - 1))) && decide (findV L (L[i].pa.take (L[i].pa.length - 1)) < i)) := by
    generalize L[i].pa.take (L[i].pa.length - 1) = q
    rcases findV_or (L.take i) q with ⟨e, hall⟩ | ⟨k, hk, e, hp, hall⟩
    · rw [e]
      rcases findV_or L q with ⟨e2, _⟩ | ⟨k, hk, e2, hp, _⟩
      · rw [e2]; simp
      · rw [e2]
        have : ¬ (k : Int) < i := fun hlt => by
          have := hall k (by omega)
          rw [List.getElem_take] at this
          exact this hp
        rw [decide_eq_false this]
        simp
    · have hk' : k < i := by omega
      have : findV L q = k := findV_at (by omega) (by rw [List.getElem_take] at hp; exact hp) fun j hj h1 => by
        have := hall j hj (by omega)
        rwa [List.getElem_take] at this
      rw [e, this, decide_eq_true (show (k : Int) < i by omega)]
      simp
  rw [h1, h2]

set_option maxHeartbeats 12800000 in
theorem stands_any {L : List Dr} {v : Value} {w : World} (h : DirsAt w v L) (hz : L.length ≤ 9223372036854775807) (hk : DrsOk L) (hn : ∀ d ∈ L, PgN d.pk ∧ ∀ s ∈ d.pa, s.size ≤ 9223372036854775807) {i : Nat} (hi : i < L.length) :
    Calls Tryz.prog 32 #[.agg #[v], .int .i64 i] w fun e w' => e = .returned (.bool (follI L i)) ∧ Below w.heap.size w w' := by
  have hil := hk.1 _ (List.getElem_mem hi)
  have HFS := hide3 (foll_stand hi)
  have hnd := hn _ (List.getElem_mem hi)
  have HF1 : Hid (∀ w1, Below w.heap.size w w1 → ∀ vp p, PathAt w1 vp p → Calls Tryz.prog 18 #[.agg #[v], vp] w1 fun e w' => e = .returned (.int .i64 (findV L p)) ∧ Below w1.heap.size w1 w') := fun w1 hb vp p hp => rFind_any (h.below hb) hz hk.1.fit hp
  have HPR : Hid (0 < L[i].pa.length → ∀ w1, Below w.heap.size w w1 → Calls Tryz.prog 20 #[.agg #[v], .int .i64 i] w1 fun e w' => e = .returned (.int .i64 (findV L (L[i].pa.take (L[i].pa.length - 1)))) ∧ Below w1.heap.size w1 w') := fun hp w1 hb => rParent_any (h.below hb) hz hk.1.fit hi hp
  obtain ⟨ad, cap, rfl, hc, hsl⟩ := h.sl
  obtain ⟨g, o, rfl, u, v1, v2, v3, hd⟩ := hsl i hi
  have HTX : Hid (∀ w1, Below w.heap.size w w1 → Calls Tryz.prog 16 #[u] w1 fun e w' => e = .returned (.string (textPa L[i].pa)) ∧ Below w1.heap.size w1 w') := fun w1 hb => rTextP_any (hd.2.1.1.below hb) hil hnd.2
  have HMY : Hid (∀ w1, Below w.heap.size w w1 → Calls Tryz.prog 63 #[.agg #[.string L[i].pk.nm, .int .i64 L[i].pk.a, .int .i64 L[i].pk.b, .int .i64 L[i].pk.c, v1, v2, v3]] w1 fun e w' => e = .returned (.bool (writtenB L[i].pk)) ∧ Below w1.heap.size w1 w') := fun w1 hb => by
    have := rMay_pk (hd.2.1.2.below hb) (hk.2 _ (List.getElem_mem hi)) hnd.1
    rw [doc_is] at this
    exact this
  have HF2 : Hid (∀ w1, Below w.heap.size w w1 → Calls Tryz.prog 18 #[.agg #[.slice (some ⟨g, o, none⟩) L.length cap], u] w1 fun e w' => e = .returned (.int .i64 (findV L L[i].pa)) ∧ Below w1.heap.size w1 w') := fun w1 hb => HF1.out w1 hb _ _ (hd.2.1.1.below hb)
  have HLP : Hid (∀ h : 0 < L[i].pa.length, lastP L[i].pa = L[i].pa[L[i].pa.length - 1]'(by omega)) := fun h => lastP_at h
  obtain ⟨ua, uc, rfl, huc, hux⟩ := hd.2.1.1.el
  have HLC : Hid (∀ n, L[i].pa.length = n + 1 → ∃ gu ou, ua = some ⟨gu, ou, none⟩ ∧ ∀ w1, Below w.heap.size w w1 → StIn w1 gu (ou + n) (lastP L[i].pa)) := fun n hn => by
    obtain ⟨gu, ou, e, hs⟩ := hux n (by omega)
    refine ⟨gu, ou, e, fun w1 hb => ?_⟩
    rw [HLP.out (by omega)]
    have : L[i].pa[L[i].pa.length - 1]'(by omega) = L[i].pa[n]'(by omega) := by congr 1; omega
    rw [this]
    exact hs.below hb
  obtain ⟨a1, c1, rfl⟩ := hd.2.1.2.1.sl
  obtain ⟨a2, c2, rfl⟩ := hd.2.1.2.2.1.sl
  obtain ⟨a3, c3, rfl⟩ := hd.2.1.2.2.2.sl
  obtain ⟨⟨d0, d1, d2, d3, d4, d5, d6, d7, d8⟩, _, dg⟩ := hd
  have hbt := boxB w (.cells #[.slice (some ⟨g, o, none⟩) L.length cap] 24)
  have r0 := (hbt.cell (p := ⟨g, o + i * 9, none⟩) dg).trans d0
  have r1 := (hbt.cell (p := ⟨g, o + i * 9 + 1, none⟩) dg).trans d1
  have r2 := (hbt.cell (p := ⟨g, o + i * 9 + 2, none⟩) dg).trans d2
  have r3 := (hbt.cell (p := ⟨g, o + i * 9 + 3, none⟩) dg).trans d3
  have r4 := (hbt.cell (p := ⟨g, o + i * 9 + 4, none⟩) dg).trans d4
  have r5 := (hbt.cell (p := ⟨g, o + i * 9 + 5, none⟩) dg).trans d5
  have r6 := (hbt.cell (p := ⟨g, o + i * 9 + 6, none⟩) dg).trans d6
  have r7 := (hbt.cell (p := ⟨g, o + i * 9 + 7, none⟩) dg).trans d7
  have r8 := (hbt.cell (p := ⟨g, o + i * 9 + 8, none⟩) dg).trans d8
  clear d0 d1 d2 d3 d4 d5 d6 d7 d8 hbt hsl h hk hn hnd hux HLP HF1
  have HMB : Hid (mayPaB L[i].pa = (decide (0 < L[i].pa.length) && namesB L[i].pa && decide ((textN L[i].pa).length ≤ 1024))) := rfl
  have HT1 : Hid (L[i].pa.length = 0 → textPa L[i].pa = ⟨#[47]⟩) := fun e => by rw [List.eq_nil_of_length_eq_zero e]; rfl
  have HT2 : Hid (0 < L[i].pa.length → namesB L[i].pa = false → textPa L[i].pa = ⟨#[]⟩) := fun hp e => by unfold textPa; rw [if_neg (List.length_pos_iff.1 hp), if_neg (by rw [e]; simp)]
  have HT3 : Hid (0 < L[i].pa.length → namesB L[i].pa = true → textPa L[i].pa = textBA L[i].pa ∧ (textBA L[i].pa).toList.isEmpty = false) := fun hp e => by
    refine ⟨by unfold textPa; rw [if_neg (List.length_pos_iff.1 hp), if_pos e]; rfl, ?_⟩
    obtain ⟨s, r, hsr⟩ : ∃ s r, L[i].pa = s :: r := by
      cases hq : L[i].pa with
      | nil => rw [hq] at hp; simp at hp
      | cons s r => exact ⟨s, r, rfl⟩
    rw [hsr, ByteArray.toList_eq]
    simp [textBA, textN, modS]
  have HTZ : Hid ((textBA L[i].pa).size = (textN L[i].pa).length) := textBA_size _
  have HG2 := hide3 (findV_ge L (L[i].pa.take (L[i].pa.length - 1)))
  generalize follI L i = rb at *
  generalize findV L (L[i].pa.take (L[i].pa.length - 1)) = f2 at *
  generalize findV L L[i].pa = f1 at *
  generalize writtenB L[i].pk = b4 at *
  generalize lastP L[i].pa = ls at *
  generalize mayPaB L[i].pa = b1 at *
  generalize namesB L[i].pa = nb at *
  generalize (textN L[i].pa).length = tl at *
  generalize textPa L[i].pa = tx at *
  generalize textBA L[i].pa = tb at *
  generalize L[i].pa.length = n at *
  generalize L[i].pk.d.length = l1 at *
  generalize L[i].pk.p.length = l2 at *
  generalize L[i].pk.o.length = l3 at *
  generalize L[i].pk.nm = s at *
  generalize L[i].pk.a = a at *
  generalize L[i].pk.b = b at *
  generalize L[i].pk.c = c at *
  generalize L[i].nd = nd at *
  have HK : Hid (KeepP fun w1 => Below w.heap.size w w1 ∧ BxT w1 w.heap.size (.slice (some ⟨g, o, none⟩) L.length cap) ∧ BxDr w1 (w.heap.size + 1) (.slice ua n uc) s a b c (.slice a1 l1 c1) (.slice a2 l2 c2) (.slice a3 l3 c3) nd) := (keepBelow w).and ((keepBxT _ _).and (keepBxDr _ _ _ _ _ _ _ _ _ _))
  have HO0 : Hid (Below w.heap.size w ((w.alloc (.cells #[.slice (some ⟨g, o, none⟩) L.length cap] 24)).alloc (.cells #[.slice ua n uc, .string s, .int .i64 a, .int .i64 b, .int .i64 c, .slice a1 l1 c1, .slice a2 l2 c2, .slice a3 l3 c3, .int .i64 nd] 46)) ∧ BxT ((w.alloc (.cells #[.slice (some ⟨g, o, none⟩) L.length cap] 24)).alloc (.cells #[.slice ua n uc, .string s, .int .i64 a, .int .i64 b, .int .i64 c, .slice a1 l1 c1, .slice a2 l2 c2, .slice a3 l3 c3, .int .i64 nd] 46)) w.heap.size (.slice (some ⟨g, o, none⟩) L.length cap) ∧ BxDr ((w.alloc (.cells #[.slice (some ⟨g, o, none⟩) L.length cap] 24)).alloc (.cells #[.slice ua n uc, .string s, .int .i64 a, .int .i64 b, .int .i64 c, .slice a1 l1 c1, .slice a2 l2 c2, .slice a3 l3 c3, .int .i64 nd] 46)) (w.heap.size + 1) (.slice ua n uc) s a b c (.slice a1 l1 c1) (.slice a2 l2 c2) (.slice a3 l3 c3) nd) := ⟨boxB2 _ _ _, keepBxT _ _ _ _ (BxT.new _ _) (boxB _ _), BxDr.new (by simp) _ _ _ _ _ _ _ _ _⟩
  rcases Nat.eq_zero_or_pos n with hn0 | hn0
  · have hb : b1 = false := by rw [HMB.out, hn0]; rfl
    rw [hb] at HFS
    rw [HT1.out hn0] at HTX
    subst hn0
    go_enter Tryz.func32, Tryz.ntmps32
    go_wp2_with (first | (go_at_call 16; refine (HTX.out _ HO0.out.1).mono ?_; rintro e w3 ⟨rfl, ok⟩; have HB3 := hide3 (HK.out _ _ HO0.out ok); obtain ⟨_, ⟨x0, x1⟩, ⟨⟨y0, y1, y2, y3, y4, y5, y6, y7, y8⟩, y9⟩⟩ := HB3.out; clear ok r0 r1 r2 r3 r4 r5 r6 r7 r8))
    go_ret
    exact ⟨ret_bool (by rw [HFS.out]; simp), HB3.out.1⟩
  · have hni : ((n : Int) == 0) = false := by rw [beq_eq_false_iff_ne]; omega
    cases nb
    · have hb : b1 = false := by rw [HMB.out]; simp
      rw [hb] at HFS
      rw [HT2.out hn0 rfl] at HTX
      go_enter Tryz.func32, Tryz.ntmps32
      go_wp2_with (first | (go_at_call 16; refine (HTX.out _ HO0.out.1).mono ?_; rintro e w3 ⟨rfl, ok⟩; have HB3 := hide3 (HK.out _ _ HO0.out ok); obtain ⟨_, ⟨x0, x1⟩, ⟨⟨y0, y1, y2, y3, y4, y5, y6, y7, y8⟩, y9⟩⟩ := HB3.out; clear ok r0 r1 r2 r3 r4 r5 r6 r7 r8))
      go_ret
      exact ⟨ret_bool (by rw [HFS.out]; simp), HB3.out.1⟩
    · obtain ⟨htx, hte⟩ := HT3.out hn0 rfl
      rw [htx] at HTX
      by_cases hlen : tl ≤ 1024
      · have hb : b1 = true := by rw [HMB.out, decide_eq_true hn0, decide_eq_true hlen]; rfl
        rw [hb] at HFS
        have hl1 : decide ((tb.size : Int) > 1024) = false := decide_eq_false (by rw [HTZ.out]; omega)
        have hl2 : ¬ ((tb.size : Int) > 1024) := by rw [HTZ.out]; omega
        by_cases hd : 0 < nd
        · rw [decide_eq_true hd] at HFS
          have hd2 : ¬ (nd < 1) := by omega
          have hd3 : decide (nd < 1) = false := decide_eq_false hd2
          by_cases hf : f1 = (i : Int)
          · rw [decide_eq_true hf] at HFS
            subst hf
            have HPR2 := hide3 (HPR.out hn0)
            obtain ⟨n, rfl⟩ : ∃ m, n = m + 1 := ⟨n - 1, by omega⟩
            obtain ⟨gu, ou, rfl, hls⟩ := HLC.out n rfl
            have HLS := hide3 hls
            have hwn : IntKind.i64.wrap (n : Int) = n := wrapN (by omega)
            have hix1 : n < n + 1 := by omega
            have hix2 : (n : Int) < (n : Int) + 1 := by omega
            have hix3 : 0 ≤ (n : Int) := by omega
            clear hls
            rcases (show f2 = -1 ∨ 0 ≤ f2 by have := HG2.out; omega) with h2 | h2
            · subst h2
              go_enter Tryz.func32, Tryz.ntmps32
              go_wp2_with (first | (go_at_call 16; refine (HTX.out _ HO0.out.1).mono ?_; rintro e w3 ⟨rfl, ok⟩; have HB3 := hide3 (HK.out _ _ HO0.out ok); obtain ⟨_, ⟨x0, x1⟩, ⟨⟨y0, y1, y2, y3, y4, y5, y6, y7, y8⟩, y9⟩⟩ := HB3.out; clear ok r0 r1 r2 r3 r4 r5 r6 r7 r8) | (have _h := HB3; go_at_call 18; refine (HF2.out _ HB3.out.1).mono ?_; rintro e w4 ⟨rfl, ok⟩; have HB4 := hide3 (HK.out _ _ HB3.out ok); clear x0 x1 y0 y1 y2 y3 y4 y5 y6 y7 y8 y9; obtain ⟨_, ⟨x0, x1⟩, ⟨⟨y0, y1, y2, y3, y4, y5, y6, y7, y8⟩, y9⟩⟩ := HB4.out; clear ok) | (have _h := HB4; go_at_call 20; refine (HPR2.out _ HB4.out.1).mono ?_; rintro e w5 ⟨rfl, ok⟩; have HB5 := hide3 (HK.out _ _ HB4.out ok); clear x0 x1 y0 y1 y2 y3 y4 y5 y6 y7 y8 y9; obtain ⟨_, ⟨x0, x1⟩, ⟨⟨y0, y1, y2, y3, y4, y5, y6, y7, y8⟩, y9⟩⟩ := HB5.out; clear ok) | (have _h := HB5; go_at_call 63; refine (HMY.out _ HB5.out.1).mono ?_; rintro e w6 ⟨rfl, ok⟩; have HB6 := hide3 (HK.out _ _ HB5.out ok); clear x0 x1 y0 y1 y2 y3 y4 y5 y6 y7 y8 y9; obtain ⟨_, ⟨x0, x1⟩, ⟨⟨y0, y1, y2, y3, y4, y5, y6, y7, y8⟩, y9⟩⟩ := HB6.out; clear ok))
              clear x0 x1 y0 y1 y2 y3 y4 y5 y6 y7 y8 y9
              have HK2 := HK
              clear HK
              have HK : Hid (KeepP fun w1 => (Below w.heap.size w w1 ∧ BxT w1 w.heap.size (.slice (some ⟨g, o, none⟩) L.length cap) ∧ BxDr w1 (w.heap.size + 1) (.slice (some ⟨gu, ou, none⟩) (n + 1) uc) s a b c (.slice a1 l1 c1) (.slice a2 l2 c2) (.slice a3 l3 c3) nd) ∧ StIn w1 gu (ou + n) ls) := HK2.out.and (keepStIn _ _ _)
              have HO : Hid ((Below w.heap.size w w6 ∧ BxT w6 w.heap.size (.slice (some ⟨g, o, none⟩) L.length cap) ∧ BxDr w6 (w.heap.size + 1) (.slice (some ⟨gu, ou, none⟩) (n + 1) uc) s a b c (.slice a1 l1 c1) (.slice a2 l2 c2) (.slice a3 l3 c3) nd) ∧ StIn w6 gu (ou + n) ls) := ⟨HB6.out, HLS.out _ HB6.out.1⟩
              refine wp_region_keep HK.out (by kernel_rfl) (by kernel_rfl) (by first | exact HO.out | exact HK.out.drew HO.out) ?_
              intro C hin hout
              have HIN := hide3 hin
              have HOUT := hide3 hout
              clear hin hout HO
              repeat
                (with_reducible refine wpQuiet_step (fun K hK => ?_)
                 go_simp
                 first
                   | (refine hK _ ?_; clear hK K)
                   | (apply Exists.intro; refine ⟨fun w1 hC => ?_, hK _ ?_⟩; (focus ((first | (exact rfl) | (obtain ⟨⟨hb1, ⟨x0, x1⟩, ⟨⟨y0, y1, y2, y3, y4, y5, y6, y7, y8⟩, y9⟩⟩, ⟨l0, l9⟩⟩ := HOUT.out w1 hC; clear hC; go_simp; first | done | exact rfl)); done)); clear hK K))
              refine wpQuiet_nil ?_
              intro wn hC
              have HO := hide3 (HOUT.out _ hC)
              clear hC HIN HOUT C
              obtain ⟨⟨hb1, ⟨x0, x1⟩, ⟨⟨y0, y1, y2, y3, y4, y5, y6, y7, y8⟩, y9⟩⟩, ⟨l0, l9⟩⟩ := HO.out
              go_wp2
              go_ret
              exact ⟨ret_bool (by rw [HFS.out]; simp), HO.out.1.1⟩
            · have g2 : decide (f2 ≥ 0) = true := decide_eq_true h2
              rw [decide_eq_true h2] at HFS
              by_cases h3 : f2 < (i : Int)
              · rw [decide_eq_true h3] at HFS
                have h3d : decide (f2 < (i : Int)) = true := decide_eq_true h3
                cases b4
                · go_enter Tryz.func32, Tryz.ntmps32
                  go_wp2_with (first | (go_at_call 16; refine (HTX.out _ HO0.out.1).mono ?_; rintro e w3 ⟨rfl, ok⟩; have HB3 := hide3 (HK.out _ _ HO0.out ok); obtain ⟨_, ⟨x0, x1⟩, ⟨⟨y0, y1, y2, y3, y4, y5, y6, y7, y8⟩, y9⟩⟩ := HB3.out; clear ok r0 r1 r2 r3 r4 r5 r6 r7 r8) | (have _h := HB3; go_at_call 18; refine (HF2.out _ HB3.out.1).mono ?_; rintro e w4 ⟨rfl, ok⟩; have HB4 := hide3 (HK.out _ _ HB3.out ok); clear x0 x1 y0 y1 y2 y3 y4 y5 y6 y7 y8 y9; obtain ⟨_, ⟨x0, x1⟩, ⟨⟨y0, y1, y2, y3, y4, y5, y6, y7, y8⟩, y9⟩⟩ := HB4.out; clear ok) | (have _h := HB4; go_at_call 20; refine (HPR2.out _ HB4.out.1).mono ?_; rintro e w5 ⟨rfl, ok⟩; have HB5 := hide3 (HK.out _ _ HB4.out ok); clear x0 x1 y0 y1 y2 y3 y4 y5 y6 y7 y8 y9; obtain ⟨_, ⟨x0, x1⟩, ⟨⟨y0, y1, y2, y3, y4, y5, y6, y7, y8⟩, y9⟩⟩ := HB5.out; clear ok) | (have _h := HB5; go_at_call 63; refine (HMY.out _ HB5.out.1).mono ?_; rintro e w6 ⟨rfl, ok⟩; have HB6 := hide3 (HK.out _ _ HB5.out ok); clear x0 x1 y0 y1 y2 y3 y4 y5 y6 y7 y8 y9; obtain ⟨_, ⟨x0, x1⟩, ⟨⟨y0, y1, y2, y3, y4, y5, y6, y7, y8⟩, y9⟩⟩ := HB6.out; clear ok))
                  clear x0 x1 y0 y1 y2 y3 y4 y5 y6 y7 y8 y9
                  have HK2 := HK
                  clear HK
                  have HK : Hid (KeepP fun w1 => (Below w.heap.size w w1 ∧ BxT w1 w.heap.size (.slice (some ⟨g, o, none⟩) L.length cap) ∧ BxDr w1 (w.heap.size + 1) (.slice (some ⟨gu, ou, none⟩) (n + 1) uc) s a b c (.slice a1 l1 c1) (.slice a2 l2 c2) (.slice a3 l3 c3) nd) ∧ StIn w1 gu (ou + n) ls) := HK2.out.and (keepStIn _ _ _)
                  have HO : Hid ((Below w.heap.size w w6 ∧ BxT w6 w.heap.size (.slice (some ⟨g, o, none⟩) L.length cap) ∧ BxDr w6 (w.heap.size + 1) (.slice (some ⟨gu, ou, none⟩) (n + 1) uc) s a b c (.slice a1 l1 c1) (.slice a2 l2 c2) (.slice a3 l3 c3) nd) ∧ StIn w6 gu (ou + n) ls) := ⟨HB6.out, HLS.out _ HB6.out.1⟩
                  refine wp_region_keep HK.out (by kernel_rfl) (by kernel_rfl) (by first | exact HO.out | exact HK.out.drew HO.out) ?_
                  intro C hin hout
                  have HIN := hide3 hin
                  have HOUT := hide3 hout
                  clear hin hout HO
                  repeat
                    (with_reducible refine wpQuiet_step (fun K hK => ?_)
                     go_simp
                     first
                       | (refine hK _ ?_; clear hK K)
                       | (apply Exists.intro; refine ⟨fun w1 hC => ?_, hK _ ?_⟩; (focus ((first | (exact rfl) | (obtain ⟨⟨hb1, ⟨x0, x1⟩, ⟨⟨y0, y1, y2, y3, y4, y5, y6, y7, y8⟩, y9⟩⟩, ⟨l0, l9⟩⟩ := HOUT.out w1 hC; clear hC; go_simp; first | done | exact rfl)); done)); clear hK K))
                  refine wpQuiet_nil ?_
                  intro wn hC
                  have HO := hide3 (HOUT.out _ hC)
                  clear hC HIN HOUT C
                  obtain ⟨⟨hb1, ⟨x0, x1⟩, ⟨⟨y0, y1, y2, y3, y4, y5, y6, y7, y8⟩, y9⟩⟩, ⟨l0, l9⟩⟩ := HO.out
                  go_wp2
                  go_ret
                  exact ⟨ret_bool (by rw [HFS.out]; simp), HO.out.1.1⟩
                · by_cases h5 : s = ls
                  · have q3 : (s.toList == ls.toList) = true := by rw [h5]; simp
                    have q3b : (s.toList = ls.toList) = True := by rw [h5]; simp
                    rw [eqB_yes h5] at HFS
                    clear h5
                    go_enter Tryz.func32, Tryz.ntmps32
                    go_wp2_with (first | (go_at_call 16; refine (HTX.out _ HO0.out.1).mono ?_; rintro e w3 ⟨rfl, ok⟩; have HB3 := hide3 (HK.out _ _ HO0.out ok); obtain ⟨_, ⟨x0, x1⟩, ⟨⟨y0, y1, y2, y3, y4, y5, y6, y7, y8⟩, y9⟩⟩ := HB3.out; clear ok r0 r1 r2 r3 r4 r5 r6 r7 r8) | (have _h := HB3; go_at_call 18; refine (HF2.out _ HB3.out.1).mono ?_; rintro e w4 ⟨rfl, ok⟩; have HB4 := hide3 (HK.out _ _ HB3.out ok); clear x0 x1 y0 y1 y2 y3 y4 y5 y6 y7 y8 y9; obtain ⟨_, ⟨x0, x1⟩, ⟨⟨y0, y1, y2, y3, y4, y5, y6, y7, y8⟩, y9⟩⟩ := HB4.out; clear ok) | (have _h := HB4; go_at_call 20; refine (HPR2.out _ HB4.out.1).mono ?_; rintro e w5 ⟨rfl, ok⟩; have HB5 := hide3 (HK.out _ _ HB4.out ok); clear x0 x1 y0 y1 y2 y3 y4 y5 y6 y7 y8 y9; obtain ⟨_, ⟨x0, x1⟩, ⟨⟨y0, y1, y2, y3, y4, y5, y6, y7, y8⟩, y9⟩⟩ := HB5.out; clear ok) | (have _h := HB5; go_at_call 63; refine (HMY.out _ HB5.out.1).mono ?_; rintro e w6 ⟨rfl, ok⟩; have HB6 := hide3 (HK.out _ _ HB5.out ok); clear x0 x1 y0 y1 y2 y3 y4 y5 y6 y7 y8 y9; obtain ⟨_, ⟨x0, x1⟩, ⟨⟨y0, y1, y2, y3, y4, y5, y6, y7, y8⟩, y9⟩⟩ := HB6.out; clear ok))
                    clear x0 x1 y0 y1 y2 y3 y4 y5 y6 y7 y8 y9
                    have HK2 := HK
                    clear HK
                    have HK : Hid (KeepP fun w1 => (Below w.heap.size w w1 ∧ BxT w1 w.heap.size (.slice (some ⟨g, o, none⟩) L.length cap) ∧ BxDr w1 (w.heap.size + 1) (.slice (some ⟨gu, ou, none⟩) (n + 1) uc) s a b c (.slice a1 l1 c1) (.slice a2 l2 c2) (.slice a3 l3 c3) nd) ∧ StIn w1 gu (ou + n) ls) := HK2.out.and (keepStIn _ _ _)
                    have HO : Hid ((Below w.heap.size w w6 ∧ BxT w6 w.heap.size (.slice (some ⟨g, o, none⟩) L.length cap) ∧ BxDr w6 (w.heap.size + 1) (.slice (some ⟨gu, ou, none⟩) (n + 1) uc) s a b c (.slice a1 l1 c1) (.slice a2 l2 c2) (.slice a3 l3 c3) nd) ∧ StIn w6 gu (ou + n) ls) := ⟨HB6.out, HLS.out _ HB6.out.1⟩
                    refine wp_region_keep HK.out (by kernel_rfl) (by kernel_rfl) (by first | exact HO.out | exact HK.out.drew HO.out) ?_
                    intro C hin hout
                    have HIN := hide3 hin
                    have HOUT := hide3 hout
                    clear hin hout HO
                    repeat
                      (with_reducible refine wpQuiet_step (fun K hK => ?_)
                       go_simp
                       first
                         | (refine hK _ ?_; clear hK K)
                         | (apply Exists.intro; refine ⟨fun w1 hC => ?_, hK _ ?_⟩; (focus ((first | (exact rfl) | (obtain ⟨⟨hb1, ⟨x0, x1⟩, ⟨⟨y0, y1, y2, y3, y4, y5, y6, y7, y8⟩, y9⟩⟩, ⟨l0, l9⟩⟩ := HOUT.out w1 hC; clear hC; go_simp; first | done | exact rfl)); done)); clear hK K))
                    refine wpQuiet_nil ?_
                    intro wn hC
                    have HO := hide3 (HOUT.out _ hC)
                    clear hC HIN HOUT C
                    obtain ⟨⟨hb1, ⟨x0, x1⟩, ⟨⟨y0, y1, y2, y3, y4, y5, y6, y7, y8⟩, y9⟩⟩, ⟨l0, l9⟩⟩ := HO.out
                    go_wp2
                    go_ret
                    exact ⟨ret_bool (by rw [HFS.out]; simp), HO.out.1.1⟩
                  · have q3 : (s.toList == ls.toList) = false := by rw [beq_eq_false_iff_ne]; exact fun e => h5 (bytes_same e)
                    have q3b : (s.toList = ls.toList) = False := eq_false fun e => h5 (bytes_same e)
                    rw [eqB_no h5] at HFS
                    clear h5
                    go_enter Tryz.func32, Tryz.ntmps32
                    go_wp2_with (first | (go_at_call 16; refine (HTX.out _ HO0.out.1).mono ?_; rintro e w3 ⟨rfl, ok⟩; have HB3 := hide3 (HK.out _ _ HO0.out ok); obtain ⟨_, ⟨x0, x1⟩, ⟨⟨y0, y1, y2, y3, y4, y5, y6, y7, y8⟩, y9⟩⟩ := HB3.out; clear ok r0 r1 r2 r3 r4 r5 r6 r7 r8) | (have _h := HB3; go_at_call 18; refine (HF2.out _ HB3.out.1).mono ?_; rintro e w4 ⟨rfl, ok⟩; have HB4 := hide3 (HK.out _ _ HB3.out ok); clear x0 x1 y0 y1 y2 y3 y4 y5 y6 y7 y8 y9; obtain ⟨_, ⟨x0, x1⟩, ⟨⟨y0, y1, y2, y3, y4, y5, y6, y7, y8⟩, y9⟩⟩ := HB4.out; clear ok) | (have _h := HB4; go_at_call 20; refine (HPR2.out _ HB4.out.1).mono ?_; rintro e w5 ⟨rfl, ok⟩; have HB5 := hide3 (HK.out _ _ HB4.out ok); clear x0 x1 y0 y1 y2 y3 y4 y5 y6 y7 y8 y9; obtain ⟨_, ⟨x0, x1⟩, ⟨⟨y0, y1, y2, y3, y4, y5, y6, y7, y8⟩, y9⟩⟩ := HB5.out; clear ok) | (have _h := HB5; go_at_call 63; refine (HMY.out _ HB5.out.1).mono ?_; rintro e w6 ⟨rfl, ok⟩; have HB6 := hide3 (HK.out _ _ HB5.out ok); clear x0 x1 y0 y1 y2 y3 y4 y5 y6 y7 y8 y9; obtain ⟨_, ⟨x0, x1⟩, ⟨⟨y0, y1, y2, y3, y4, y5, y6, y7, y8⟩, y9⟩⟩ := HB6.out; clear ok))
                    clear x0 x1 y0 y1 y2 y3 y4 y5 y6 y7 y8 y9
                    have HK2 := HK
                    clear HK
                    have HK : Hid (KeepP fun w1 => (Below w.heap.size w w1 ∧ BxT w1 w.heap.size (.slice (some ⟨g, o, none⟩) L.length cap) ∧ BxDr w1 (w.heap.size + 1) (.slice (some ⟨gu, ou, none⟩) (n + 1) uc) s a b c (.slice a1 l1 c1) (.slice a2 l2 c2) (.slice a3 l3 c3) nd) ∧ StIn w1 gu (ou + n) ls) := HK2.out.and (keepStIn _ _ _)
                    have HO : Hid ((Below w.heap.size w w6 ∧ BxT w6 w.heap.size (.slice (some ⟨g, o, none⟩) L.length cap) ∧ BxDr w6 (w.heap.size + 1) (.slice (some ⟨gu, ou, none⟩) (n + 1) uc) s a b c (.slice a1 l1 c1) (.slice a2 l2 c2) (.slice a3 l3 c3) nd) ∧ StIn w6 gu (ou + n) ls) := ⟨HB6.out, HLS.out _ HB6.out.1⟩
                    refine wp_region_keep HK.out (by kernel_rfl) (by kernel_rfl) (by first | exact HO.out | exact HK.out.drew HO.out) ?_
                    intro C hin hout
                    have HIN := hide3 hin
                    have HOUT := hide3 hout
                    clear hin hout HO
                    repeat
                      (with_reducible refine wpQuiet_step (fun K hK => ?_)
                       go_simp
                       first
                         | (refine hK _ ?_; clear hK K)
                         | (apply Exists.intro; refine ⟨fun w1 hC => ?_, hK _ ?_⟩; (focus ((first | (exact rfl) | (obtain ⟨⟨hb1, ⟨x0, x1⟩, ⟨⟨y0, y1, y2, y3, y4, y5, y6, y7, y8⟩, y9⟩⟩, ⟨l0, l9⟩⟩ := HOUT.out w1 hC; clear hC; go_simp; first | done | exact rfl)); done)); clear hK K))
                    refine wpQuiet_nil ?_
                    intro wn hC
                    have HO := hide3 (HOUT.out _ hC)
                    clear hC HIN HOUT C
                    obtain ⟨⟨hb1, ⟨x0, x1⟩, ⟨⟨y0, y1, y2, y3, y4, y5, y6, y7, y8⟩, y9⟩⟩, ⟨l0, l9⟩⟩ := HO.out
                    go_wp2
                    go_ret
                    exact ⟨ret_bool (by rw [HFS.out]; simp), HO.out.1.1⟩
              · rw [decide_eq_false h3] at HFS
                have h3d : decide (f2 < (i : Int)) = false := decide_eq_false h3
                have h3p : (f2 < (i : Int)) = False := eq_false h3
                go_enter Tryz.func32, Tryz.ntmps32
                go_wp2_with (first | (go_at_call 16; refine (HTX.out _ HO0.out.1).mono ?_; rintro e w3 ⟨rfl, ok⟩; have HB3 := hide3 (HK.out _ _ HO0.out ok); obtain ⟨_, ⟨x0, x1⟩, ⟨⟨y0, y1, y2, y3, y4, y5, y6, y7, y8⟩, y9⟩⟩ := HB3.out; clear ok r0 r1 r2 r3 r4 r5 r6 r7 r8) | (have _h := HB3; go_at_call 18; refine (HF2.out _ HB3.out.1).mono ?_; rintro e w4 ⟨rfl, ok⟩; have HB4 := hide3 (HK.out _ _ HB3.out ok); clear x0 x1 y0 y1 y2 y3 y4 y5 y6 y7 y8 y9; obtain ⟨_, ⟨x0, x1⟩, ⟨⟨y0, y1, y2, y3, y4, y5, y6, y7, y8⟩, y9⟩⟩ := HB4.out; clear ok) | (have _h := HB4; go_at_call 20; refine (HPR2.out _ HB4.out.1).mono ?_; rintro e w5 ⟨rfl, ok⟩; have HB5 := hide3 (HK.out _ _ HB4.out ok); clear x0 x1 y0 y1 y2 y3 y4 y5 y6 y7 y8 y9; obtain ⟨_, ⟨x0, x1⟩, ⟨⟨y0, y1, y2, y3, y4, y5, y6, y7, y8⟩, y9⟩⟩ := HB5.out; clear ok) | (have _h := HB5; go_at_call 63; refine (HMY.out _ HB5.out.1).mono ?_; rintro e w6 ⟨rfl, ok⟩; have HB6 := hide3 (HK.out _ _ HB5.out ok); clear x0 x1 y0 y1 y2 y3 y4 y5 y6 y7 y8 y9; obtain ⟨_, ⟨x0, x1⟩, ⟨⟨y0, y1, y2, y3, y4, y5, y6, y7, y8⟩, y9⟩⟩ := HB6.out; clear ok))
                clear x0 x1 y0 y1 y2 y3 y4 y5 y6 y7 y8 y9
                have HK2 := HK
                clear HK
                have HK : Hid (KeepP fun w1 => (Below w.heap.size w w1 ∧ BxT w1 w.heap.size (.slice (some ⟨g, o, none⟩) L.length cap) ∧ BxDr w1 (w.heap.size + 1) (.slice (some ⟨gu, ou, none⟩) (n + 1) uc) s a b c (.slice a1 l1 c1) (.slice a2 l2 c2) (.slice a3 l3 c3) nd) ∧ StIn w1 gu (ou + n) ls) := HK2.out.and (keepStIn _ _ _)
                have HO : Hid ((Below w.heap.size w w6 ∧ BxT w6 w.heap.size (.slice (some ⟨g, o, none⟩) L.length cap) ∧ BxDr w6 (w.heap.size + 1) (.slice (some ⟨gu, ou, none⟩) (n + 1) uc) s a b c (.slice a1 l1 c1) (.slice a2 l2 c2) (.slice a3 l3 c3) nd) ∧ StIn w6 gu (ou + n) ls) := ⟨HB6.out, HLS.out _ HB6.out.1⟩
                refine wp_region_keep HK.out (by kernel_rfl) (by kernel_rfl) (by first | exact HO.out | exact HK.out.drew HO.out) ?_
                intro C hin hout
                have HIN := hide3 hin
                have HOUT := hide3 hout
                clear hin hout HO
                repeat
                  (with_reducible refine wpQuiet_step (fun K hK => ?_)
                   go_simp
                   first
                     | (refine hK _ ?_; clear hK K)
                     | (apply Exists.intro; refine ⟨fun w1 hC => ?_, hK _ ?_⟩; (focus ((first | (exact rfl) | (obtain ⟨⟨hb1, ⟨x0, x1⟩, ⟨⟨y0, y1, y2, y3, y4, y5, y6, y7, y8⟩, y9⟩⟩, ⟨l0, l9⟩⟩ := HOUT.out w1 hC; clear hC; go_simp; first | done | exact rfl)); done)); clear hK K))
                refine wpQuiet_nil ?_
                intro wn hC
                have HO := hide3 (HOUT.out _ hC)
                clear hC HIN HOUT C
                obtain ⟨⟨hb1, ⟨x0, x1⟩, ⟨⟨y0, y1, y2, y3, y4, y5, y6, y7, y8⟩, y9⟩⟩, ⟨l0, l9⟩⟩ := HO.out
                go_wp2
                go_ret
                exact ⟨ret_bool (by rw [HFS.out]; simp), HO.out.1.1⟩
          · rw [decide_eq_false hf] at HFS
            have hf2 : (f1 == (i : Int)) = false := by rw [beq_eq_false_iff_ne]; exact hf
            have hf3 : (f1 != (i : Int)) = true := by rw [bne, hf2]; rfl
            go_enter Tryz.func32, Tryz.ntmps32
            go_wp2_with (first | (go_at_call 16; refine (HTX.out _ HO0.out.1).mono ?_; rintro e w3 ⟨rfl, ok⟩; have HB3 := hide3 (HK.out _ _ HO0.out ok); obtain ⟨_, ⟨x0, x1⟩, ⟨⟨y0, y1, y2, y3, y4, y5, y6, y7, y8⟩, y9⟩⟩ := HB3.out; clear ok r0 r1 r2 r3 r4 r5 r6 r7 r8) | (have _h := HB3; go_at_call 18; refine (HF2.out _ HB3.out.1).mono ?_; rintro e w4 ⟨rfl, ok⟩; have HB4 := hide3 (HK.out _ _ HB3.out ok); clear x0 x1 y0 y1 y2 y3 y4 y5 y6 y7 y8 y9; obtain ⟨_, ⟨x0, x1⟩, ⟨⟨y0, y1, y2, y3, y4, y5, y6, y7, y8⟩, y9⟩⟩ := HB4.out; clear ok))
            go_ret
            exact ⟨ret_bool (by rw [HFS.out]; simp), HB4.out.1⟩
        · rw [decide_eq_false hd] at HFS
          have hd2 : nd < 1 := by omega
          have hd3 : decide (nd < 1) = true := decide_eq_true hd2
          go_enter Tryz.func32, Tryz.ntmps32
          go_wp2_with (first | (go_at_call 16; refine (HTX.out _ HO0.out.1).mono ?_; rintro e w3 ⟨rfl, ok⟩; have HB3 := hide3 (HK.out _ _ HO0.out ok); obtain ⟨_, ⟨x0, x1⟩, ⟨⟨y0, y1, y2, y3, y4, y5, y6, y7, y8⟩, y9⟩⟩ := HB3.out; clear ok r0 r1 r2 r3 r4 r5 r6 r7 r8))
          go_ret
          exact ⟨ret_bool (by rw [HFS.out]; simp), HB3.out.1⟩
      · have hb : b1 = false := by rw [HMB.out, decide_eq_false hlen]; simp
        rw [hb] at HFS
        have hl1 : decide ((tb.size : Int) > 1024) = true := decide_eq_true (by rw [HTZ.out]; omega)
        have hl2 : ((tb.size : Int) > 1024) := by rw [HTZ.out]; omega
        go_enter Tryz.func32, Tryz.ntmps32
        go_wp2_with (first | (go_at_call 16; refine (HTX.out _ HO0.out.1).mono ?_; rintro e w3 ⟨rfl, ok⟩; have HB3 := hide3 (HK.out _ _ HO0.out ok); obtain ⟨_, ⟨x0, x1⟩, ⟨⟨y0, y1, y2, y3, y4, y5, y6, y7, y8⟩, y9⟩⟩ := HB3.out; clear ok r0 r1 r2 r3 r4 r5 r6 r7 r8))
        go_ret
        exact ⟨ret_bool (by rw [HFS.out]; simp), HB3.out.1⟩
end Go.Proofs.YtcclfaioicklaaaGreatDoor
namespace Go.Proofs.YtcclfaioicklaaaGreatDoor
open Go.Shelf Go.RowKit Go.Lib Go.Sort
set_option maxRecDepth 100000

/-- What Parent answers. -/
noncomputable def parV (L : List Dr) (k : Int) : Int := if 0 ≤ k ∧ k < L.length ∧ 0 < (paN L k.toNat).length then findV L ((paN L k.toNat).take ((paN L k.toNat).length - 1)) else -1
theorem parV_in {L : List Dr} {a : Nat} (ha : a < L.length) (h : 0 < L[a].pa.length) : parV L a = findV L (L[a].pa.take (L[a].pa.length - 1)) := by
  unfold parV
  have e : paN L (a : Int).toNat = L[a].pa := by rw [Int.toNat_natCast]; exact paN_at ha
  rw [e, if_pos ⟨by omega, by omega, h⟩]
theorem parV_root {L : List Dr} {a : Nat} (ha : a < L.length) (h : L[a].pa.length = 0) : parV L a = -1 := by
  unfold parV
  have e : paN L (a : Int).toNat = L[a].pa := by rw [Int.toNat_natCast]; exact paN_at ha
  rw [e, if_neg (fun q => by have := q.2.2; omega)]
theorem parV_out {L : List Dr} {k : Int} (h : ¬ (0 ≤ k ∧ k < L.length)) : parV L k = -1 := if_neg fun q => h ⟨q.1, q.2.1⟩

set_option maxHeartbeats 1600000 in
theorem tParent_in {L : List Dr} {v : Value} {w : World} (h : DirsAt w v L) (hz : L.length ≤ 9223372036854775807) (hf : FitD L) {a : Nat} (ha : a < L.length) :
    Calls Tryz.prog 19 #[.agg #[v], .int .i64 a] w fun e w' => e = .returned (.int .i64 (parV L a)) ∧ Below w.heap.size w w' := by
  have HFD : Hid (∀ w1, Below w.heap.size w w1 → ∀ vp p, PathAt w1 vp p → Calls Tryz.prog 17 #[.agg #[v], vp] w1 fun e w' => e = .returned (.int .i64 (findV L p)) ∧ Below w1.heap.size w1 w') := fun w1 hb vp p hp => tFind_any (h.below hb) hz hf hp
  obtain ⟨ad, cap, rfl, hc, hsl⟩ := h.sl
  obtain ⟨g, o, rfl, u, v1, v2, v3, hd⟩ := hsl a ha
  have HIP : Hid (∀ w1, Calls Tryz.prog 41 #[.agg #[.slice (some ⟨g, o, none⟩) L.length cap], .int .i64 a] w1 fun e w' => e = .returned (.bool true) ∧ Below w1.heap.size w1 w') := fun w1 => by
    have q := isPlace_any (L := L) (v := .slice (some ⟨g, o, none⟩) L.length cap) (w := w1) ⟨_, _, rfl⟩ (a : Int)
    rw [decide_eq_true (show (0 : Int) ≤ a ∧ (a : Int) < L.length by omega)] at q
    exact q
  obtain ⟨ua, uc, rfl, huc, _⟩ := hd.2.1.1.el
  have hai : (a : Int) < L.length := by omega
  have HBX : Hid (∀ w1, Below (w.alloc (.cells #[.slice (some ⟨g, o, none⟩) L.length cap] 24)).heap.size (w.alloc (.cells #[.slice (some ⟨g, o, none⟩) L.length cap] 24)) w1 → BxT w1 w.heap.size (.slice (some ⟨g, o, none⟩) L.length cap) ∧ DrIn w1 g (o + a * 9) L[a] (.slice ua L[a].pa.length uc) v1 v2 v3) := fun w1 hb => ⟨keepBxT _ _ _ _ (BxT.new _ _) hb, (hd.below (boxB _ _)).below hb⟩
  have HB0 : Hid (Below w.heap.size w (w.alloc (.cells #[.slice (some ⟨g, o, none⟩) L.length cap] 24))) := boxB _ _
  rcases Nat.eq_zero_or_pos L[a].pa.length with h0 | h0
  · have HR : Hid (parV L a = -1) := parV_root ha h0
    rw [h0] at HBX
    rw [HR.out]
    clear h hsl hd hf HFD huc h0 HR
    go_enter Tryz.func19, Tryz.ntmps19
    go_wp2_with (go_at_call 41; refine (HIP.out _).mono ?_; rintro e w1 ⟨rfl, ok⟩; have HB1 := hide3 (below_then HB0.out ok); obtain ⟨⟨b0, b1⟩, ⟨d0, _⟩, _, d9⟩ := HBX.out _ ok; clear ok)
    go_ret
    exact ⟨rfl, HB1.out⟩
  · have HR : Hid (parV L a = findV L (L[a].pa.take (L[a].pa.length - 1))) := parV_in ha h0
    have HAB := hide3 (above_any (ad := ua) (cap := uc) h0 huc (hf _ (List.getElem_mem ha)))
    have HC : Hid (∀ w1, Below w.heap.size w w1 → Calls Tryz.prog 17 #[.agg #[.slice (some ⟨g, o, none⟩) L.length cap], .slice ua (L[a].pa.length - 1) uc] w1 fun e w' => e = .returned (.int .i64 (findV L (L[a].pa.take (L[a].pa.length - 1)))) ∧ Below w1.heap.size w1 w') := fun w1 hb => HFD.out w1 hb _ _ ((hd.2.1.1.cut (k := L[a].pa.length - 1) (by omega)).below hb)
    rw [HR.out]
    have hni : ((L[a].pa.length : Int) == 0) = false := by rw [beq_eq_false_iff_ne]; omega
    clear h hsl hd hf HFD huc HR
    generalize findV L (L[a].pa.take (L[a].pa.length - 1)) = f at *
    generalize hm : L[a].pa.length - 1 = m at *
    clear hm
    go_enter Tryz.func19, Tryz.ntmps19
    go_wp2_with (go_at_call 41; refine (HIP.out _).mono ?_; rintro e w1 ⟨rfl, ok⟩; have HB1 := hide3 ok; obtain ⟨⟨b0, b1⟩, ⟨d0, _⟩, _, d9⟩ := HBX.out _ ok; clear ok)
    have HK : Hid (KeepP fun w2 => Below w1.heap.size w1 w2 ∧ BxT w2 w.heap.size (.slice (some ⟨g, o, none⟩) L.length cap) ∧ DrIn w2 g (o + a * 9) L[a] (.slice ua L[a].pa.length uc) v1 v2 v3) := (keepBelow w1).and ((keepBxT _ _).and (keepDr _ _ _ _ _ _ _))
    have HO : Hid (Below w1.heap.size w1 w1 ∧ BxT w1 w.heap.size (.slice (some ⟨g, o, none⟩) L.length cap) ∧ DrIn w1 g (o + a * 9) L[a] (.slice ua L[a].pa.length uc) v1 v2 v3) := ⟨Below.refl _ _, HBX.out _ HB1.out⟩
    have HBW : Hid (Below w.heap.size w w1) := below_then HB0.out HB1.out
    clear b0 b1 d0 d9
    refine wp_region_keep HK.out (by kernel_rfl) (by kernel_rfl) (by first | exact HO.out | exact HK.out.drew HO.out) ?_
    intro C hin hout
    have HIN := hide3 hin
    have HOUT := hide3 hout
    clear hin hout HO
    repeat
      (with_reducible refine wpQuiet_step (fun K hK => ?_)
       go_simp
       first
         | (refine hK _ ?_; clear hK K)
         | (apply Exists.intro; refine ⟨fun w1 hC => ?_, hK _ ?_⟩; (focus ((first | (go_at_call 17; with_reducible exact callC' HIN.out HOUT.out HK.out (fun w1 hk => HC.out w1 (below_then HBW.out hk.1)) w1 hC) | (go_at_call 42; with_reducible exact callC' HIN.out HOUT.out HK.out (fun w1 _ => HAB.out w1) w1 hC) | (exact rfl) | (obtain ⟨hb1, ⟨b0, b1⟩, ⟨⟨p0, _⟩, _, p9⟩⟩ := HOUT.out w1 hC; clear hC; go_simp; first | done | exact rfl)); done)); clear hK K))
    refine wpQuiet_nil ?_
    intro wn hC
    have HO := hide3 (HOUT.out _ hC)
    clear hC HIN HOUT C
    obtain ⟨hb1, ⟨b0, b1⟩, ⟨⟨p0, _⟩, _, p9⟩⟩ := HO.out
    go_wp2
    go_ret
    exact ⟨rfl, below_then HBW.out HO.out.1⟩

theorem tParent_any {L : List Dr} {v : Value} {w : World} (h : DirsAt w v L) (hz : L.length ≤ 9223372036854775807) (hf : FitD L) (k : Int) :
    Calls Tryz.prog 19 #[.agg #[v], .int .i64 k] w fun e w' => e = .returned (.int .i64 (parV L k)) ∧ Below w.heap.size w w' := by
  by_cases hk : 0 ≤ k ∧ k < L.length
  · obtain ⟨a, rfl⟩ : ∃ a : Nat, k = a := ⟨k.toNat, by omega⟩
    exact tParent_in h hz hf (by omega)
  · have HIP : Hid (∀ w1, Calls Tryz.prog 41 #[.agg #[v], .int .i64 k] w1 fun e w' => e = .returned (.bool false) ∧ Below w1.heap.size w1 w') := fun w1 => by
      obtain ⟨ad, cap, e, _⟩ := h.sl
      have q := isPlace_any (L := L) (v := v) (w := w1) ⟨_, _, e⟩ k
      rw [decide_eq_false hk] at q
      exact q
    rw [parV_out hk]
    obtain ⟨ad, cap, rfl, hx⟩ := h.sl
    clear h hf hx hk hz
    generalize L.length = n at *
    go_enter Tryz.func19, Tryz.ntmps19
    go_wp2_with (go_at_call 41; refine (HIP.out _).mono ?_; rintro e w1 ⟨rfl, ok⟩; have HB1 := hide3 (below_then (boxB _ _) ok); clear ok)
    go_ret
    exact ⟨rfl, HB1.out⟩

/-- In a tree that may be each directory but the root stands in just one, ahead of it. -/
theorem check_above {L : List Dr} (hc : checkB L = true) : L.length ≤ 257 ∧ (∀ i (hi : i < L.length), findV L L[i].pa = i) ∧ (∀ i (hi : i < L.length), i = 0 ↔ L[i].pa.length = 0) ∧ ∀ i (hi : i < L.length), i ≠ 0 → ∃ p, p < i ∧ findV L (L[i].pa.take (L[i].pa.length - 1)) = (p : Nat) := by
  obtain ⟨⟨h0, h257⟩, hr, hall⟩ := checkB_iff.1 hc
  rw [rootL_at h0] at hr
  unfold rootB at hr
  rw [Bool.and_eq_true, Bool.and_eq_true, decide_eq_true_iff] at hr
  have hfol : ∀ i (hi : i < L.length), i ≠ 0 → mayPaB L[i].pa = true ∧ findV L L[i].pa = i ∧ 0 ≤ findV L (L[i].pa.take (L[i].pa.length - 1)) ∧ findV L (L[i].pa.take (L[i].pa.length - 1)) < i := fun i hi hne => by
    have q := hall i hi hne
    rw [foll_stand hi] at q
    simp only [Bool.and_eq_true, decide_eq_true_eq] at q
    exact ⟨q.1.1.1.1.1, q.1.2, q.2.1, q.2.2⟩
  refine ⟨h257, fun i hi => ?_, fun i hi => ?_, fun i hi hne => ?_⟩
  · by_cases hne : i = 0
    · subst hne
      exact findV_at (k := 0) hi rfl (fun j hj => by omega)
    · exact (hfol i hi hne).2.1
  · constructor
    · intro e
      subst e
      exact hr.1.1
    · intro e
      by_cases hne : i = 0
      · exact hne
      · have := mayPa_pos (hfol i hi hne).1
        omega
  · obtain ⟨_, _, q1, q2⟩ := hfol i hi hne
    exact ⟨(findV L (L[i].pa.take (L[i].pa.length - 1))).toNat, by omega, by omega⟩
/-- The place in whose modules one stands. -/
noncomputable def parN (L : List Dr) (x : Nat) : Nat := (findV L ((paN L x).take ((paN L x).length - 1))).toNat
theorem above_iff {L : List Dr} (hc : checkB L = true) {x i : Nat} (hx : x < L.length) (hi : i < L.length) : stB (paN L x) (paN L i) = true ↔ x ≠ 0 ∧ parN L x = i := by
  obtain ⟨_, h1, h2, h3⟩ := check_above hc
  rw [stB_iff, paN_at hx, paN_at hi]
  constructor
  · rintro ⟨hp, e⟩
    have hne : x ≠ 0 := fun q => by have := (h2 x hx).1 q; omega
    refine ⟨hne, ?_⟩
    unfold parN
    rw [paN_at hx, e, h1 i hi, Int.toNat_natCast]
  · rintro ⟨hne, e⟩
    have hp : 0 < L[x].pa.length := Nat.pos_of_ne_zero fun q => hne ((h2 x hx).2 q)
    refine ⟨hp, ?_⟩
    obtain ⟨p, hpx, hpe⟩ := h3 x hx hne
    unfold parN at e
    rw [paN_at hx, hpe, Int.toNat_natCast] at e
    subst e
    rcases findV_or L (L[x].pa.take (L[x].pa.length - 1)) with ⟨q, _⟩ | ⟨k, hk, q, r, _⟩
    · rw [q] at hpe; omega
    · have : k = p := by rw [q] at hpe; omega
      subst this
      exact r.symm
theorem above_lt {L : List Dr} (hc : checkB L = true) {x : Nat} (hx : x < L.length) (hne : x ≠ 0) : parN L x < x ∧ parV L x = parN L x := by
  obtain ⟨_, h1, h2, h3⟩ := check_above hc
  obtain ⟨p, hpx, hpe⟩ := h3 x hx hne
  have e : parN L x = p := by unfold parN; rw [paN_at hx, hpe, Int.toNat_natCast]
  have hp : 0 < L[x].pa.length := Nat.pos_of_ne_zero fun q => hne ((h2 x hx).2 q)
  rw [e, parV_in hx hp, hpe]
  exact ⟨hpx, rfl⟩

/-- Marks: 1 where something holds. -/
def snL (n : Nat) (p : Nat → Bool) : List Nat := (List.range n).map fun x => if p x = true then 1 else 0
theorem snL_len (n : Nat) (p : Nat → Bool) : (snL n p).length = n := by simp [snL]
theorem snL_get {n : Nat} {p : Nat → Bool} {x : Nat} (h : x < n) : (snL n p)[x]'(by rw [snL_len]; exact h) = if p x = true then 1 else 0 := by simp [snL]
theorem snL_set {n : Nat} {p q : Nat → Bool} {x : Nat} (hq : q x = true) (he : ∀ y, y < n → y ≠ x → q y = p y) : (snL n p).set x 1 = snL n q := by
  apply List.ext_getElem
  · rw [List.length_set, snL_len, snL_len]
  · intro y h1 h2
    rw [snL_len] at h2
    rw [List.getElem_set]
    by_cases e : x = y
    · subst e
      rw [if_pos rfl, snL_get h2, hq, if_pos rfl]
    · rw [if_neg e, snL_get h2, snL_get h2, he y h2 (fun q => e q.symm)]
theorem snL_same {n : Nat} {p q : Nat → Bool} (h : ∀ y, y < n → q y = p y) : snL n p = snL n q := by
  apply List.ext_getElem
  · rw [snL_len, snL_len]
  · intro y h1 h2
    rw [snL_len] at h2
    rw [snL_get h2, snL_get h2, h y h2]
/-- Numbers in a block of one's own. -/
def Nts (w : World) (g : Nat) (bs : List Nat) : Prop := w.heap[g]? = some (.cells (bs.map encI).toArray 3 (0, 0))
theorem Nts.below {w w' : World} {g : Nat} {bs : List Nat} (h : Nts w g bs) (hb : Below w.heap.size w w') : Nts w' g bs := (hb.block g (Array.getElem?_eq_some_iff.1 h).1).trans h
theorem keepNts (g : Nat) (bs : List Nat) : KeepP fun w1 => Nts w1 g bs := fun _ _ h hb => h.below hb
theorem Nts.cell {w : World} {g : Nat} {bs : List Nat} (h : Nts w g bs) {i : Nat} (hi : i < bs.length) : w.cell? ⟨g, i, none⟩ = some (.int .i64 (bs[i] : Nat)) ∧ w.frozen? ⟨g, i, none⟩ = false := by
  unfold Nts at h
  constructor <;> simp [World.cell?, World.frozen?, h, hi, encI]
theorem Nts.set {w : World} {g : Nat} {bs : List Nat} (h : Nts w g bs) (i x : Nat) : Nts (w.setCell ⟨g, i, none⟩ (.int .i64 (x : Int))) g (bs.set i x) ∧ w.grownBy (w.setCell ⟨g, i, none⟩ (.int .i64 (x : Int))) (some g) := by
  refine ⟨?_, ⟨rfl, rfl, rfl, ((Below.refl g w).setCell (p := ⟨g, i, none⟩) (Nat.le_refl g) (.int .i64 (x : Int))).size, fun k _ hk => Below.heap_setCell _ _ _ k (fun e => hk (by rw [e]))⟩⟩
  unfold Nts at h ⊢
  obtain ⟨hlt, hk⟩ := Array.getElem?_eq_some_iff.1 h
  simp [World.setCell, Array.getElem?_modify, h, List.map_set, encI]
theorem made_nts {w : World} {B g n : Nat} (h : w.ownsRow B 3 1 (.slice (some ⟨g, 0, none⟩) n n) n (madeCells (Value.int .i64 0).cells (n * 1)).toList) : Nts w g (List.replicate n 0) := by
  rcases h.2 with ⟨e, _⟩ | ⟨g', cap, cur, e, _, hgg, _, _, hs, ht⟩
  · cases e
  · injection e with e1 _ e3
    injection e1 with e1
    injection e1 with e1 _ _
    subst e1
    subst e3
    unfold Nts
    rw [hgg]
    congr 2
    have hl : cur.toList.take (n * 1) = cur.toList := List.take_of_length_le (by rw [Array.length_toList, hs]; exact Nat.le_refl _)
    rw [hl] at ht
    apply Array.ext'
    rw [ht]
    simp only [madeCells, Value.cells, List.map_replicate]
    apply List.ext_getElem
    · simp
    · intro j h1 h2
      simp [Nat.mod_one, encI]
theorem snL_none (n : Nat) : List.replicate n 0 = snL n fun _ => false := by
  apply List.ext_getElem
  · simp [snL_len]
  · intro j h1 h2
    rw [snL_len] at h2
    rw [snL_get h2]
    simp
/-- Places lie in a row, in a block of their own. -/
def RowI (w : World) (g : Nat) (ts : List Nat) : Prop := ∀ j (h : j < ts.length), w.cell? ⟨g, j, none⟩ = some (.int .i64 (ts[j] : Nat)) ∧ g < w.heap.size
theorem RowI.below {w w' : World} {g : Nat} {ts : List Nat} (h : RowI w g ts) (hb : Below w.heap.size w w') : RowI w' g ts := fun j hj => ⟨(hb.cell (p := ⟨g, j, none⟩) (h j hj).2).trans (h j hj).1, Nat.lt_of_lt_of_le (h j hj).2 hb.size⟩
theorem RowI.set {w : World} {g g2 : Nat} {ts : List Nat} (h : RowI w g ts) (hne : g2 ≠ g) (i : Nat) (v : Value) : RowI (w.setCell ⟨g2, i, none⟩ v) g ts := fun j hj => ⟨(World.cell?_setCell_other _ _ _ _ (by intro e; injection e with e; exact hne e)).trans (h j hj).1, Nat.lt_of_lt_of_le (h j hj).2 ((Below.refl g2 w).setCell (p := ⟨g2, i, none⟩) (Nat.le_refl g2) v).size⟩
theorem OwnIs.rows {w : World} {B : Nat} {v : Value} {ts : List Nat} (h : OwnIs w B v ts) : ∃ ad cap, v = .slice ad ts.length cap ∧ (ts = [] ∨ ∃ g, ad = some ⟨g, 0, none⟩ ∧ B ≤ g ∧ RowI w g ts) := by
  have h0 := h
  rcases h.2 with ⟨rfl, hn⟩ | ⟨g, cap, cur, rfl, hB, hg, hc, _⟩
  · exact ⟨none, 0, by rw [hn], Or.inl (List.length_eq_zero_iff.1 hn)⟩
  · refine ⟨_, cap, rfl, Or.inr ⟨g, rfl, hB, fun j hj => ⟨?_, (Array.getElem?_eq_some_iff.1 hg).1⟩⟩⟩
    have := World.ownsRow.cellAt h0 j (by omega)
    rw [this]
    simp [hj, encI]
/-- A place lies there. -/
def StKI (w : World) (g i x : Nat) : Prop := w.cell? ⟨g, i, none⟩ = some (.int .i64 (x : Nat)) ∧ g < w.heap.size
theorem keepStKI (g i x : Nat) : KeepP fun w1 => StKI w1 g i x := fun _ _ h hb => ⟨(hb.cell (p := ⟨g, i, none⟩) h.2).trans h.1, Nat.lt_of_lt_of_le h.2 hb.size⟩
theorem keepRowI (g : Nat) (ts : List Nat) : KeepP fun w1 => RowI w1 g ts := fun _ _ h hb => h.below hb
end Go.Proofs.YtcclfaioicklaaaGreatDoor
