/- Ts2, Rk2, laid in one text. -/
import Derived.Test.YtcclfaioicklaaaGreatDoorMg23
namespace Go.Proofs.YtcclfaioicklaaaGreatDoor
open Go.RowKit
set_option maxRecDepth 100000

/-- A directory other than the root may stand where it does: what the document asks, in its order. -/
theorem foll_stand {L : List Dr} {i : Nat} (hi : i < L.length) : follI L i = (mayPaB L[i].pa && decide (0 < L[i].nd) && eqB L[i].pk.nm (lastP L[i].pa) && writtenB L[i].pk && decide (findV L L[i].pa = i) && (decide (0 ≤ findV L (L[i].pa.take (L[i].pa.length - 1))) && decide (findV L (L[i].pa.take (L[i].pa.length - 1)) < i))) := by
  rw [follI_at hi]
  unfold follD
  have hl : (L.take i).length = i := by rw [List.length_take]; omega
  have h1 : decide (findV (L.take i) L[i].pa < 0) = decide (findV L L[i].pa = i) := by
    rcases findV_or (L.take i) L[i].pa with ⟨e, hall⟩ | ⟨k, hk, e, hp, hall⟩
    · have : findV L L[i].pa = i := findV_at hi rfl fun j hj h1 => by
        have := hall j (by omega)
        rwa [List.getElem_take] at this
      rw [e, this]
      simp
    · have hk' : k < i := by omega
      have : findV L L[i].pa = k := findV_at (by omega) (by rw [List.getElem_take] at hp; exact hp) fun j hj h1 => by
        have := hall j hj (by omega)
        rwa [List.getElem_take] at this
      rw [e, this, decide_eq_false (by omega), decide_eq_false (by omega)]
  have h2 : decide (0 ≤ findV (L.take i) (L[i].pa.take (L[i].pa.length - 1))) = (decide (0 ≤ findV L (L[i].pa.take (L[i].pa.length - 1))) && decide (findV L (L[i].pa.take (L[i].pa.length - 1)) < i)) := by
    generalize L[i].pa.take (L[i].pa.length - 1) = q
    rcases findV_or (L.take i) q with ⟨e, hall⟩ | ⟨k, hk, e, hp, hall⟩
    · rw [e]
      rcases findV_or L q with ⟨e2, _⟩ | ⟨k, hk, e2, hp, _⟩
      · rw [e2]; simp
      · rw [e2]
        have : ¬ (k : Int) < i := fun hlt => by
          have := hall k (by omega)
          rw [List.getElem_take] at this
          exact this hp
        rw [decide_eq_false this]
        simp
    · have hk' : k < i := by omega
      have : findV L q = k := findV_at (by omega) (by rw [List.getElem_take] at hp; exact hp) fun j hj h1 => by
        have := hall j hj (by omega)
        rwa [List.getElem_take] at this
      rw [e, this, decide_eq_true (show (k : Int) < i by omega)]
      simp
  rw [h1, h2]

set_option maxHeartbeats 12800000 in
theorem stands_any {L : List Dr} {v : Value} {w : World} (h : DirsAt w v L) (hz : L.length ≤ 9223372036854775807) (hk : DrsOk L) (hn : ∀ d ∈ L, PgN d.pk ∧ ∀ s ∈ d.pa, s.size ≤ 9223372036854775807) {i : Nat} (hi : i < L.length) :
    Calls Tryz.prog 32 #[.agg #[v], .int .i64 i] w fun e w' => e = .returned (.bool (follI L i)) ∧ Below w.heap.size w w' := by
  have hil := hk.1 _ (List.getElem_mem hi)
  have HFS := hide3 (foll_stand hi)
  have hnd := hn _ (List.getElem_mem hi)
  have HF1 : Hid (∀ w1, Below w.heap.size w w1 → ∀ vp p, PathAt w1 vp p → Calls Tryz.prog 18 #[.agg #[v], vp] w1 fun e w' => e = .returned (.int .i64 (findV L p)) ∧ Below w1.heap.size w1 w') := fun w1 hb vp p hp => rFind_any (h.below hb) hz hk.1.fit hp
  have HPR : Hid (0 < L[i].pa.length → ∀ w1, Below w.heap.size w w1 → Calls Tryz.prog 20 #[.agg #[v], .int .i64 i] w1 fun e w' => e = .returned (.int .i64 (findV L (L[i].pa.take (L[i].pa.length - 1)))) ∧ Below w1.heap.size w1 w') := fun hp w1 hb => rParent_any (h.below hb) hz hk.1.fit hi hp
  obtain ⟨ad, cap, rfl, hc, hsl⟩ := h.sl
  obtain ⟨g, o, rfl, u, v1, v2, v3, hd⟩ := hsl i hi
  have HTX : Hid (∀ w1, Below w.heap.size w w1 → Calls Tryz.prog 16 #[u] w1 fun e w' => e = .returned (.string (textPa L[i].pa)) ∧ Below w1.heap.size w1 w') := fun w1 hb => rTextP_any (hd.2.1.1.below hb) hil hnd.2
  have HMY : Hid (∀ w1, Below w.heap.size w w1 → Calls Tryz.prog 63 #[.agg #[.string L[i].pk.nm, .int .i64 L[i].pk.a, .int .i64 L[i].pk.b, .int .i64 L[i].pk.c, v1, v2, v3]] w1 fun e w' => e = .returned (.bool (writtenB L[i].pk)) ∧ Below w1.heap.size w1 w') := fun w1 hb => by
    have := rMay_pk (hd.2.1.2.below hb) (hk.2 _ (List.getElem_mem hi)) hnd.1
    rw [doc_is] at this
    exact this
  have HF2 : Hid (∀ w1, Below w.heap.size w w1 → Calls Tryz.prog 18 #[.agg #[.slice (some ⟨g, o, none⟩) L.length cap], u] w1 fun e w' => e = .returned (.int .i64 (findV L L[i].pa)) ∧ Below w1.heap.size w1 w') := fun w1 hb => HF1.out w1 hb _ _ (hd.2.1.1.below hb)
  have HLP : Hid (∀ h : 0 < L[i].pa.length, lastP L[i].pa = L[i].pa[L[i].pa.length - 1]'(by omega)) := fun h => lastP_at h
  obtain ⟨ua, uc, rfl, huc, hux⟩ := hd.2.1.1.el
  have HLC : Hid (∀ n, L[i].pa.length = n + 1 → ∃ gu ou, ua = some ⟨gu, ou, none⟩ ∧ ∀ w1, Below w.heap.size w w1 → StIn w1 gu (ou + n) (lastP L[i].pa)) := fun n hn => by
    obtain ⟨gu, ou, e, hs⟩ := hux n (by omega)
    refine ⟨gu, ou, e, fun w1 hb => ?_⟩
    rw [HLP.out (by omega)]
    have : L[i].pa[L[i].pa.length - 1]'(by omega) = L[i].pa[n]'(by omega) := by congr 1; omega
    rw [this]
    exact hs.below hb
  obtain ⟨a1, c1, rfl⟩ := hd.2.1.2.1.sl
  obtain ⟨a2, c2, rfl⟩ := hd.2.1.2.2.1.sl
  obtain ⟨a3, c3, rfl⟩ := hd.2.1.2.2.2.sl
  obtain ⟨⟨d0, d1, d2, d3, d4, d5, d6, d7, d8⟩, _, dg⟩ := hd
  have hbt := boxB w (.cells #[.slice (some ⟨g, o, none⟩) L.length cap] 24)
  have r0 := (hbt.cell (p := ⟨g, o + i * 9, none⟩) dg).trans d0
  have r1 := (hbt.cell (p := ⟨g, o + i * 9 + 1, none⟩) dg).trans d1
  have r2 := (hbt.cell (p := ⟨g, o + i * 9 + 2, none⟩) dg).trans d2
  have r3 := (hbt.cell (p := ⟨g, o + i * 9 + 3, none⟩) dg).trans d3
  have r4 := (hbt.cell (p := ⟨g, o + i * 9 + 4, none⟩) dg).trans d4
  have r5 := (hbt.cell (p := ⟨g, o + i * 9 + 5, none⟩) dg).trans d5
  have r6 := (hbt.cell (p := ⟨g, o + i * 9 + 6, none⟩) dg).trans d6
  have r7 := (hbt.cell (p := ⟨g, o + i * 9 + 7, none⟩) dg).trans d7
  have r8 := (hbt.cell (p := ⟨g, o + i * 9 + 8, none⟩) dg).trans d8
  clear d0 d1 d2 d3 d4 d5 d6 d7 d8 hbt hsl h hk hn hnd hux HLP HF1
  have HMB : Hid (mayPaB L[i].pa = (decide (0 < L[i].pa.length) && namesB L[i].pa && decide ((textN L[i].pa).length ≤ 1024))) := rfl
  have HT1 : Hid (L[i].pa.length = 0 → textPa L[i].pa = ⟨#[47]⟩) := fun e => by rw [List.eq_nil_of_length_eq_zero e]; rfl
  have HT2 : Hid (0 < L[i].pa.length → namesB L[i].pa = false → textPa L[i].pa = ⟨#[]⟩) := fun hp e => by unfold textPa; rw [if_neg (List.length_pos_iff.1 hp), if_neg (by rw [e]; simp)]
  have HT3 : Hid (0 < L[i].pa.length → namesB L[i].pa = true → textPa L[i].pa = textBA L[i].pa ∧ (textBA L[i].pa).toList.isEmpty = false) := fun hp e => by
    refine ⟨by unfold textPa; rw [if_neg (List.length_pos_iff.1 hp), if_pos e]; rfl, ?_⟩
    obtain ⟨s, r, hsr⟩ : ∃ s r, L[i].pa = s :: r := by
      cases hq : L[i].pa with
      | nil => rw [hq] at hp; simp at hp
      | cons s r => exact ⟨s, r, rfl⟩
    rw [hsr, ByteArray.toList_eq]
    simp [textBA, textN, modS]
  have HTZ : Hid ((textBA L[i].pa).size = (textN L[i].pa).length) := textBA_size _
  have HG2 := hide3 (findV_ge L (L[i].pa.take (L[i].pa.length - 1)))
  generalize follI L i = rb at *
  generalize findV L (L[i].pa.take (L[i].pa.length - 1)) = f2 at *
  generalize findV L L[i].pa = f1 at *
  generalize writtenB L[i].pk = b4 at *
  generalize lastP L[i].pa = ls at *
  generalize mayPaB L[i].pa = b1 at *
  generalize namesB L[i].pa = nb at *
  generalize (textN L[i].pa).length = tl at *
  generalize textPa L[i].pa = tx at *
  generalize textBA L[i].pa = tb at *
  generalize L[i].pa.length = n at *
  generalize L[i].pk.d.length = l1 at *
  generalize L[i].pk.p.length = l2 at *
  generalize L[i].pk.o.length = l3 at *
  generalize L[i].pk.nm = s at *
  generalize L[i].pk.a = a at *
  generalize L[i].pk.b = b at *
  generalize L[i].pk.c = c at *
  generalize L[i].nd = nd at *
  have HK : Hid (KeepP fun w1 => Below w.heap.size w w1 ∧ BxT w1 w.heap.size (.slice (some ⟨g, o, none⟩) L.length cap) ∧ BxDr w1 (w.heap.size + 1) (.slice ua n uc) s a b c (.slice a1 l1 c1) (.slice a2 l2 c2) (.slice a3 l3 c3) nd) := (keepBelow w).and ((keepBxT _ _).and (keepBxDr _ _ _ _ _ _ _ _ _ _))
  have HO0 : Hid (Below w.heap.size w ((w.alloc (.cells #[.slice (some ⟨g, o, none⟩) L.length cap] 24)).alloc (.cells #[.slice ua n uc, .string s, .int .i64 a, .int .i64 b, .int .i64 c, .slice a1 l1 c1, .slice a2 l2 c2, .slice a3 l3 c3, .int .i64 nd] 46)) ∧ BxT ((w.alloc (.cells #[.slice (some ⟨g, o, none⟩) L.length cap] 24)).alloc (.cells #[.slice ua n uc, .string s, .int .i64 a, .int .i64 b, .int .i64 c, .slice a1 l1 c1, .slice a2 l2 c2, .slice a3 l3 c3, .int .i64 nd] 46)) w.heap.size (.slice (some ⟨g, o, none⟩) L.length cap) ∧ BxDr ((w.alloc (.cells #[.slice (some ⟨g, o, none⟩) L.length cap] 24)).alloc (.cells #[.slice ua n uc, .string s, .int .i64 a, .int .i64 b, .int .i64 c, .slice a1 l1 c1, .slice a2 l2 c2, .slice a3 l3 c3, .int .i64 nd] 46)) (w.heap.size + 1) (.slice ua n uc) s a b c (.slice a1 l1 c1) (.slice a2 l2 c2) (.slice a3 l3 c3) nd) := ⟨boxB2 _ _ _, keepBxT _ _ _ _ (BxT.new _ _) (boxB _ _), BxDr.new (by simp) _ _ _ _ _ _ _ _ _⟩
  rcases Nat.eq_zero_or_pos n with hn0 | hn0
  · have hb : b1 = false := by rw [HMB.out, hn0]; rfl
    rw [hb] at HFS
    rw [HT1.out hn0] at HTX
    subst hn0
    go_enter Tryz.func32, Tryz.ntmps32
    go_wp2_with (first | (go_at_call 16; refine (HTX.out _ HO0.out.1).mono ?_; rintro e w3 ⟨rfl, ok⟩; have HB3 := hide3 (HK.out _ _ HO0.out ok); obtain ⟨_, ⟨x0, x1⟩, ⟨⟨y0, y1, y2, y3, y4, y5, y6, y7, y8⟩, y9⟩⟩ := HB3.out; clear ok r0 r1 r2 r3 r4 r5 r6 r7 r8))
    go_ret
    exact ⟨ret_bool (by rw [HFS.out]; simp), HB3.out.1⟩
  · have hni : ((n : Int) == 0) = false := by rw [beq_eq_false_iff_ne]; omega
    cases nb
    · have hb : b1 = false := by rw [HMB.out]; simp
      rw [hb] at HFS
      rw [HT2.out hn0 rfl] at HTX
      go_enter Tryz.func32, Tryz.ntmps32
      go_wp2_with (first | (go_at_call 16; refine (HTX.out _ HO0.out.1).mono ?_; rintro e w3 ⟨rfl, ok⟩; have HB3 := hide3 (HK.out _ _ HO0.out ok); obtain ⟨_, ⟨x0, x1⟩, ⟨⟨y0, y1, y2, y3, y4, y5, y6, y7, y8⟩, y9⟩⟩ := HB3.out; clear ok r0 r1 r2 r3 r4 r5 r6 r7 r8))
      go_ret
      exact ⟨ret_bool (by rw [HFS.out]; simp), HB3.out.1⟩
    · obtain ⟨htx, hte⟩ := HT3.out hn0 rfl
      rw [htx] at HTX
      by_cases hlen : tl ≤ 1024
      · have hb : b1 = true := by rw [HMB.out, decide_eq_true hn0, decide_eq_true hlen]; rfl
        rw [hb] at HFS
        have hl1 : decide ((tb.size : Int) > 1024) = false := decide_eq_false (by rw [HTZ.out]; omega)
        have hl2 : ¬ ((tb.size : Int) > 1024) := by rw [HTZ.out]; omega
        by_cases hd : 0 < nd
        · rw [decide_eq_true hd] at HFS
          have hd2 : ¬ (nd < 1) := by omega
          have hd3 : decide (nd < 1) = false := decide_eq_false hd2
          by_cases hf : f1 = (i : Int)
          · rw [decide_eq_true hf] at HFS
            subst hf
            have HPR2 := hide3 (HPR.out hn0)
            obtain ⟨n, rfl⟩ : ∃ m, n = m + 1 := ⟨n - 1, by omega⟩
            obtain ⟨gu, ou, rfl, hls⟩ := HLC.out n rfl
            have HLS := hide3 hls
            have hwn : IntKind.i64.wrap (n : Int) = n := wrapN (by omega)
            have hix1 : n < n + 1 := by omega
            have hix2 : (n : Int) < (n : Int) + 1 := by omega
            have hix3 : 0 ≤ (n : Int) := by omega
            clear hls
            rcases (show f2 = -1 ∨ 0 ≤ f2 by have := HG2.out; omega) with h2 | h2
            · subst h2
              go_enter Tryz.func32, Tryz.ntmps32
              go_wp2_with (first | (go_at_call 16; refine (HTX.out _ HO0.out.1).mono ?_; rintro e w3 ⟨rfl, ok⟩; have HB3 := hide3 (HK.out _ _ HO0.out ok); obtain ⟨_, ⟨x0, x1⟩, ⟨⟨y0, y1, y2, y3, y4, y5, y6, y7, y8⟩, y9⟩⟩ := HB3.out; clear ok r0 r1 r2 r3 r4 r5 r6 r7 r8) | (have _h := HB3; go_at_call 18; refine (HF2.out _ HB3.out.1).mono ?_; rintro e w4 ⟨rfl, ok⟩; have HB4 := hide3 (HK.out _ _ HB3.out ok); clear x0 x1 y0 y1 y2 y3 y4 y5 y6 y7 y8 y9; obtain ⟨_, ⟨x0, x1⟩, ⟨⟨y0, y1, y2, y3, y4, y5, y6, y7, y8⟩, y9⟩⟩ := HB4.out; clear ok) | (have _h := HB4; go_at_call 20; refine (HPR2.out _ HB4.out.1).mono ?_; rintro e w5 ⟨rfl, ok⟩; have HB5 := hide3 (HK.out _ _ HB4.out ok); clear x0 x1 y0 y1 y2 y3 y4 y5 y6 y7 y8 y9; obtain ⟨_, ⟨x0, x1⟩, ⟨⟨y0, y1, y2, y3, y4, y5, y6, y7, y8⟩, y9⟩⟩ := HB5.out; clear ok) | (have _h := HB5; go_at_call 63; refine (HMY.out _ HB5.out.1).mono ?_; rintro e w6 ⟨rfl, ok⟩; have HB6 := hide3 (HK.out _ _ HB5.out ok); clear x0 x1 y0 y1 y2 y3 y4 y5 y6 y7 y8 y9; obtain ⟨_, ⟨x0, x1⟩, ⟨⟨y0, y1, y2, y3, y4, y5, y6, y7, y8⟩, y9⟩⟩ := HB6.out; clear ok))
              clear x0 x1 y0 y1 y2 y3 y4 y5 y6 y7 y8 y9
              have HK2 := HK
              clear HK
              have HK : Hid (KeepP fun w1 => (Below w.heap.size w w1 ∧ BxT w1 w.heap.size (.slice (some ⟨g, o, none⟩) L.length cap) ∧ BxDr w1 (w.heap.size + 1) (.slice (some ⟨gu, ou, none⟩) (n + 1) uc) s a b c (.slice a1 l1 c1) (.slice a2 l2 c2) (.slice a3 l3 c3) nd) ∧ StIn w1 gu (ou + n) ls) := HK2.out.and (keepStIn _ _ _)
              have HO : Hid ((Below w.heap.size w w6 ∧ BxT w6 w.heap.size (.slice (some ⟨g, o, none⟩) L.length cap) ∧ BxDr w6 (w.heap.size + 1) (.slice (some ⟨gu, ou, none⟩) (n + 1) uc) s a b c (.slice a1 l1 c1) (.slice a2 l2 c2) (.slice a3 l3 c3) nd) ∧ StIn w6 gu (ou + n) ls) := ⟨HB6.out, HLS.out _ HB6.out.1⟩
              refine wp_region_keep HK.out (by kernel_rfl) (by kernel_rfl) (by first | exact HO.out | exact HK.out.drew HO.out) ?_
              intro C hin hout
              have HIN := hide3 hin
              have HOUT := hide3 hout
              clear hin hout HO
              repeat
                (with_reducible refine wpQuiet_step (fun K hK => ?_)
                 go_simp
                 first
                   | (refine hK _ ?_; clear hK K)
                   | (apply Exists.intro; refine ⟨fun w1 hC => ?_, hK _ ?_⟩; (focus ((first | (exact rfl) | (obtain ⟨⟨hb1, ⟨x0, x1⟩, ⟨⟨y0, y1, y2, y3, y4, y5, y6, y7, y8⟩, y9⟩⟩, ⟨l0, l9⟩⟩ := HOUT.out w1 hC; clear hC; go_simp; first | done | exact rfl)); done)); clear hK K))
              refine wpQuiet_nil ?_
              intro wn hC
              have HO := hide3 (HOUT.out _ hC)
              clear hC HIN HOUT C
              obtain ⟨⟨hb1, ⟨x0, x1⟩, ⟨⟨y0, y1, y2, y3, y4, y5, y6, y7, y8⟩, y9⟩⟩, ⟨l0, l9⟩⟩ := HO.out
              go_wp2
              go_ret
              exact ⟨ret_bool (by rw [HFS.out]; simp), HO.out.1.1⟩
            · have g2 : decide (f2 ≥ 0) = true := decide_eq_true h2
              rw [decide_eq_true h2] at HFS
              by_cases h3 : f2 < (i : Int)
              · rw [decide_eq_true h3] at HFS
                have h3d : decide (f2 < (i : Int)) = true := decide_eq_true h3
                cases b4
                · go_enter Tryz.func32, Tryz.ntmps32
                  go_wp2_with (first | (go_at_call 16; refine (HTX.out _ HO0.out.1).mono ?_; rintro e w3 ⟨rfl, ok⟩; have HB3 := hide3 (HK.out _ _ HO0.out ok); obtain ⟨_, ⟨x0, x1⟩, ⟨⟨y0, y1, y2, y3, y4, y5, y6, y7, y8⟩, y9⟩⟩ := HB3.out; clear ok r0 r1 r2 r3 r4 r5 r6 r7 r8) | (have _h := HB3; go_at_call 18; refine (HF2.out _ HB3.out.1).mono ?_; rintro e w4 ⟨rfl, ok⟩; have HB4 := hide3 (HK.out _ _ HB3.out ok); clear x0 x1 y0 y1 y2 y3 y4 y5 y6 y7 y8 y9; obtain ⟨_, ⟨x0, x1⟩, ⟨⟨y0, y1, y2, y3, y4, y5, y6, y7, y8⟩, y9⟩⟩ := HB4.out; clear ok) | (have _h := HB4; go_at_call 20; refine (HPR2.out _ HB4.out.1).mono ?_; rintro e w5 ⟨rfl, ok⟩; have HB5 := hide3 (HK.out _ _ HB4.out ok); clear x0 x1 y0 y1 y2 y3 y4 y5 y6 y7 y8 y9; obtain ⟨_, ⟨x0, x1⟩, ⟨⟨y0, y1, y2, y3, y4, y5, y6, y7, y8⟩, y9⟩⟩ := HB5.out; clear ok) | (have _h := HB5; go_at_call 63; refine (HMY.out _ HB5.out.1).mono ?_; rintro e w6 ⟨rfl, ok⟩; have HB6 := hide3 (HK.out _ _ HB5.out ok); clear x0 x1 y0 y1 y2 y3 y4 y5 y6 y7 y8 y9; obtain ⟨_, ⟨x0, x1⟩, ⟨⟨y0, y1, y2, y3, y4, y5, y6, y7, y8⟩, y9⟩⟩ := HB6.out; clear ok))
                  clear x0 x1 y0 y1 y2 y3 y4 y5 y6 y7 y8 y9
                  have HK2 := HK
                  clear HK
                  have HK : Hid (KeepP fun w1 => (Below w.heap.size w w1 ∧ BxT w1 w.heap.size (.slice (some ⟨g, o, none⟩) L.length cap) ∧ BxDr w1 (w.heap.size + 1) (.slice (some ⟨gu, ou, none⟩) (n + 1) uc) s a b c (.slice a1 l1 c1) (.slice a2 l2 c2) (.slice a3 l3 c3) nd) ∧ StIn w1 gu (ou + n) ls) := HK2.out.and (keepStIn _ _ _)
                  have HO : Hid ((Below w.heap.size w w6 ∧ BxT w6 w.heap.size (.slice (some ⟨g, o, none⟩) L.length cap) ∧ BxDr w6 (w.heap.size + 1) (.slice (some ⟨gu, ou, none⟩) (n + 1) uc) s a b c (.slice a1 l1 c1) (.slice a2 l2 c2) (.slice a3 l3 c3) nd) ∧ StIn w6 gu (ou + n) ls) := ⟨HB6.out, HLS.out _ HB6.out.1⟩
                  refine wp_region_keep HK.out (by kernel_rfl) (by kernel_rfl) (by first | exact HO.out | exact HK.out.drew HO.out) ?_
                  intro C hin hout
                  have HIN := hide3 hin
                  have HOUT := hide3 hout
                  clear hin hout HO
                  repeat
                    (with_reducible refine wpQuiet_step (fun K hK => ?_)
                     go_simp
                     first
                       | (refine hK _ ?_; clear hK K)
                       | (apply Exists.intro; refine ⟨fun w1 hC => ?_, hK _ ?_⟩; (focus ((first | (exact rfl) | (obtain ⟨⟨hb1, ⟨x0, x1⟩, ⟨⟨y0, y1, y2, y3, y4, y5, y6, y7, y8⟩, y9⟩⟩, ⟨l0, l9⟩⟩ := HOUT.out w1 hC; clear hC; go_simp; first | done | exact rfl)); done)); clear hK K))
                  refine wpQuiet_nil ?_
                  intro wn hC
                  have HO := hide3 (HOUT.out _ hC)
                  clear hC HIN HOUT C
                  obtain ⟨⟨hb1, ⟨x0, x1⟩, ⟨⟨y0, y1, y2, y3, y4, y5, y6, y7, y8⟩, y9⟩⟩, ⟨l0, l9⟩⟩ := HO.out
                  go_wp2
                  go_ret
                  exact ⟨ret_bool (by rw [HFS.out]; simp), HO.out.1.1⟩
                · by_cases h5 : s = ls
                  · have q3 : (s.toList == ls.toList) = true := by rw [h5]; simp
                    have q3b : (s.toList = ls.toList) = True := by rw [h5]; simp
                    rw [eqB_yes h5] at HFS
                    clear h5
                    go_enter Tryz.func32, Tryz.ntmps32
                    go_wp2_with (first | (go_at_call 16; refine (HTX.out _ HO0.out.1).mono ?_; rintro e w3 ⟨rfl, ok⟩; have HB3 := hide3 (HK.out _ _ HO0.out ok); obtain ⟨_, ⟨x0, x1⟩, ⟨⟨y0, y1, y2, y3, y4, y5, y6, y7, y8⟩, y9⟩⟩ := HB3.out; clear ok r0 r1 r2 r3 r4 r5 r6 r7 r8) | (have _h := HB3; go_at_call 18; refine (HF2.out _ HB3.out.1).mono ?_; rintro e w4 ⟨rfl, ok⟩; have HB4 := hide3 (HK.out _ _ HB3.out ok); clear x0 x1 y0 y1 y2 y3 y4 y5 y6 y7 y8 y9; obtain ⟨_, ⟨x0, x1⟩, ⟨⟨y0, y1, y2, y3, y4, y5, y6, y7, y8⟩, y9⟩⟩ := HB4.out; clear ok) | (have _h := HB4; go_at_call 20; refine (HPR2.out _ HB4.out.1).mono ?_; rintro e w5 ⟨rfl, ok⟩; have HB5 := hide3 (HK.out _ _ HB4.out ok); clear x0 x1 y0 y1 y2 y3 y4 y5 y6 y7 y8 y9; obtain ⟨_, ⟨x0, x1⟩, ⟨⟨y0, y1, y2, y3, y4, y5, y6, y7, y8⟩, y9⟩⟩ := HB5.out; clear ok) | (have _h := HB5; go_at_call 63; refine (HMY.out _ HB5.out.1).mono ?_; rintro e w6 ⟨rfl, ok⟩; have HB6 := hide3 (HK.out _ _ HB5.out ok); clear x0 x1 y0 y1 y2 y3 y4 y5 y6 y7 y8 y9; obtain ⟨_, ⟨x0, x1⟩, ⟨⟨y0, y1, y2, y3, y4, y5, y6, y7, y8⟩, y9⟩⟩ := HB6.out; clear ok))
                    clear x0 x1 y0 y1 y2 y3 y4 y5 y6 y7 y8 y9
                    have HK2 := HK
                    clear HK
                    have HK : Hid (KeepP fun w1 => (Below w.heap.size w w1 ∧ BxT w1 w.heap.size (.slice (some ⟨g, o, none⟩) L.length cap) ∧ BxDr w1 (w.heap.size + 1) (.slice (some ⟨gu, ou, none⟩) (n + 1) uc) s a b c (.slice a1 l1 c1) (.slice a2 l2 c2) (.slice a3 l3 c3) nd) ∧ StIn w1 gu (ou + n) ls) := HK2.out.and (keepStIn _ _ _)
                    have HO : Hid ((Below w.heap.size w w6 ∧ BxT w6 w.heap.size (.slice (some ⟨g, o, none⟩) L.length cap) ∧ BxDr w6 (w.heap.size + 1) (.slice (some ⟨gu, ou, none⟩) (n + 1) uc) s a b c (.slice a1 l1 c1) (.slice a2 l2 c2) (.slice a3 l3 c3) nd) ∧ StIn w6 gu (ou + n) ls) := ⟨HB6.out, HLS.out _ HB6.out.1⟩
                    refine wp_region_keep HK.out (by kernel_rfl) (by kernel_rfl) (by first | exact HO.out | exact HK.out.drew HO.out) ?_
                    intro C hin hout
                    have HIN := hide3 hin
                    have HOUT := hide3 hout
                    clear hin hout HO
                    repeat
                      (with_reducible refine wpQuiet_step (fun K hK => ?_)
                       go_simp
                       first
                         | (refine hK _ ?_; clear hK K)
                         | (apply Exists.intro; refine ⟨fun w1 hC => ?_, hK _ ?_⟩; (focus ((first | (exact rfl) | (obtain ⟨⟨hb1, ⟨x0, x1⟩, ⟨⟨y0, y1, y2, y3, y4, y5, y6, y7, y8⟩, y9⟩⟩, ⟨l0, l9⟩⟩ := HOUT.out w1 hC; clear hC; go_simp; first | done | exact rfl)); done)); clear hK K))
                    refine wpQuiet_nil ?_
                    intro wn hC
                    have HO := hide3 (HOUT.out _ hC)
                    clear hC HIN HOUT C
                    obtain ⟨⟨hb1, ⟨x0, x1⟩, ⟨⟨y0, y1, y2, y3, y4, y5, y6, y7, y8⟩, y9⟩⟩, ⟨l0, l9⟩⟩ := HO.out
                    go_wp2
                    go_ret
                    exact ⟨ret_bool (by rw [HFS.out]; simp), HO.out.1.1⟩
                  · have q3 : (s.toList == ls.toList) = false := by rw [beq_eq_false_iff_ne]; exact fun e => h5 (bytes_same e)
                    have q3b : (s.toList = ls.toList) = False := eq_false fun e => h5 (bytes_same e)
                    rw [eqB_no h5] at HFS
                    clear h5
                    go_enter Tryz.func32, Tryz.ntmps32
                    go_wp2_with (first | (go_at_call 16; refine (HTX.out _ HO0.out.1).mono ?_; rintro e w3 ⟨rfl, ok⟩; have HB3 := hide3 (HK.out _ _ HO0.out ok); obtain ⟨_, ⟨x0, x1⟩, ⟨⟨y0, y1, y2, y3, y4, y5, y6, y7, y8⟩, y9⟩⟩ := HB3.out; clear ok r0 r1 r2 r3 r4 r5 r6 r7 r8) | (have _h := HB3; go_at_call 18; refine (HF2.out _ HB3.out.1).mono ?_; rintro e w4 ⟨rfl, ok⟩; have HB4 := hide3 (HK.out _ _ HB3.out ok); clear x0 x1 y0 y1 y2 y3 y4 y5 y6 y7 y8 y9; obtain ⟨_, ⟨x0, x1⟩, ⟨⟨y0, y1, y2, y3, y4, y5, y6, y7, y8⟩, y9⟩⟩ := HB4.out; clear ok) | (have _h := HB4; go_at_call 20; refine (HPR2.out _ HB4.out.1).mono ?_; rintro e w5 ⟨rfl, ok⟩; have HB5 := hide3 (HK.out _ _ HB4.out ok); clear x0 x1 y0 y1 y2 y3 y4 y5 y6 y7 y8 y9; obtain ⟨_, ⟨x0, x1⟩, ⟨⟨y0, y1, y2, y3, y4, y5, y6, y7, y8⟩, y9⟩⟩ := HB5.out; clear ok) | (have _h := HB5; go_at_call 63; refine (HMY.out _ HB5.out.1).mono ?_; rintro e w6 ⟨rfl, ok⟩; have HB6 := hide3 (HK.out _ _ HB5.out ok); clear x0 x1 y0 y1 y2 y3 y4 y5 y6 y7 y8 y9; obtain ⟨_, ⟨x0, x1⟩, ⟨⟨y0, y1, y2, y3, y4, y5, y6, y7, y8⟩, y9⟩⟩ := HB6.out; clear ok))
                    clear x0 x1 y0 y1 y2 y3 y4 y5 y6 y7 y8 y9
                    have HK2 := HK
                    clear HK
                    have HK : Hid (KeepP fun w1 => (Below w.heap.size w w1 ∧ BxT w1 w.heap.size (.slice (some ⟨g, o, none⟩) L.length cap) ∧ BxDr w1 (w.heap.size + 1) (.slice (some ⟨gu, ou, none⟩) (n + 1) uc) s a b c (.slice a1 l1 c1) (.slice a2 l2 c2) (.slice a3 l3 c3) nd) ∧ StIn w1 gu (ou + n) ls) := HK2.out.and (keepStIn _ _ _)
                    have HO : Hid ((Below w.heap.size w w6 ∧ BxT w6 w.heap.size (.slice (some ⟨g, o, none⟩) L.length cap) ∧ BxDr w6 (w.heap.size + 1) (.slice (some ⟨gu, ou, none⟩) (n + 1) uc) s a b c (.slice a1 l1 c1) (.slice a2 l2 c2) (.slice a3 l3 c3) nd) ∧ StIn w6 gu (ou + n) ls) := ⟨HB6.out, HLS.out _ HB6.out.1⟩
                    refine wp_region_keep HK.out (by kernel_rfl) (by kernel_rfl) (by first | exact HO.out | exact HK.out.drew HO.out) ?_
                    intro C hin hout
                    have HIN := hide3 hin
                    have HOUT := hide3 hout
                    clear hin hout HO
                    repeat
                      (with_reducible refine wpQuiet_step (fun K hK => ?_)
                       go_simp
                       first
                         | (refine hK _ ?_; clear hK K)
                         | (apply Exists.intro; refine ⟨fun w1 hC => ?_, hK _ ?_⟩; (focus ((first | (exact rfl) | (obtain ⟨⟨hb1, ⟨x0, x1⟩, ⟨⟨y0, y1, y2, y3, y4, y5, y6, y7, y8⟩, y9⟩⟩, ⟨l0, l9⟩⟩ := HOUT.out w1 hC; clear hC; go_simp; first | done | exact rfl)); done)); clear hK K))
                    refine wpQuiet_nil ?_
                    intro wn hC
                    have HO := hide3 (HOUT.out _ hC)
                    clear hC HIN HOUT C
                    obtain ⟨⟨hb1, ⟨x0, x1⟩, ⟨⟨y0, y1, y2, y3, y4, y5, y6, y7, y8⟩, y9⟩⟩, ⟨l0, l9⟩⟩ := HO.out
                    go_wp2
                    go_ret
                    exact ⟨ret_bool (by rw [HFS.out]; simp), HO.out.1.1⟩
              · rw [decide_eq_false h3] at HFS
                have h3d : decide (f2 < (i : Int)) = false := decide_eq_false h3
                have h3p : (f2 < (i : Int)) = False := eq_false h3
                go_enter Tryz.func32, Tryz.ntmps32
                go_wp2_with (first | (go_at_call 16; refine (HTX.out _ HO0.out.1).mono ?_; rintro e w3 ⟨rfl, ok⟩; have HB3 := hide3 (HK.out _ _ HO0.out ok); obtain ⟨_, ⟨x0, x1⟩, ⟨⟨y0, y1, y2, y3, y4, y5, y6, y7, y8⟩, y9⟩⟩ := HB3.out; clear ok r0 r1 r2 r3 r4 r5 r6 r7 r8) | (have _h := HB3; go_at_call 18; refine (HF2.out _ HB3.out.1).mono ?_; rintro e w4 ⟨rfl, ok⟩; have HB4 := hide3 (HK.out _ _ HB3.out ok); clear x0 x1 y0 y1 y2 y3 y4 y5 y6 y7 y8 y9; obtain ⟨_, ⟨x0, x1⟩, ⟨⟨y0, y1, y2, y3, y4, y5, y6, y7, y8⟩, y9⟩⟩ := HB4.out; clear ok) | (have _h := HB4; go_at_call 20; refine (HPR2.out _ HB4.out.1).mono ?_; rintro e w5 ⟨rfl, ok⟩; have HB5 := hide3 (HK.out _ _ HB4.out ok); clear x0 x1 y0 y1 y2 y3 y4 y5 y6 y7 y8 y9; obtain ⟨_, ⟨x0, x1⟩, ⟨⟨y0, y1, y2, y3, y4, y5, y6, y7, y8⟩, y9⟩⟩ := HB5.out; clear ok) | (have _h := HB5; go_at_call 63; refine (HMY.out _ HB5.out.1).mono ?_; rintro e w6 ⟨rfl, ok⟩; have HB6 := hide3 (HK.out _ _ HB5.out ok); clear x0 x1 y0 y1 y2 y3 y4 y5 y6 y7 y8 y9; obtain ⟨_, ⟨x0, x1⟩, ⟨⟨y0, y1, y2, y3, y4, y5, y6, y7, y8⟩, y9⟩⟩ := HB6.out; clear ok))
                clear x0 x1 y0 y1 y2 y3 y4 y5 y6 y7 y8 y9
                have HK2 := HK
                clear HK
                have HK : Hid (KeepP fun w1 => (Below w.heap.size w w1 ∧ BxT w1 w.heap.size (.slice (some ⟨g, o, none⟩) L.length cap) ∧ BxDr w1 (w.heap.size + 1) (.slice (some ⟨gu, ou, none⟩) (n + 1) uc) s a b c (.slice a1 l1 c1) (.slice a2 l2 c2) (.slice a3 l3 c3) nd) ∧ StIn w1 gu (ou + n) ls) := HK2.out.and (keepStIn _ _ _)
                have HO : Hid ((Below w.heap.size w w6 ∧ BxT w6 w.heap.size (.slice (some ⟨g, o, none⟩) L.length cap) ∧ BxDr w6 (w.heap.size + 1) (.slice (some ⟨gu, ou, none⟩) (n + 1) uc) s a b c (.slice a1 l1 c1) (.slice a2 l2 c2) (.slice a3 l3 c3) nd) ∧ StIn w6 gu (ou + n) ls) := ⟨HB6.out, HLS.out _ HB6.out.1⟩
                refine wp_region_keep HK.out (by kernel_rfl) (by kernel_rfl) (by first | exact HO.out | exact HK.out.drew HO.out) ?_
                intro C hin hout
                have HIN := hide3 hin
                have HOUT := hide3 hout
                clear hin hout HO
                repeat
                  (with_reducible refine wpQuiet_step (fun K hK => ?_)
                   go_simp
                   first
                     | (refine hK _ ?_; clear hK K)
                     | (apply Exists.intro; refine ⟨fun w1 hC => ?_, hK _ ?_⟩; (focus ((first | (exact rfl) | (obtain ⟨⟨hb1, ⟨x0, x1⟩, ⟨⟨y0, y1, y2, y3, y4, y5, y6, y7, y8⟩, y9⟩⟩, ⟨l0, l9⟩⟩ := HOUT.out w1 hC; clear hC; go_simp; first | done | exact rfl)); done)); clear hK K))
                refine wpQuiet_nil ?_
                intro wn hC
                have HO := hide3 (HOUT.out _ hC)
                clear hC HIN HOUT C
                obtain ⟨⟨hb1, ⟨x0, x1⟩, ⟨⟨y0, y1, y2, y3, y4, y5, y6, y7, y8⟩, y9⟩⟩, ⟨l0, l9⟩⟩ := HO.out
                go_wp2
                go_ret
                exact ⟨ret_bool (by rw [HFS.out]; simp), HO.out.1.1⟩
          · rw [decide_eq_false hf] at HFS
            have hf2 : (f1 == (i : Int)) = false := by rw [beq_eq_false_iff_ne]; exact hf
            have hf3 : (f1 != (i : Int)) = true := by rw [bne, hf2]; rfl
            go_enter Tryz.func32, Tryz.ntmps32
            go_wp2_with (first | (go_at_call 16; refine (HTX.out _ HO0.out.1).mono ?_; rintro e w3 ⟨rfl, ok⟩; have HB3 := hide3 (HK.out _ _ HO0.out ok); obtain ⟨_, ⟨x0, x1⟩, ⟨⟨y0, y1, y2, y3, y4, y5, y6, y7, y8⟩, y9⟩⟩ := HB3.out; clear ok r0 r1 r2 r3 r4 r5 r6 r7 r8) | (have _h := HB3; go_at_call 18; refine (HF2.out _ HB3.out.1).mono ?_; rintro e w4 ⟨rfl, ok⟩; have HB4 := hide3 (HK.out _ _ HB3.out ok); clear x0 x1 y0 y1 y2 y3 y4 y5 y6 y7 y8 y9; obtain ⟨_, ⟨x0, x1⟩, ⟨⟨y0, y1, y2, y3, y4, y5, y6, y7, y8⟩, y9⟩⟩ := HB4.out; clear ok))
            go_ret
            exact ⟨ret_bool (by rw [HFS.out]; simp), HB4.out.1⟩
        · rw [decide_eq_false hd] at HFS
          have hd2 : nd < 1 := by omega
          have hd3 : decide (nd < 1) = true := decide_eq_true hd2
          go_enter Tryz.func32, Tryz.ntmps32
          go_wp2_with (first | (go_at_call 16; refine (HTX.out _ HO0.out.1).mono ?_; rintro e w3 ⟨rfl, ok⟩; have HB3 := hide3 (HK.out _ _ HO0.out ok); obtain ⟨_, ⟨x0, x1⟩, ⟨⟨y0, y1, y2, y3, y4, y5, y6, y7, y8⟩, y9⟩⟩ := HB3.out; clear ok r0 r1 r2 r3 r4 r5 r6 r7 r8))
          go_ret
          exact ⟨ret_bool (by rw [HFS.out]; simp), HB3.out.1⟩
      · have hb : b1 = false := by rw [HMB.out, decide_eq_false hlen]; simp
        rw [hb] at HFS
        have hl1 : decide ((tb.size : Int) > 1024) = true := decide_eq_true (by rw [HTZ.out]; omega)
        have hl2 : ((tb.size : Int) > 1024) := by rw [HTZ.out]; omega
        go_enter Tryz.func32, Tryz.ntmps32
        go_wp2_with (first | (go_at_call 16; refine (HTX.out _ HO0.out.1).mono ?_; rintro e w3 ⟨rfl, ok⟩; have HB3 := hide3 (HK.out _ _ HO0.out ok); obtain ⟨_, ⟨x0, x1⟩, ⟨⟨y0, y1, y2, y3, y4, y5, y6, y7, y8⟩, y9⟩⟩ := HB3.out; clear ok r0 r1 r2 r3 r4 r5 r6 r7 r8))
        go_ret
        exact ⟨ret_bool (by rw [HFS.out]; simp), HB3.out.1⟩
end Go.Proofs.YtcclfaioicklaaaGreatDoor
namespace Go.Proofs.YtcclfaioicklaaaGreatDoor
open Go.RowKit
set_option maxRecDepth 100000

set_option maxHeartbeats 1600000 in
theorem rSamePk_any {P Q : Pg} {v1 v2 v3 u1 u2 u3 : Value} {w : World} (hp : PgAt w P v1 v2 v3) (hq : PgAt w Q u1 u2 u3) (hd : P.d.length ≤ 9223372036854775807) (he : P.p.length ≤ 9223372036854775807) (ho : P.o.length ≤ 9223372036854775807) :
    Calls Tryz.prog 31 #[.agg #[.string P.nm, .int .i64 P.a, .int .i64 P.b, .int .i64 P.c, v1, v2, v3], .agg #[.string Q.nm, .int .i64 Q.a, .int .i64 Q.b, .int .i64 Q.c, u1, u2, u3]] w fun x w' => x = .returned (.bool (eqB P Q)) ∧ Below w.heap.size w w' := by
  have H1 : Hid (∀ w1, Below w.heap.size w w1 → Calls Tryz.prog 62 #[v1, u1] w1 fun e w' => e = .returned (.bool (eqB P.d Q.d)) ∧ Below w1.heap.size w1 w') := fun w1 h => rDeps_any (hp.1.below h) (hq.1.below h) hd
  have H2 : Hid (∀ w1, Below w.heap.size w w1 → Calls Tryz.prog 62 #[v2, u2] w1 fun e w' => e = .returned (.bool (eqB P.p Q.p)) ∧ Below w1.heap.size w1 w') := fun w1 h => rDeps_any (hp.2.1.below h) (hq.2.1.below h) he
  have H3 : Hid (∀ w1, Below w.heap.size w w1 → Calls Tryz.prog 62 #[v3, u3] w1 fun e w' => e = .returned (.bool (eqB P.o Q.o)) ∧ Below w1.heap.size w1 w') := fun w1 h => rDeps_any (hp.2.2.below h) (hq.2.2.below h) ho
  have HR : Hid (eqB P Q = (decide (P.nm.toList = Q.nm.toList) && (decide (P.a = Q.a) && decide (P.b = Q.b) && decide (P.c = Q.c)) && eqB P.d Q.d && eqB P.p Q.p && eqB P.o Q.o)) := by
    refine eqB_and ?_
    obtain ⟨n, a, b, c, d, e, o⟩ := P
    obtain ⟨n', a', b', c', d', e', o'⟩ := Q
    simp only [Bool.and_eq_true, decide_eq_true_eq, eqB_iff, Pg.mk.injEq]
    exact ⟨fun ⟨h1, h2, h3, h4, h5, h6, h7⟩ => ⟨⟨⟨⟨by rw [h1], ⟨h2, h3⟩, h4⟩, h5⟩, h6⟩, h7⟩, fun ⟨⟨⟨⟨h1, ⟨h2, h3⟩, h4⟩, h5⟩, h6⟩, h7⟩ => ⟨bytes_same h1, h2, h3, h4, h5, h6, h7⟩⟩
  obtain ⟨a1, c1, rfl⟩ := hp.1.sl
  obtain ⟨a2, c2, rfl⟩ := hp.2.1.sl
  obtain ⟨a3, c3, rfl⟩ := hp.2.2.sl
  obtain ⟨b1, d1, rfl⟩ := hq.1.sl
  obtain ⟨b2, d2, rfl⟩ := hq.2.1.sl
  obtain ⟨b3, d3, rfl⟩ := hq.2.2.sl
  clear hp hq hd he ho
  have hv := eqV2 P.a P.b P.c Q.a Q.b Q.c
  have hgd := guardV
  obtain ⟨n, a, b, c, d, e, o⟩ := P
  obtain ⟨n', a', b', c', d', e', o'⟩ := Q
  simp only at *
  generalize eqB d d' = x1 at *
  generalize eqB e e' = x2 at *
  generalize eqB o o' = x3 at *
  generalize (decide (a = a') && decide (b = b') && decide (c = c')) = xv at *
  generalize d.length = l1 at *
  generalize e.length = l2 at *
  generalize o.length = l3 at *
  generalize d'.length = m1 at *
  generalize e'.length = m2 at *
  generalize o'.length = m3 at *
  have HB : Hid (BxP ((w.alloc (.cells #[.string n, .int .i64 a, .int .i64 b, .int .i64 c, .slice a1 l1 c1, .slice a2 l2 c2, .slice a3 l3 c3] 44)).alloc (.cells #[.string n', .int .i64 a', .int .i64 b', .int .i64 c', .slice b1 m1 d1, .slice b2 m2 d2, .slice b3 m3 d3] 44)) w.heap.size n a b c (.slice a1 l1 c1) (.slice a2 l2 c2) (.slice a3 l3 c3) ∧ BxP ((w.alloc (.cells #[.string n, .int .i64 a, .int .i64 b, .int .i64 c, .slice a1 l1 c1, .slice a2 l2 c2, .slice a3 l3 c3] 44)).alloc (.cells #[.string n', .int .i64 a', .int .i64 b', .int .i64 c', .slice b1 m1 d1, .slice b2 m2 d2, .slice b3 m3 d3] 44)) (w.heap.size + 1) n' a' b' c' (.slice b1 m1 d1) (.slice b2 m2 d2) (.slice b3 m3 d3)) := ⟨keepBxP _ _ _ _ _ _ _ _ _ _ (BxP.new rfl _ _ _ _ _ _ _) (boxB _ _), BxP.new (by simp) _ _ _ _ _ _ _⟩
  have HK : Hid (KeepP fun w1 => BxP w1 w.heap.size n a b c (.slice a1 l1 c1) (.slice a2 l2 c2) (.slice a3 l3 c3) ∧ BxP w1 (w.heap.size + 1) n' a' b' c' (.slice b1 m1 d1) (.slice b2 m2 d2) (.slice b3 m3 d3)) := (keepBxP _ _ _ _ _ _ _ _).and (keepBxP _ _ _ _ _ _ _ _)
  have t1 : True := trivial
  have t2 : True := trivial
  by_cases hn : n.toList = n'.toList
  · cases xv
    · go_enter Tryz.func31, Tryz.ntmps31
      go_wp2
      go_ret
      exact ⟨ret_bool (by rw [HR.out]; simp), boxB2 _ _ _⟩
    · go_enter Tryz.func31, Tryz.ntmps31
      cases x1
      · go_wp2_with (go_at_call 62; refine (H1.out _ (boxB2 _ _ _)).mono ?_; rintro x w1 ⟨rfl, ok⟩)
        go_ret
        exact ⟨ret_bool (by rw [HR.out]; simp), below_then (boxB2 _ _ _) ok⟩
      · cases x2
        · go_wp2_with (first
            | (have _t := t1; go_at_call 62; refine (H1.out _ (boxB2 _ _ _)).mono ?_; rintro x w1 ⟨rfl, ok⟩; clear t1; have HB1 := hide3 (HK.out _ _ HB.out ok); obtain ⟨⟨p0, p1, p2, p3, p4, p5, p6, p7⟩, ⟨q0, q1, q2, q3, q4, q5, q6, q7⟩⟩ := HB1.out)
            | (go_at_call 62; refine (H2.out _ (below_then (boxB2 _ _ _) ok)).mono ?_; rintro x w2 ⟨rfl, ok2⟩))
          go_ret
          exact ⟨ret_bool (by rw [HR.out]; simp), below_then (below_then (boxB2 _ _ _) ok) ok2⟩
        · go_wp2_with (first
            | (have _t := t1; go_at_call 62; refine (H1.out _ (boxB2 _ _ _)).mono ?_; rintro x w1 ⟨rfl, ok⟩; clear t1; have HB1 := hide3 (HK.out _ _ HB.out ok); obtain ⟨⟨p0, p1, p2, p3, p4, p5, p6, p7⟩, ⟨q0, q1, q2, q3, q4, q5, q6, q7⟩⟩ := HB1.out)
            | (have _t := t2; go_at_call 62; refine (H2.out _ (below_then (boxB2 _ _ _) ok)).mono ?_; rintro x w2 ⟨rfl, ok2⟩; clear t2; have HB2 := hide3 (HK.out _ _ HB1.out ok2); clear p0 p1 p2 p3 p4 p5 p6 p7 q0 q1 q2 q3 q4 q5 q6 q7; obtain ⟨⟨p0, p1, p2, p3, p4, p5, p6, p7⟩, ⟨q0, q1, q2, q3, q4, q5, q6, q7⟩⟩ := HB2.out)
            | (go_at_call 62; refine (H3.out _ (below_then (below_then (boxB2 _ _ _) ok) ok2)).mono ?_; rintro x w3 ⟨rfl, ok3⟩))
          go_ret
          exact ⟨ret_bool (by rw [HR.out]; simp [hn]), below_then (below_then (below_then (boxB2 _ _ _) ok) ok2) ok3⟩
  · go_enter Tryz.func31, Tryz.ntmps31
    go_wp2
    go_ret
    exact ⟨ret_bool (by rw [HR.out]; simp [hn]), boxB2 _ _ _⟩
end Go.Proofs.YtcclfaioicklaaaGreatDoor
