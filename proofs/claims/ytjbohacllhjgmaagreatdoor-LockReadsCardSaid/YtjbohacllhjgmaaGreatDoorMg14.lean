/- LockReads: of any arguments it answers true, and each argument reads as it read before (the tied card). Conditions: none but the row's own. -/
import Derived.Test.YtjbohacllhjgmaaGreatDoorMg13
namespace Go.Proofs.YtjbohacllhjgmaaGreatDoor
open Go.RowKit
open Sc (KeepP hide3 keepBelow Bs ba wp_region_keep)
set_option maxRecDepth 100000

/-- What stays while two nodes are compared. -/
def KX (w : World) (N M : Nat) (v u : Value) (x y : Nd) (vc ve uc ue : Value) (W : World) : Prop :=
  (Below w.heap.size w W ∧ BxG W N v ∧ BxG W (N + 1) u) ∧ (BxNd W M x vc ve ∧ BxNd W (M + 1) y uc ue) ∧ (PinsAt W vc x.cx ∧ PinsAt W uc y.cx) ∧ EdgesAt W ve x.ed ∧ EdgesAt W ue y.ed
theorem keepKX (w : World) (N M : Nat) (v u : Value) (x y : Nd) (vc ve uc ue : Value) : KeepP (KX w N M v u x y vc ve uc ue) := fun _ _ ⟨⟨h1, h2, h3⟩, ⟨h4, h5⟩, ⟨h6, h7⟩, h8, h9⟩ hb =>
  ⟨⟨below_then h1 hb, keepBxG _ _ _ _ h2 hb, keepBxG _ _ _ _ h3 hb⟩, ⟨keepBxNd _ _ _ _ _ _ h4 hb, keepBxNd _ _ _ _ _ _ h5 hb⟩, ⟨h6.below hb, h7.below hb⟩, h8.below hb, h9.below hb⟩
theorem keepPnIn (g o : Nat) (p : Pn) : KeepP fun W => PnIn W g o p := fun _ _ h hb => h.below hb
theorem keepEgIn (g o : Nat) (p : Eg) : KeepP fun W => EgIn W g o p := fun _ _ h hb => h.below hb
theorem pins_cell {W : World} {ad : Option Addr} {n cap : Nat} {L : List Pn} (h : PinsAt W (.slice ad n cap) L) {m : Nat} (hm : m < L.length) : ∃ g o, ad = some ⟨g, o, none⟩ ∧ n ≤ cap ∧ PnIn W g (o + m * 4) L[m] := by
  obtain ⟨a1, c1, hv, hc, hl⟩ := h
  cases hv
  rcases hl with rfl | ⟨g, o, rfl, _, hs⟩
  · cases hm
  · exact ⟨g, o, rfl, hc, hs m hm⟩
theorem edges_cell {W : World} {ad : Option Addr} {n cap : Nat} {L : List Eg} (h : EdgesAt W (.slice ad n cap) L) {m : Nat} (hm : m < L.length) : ∃ g o, ad = some ⟨g, o, none⟩ ∧ n ≤ cap ∧ EgIn W g (o + m * 2) L[m] := by
  obtain ⟨a1, c1, hv, hc, hl⟩ := h
  cases hv
  rcases hl with rfl | ⟨g, o, rfl, _, hs⟩
  · cases hm
  · exact ⟨g, o, rfl, hc, hs m hm⟩
theorem same_at {A C : List Nd} (h : A.length = C.length) (hj : ∀ j (_ : j < A.length) (h1 : j < A.length) (h2 : j < C.length), A[j] = C[j]) : A = C := List.ext_getElem h fun j h1 h2 => hj j h1 h1 h2

set_option maxHeartbeats 12800000 in
theorem rSameG_walk {A C : List Nd} (hAC : A.length = C.length) (hz : A.length ≤ 1000000) (hzl : ∀ n ∈ A, n.cx.length ≤ 1000000 ∧ n.ed.length ≤ 1000000) {ga oa ca gb ob cb : Nat} {w : World}
    (ha : ∀ W, Below w.heap.size w W → ∀ i (h : i < A.length), ∃ vc ve, NdIn W ga (oa + i * 6) A[i] vc ve) (hc : ∀ W, Below w.heap.size w W → ∀ i (h : i < C.length), ∃ vc ve, NdIn W gb (ob + i * 6) C[i] vc ve) :
    Calls Tryz.prog 6 #[.agg #[.slice (some ⟨ga, oa, none⟩) A.length ca], .agg #[.slice (some ⟨gb, ob, none⟩) A.length cb]] w fun e w' => e = .returned (.bool (eqB A C)) ∧ Below w.heap.size w w' := by
  have HA := hide3 ha
  have HC := hide3 hc
  have HAC := hide3 hAC
  have HZL := hide3 hzl
  clear ha hc hAC hzl
  have HB0 : Hid (Below w.heap.size w ((w.alloc (.cells #[.slice (some ⟨ga, oa, none⟩) A.length ca] 24)).alloc (.cells #[.slice (some ⟨gb, ob, none⟩) A.length cb] 24)) ∧ BxG ((w.alloc (.cells #[.slice (some ⟨ga, oa, none⟩) A.length ca] 24)).alloc (.cells #[.slice (some ⟨gb, ob, none⟩) A.length cb] 24)) w.heap.size (.slice (some ⟨ga, oa, none⟩) A.length ca) ∧ BxG ((w.alloc (.cells #[.slice (some ⟨ga, oa, none⟩) A.length ca] 24)).alloc (.cells #[.slice (some ⟨gb, ob, none⟩) A.length cb] 24)) (w.heap.size + 1) (.slice (some ⟨gb, ob, none⟩) A.length cb)) := ⟨below_then (boxB _ _) (boxB _ _), keepBxG _ _ _ _ (BxG.new rfl _) (boxB _ _), BxG.new (by simp) _⟩
  go_enter Tryz.func6, Tryz.ntmps6
  go_wp2_with fail
  go_loopw [5] (fun i wr => ∃ k : Nat, k ≤ A.length ∧ i = .int .i64 k ∧ (Below w.heap.size w wr ∧ BxG wr w.heap.size (.slice (some ⟨ga, oa, none⟩) A.length ca) ∧ BxG wr (w.heap.size + 1) (.slice (some ⟨gb, ob, none⟩) A.length cb)) ∧ ∀ j (h : j < k) (h1 : j < A.length) (h2 : j < C.length), A[j] = C[j]) (fun i _ => A.length - (intOf i).toNat)
  case atStart => exact ⟨0, Nat.zero_le _, rfl, HB0.out, fun j h => by omega⟩
  case round =>
    clear HB0
    obtain ⟨k, hk, rfl, hb, hall⟩ := hrel
    have HALL := hide3 hall
    have HB := hide3 hb
    obtain ⟨_, ⟨y0, y1⟩, ⟨z0, z1⟩⟩ := hb
    clear hall
    by_cases hlt : k < A.length
    · have hltC : k < C.length := HAC.out ▸ hlt
      obtain ⟨vc, ve, hx⟩ := HA.out wr HB.out.1 k hlt
      obtain ⟨uc, ue, hy⟩ := HC.out wr HB.out.1 k hltC
      have HNE : Hid (A[k] ≠ C[k] → eqB A C = false) := fun h => eqB_no fun e => by subst e; exact h rfl
      have HST : Hid (A[k] = C[k] → ∀ j (h : j < k + 1) (h1 : j < A.length) (h2 : j < C.length), A[j] = C[j]) := fun h j hj h1 h2 => by
        rcases Nat.lt_or_ge j k with hjk | hjk
        · exact HALL.out j hjk h1 h2
        · obtain rfl : j = k := by omega
          exact h
      have hzk := HZL.out A[k] (List.getElem_mem hlt)
      clear HALL HA HC HZL
      generalize A[k] = x at *
      generalize C[k] = y at *
      obtain ⟨av, cv, rfl⟩ := hx.2.1.1.sl
      obtain ⟨ae, ce, rfl⟩ := hx.2.1.2.sl
      obtain ⟨bv, dv, rfl⟩ := hy.2.1.1.sl
      obtain ⟨be, de, rfl⟩ := hy.2.1.2.sl
      have HX1 := hide3 (hx.below (boxB wr (.cells #[.string x.nm, .int .i64 x.a, .int .i64 x.b, .int .i64 x.c, .slice av x.cx.length cv, .slice ae x.ed.length ce] 43)))
      have HY1 := hide3 (hy.below (boxB wr (.cells #[.string x.nm, .int .i64 x.a, .int .i64 x.b, .int .i64 x.c, .slice av x.cx.length cv, .slice ae x.ed.length ce] 43)))
      have HX2 := hide3 (HX1.out.below (boxB _ (.cells #[.string y.nm, .int .i64 y.a, .int .i64 y.b, .int .i64 y.c, .slice bv y.cx.length dv, .slice be y.ed.length de] 43)))
      have HY2 := hide3 (HY1.out.below (boxB _ (.cells #[.string y.nm, .int .i64 y.a, .int .i64 y.b, .int .i64 y.c, .slice bv y.cx.length dv, .slice be y.ed.length de] 43)))
      have HKX : Hid (KX w w.heap.size wr.heap.size (.slice (some ⟨ga, oa, none⟩) A.length ca) (.slice (some ⟨gb, ob, none⟩) A.length cb) x y (.slice av x.cx.length cv) (.slice ae x.ed.length ce) (.slice bv y.cx.length dv) (.slice be y.ed.length de) ((wr.alloc (.cells #[.string x.nm, .int .i64 x.a, .int .i64 x.b, .int .i64 x.c, .slice av x.cx.length cv, .slice ae x.ed.length ce] 43)).alloc (.cells #[.string y.nm, .int .i64 y.a, .int .i64 y.b, .int .i64 y.c, .slice bv y.cx.length dv, .slice be y.ed.length de] 43))) :=
        ⟨⟨below_then (below_then HB.out.1 (boxB _ _)) (boxB _ _), keepBxG _ _ _ _ (keepBxG _ _ _ _ HB.out.2.1 (boxB _ _)) (boxB _ _), keepBxG _ _ _ _ (keepBxG _ _ _ _ HB.out.2.2 (boxB _ _)) (boxB _ _)⟩, ⟨keepBxNd _ _ _ _ _ _ (BxNd.new rfl _ _ _) (boxB _ _), BxNd.new (by simp) _ _ _⟩, ⟨HX2.out.2.1.1, HY2.out.2.1.1⟩, HX2.out.2.1.2, HY2.out.2.1.2⟩
      obtain ⟨⟨x0, x1, x2, x3, x4, x5⟩, _, x6⟩ := hx
      obtain ⟨⟨f0, f1, f2, f3, f4, f5⟩, _, f6⟩ := HY1.out
      clear HX1 HY1 HX2 HY2 hy
      have hv := neqV x.a x.b x.c y.a y.b y.c
      have hgd := guardV
      by_cases hn : x.nm.toList = y.nm.toList
      · by_cases hvv : x.a = y.a ∧ x.b = y.b ∧ x.c = y.c
        · by_cases hlc : x.cx.length = y.cx.length
          · by_cases hle : x.ed.length = y.ed.length
            · rw [decide_eq_true hvv] at hv
              have HEQ : Hid (x = y ↔ x.cx = y.cx ∧ x.ed = y.ed) := ⟨fun e => by rw [e]; exact ⟨rfl, rfl⟩, fun ⟨e1, e2⟩ => by
                obtain ⟨n, a, b, c, cx, ed⟩ := x
                obtain ⟨n', a', b', c', cx', ed'⟩ := y
                obtain ⟨h1, h2, h3⟩ := hvv
                simp only at *
                rw [bytes_same hn, h1, h2, h3, e1, e2]⟩
              have HLC := hide3 hlc
              have HLE := hide3 hle
              rw [← hlc, ← hle] at HKX
              rw [← hlc] at f4
              rw [← hle] at f5
              have HKP := hide3 (keepKX w w.heap.size wr.heap.size (.slice (some ⟨ga, oa, none⟩) A.length ca) (.slice (some ⟨gb, ob, none⟩) A.length cb) x y (.slice av x.cx.length cv) (.slice ae x.ed.length ce) (.slice bv x.cx.length dv) (.slice be x.ed.length de))
              clear hvv hlc hle
              generalize hlx : x.cx.length = lx at *
              generalize hle : x.ed.length = le at *
              have HLX := hide3 hlx
              have HLEE := hide3 hle
              clear hlx hle
              obtain ⟨wa, rfl⟩ : ∃ q, q = wr := ⟨wr, rfl⟩
              go_wp2_with fail
              go_loopw [8] (fun j wq => ∃ m : Nat, m ≤ lx ∧ j = .int .i64 m ∧ KX w w.heap.size wa.heap.size (.slice (some ⟨ga, oa, none⟩) A.length ca) (.slice (some ⟨gb, ob, none⟩) A.length cb) x y (.slice av lx cv) (.slice ae le ce) (.slice bv lx dv) (.slice be le de) wq ∧ ∀ i (h : i < m) (h1 : i < x.cx.length) (h2 : i < y.cx.length), x.cx[i] = y.cx[i]) (fun j _ => lx - (intOf j).toNat)
              case atStart => exact ⟨0, Nat.zero_le _, rfl, HKX.out, fun i h => by omega⟩
              case round =>
                clear HKX x0 x1 x2 x3 x4 x5 x6 f0 f1 f2 f3 f4 f5 f6 y0 y1 z0 z1 HB
                obtain ⟨m, hm, rfl, hkx, heq⟩ := hrel
                have HEP := hide3 heq
                have HKX := hide3 hkx
                obtain ⟨_, ⟨⟨⟨b0, b1, b2, b3, b4, b5⟩, b6⟩, ⟨⟨d0, d1, d2, d3, d4, d5⟩, d6⟩⟩, _, _⟩ := hkx
                clear heq
                by_cases hml : m < lx
                · have hmx : m < x.cx.length := by have := HLX.out; omega
                  have hmy : m < y.cx.length := by have := HLC.out; omega
                  obtain ⟨gp, op, rfl, hcp, hpi⟩ := pins_cell HKX.out.2.2.1.1 hmx
                  obtain ⟨gq, oq, rfl, hcq, hqi⟩ := pins_cell HKX.out.2.2.1.2 hmy
                  have HPN : Hid (x.cx[m] ≠ y.cx[m] → eqB A C = false) := fun h => HNE.out fun e => h (by subst e; rfl)
                  have HPS : Hid (x.cx[m] = y.cx[m] → ∀ i (h : i < m + 1) (h1 : i < x.cx.length) (h2 : i < y.cx.length), x.cx[i] = y.cx[i]) := fun h i hi h1 h2 => by
                    rcases Nat.lt_or_ge i m with him | him
                    · exact HEP.out i him h1 h2
                    · obtain rfl : i = m := by omega
                      exact h
                  have HO : Hid (KX w w.heap.size wa.heap.size (.slice (some ⟨ga, oa, none⟩) A.length ca) (.slice (some ⟨gb, ob, none⟩) A.length cb) x y (.slice (some ⟨gp, op, none⟩) lx cv) (.slice ae le ce) (.slice (some ⟨gq, oq, none⟩) lx dv) (.slice be le de) wr ∧ PnIn wr gp (op + m * 4) x.cx[m] ∧ PnIn wr gq (oq + m * 4) y.cx[m]) := ⟨HKX.out, hpi, hqi⟩
                  have HK : Hid (KeepP fun W => KX w w.heap.size wa.heap.size (.slice (some ⟨ga, oa, none⟩) A.length ca) (.slice (some ⟨gb, ob, none⟩) A.length cb) x y (.slice (some ⟨gp, op, none⟩) lx cv) (.slice ae le ce) (.slice (some ⟨gq, oq, none⟩) lx dv) (.slice be le de) W ∧ PnIn W gp (op + m * 4) x.cx[m] ∧ PnIn W gq (oq + m * 4) y.cx[m]) := HKP.out.and ((keepPnIn _ _ _).and (keepPnIn _ _ _))
                  clear HKX hpi hqi HEP
                  generalize x.cx[m] = p at *
                  generalize y.cx[m] = q at *
                  have hp := neqPn p q
                  have hgp := guardPn
                  cases hpq : eqPn p q
                  · have HR := hide3 (HPN.out fun e => by rw [eqPn_iff.2 e] at hpq; cases hpq)
                    rw [hpq] at hp
                    clear HPN HPS hpq
                    go_wp2_with fail
                    clear b0 b1 b2 b3 b4 b5 b6 d0 d1 d2 d3 d4 d5 d6
                    refine wp_region_keep HK.out (by kernel_rfl) (by kernel_rfl) (by first | exact HO.out | exact HK.out.drew HO.out) ?_
                    intro C hin hout
                    have HIN := hide3 hin
                    have HOUT := hide3 hout
                    clear hin hout HO
                    repeat
                      (with_reducible refine wpQuiet_step (fun K hK => ?_)
                       go_simp
                       first
                         | (refine hK _ ?_; clear hK K)
                         | (apply Exists.intro; refine ⟨fun w1 hC => ?_, hK _ ?_⟩; (focus ((first | (exact rfl) | (obtain ⟨⟨_, ⟨⟨⟨b0, b1, b2, b3, b4, b5⟩, b6⟩, ⟨⟨d0, d1, d2, d3, d4, d5⟩, d6⟩⟩, _, _⟩, ⟨⟨p0, p1, p2, p3⟩, p4⟩, ⟨⟨q0, q1, q2, q3⟩, q4⟩⟩ := HOUT.out w1 hC; clear hC; go_simp; first | done | exact rfl)); done)); clear hK K))
                    refine wpQuiet_nil ?_
                    intro wn hC
                    have HO := hide3 (HOUT.out _ hC)
                    clear hC HIN HOUT C
                    obtain ⟨⟨_, ⟨⟨⟨b0, b1, b2, b3, b4, b5⟩, b6⟩, ⟨⟨d0, d1, d2, d3, d4, d5⟩, d6⟩⟩, _, _⟩, ⟨⟨p0, p1, p2, p3⟩, p4⟩, ⟨⟨q0, q1, q2, q3⟩, q4⟩⟩ := HO.out
                    go_wp2
                    go_ret
                    exact ⟨ret_bool HR.out.symm, HO.out.1.1.1⟩
                  · have HR := hide3 (HPS.out (eqPn_iff.1 hpq))
                    rw [hpq] at hp
                    clear HPN HPS hpq
                    go_wp2_with fail
                    clear b0 b1 b2 b3 b4 b5 b6 d0 d1 d2 d3 d4 d5 d6
                    refine wp_region_keep HK.out (by kernel_rfl) (by kernel_rfl) (by first | exact HO.out | exact HK.out.drew HO.out) ?_
                    intro C hin hout
                    have HIN := hide3 hin
                    have HOUT := hide3 hout
                    clear hin hout HO
                    repeat
                      (with_reducible refine wpQuiet_step (fun K hK => ?_)
                       go_simp
                       first
                         | (refine hK _ ?_; clear hK K)
                         | (apply Exists.intro; refine ⟨fun w1 hC => ?_, hK _ ?_⟩; (focus ((first | (exact rfl) | (obtain ⟨⟨_, ⟨⟨⟨b0, b1, b2, b3, b4, b5⟩, b6⟩, ⟨⟨d0, d1, d2, d3, d4, d5⟩, d6⟩⟩, _, _⟩, ⟨⟨p0, p1, p2, p3⟩, p4⟩, ⟨⟨q0, q1, q2, q3⟩, q4⟩⟩ := HOUT.out w1 hC; clear hC; go_simp; first | done | exact rfl)); done)); clear hK K))
                    refine wpQuiet_nil ?_
                    intro wn hC
                    have HO := hide3 (HOUT.out _ hC)
                    clear hC HIN HOUT C
                    obtain ⟨⟨_, ⟨⟨⟨b0, b1, b2, b3, b4, b5⟩, b6⟩, ⟨⟨d0, d1, d2, d3, d4, d5⟩, d6⟩⟩, _, _⟩, ⟨⟨p0, p1, p2, p3⟩, p4⟩, ⟨⟨q0, q1, q2, q3⟩, q4⟩⟩ := HO.out
                    go_wp2
                    exact ⟨⟨m + 1, by omega, by go_num, HO.out.1, HR.out⟩, by simp [intOf]; omega⟩
                · have hme : m = lx := by omega
                  subst hme
                  have HCX : Hid (x.cx = y.cx) := List.ext_getElem (HLX.out.trans HLC.out) fun i h1 h2 => HEP.out i (by have := HLX.out; omega) h1 h2
                  clear HEP
                  obtain ⟨wb, rfl⟩ : ∃ q, q = wr := ⟨wr, rfl⟩
                  go_wp2_with fail
                  clear b0 b1 b2 b3 b4 b5 b6 d0 d1 d2 d3 d4 d5 d6
                  go_loopw [9] (fun j wq => ∃ n : Nat, n ≤ le ∧ j = .int .i64 n ∧ KX w w.heap.size wa.heap.size (.slice (some ⟨ga, oa, none⟩) A.length ca) (.slice (some ⟨gb, ob, none⟩) A.length cb) x y (.slice av m cv) (.slice ae le ce) (.slice bv m dv) (.slice be le de) wq ∧ ∀ i (h : i < n) (h1 : i < x.ed.length) (h2 : i < y.ed.length), x.ed[i] = y.ed[i]) (fun j _ => le - (intOf j).toNat)
                  case atStart => exact ⟨0, Nat.zero_le _, rfl, HKX.out, fun i h => by omega⟩
                  case round =>
                    clear HKX
                    obtain ⟨n, hnn, rfl, hkx, heq⟩ := hrel
                    have HEP := hide3 heq
                    have HKX := hide3 hkx
                    obtain ⟨_, ⟨⟨⟨b0, b1, b2, b3, b4, b5⟩, b6⟩, ⟨⟨d0, d1, d2, d3, d4, d5⟩, d6⟩⟩, _, _⟩ := hkx
                    clear heq
                    by_cases hml : n < le
                    · have hmx : n < x.ed.length := by have := HLEE.out; omega
                      have hmy : n < y.ed.length := by have := HLE.out; omega
                      obtain ⟨gp, op, rfl, hcp, hpi⟩ := edges_cell HKX.out.2.2.2.1 hmx
                      obtain ⟨gq, oq, rfl, hcq, hqi⟩ := edges_cell HKX.out.2.2.2.2 hmy
                      have HPN : Hid (x.ed[n] ≠ y.ed[n] → eqB A C = false) := fun h => HNE.out fun e => h (by subst e; rfl)
                      have HPS : Hid (x.ed[n] = y.ed[n] → ∀ i (h : i < n + 1) (h1 : i < x.ed.length) (h2 : i < y.ed.length), x.ed[i] = y.ed[i]) := fun h i hi h1 h2 => by
                        rcases Nat.lt_or_ge i n with him | him
                        · exact HEP.out i him h1 h2
                        · obtain rfl : i = n := by omega
                          exact h
                      have HO : Hid (KX w w.heap.size wa.heap.size (.slice (some ⟨ga, oa, none⟩) A.length ca) (.slice (some ⟨gb, ob, none⟩) A.length cb) x y (.slice av m cv) (.slice (some ⟨gp, op, none⟩) le ce) (.slice bv m dv) (.slice (some ⟨gq, oq, none⟩) le de) wr ∧ EgIn wr gp (op + n * 2) x.ed[n] ∧ EgIn wr gq (oq + n * 2) y.ed[n]) := ⟨HKX.out, hpi, hqi⟩
                      have HK : Hid (KeepP fun W => KX w w.heap.size wa.heap.size (.slice (some ⟨ga, oa, none⟩) A.length ca) (.slice (some ⟨gb, ob, none⟩) A.length cb) x y (.slice av m cv) (.slice (some ⟨gp, op, none⟩) le ce) (.slice bv m dv) (.slice (some ⟨gq, oq, none⟩) le de) W ∧ EgIn W gp (op + n * 2) x.ed[n] ∧ EgIn W gq (oq + n * 2) y.ed[n]) := HKP.out.and ((keepEgIn _ _ _).and (keepEgIn _ _ _))
                      clear HKX hpi hqi HEP
                      generalize x.ed[n] = p at *
                      generalize y.ed[n] = q at *
                      have hp := neqEg p q
                      have hgp := guardEg
                      cases hpq : eqEg p q
                      · have HR := hide3 (HPN.out fun e => by rw [eqEg_iff.2 e] at hpq; cases hpq)
                        rw [hpq] at hp
                        clear HPN HPS hpq
                        go_wp2_with fail
                        clear b0 b1 b2 b3 b4 b5 b6 d0 d1 d2 d3 d4 d5 d6
                        refine wp_region_keep HK.out (by kernel_rfl) (by kernel_rfl) (by first | exact HO.out | exact HK.out.drew HO.out) ?_
                        intro C hin hout
                        have HIN := hide3 hin
                        have HOUT := hide3 hout
                        clear hin hout HO
                        repeat
                          (with_reducible refine wpQuiet_step (fun K hK => ?_)
                           go_simp
                           first
                             | (refine hK _ ?_; clear hK K)
                             | (apply Exists.intro; refine ⟨fun w1 hC => ?_, hK _ ?_⟩; (focus ((first | (exact rfl) | (obtain ⟨⟨_, ⟨⟨⟨b0, b1, b2, b3, b4, b5⟩, b6⟩, ⟨⟨d0, d1, d2, d3, d4, d5⟩, d6⟩⟩, _, _⟩, ⟨⟨p0, p1⟩, p4⟩, ⟨⟨q0, q1⟩, q4⟩⟩ := HOUT.out w1 hC; clear hC; go_simp; first | done | exact rfl)); done)); clear hK K))
                        refine wpQuiet_nil ?_
                        intro wn hC
                        have HO := hide3 (HOUT.out _ hC)
                        clear hC HIN HOUT C
                        obtain ⟨⟨_, ⟨⟨⟨b0, b1, b2, b3, b4, b5⟩, b6⟩, ⟨⟨d0, d1, d2, d3, d4, d5⟩, d6⟩⟩, _, _⟩, ⟨⟨p0, p1⟩, p4⟩, ⟨⟨q0, q1⟩, q4⟩⟩ := HO.out
                        go_wp2
                        go_ret
                        exact ⟨ret_bool HR.out.symm, HO.out.1.1.1⟩
                      · have HR := hide3 (HPS.out (eqEg_iff.1 hpq))
                        rw [hpq] at hp
                        clear HPN HPS hpq
                        go_wp2_with fail
                        clear b0 b1 b2 b3 b4 b5 b6 d0 d1 d2 d3 d4 d5 d6
                        refine wp_region_keep HK.out (by kernel_rfl) (by kernel_rfl) (by first | exact HO.out | exact HK.out.drew HO.out) ?_
                        intro C hin hout
                        have HIN := hide3 hin
                        have HOUT := hide3 hout
                        clear hin hout HO
                        repeat
                          (with_reducible refine wpQuiet_step (fun K hK => ?_)
                           go_simp
                           first
                             | (refine hK _ ?_; clear hK K)
                             | (apply Exists.intro; refine ⟨fun w1 hC => ?_, hK _ ?_⟩; (focus ((first | (exact rfl) | (obtain ⟨⟨_, ⟨⟨⟨b0, b1, b2, b3, b4, b5⟩, b6⟩, ⟨⟨d0, d1, d2, d3, d4, d5⟩, d6⟩⟩, _, _⟩, ⟨⟨p0, p1⟩, p4⟩, ⟨⟨q0, q1⟩, q4⟩⟩ := HOUT.out w1 hC; clear hC; go_simp; first | done | exact rfl)); done)); clear hK K))
                        refine wpQuiet_nil ?_
                        intro wn hC
                        have HO := hide3 (HOUT.out _ hC)
                        clear hC HIN HOUT C
                        obtain ⟨⟨_, ⟨⟨⟨b0, b1, b2, b3, b4, b5⟩, b6⟩, ⟨⟨d0, d1, d2, d3, d4, d5⟩, d6⟩⟩, _, _⟩, ⟨⟨p0, p1⟩, p4⟩, ⟨⟨q0, q1⟩, q4⟩⟩ := HO.out
                        go_wp2
                        exact ⟨⟨n + 1, by omega, by go_num, HO.out.1, HR.out⟩, by simp [intOf]; omega⟩
                    · have hme2 : n = le := by omega
                      subst hme2
                      have HED : Hid (x.ed = y.ed) := List.ext_getElem (HLEE.out.trans HLE.out) fun i h1 h2 => HEP.out i (by have := HLEE.out; omega) h1 h2
                      have HR := hide3 (HST.out (HEQ.out.2 ⟨HCX.out, HED.out⟩))
                      clear HEP HKP HNE HST
                      go_wp2
                      exact ⟨⟨k + 1, by omega, by go_num, HKX.out.1, HR.out⟩, by simp [intOf]; omega⟩
            · have HR := hide3 (HNE.out fun e => hle (by rw [e]))
              rw [decide_eq_true hvv] at hv
              have hle2 : ((x.ed.length : Int) = (y.ed.length : Int)) = False := by simp; omega
              have hle3 : ((x.ed.length : Int) == (y.ed.length : Int)) = false := by rw [beq_eq_false_iff_ne]; omega
              rw [← hlc] at HKX f4
              clear hle hlc hvv
              generalize x.ed.length = lx at *
              generalize y.ed.length = ly at *
              clear HNE HST
              go_wp2
              go_ret
              exact ⟨ret_bool HR.out.symm, HKX.out.1.1⟩
          · have HR := hide3 (HNE.out fun e => hlc (by rw [e]))
            rw [decide_eq_true hvv] at hv
            have hlc2 : ((x.cx.length : Int) = (y.cx.length : Int)) = False := by simp; omega
            have hlc3 : ((x.cx.length : Int) == (y.cx.length : Int)) = false := by rw [beq_eq_false_iff_ne]; omega
            clear hlc hvv
            generalize x.cx.length = lx at *
            generalize y.cx.length = ly at *
            clear HNE HST
            go_wp2
            go_ret
            exact ⟨ret_bool HR.out.symm, HKX.out.1.1⟩
        · have HR := hide3 (HNE.out fun e => hvv (by rw [e]; exact ⟨rfl, rfl, rfl⟩))
          rw [decide_eq_false hvv] at hv
          clear HNE HST
          go_wp2
          go_ret
          exact ⟨ret_bool HR.out.symm, HKX.out.1.1⟩
      · have HR := hide3 (HNE.out fun e => hn (by rw [e]))
        clear HNE HST
        go_wp2
        go_ret
        exact ⟨ret_bool HR.out.symm, HKX.out.1.1⟩
    · obtain rfl : k = A.length := by omega
      have HR : Hid (eqB A C = true) := eqB_yes (same_at HAC.out fun j h1 h2 h3 => HALL.out j h1 h2 h3)
      clear HALL
      go_wp2
      go_ret
      exact ⟨ret_bool HR.out.symm, HB.out.1⟩
end Go.Proofs.YtjbohacllhjgmaaGreatDoor
namespace Go.Proofs.YtjbohacllhjgmaaGreatDoor
open Go.RowKit
open Sc (KeepP hide3 keepBelow Bs ba)
set_option maxRecDepth 100000

theorem Env.spell {w : World} (he : Env w) : SpellAll w := fun W hb n h0 h1 => spells_tab he.tab W hb n h0 h1
theorem rSameG_len (ad bd : Option Addr) (n m ca cb : Nat) (h : n ≠ m) (w : World) :
    Calls Tryz.prog 6 #[.agg #[.slice ad n ca], .agg #[.slice bd m cb]] w fun e w' => e = .returned (.bool false) ∧ Below w.heap.size w w' := by
  have hn : ((n : Int) = (m : Int)) = False := by simp; omega
  have HB : Hid (Below w.heap.size w ((w.alloc (.cells #[.slice ad n ca] 24)).alloc (.cells #[.slice bd m cb] 24))) := below_then (boxB _ _) (boxB _ _)
  go_enter Tryz.func6, Tryz.ntmps6
  go_wp2
  go_ret
  exact ⟨rfl, HB.out⟩

theorem rSameG_nil (ad bd : Option Addr) (ca cb : Nat) (w : World) :
    Calls Tryz.prog 6 #[.agg #[.slice ad 0 ca], .agg #[.slice bd 0 cb]] w fun e w' => e = .returned (.bool true) ∧ Below w.heap.size w w' := by
  have HB : Hid (Below w.heap.size w ((w.alloc (.cells #[.slice ad 0 ca] 24)).alloc (.cells #[.slice bd 0 cb] 24)) ∧ BxG ((w.alloc (.cells #[.slice ad 0 ca] 24)).alloc (.cells #[.slice bd 0 cb] 24)) w.heap.size (.slice ad 0 ca)) := ⟨below_then (boxB _ _) (boxB _ _), keepBxG _ _ _ _ (BxG.new rfl _) (boxB _ _)⟩
  go_enter Tryz.func6, Tryz.ntmps6
  go_wp2_with fail
  go_loopw [5] (fun i wr => i = .int .i64 0 ∧ Below w.heap.size w wr ∧ BxG wr w.heap.size (.slice ad 0 ca)) (fun _ _ => 0)
  case atStart => exact ⟨rfl, HB.out⟩
  case round =>
    clear HB
    obtain ⟨rfl, hb, y0, y1⟩ := hrel
    have HB := hide3 hb
    clear hb
    go_wp2
    go_ret
    exact ⟨rfl, HB.out⟩

theorem rSameG_any {A C : List Nd} {v u : Value} {w : World} (ha : NodesAt w v A) (hc : NodesAt w u C) (hz : A.length ≤ 1000000) (hzl : ∀ n ∈ A, n.cx.length ≤ 1000000 ∧ n.ed.length ≤ 1000000) :
    Calls Tryz.prog 6 #[.agg #[v], .agg #[u]] w fun e w' => e = .returned (.bool (eqB A C)) ∧ Below w.heap.size w w' := by
  obtain ⟨ad, ca, rfl, _, hl⟩ := ha
  obtain ⟨bd, cb, rfl, _, hm⟩ := hc
  by_cases hn : A.length = C.length
  · rcases hl with rfl | ⟨ga, oa, rfl, hga, hla⟩
    · obtain rfl : C = [] := List.eq_nil_of_length_eq_zero (by simpa using hn.symm)
      rw [eqB_yes rfl]
      exact rSameG_nil _ _ _ _ _
    · rcases hm with rfl | ⟨gb, ob, rfl, hgb, hlb⟩
      · obtain rfl : A = [] := List.eq_nil_of_length_eq_zero (by simpa using hn)
        rw [eqB_yes rfl]
        exact rSameG_nil _ _ _ _ _
      · rw [← hn]
        exact rSameG_walk hn hz hzl (fun W hb i hi => by obtain ⟨vc, ve, h⟩ := hla i hi; exact ⟨vc, ve, h.below hb⟩) (fun W hb i hi => by obtain ⟨vc, ve, h⟩ := hlb i hi; exact ⟨vc, ve, h.below hb⟩)
  · rw [eqB_no fun e => hn (by rw [e])]
    exact rSameG_len _ _ _ _ _ _ hn _
theorem may_short {G : List Nd} (h : mayG G = true) : G.length ≤ 1000000 ∧ ∀ n ∈ G, n.cx.length ≤ 1000000 ∧ n.ed.length ≤ 1000000 := by
  obtain ⟨h1, _, h3, _⟩ := mayG_nodes h
  refine ⟨by omega, fun n hn => ?_⟩
  have k1 := (h3 n hn).1.1
  have k2 := (h3 n hn).2.1
  omega
theorem text_one {P Q : List Nd} (h1 : mayG P = true) (h2 : mayG Q = true) (h : textG P = textG Q) : P = Q := by
  have e1 := text_par h1
  have e2 := text_par h2
  rw [h, e2] at e1
  exact (Option.some.inj e1).symm

end Go.Proofs.YtjbohacllhjgmaaGreatDoor
namespace Go.Proofs.YtjbohacllhjgmaaGreatDoor
open Go.RowKit
open Sc (KeepP hide3 keepBelow Bs ba)
set_option maxRecDepth 100000

theorem par_may {t : ByteArray} {G : List Nd} (h : parG t = some G) : mayG G = true := by
  unfold parG at h
  split at h
  · split at h
    · split at h
      · rename_i hm
        cases h
        exact hm
      · cases h
    · cases h
  · cases h
theorem nodes_nil (w : World) : NodesAt w (.slice none 0 0) [] := ⟨none, 0, rfl, Nat.le_refl _, Or.inl rfl⟩

set_option maxHeartbeats 6400000 in
theorem lockReads_walk (t : ByteArray) {w : World} (he : Env w) : Calls Tryz.prog 3 #[.string t] w fun e w' => e = .returned (.bool true) ∧ Below w.heap.size w w' := by
  have HKN : Hid (∀ w1, Below w.heap.size w w1 → Calls Tryz.prog 7 #[] w1 fun e w' => e = .returned (.bool true) ∧ Below w1.heap.size w1 w') := fun w1 hb => known_lk (he.below hb) (he.below hb).spell
  have HDP := hide3 (doc_par t)
  cases hp : parG t with
  | none =>
    have HP1 : Hid (Calls Tryz.prog 4 #[.string t] w fun e w' => e = .returned (.tuple #[.agg #[.slice none 0 0], .int .i64 (parGE t)]) ∧ Below w.heap.size w w') := (gParse_any t w he).mono fun e w' ⟨hb, hq⟩ => by
      obtain ⟨_, h⟩ := hq.resolve_left (fun ⟨_, _, _, q, _⟩ => by rw [hp] at q; cases q)
      exact ⟨h, hb⟩
    have HR1 : Hid (∀ W, Calls Tryz.prog 5 #[.string t] W fun e w' => e = .returned (.tuple #[.agg #[.slice none 0 0], .int .i64 (parGE t)]) ∧ Below W.heap.size W w') := fun W => (rParseG_any t W).mono fun e w' ⟨hb, hq⟩ => by
      obtain ⟨_, h⟩ := hq.resolve_left (fun ⟨_, _, _, _, q, _⟩ => by rw [HDP.out, hp] at q; cases q)
      exact ⟨h, hb⟩
    have HS1 : Hid (∀ W, Calls Tryz.prog 6 #[.agg #[.slice none 0 0], .agg #[.slice none 0 0]] W fun e w' => e = .returned (.bool true) ∧ Below W.heap.size W w') := fun W => by
      have := rSameG_any (nodes_nil W) (nodes_nil W) (by simp) (fun n hn => by cases hn)
      rw [eqB_yes rfl] at this
      exact this
    have HK0 : Hid (∀ w1 w2 : World, Below (w1.alloc (.cells #[.slice none 0 0] 24)).heap.size (w1.alloc (.cells #[.slice none 0 0] 24)) w2 → w2.cell? ⟨w1.heap.size, 0, none⟩ = some (.slice none 0 0) ∧ (w2.alloc (.cells #[.slice none 0 0] 24)).cell? ⟨w1.heap.size, 0, none⟩ = some (.slice none 0 0)) := fun w1 w2 hb => by
      have e := (keepBxG _ _ _ _ (BxG.new (w := w1) rfl (.slice none 0 0)) hb)
      exact ⟨e.1, (keepBxG _ _ _ _ e (boxB _ _)).1⟩
    clear HDP hp
    generalize parGE t = pe at *
    go_enter Tryz.func3, Tryz.ntmps3
    go_wp2_with (first
      | (go_at_call 4; refine HP1.out.mono ?_; rintro e w1 ⟨rfl, hb1⟩; have HB1 := hide3 hb1; clear hb1)
      | (go_at_call 5; refine (HR1.out _).mono ?_; rintro e w2 ⟨rfl, hb2⟩; obtain ⟨g1, g2⟩ := HK0.out _ _ hb2; have HB2 := hide3 (below_then (below_then HB1.out (boxB _ _)) hb2); clear hb2)
      | (go_at_call 6; refine (HS1.out _).mono ?_; rintro e w3 ⟨rfl, hb3⟩; have HB3 := hide3 (below_then (below_then HB2.out (boxB _ _)) hb3); clear hb3)
      | (go_at_call 7; refine (HKN.out _ HB3.out).mono ?_; rintro e w4 ⟨rfl, hb4⟩; have HB4 := hide3 (below_then HB3.out hb4); clear hb4))
    go_ret
    exact ⟨rfl, HB4.out⟩
  | some G =>
    obtain ⟨hz, hzl⟩ := may_short (par_may hp)
    have HP1 : Hid (Calls Tryz.prog 4 #[.string t] w fun e w' => ∃ ad n cap, e = .returned (.tuple #[.agg #[.slice ad n cap], .int .i64 0]) ∧ NodesAt w' (.slice ad n cap) G ∧ Below w.heap.size w w') := (gParse_any t w he).mono fun e w' ⟨hb, hq⟩ => by
      obtain ⟨ad, cap, all, h1, h2, h3⟩ := hq.resolve_right (fun ⟨q, _⟩ => by rw [hp] at q; cases q)
      rw [hp] at h1
      cases h1
      exact ⟨_, _, _, h2, h3.at, hb⟩
    have HR1 : Hid (∀ W, Calls Tryz.prog 5 #[.string t] W fun e w' => ∃ ad n cap, e = .returned (.tuple #[.agg #[.slice ad n cap], .int .i64 0]) ∧ NodesAt w' (.slice ad n cap) G ∧ Below W.heap.size W w') := fun W => (rParseG_any t W).mono fun e w' ⟨hb, hq⟩ => by
      obtain ⟨ad, n, cap, G2, h1, h2, h3⟩ := hq.resolve_right (fun ⟨q, _⟩ => by rw [HDP.out, hp] at q; cases q)
      rw [HDP.out, hp] at h1
      cases h1
      exact ⟨_, _, _, h2, h3, hb⟩
    have HS1 : Hid (∀ W u v, NodesAt W u G → NodesAt W v G → Calls Tryz.prog 6 #[.agg #[u], .agg #[v]] W fun e w' => e = .returned (.bool true) ∧ Below W.heap.size W w') := fun W u v hu hv => by
      have := rSameG_any hu hv hz hzl
      rw [eqB_yes rfl] at this
      exact this
    have HK0 : Hid (∀ (w1 w2 : World) (u v : Value), Below (w1.alloc (.cells #[u] 24)).heap.size (w1.alloc (.cells #[u] 24)) w2 → w2.cell? ⟨w1.heap.size, 0, none⟩ = some u ∧ (w2.alloc (.cells #[v] 24)).cell? ⟨w1.heap.size, 0, none⟩ = some u) := fun w1 w2 u v hb => by
      have e := (keepBxG _ _ _ _ (BxG.new (w := w1) rfl u) hb)
      exact ⟨e.1, (keepBxG _ _ _ _ e (boxB _ _)).1⟩
    clear HDP hp
    go_enter Tryz.func3, Tryz.ntmps3
    go_wp2_with (first
      | (go_at_call 4; refine HP1.out.mono ?_; rintro e w1 ⟨ad, n, cap, rfl, hn1, hb1⟩; have HB1 := hide3 hb1; have HN1 := hide3 hn1; clear hb1 hn1)
      | (go_at_call 5; refine (HR1.out _).mono ?_; rintro e w2 ⟨bd, m, dap, rfl, hn2, hb2⟩; obtain ⟨g1, g2⟩ := HK0.out _ _ _ (.slice bd m dap) hb2; have HB2 := hide3 (below_then (below_then HB1.out (boxB _ _)) hb2); have HN3 := hide3 (((HN1.out.below (boxB _ _)).below hb2).below (boxB w2 (.cells #[.slice bd m dap] 24))); have HN4 := hide3 (hn2.below (boxB w2 (.cells #[.slice bd m dap] 24))); clear hb2 hn2)
      | (go_at_call 6; refine (HS1.out _ _ _ HN3.out HN4.out).mono ?_; rintro e w3 ⟨rfl, hb3⟩; have HB3 := hide3 (below_then (below_then HB2.out (boxB _ _)) hb3); clear hb3)
      | (go_at_call 7; refine (HKN.out _ HB3.out).mono ?_; rintro e w4 ⟨rfl, hb4⟩; have HB4 := hide3 (below_then HB3.out hb4); clear hb4))
    go_ret
    exact ⟨rfl, HB4.out⟩
end Go.Proofs.YtjbohacllhjgmaaGreatDoor
namespace Go.Proofs.YtjbohacllhjgmaaGreatDoor
open Go.ChangeShapes Go.WideShapes Go.ChangeAt Go.RowKit
open Go.ChangeMaps (open_string shut_string)
set_option maxRecDepth 100000

theorem lockReads_lifted (os : Os) (started : os.Started) (H : Type) (enc : TypeId × Value → H) :
    ReturnsInHanded {} Tryz.checked os 3 .any (fun w args => (Rows.lockReadsSpec.pre enc Tryz.prog Tryz.f3 [] false w args ∧ laidMetH Tryz.prog Rows.lockReadsRow.laid w) ∧ sizedMet enc Tryz.prog Tryz.f3 (OpenSpec.ofChange Rows.lockReadsSpec) false w args)
      (Rows.lockReadsSpec.post enc Tryz.prog Tryz.f3 false true false false) := by
  refine wrap_laid (C := Tryz.checked) (l := Rows.lockReadsRow.laid) own started (by kernel_rfl) Tryz.func3
    (ChangeSpec.witness_shaped (enc := enc) (C := Tryz.checked) (os := os) (X := fun w _ => laidMetH Tryz.prog Rows.lockReadsRow.laid w) false (World.laidAll Tryz.prog os Rows.lockReadsRow.laid) #[.string ByteArray.empty] 8 (World.laidAll_os _ _ _)
      (World.shaped_of_ZipB (by kernel_rfl) (by kernel_rfl)) (by kernel_rfl) (by kernel_rfl) (by kernel_rfl)
      (by rw [MakeChecks.laidMetH_plain _ _ _ (by kernel_rfl)]; exact laidMet_laidAll _ (by kernel_rfl) (by kernel_rfl))) ?_
  intro W base args ds gs before hval0 hW _ hsh hlaid
  have hval : ∀ (j : Nat) t v, Tryz.f3.params[j]? = some t → args[j]? = some v → Value.okWide Tryz.prog W .any base t v := hval0
  have hW' := hW
  obtain ⟨p, q, hA0, hV, rfl, _, _⟩ := hW
  have hA : DataW.TrodAll enc Tryz.prog W 0 (fun _ => true) true Tryz.f3.params.toList args.toList ds p := hA0
  rw [Tryz.params3] at hA hval
  rw [MakeChecks.laidMetH_plain _ _ _ (by kernel_rfl)] at hlaid
  obtain ⟨v0, vs0, d0, ds0, p0, q0, hargs, rfl, rfl, h0, r0⟩ := trodAll_cons hA
  obtain ⟨rfl, rfl, rfl⟩ := trodAll_nil r0
  obtain rfl : args = #[v0] := by cases args; simp_all
  obtain ⟨rfl, rfl⟩ := trodVars_none hV
  obtain ⟨s0, rfl, rfl, rfl, w0⟩ := open_string Tryz.underlying9 (hval 0 9 v0 rfl rfl) h0
  clear hA0 hval0
  refine (lockReads_walk s0 (env_of hsh hlaid)).mono fun e W' ⟨he, bel⟩ => ?_
  subst he
  exact ⟨_, rfl, _, _, _, [], _, [], hW', trodAll_mk1 (shut_bool Tryz.underlying4 _), (trodAll_cons_mk (shut_string Tryz.underlying9 w0) trodAll_mk0), rfl, bel.frame _, fun h => by cases h⟩

theorem lockReads_said : Rows.LockReadsSaid :=
  OpenClaim.holds_of_wide 3 Tryz.f3 rfl rfl rfl rfl rfl rfl rfl ⟨rfl, rfl, rfl, rfl, rfl⟩ rfl rfl rfl rfl rfl (by kernel_rfl) Tryz.func3 (by kernel_rfl)
    (of_decide_eq_true (by kernel_rfl)) (by unfold Func.isWrapper; first | (rw [if_pos (by decide +kernel)]; kernel_rfl) | (rw [if_neg (by decide +kernel)]; exact ⟨rfl, rfl⟩))
    (fun os started H enc _ => lockReads_lifted os started H enc)

theorem lockReads_holds : Rows.LockReadsCardSaid :=
  Claim7.holds_tied_plain_at .later [] _ _ _ _ lockReads_said (fun _ h => by cases h) (by kernel_rfl) (fun _ h => by cases h) lockReads_row_tie rfl ⟨rfl, rfl⟩ (by kernel_rfl) rfl
    (fun f fn hf hfn => by
      obtain rfl : f = 3 := Option.some.inj ((show Tryz.prog.funcNamed Rows.lockReadsRow.func = some 3 by kernel_rfl).symm.trans hf) |>.symm
      obtain rfl : fn = Tryz.f3 := (Option.some.inj (Tryz.func3.symm.trans hfn)).symm
      exact ⟨by kernel_rfl, fun j t ht => by
        rw [Tryz.params3] at ht
        have hm : t ∈ [9] := by simpa using Array.mem_of_getElem? ht
        have hall : ([9].all fun u => !Tryz.prog.wantsStandIn u) = true := by kernel_rfl
        exact (show Tryz.prog.wantsStandIn t = false by simpa using List.all_eq_true.1 hall t hm)⟩)
    (by kernel_rfl)
#print axioms lockReads_holds
end Go.Proofs.YtjbohacllhjgmaaGreatDoor
