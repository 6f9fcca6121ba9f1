/- Te8, RwTb, RwPa, laid in one text. -/
import Derived.Test.YtcclfaioicklaaaGreatDoorMg26
namespace Go.Proofs.YtcclfaioicklaaaGreatDoor
open Go.Shelf Go.RowKit Go.Lib Go.Sort
set_option maxRecDepth 100000

theorem fit1_d {L : List Dr} (hf : FitP1 L) : FitD L := fun d hd => by have := hf d hd; omega

def InsQ (w : World) (L : List Dr) (k : Int) (e : Ending) (w' : World) : Prop := ∃ v' ts, e = .returned v' ∧ OwnIs w' w.heap.size v' ts ∧ InsV L k ts ∧ Below w.heap.size w w'

set_option maxHeartbeats 1600000 in
theorem rInside_any {L : List Dr} {v : Value} {w : World} (h : DirsAt w v L) (hz : L.length ≤ 1000000000000) (hf : FitP1 L) (k : Int) :
    Calls Tryz.prog 23 #[.agg #[v], .int .i64 k] w fun e w' => ∃ v' ts, e = .returned v' ∧ OwnIs w' w.heap.size v' ts ∧ InsV L k ts ∧ Below w.heap.size w w' := by
  by_cases hk : 0 ≤ k ∧ k < L.length
  · obtain ⟨a, rfl⟩ : ∃ a : Nat, k = a := ⟨k.toNat, by omega⟩
    refine (rInside_in h hz hf (a := a) (by omega)).mono ?_
    rintro e w' ⟨v', ts, rfl, ho, hi, hb⟩
    exact ⟨v', ts, rfl, ho, ⟨fun _ => by simpa using hi, fun q => absurd hk q⟩, hb⟩
  · have HI : Hid (InsV L k []) := ⟨fun q => absurd q hk, fun _ => rfl⟩
    obtain ⟨ad, cap, rfl, hx⟩ := h.sl
    by_cases h0 : k < 0
    · clear h hf hx hk hz
      generalize L.length = n at *
      have HQ : Hid (∀ W, Below w.heap.size w W → InsQ w L k (.returned (.slice none 0 0)) W) := fun W hb => ⟨_, [], rfl, OwnIs.nil _ _, HI.out, hb⟩
      change Calls _ _ _ _ (fun e w' => InsQ w L k e w')
      clear HI
      generalize L.length = n at *
      go_enter Tryz.func23, Tryz.ntmps23
      go_wp2
      go_ret
      exact HQ.out _ (boxB _ _)
    · have h1 : decide ((L.length : Int) ≤ k) = true := decide_eq_true (by omega)
      have h2 : decide (k < 0) = false := decide_eq_false h0
      have h3 : (L.length : Int) ≤ k := by omega
      clear h hf hx hk hz
      have HQ : Hid (∀ W, Below w.heap.size w W → InsQ w L k (.returned (.slice none 0 0)) W) := fun W hb => ⟨_, [], rfl, OwnIs.nil _ _, HI.out, hb⟩
      change Calls _ _ _ _ (fun e w' => InsQ w L k e w')
      clear HI
      generalize L.length = n at *
      go_enter Tryz.func23, Tryz.ntmps23
      go_wp2
      go_ret
      exact HQ.out _ (boxB _ _)

set_option maxHeartbeats 1600000 in
theorem rParent_all {L : List Dr} {v : Value} {w : World} (h : DirsAt w v L) (hz : L.length ≤ 9223372036854775807) (hf : FitD L) (k : Int) :
    Calls Tryz.prog 20 #[.agg #[v], .int .i64 k] w fun e w' => e = .returned (.int .i64 (parV L k)) ∧ Below w.heap.size w w' := by
  by_cases hk : 0 ≤ k ∧ k < L.length
  · obtain ⟨a, rfl⟩ : ∃ a : Nat, k = a := ⟨k.toNat, by omega⟩
    have ha : a < L.length := by omega
    rcases Nat.eq_zero_or_pos L[a].pa.length with h0 | h0
    · rw [parV_root ha h0]
      obtain ⟨ad, cap, rfl, hc, hsl⟩ := h.sl
      obtain ⟨g, o, rfl, u, v1, v2, v3, hd⟩ := hsl a ha
      obtain ⟨ua, uc, rfl⟩ := hd.2.1.1.sl
      rw [h0] at hd
      obtain ⟨⟨d0, _⟩, _, d9⟩ := hd.below (boxB w (.cells #[.slice (some ⟨g, o, none⟩) L.length cap] 24))
      have hai : (a : Int) < L.length := by omega
      have ha0 : decide ((a : Int) < 0) = false := decide_eq_false (by omega)
      have ha1 : decide ((L.length : Int) ≤ (a : Int)) = false := decide_eq_false (by omega)
      have ha2 : decide (L.length ≤ a) = false := decide_eq_false (by omega)
      clear h hsl hd hf h0 hk
      go_enter Tryz.func20, Tryz.ntmps20
      go_wp2
      go_ret
      exact ⟨rfl, boxB _ _⟩
    · rw [parV_in ha h0]
      exact rParent_any h hz hf ha h0
  · rw [parV_out hk]
    obtain ⟨ad, cap, rfl, hx⟩ := h.sl
    by_cases h0 : k < 0
    · clear h hf hx hk hz
      generalize L.length = n at *
      go_enter Tryz.func20, Tryz.ntmps20
      go_wp2
      go_ret
      exact ⟨rfl, boxB _ _⟩
    · have h1 : decide ((L.length : Int) ≤ k) = true := decide_eq_true (by omega)
      have h2 : decide (k < 0) = false := decide_eq_false h0
      have h3 : (L.length : Int) ≤ k := by omega
      clear h hf hx hk hz
      generalize L.length = n at *
      go_enter Tryz.func20, Tryz.ntmps20
      go_wp2
      go_ret
      exact ⟨rfl, boxB _ _⟩

set_option maxHeartbeats 1600000 in
theorem places_same {ts : List Nat} {va vb : Value} {w : World} {B B' : Nat} (ha : OwnIs w B va ts) (hb : OwnIs w B' vb ts) (hl : ts.length ≤ 1000000000001) :
    Calls Tryz.prog 21 #[va, vb] w fun e w' => e = .returned (.bool true) ∧ Below w.heap.size w w' := by
  obtain ⟨aa, ca, rfl, hra⟩ := ha.rows
  obtain ⟨ab, cb, rfl, hrb⟩ := hb.rows
  have HRA := hide3 hra
  have HRB := hide3 hrb
  clear ha hb hra hrb
  go_enter Tryz.func21, Tryz.ntmps21
  go_wp2_with fail
  go_loopw [5] (fun vi wr => ∃ k : Nat, k ≤ ts.length ∧ vi = .int .i64 k ∧ Below w.heap.size w wr) (fun vi _ => ts.length - (intOf vi).toNat)
  case atStart => exact ⟨0, Nat.zero_le _, rfl, Below.refl _ _⟩
  case round =>
    obtain ⟨k, hk, rfl, hbr⟩ := hrel
    have HB := hide3 hbr
    by_cases hlt : k < ts.length
    · obtain ⟨g, rfl, _, hg⟩ : ∃ g, aa = some ⟨g, 0, none⟩ ∧ B ≤ g ∧ RowI w g ts := by
        rcases HRA.out with e | e
        · rw [e] at hlt; cases hlt
        · exact e
      obtain ⟨g2, rfl, _, hg2⟩ : ∃ g, ab = some ⟨g, 0, none⟩ ∧ B' ≤ g ∧ RowI w g ts := by
        rcases HRB.out with e | e
        · rw [e] at hlt; cases hlt
        · exact e
      have q1 := (hg.below hbr) k hlt
      have q2 := (hg2.below hbr) k hlt
      have hki : (k : Int) < ts.length := by omega
      generalize ts[k] = x at *
      have HK : Hid (KeepP fun w9 => Below wr.heap.size wr w9 ∧ StKI w9 g k x ∧ StKI w9 g2 k x) := (keepBelow wr).and ((keepStKI _ _ _).and (keepStKI _ _ _))
      have HO : Hid (Below wr.heap.size wr wr ∧ StKI wr g k x ∧ StKI wr g2 k x) := ⟨Below.refl _ _, q1, q2⟩
      clear q1 q2 hg hg2 hbr
      go_wp2_with fail
      refine wp_region_keep HK.out (by kernel_rfl) (by kernel_rfl) (by first | exact HO.out | exact HK.out.drew HO.out) ?_
      intro C hin hout
      have HIN := hide3 hin
      have HOUT := hide3 hout
      clear hin hout HO
      repeat
        (with_reducible refine wpQuiet_step (fun K hK => ?_)
         go_simp
         first
           | (refine hK _ ?_; clear hK K)
           | (apply Exists.intro; refine ⟨fun w1 hC => ?_, hK _ ?_⟩; (focus ((first | (exact rfl) | (obtain ⟨hb1, ⟨c0, c1⟩, ⟨e0, e1⟩⟩ := HOUT.out w1 hC; clear hC; go_simp; first | done | exact rfl)); done)); clear hK K))
      refine wpQuiet_nil ?_
      intro wn hC
      have HO := hide3 (HOUT.out _ hC)
      clear hC HIN HOUT C
      obtain ⟨hb1, ⟨c0, c1⟩, ⟨e0, e1⟩⟩ := HO.out
      go_wp2
      exact ⟨⟨k + 1, by omega, by go_num, below_then HB.out HO.out.1⟩, by simp [intOf]; omega⟩
    · obtain rfl : k = ts.length := by omega
      clear hbr
      go_wp2
      go_ret
      exact ⟨rfl, HB.out⟩
theorem InsV.uniq {L : List Dr} {k : Int} {s t : List Nat} (hs : InsV L k s) (ht : InsV L k t) : s = t := by
  by_cases hk : 0 ≤ k ∧ k < L.length
  · exact (hs.1 hk).uniq (ht.1 hk)
  · rw [hs.2 hk, ht.2 hk]
theorem InsV.len {L : List Dr} {k : Int} {s : List Nat} (hs : InsV L k s) : s.length ≤ L.length := by
  by_cases hk : 0 ≤ k ∧ k < L.length
  · rw [(hs.1 hk).1.length_eq]
    exact inK_len _ _ _
  · rw [hs.2 hk]
    exact Nat.zero_le _

set_option maxHeartbeats 6400000 in
theorem treeFinds_walk {L : List Dr} {v : Value} {P : List ByteArray} {vp : Value} {w : World} (h : DirsAt w v L) (hz : L.length ≤ 1000000000000) (hf : FitP1 L) (hp : PathAt w vp P) (k : Int) (he : Env w) (hfl : FL w) :
    Calls Tryz.prog 5 #[.agg #[v], vp, .int .i64 k] w fun e w' => e = .returned (.bool true) ∧ Below w.heap.size w w' := by
  have hfd := fit1_d hf
  have HTF : Hid (∀ w1, Below w.heap.size w w1 → ∀ vq Q, PathAt w1 vq Q → Calls Tryz.prog 17 #[.agg #[v], vq] w1 fun e w' => e = .returned (.int .i64 (findV L Q)) ∧ Below w1.heap.size w1 w') := fun w1 hb vq Q hq => tFind_any (h.below hb) (by omega) hfd hq
  have HRF : Hid (∀ w1, Below w.heap.size w w1 → ∀ vq Q, PathAt w1 vq Q → Calls Tryz.prog 18 #[.agg #[v], vq] w1 fun e w' => e = .returned (.int .i64 (findV L Q)) ∧ Below w1.heap.size w1 w') := fun w1 hb vq Q hq => rFind_any (h.below hb) (by omega) hfd hq
  have HTP : Hid (∀ w1, Below w.heap.size w w1 → ∀ k, Calls Tryz.prog 19 #[.agg #[v], .int .i64 k] w1 fun e w' => e = .returned (.int .i64 (parV L k)) ∧ Below w1.heap.size w1 w') := fun w1 hb k => tParent_any (h.below hb) (by omega) hfd k
  have HRP : Hid (∀ w1, Below w.heap.size w w1 → ∀ k, Calls Tryz.prog 20 #[.agg #[v], .int .i64 k] w1 fun e w' => e = .returned (.int .i64 (parV L k)) ∧ Below w1.heap.size w1 w') := fun w1 hb k => rParent_all (h.below hb) (by omega) hfd k
  have HTI : Hid (∀ w1, Below w.heap.size w w1 → ∀ k : Int, Calls Tryz.prog 22 #[.agg #[v], .int .i64 k] w1 fun e w' => ∃ v' ts, e = .returned v' ∧ OwnIs w' w1.heap.size v' ts ∧ InsV L k ts ∧ Below w1.heap.size w1 w') := fun w1 hb k => tInside_any (h.below hb) hz hfd k
  have HRI : Hid (∀ w1, Below w.heap.size w w1 → ∀ k : Int, Calls Tryz.prog 23 #[.agg #[v], .int .i64 k] w1 fun e w' => ∃ v' ts, e = .returned v' ∧ OwnIs w' w1.heap.size v' ts ∧ InsV L k ts ∧ Below w1.heap.size w1 w') := fun w1 hb k => rInside_any (h.below hb) hz hf k
  have HPL : Hid (∀ (w1 : World) (va vb : Value) (s t : List Nat) (B B' : Nat) (j : Int), OwnIs w1 B va s → OwnIs w1 B' vb t → InsV L j s → InsV L j t → Calls Tryz.prog 21 #[va, vb] w1 fun e w' => e = .returned (.bool true) ∧ Below w1.heap.size w1 w') := fun w1 va vb s t B B' j h1 h2 h3 h4 => by
    obtain rfl := h3.uniq h4
    exact places_same h1 h2 (by have := h3.len; omega)
  have HLV : Hid (∀ w1, Below w.heap.size w w1 → Calls Tryz.prog 11 #[] w1 fun e w' => e = .returned (.bool true) ∧ Below w1.heap.size w1 w') := fun w1 hb => lives12_any (he.below hb) (hfl.below hb)
  have HPQ : Hid (∀ w1, Below w.heap.size w w1 → PathAt w1 vp P) := fun w1 hb => hp.below hb
  obtain ⟨ad, cap, rfl, hc, hsl⟩ := h.sl
  have HDK : Hid (∀ w1, Below w.heap.size w w1 → ∀ i (hi : i < L.length), ∃ g o, ad = some ⟨g, o, none⟩ ∧ ∃ u v1 v2 v3, DrIn w1 g (o + i * 9) L[i] u v1 v2 v3) := fun w1 hb i hi => by
    obtain ⟨g, o, e, u, v1, v2, v3, hd⟩ := hsl i hi
    exact ⟨g, o, e, u, v1, v2, v3, hd.below hb⟩
  obtain ⟨pd, pc, rfl⟩ := hp.sl
  have HT1 := hide3 (fun w1 hb => HTF.out w1 hb _ _ (HPQ.out w1 hb))
  have HR1 := hide3 (fun w1 hb => HRF.out w1 hb _ _ (HPQ.out w1 hb))
  have HT2 := hide3 (fun w1 hb => HTP.out w1 hb k)
  have HR2 := hide3 (fun w1 hb => HRP.out w1 hb k)
  clear h hf hp he hfl hsl hfd hc
  generalize findV L P = f1 at *
  generalize parV L k = f2 at *
  generalize P.length = np at *
  have HK : Hid (KeepP fun w1 => Below w.heap.size w w1 ∧ BxT w1 w.heap.size (.slice ad L.length cap)) := (keepBelow w).and (keepBxT _ _)
  have HO : Hid (Below w.heap.size w (w.alloc (.cells #[.slice ad L.length cap] 24)) ∧ BxT (w.alloc (.cells #[.slice ad L.length cap] 24)) w.heap.size (.slice ad L.length cap)) := ⟨boxB _ _, BxT.new _ _⟩
  go_enter Tryz.func5, Tryz.ntmps5
  go_wp2_with fail
  refine wp_region_keep HK.out (by kernel_rfl) (by kernel_rfl) (by first | exact HO.out | exact HK.out.drew HO.out) ?_
  intro C hin hout
  have HIN := hide3 hin
  have HOUT := hide3 hout
  clear hin hout HO
  repeat
    (with_reducible refine wpQuiet_step (fun K hK => ?_)
     go_simp
     first
       | (refine hK _ ?_; clear hK K)
       | (apply Exists.intro; refine ⟨fun w1 hC => ?_, hK _ ?_⟩; (focus ((first | (go_at_call 17; with_reducible exact callC' HIN.out HOUT.out HK.out (fun w1 hk => HT1.out w1 hk.1) w1 hC) | (go_at_call 18; with_reducible exact callC' HIN.out HOUT.out HK.out (fun w1 hk => HR1.out w1 hk.1) w1 hC) | (go_at_call 19; with_reducible exact callC' HIN.out HOUT.out HK.out (fun w1 hk => HT2.out w1 hk.1) w1 hC) | (go_at_call 20; with_reducible exact callC' HIN.out HOUT.out HK.out (fun w1 hk => HR2.out w1 hk.1) w1 hC) | (exact rfl) | (obtain ⟨hb1, ⟨b0, b1⟩⟩ := HOUT.out w1 hC; clear hC; go_simp; first | done | exact rfl)); done)); clear hK K))
  refine wpQuiet_nil ?_
  intro wn hC
  have HO := hide3 (HOUT.out _ hC)
  clear hC HIN HOUT C
  obtain ⟨hb1, ⟨b0, b1⟩⟩ := HO.out
  have HON : Hid (Below w.heap.size w wn ∧ BxT wn w.heap.size (.slice ad L.length cap)) := HO.out
  clear HT1 HR1 HT2 HR2 HO b1
  have HBW : Hid (Below w.heap.size w wn.drew) := hb1.drew
  have HCE : Hid (∀ W, Below wn.drew.heap.size wn.drew W → W.cell? ⟨w.heap.size, 0, none⟩ = some (.slice ad L.length cap)) := fun W hb => (keepBxT _ _ _ _ HON.out.2 (show Below wn.heap.size wn W from ⟨hb.os, hb.tape, hb.output, hb.size, hb.block⟩)).1
  have k0 : wn.drew.cell? ⟨w.heap.size, 0, none⟩ = some (.slice ad L.length cap) := HCE.out _ (Below.refl _ _)
  clear hb1
  go_wp2_with fail
  go_region_held3 (fun w' => w'.cell? ⟨w.heap.size, 0, none⟩ = some (.slice ad L.length cap)) (go_keep) (first
    | (have _t := HV2; go_at_call 21; refine (HPL.out _ _ _ _ _ _ _ _ (HO1.out.below HB2.out) HO2.out HV1.out HV2.out).mono ?_; rintro e w3 ⟨rfl, ok⟩; have HB3 := hide3 (below_then (below_then HB1.out HB2.out) ok); have k0 := HCE.out _ HB3.out; clear ok)
    | (have _t := HV1; go_at_call 23; refine (HRI.out _ (below_then HBW.out HB1.out) k).mono ?_; rintro e w2 ⟨v2, t2, rfl, ho2, hv2, ok⟩; have HB2 := hide3 ok; have HO2 := hide3 ho2; have HV2 := hide3 hv2; have k0 := HCE.out _ (below_then HB1.out ok); clear ok ho2 hv2)
    | (go_at_call 22; refine (HTI.out _ HBW.out k).mono ?_; rintro e w1 ⟨v1, t1, rfl, ho1, hv1, ok⟩; have HB1 := hide3 ok; have HO1 := hide3 ho1; have HV1 := hide3 hv1; have k0 := HCE.out _ ok; clear ok ho1 hv1))
  have HBA : Hid (Below w.heap.size w w3 ∧ BxT w3 w.heap.size (.slice ad L.length cap)) := ⟨below_then HBW.out HB3.out, k0, Nat.lt_of_lt_of_le HON.out.2.2 HB3.out.size⟩
  clear HV1 HV2 HO1 HO2 HB1 HB2 HON HBW HCE HK
  go_wp2_with fail
  clear k0 HB3
  go_loopw [8] (fun vi wr => ∃ i : Nat, i ≤ L.length ∧ vi = .int .i64 i ∧ Below w.heap.size w wr ∧ BxT wr w.heap.size (.slice ad L.length cap)) (fun vi _ => L.length - (intOf vi).toNat)
  case atStart => exact ⟨0, Nat.zero_le _, rfl, HBA.out⟩
  case round =>
    clear HBA
    obtain ⟨i, hil, rfl, hbr, b0, b1⟩ := hrel
    by_cases hlt : i < L.length
    · have HON : Hid (Below w.heap.size w wr ∧ BxT wr w.heap.size (.slice ad L.length cap)) := ⟨hbr, b0, b1⟩
      have HBW : Hid (Below w.heap.size w wr.drew) := hbr.drew
      have HCE : Hid (∀ W, Below wr.drew.heap.size wr.drew W → W.cell? ⟨w.heap.size, 0, none⟩ = some (.slice ad L.length cap)) := fun W hb => (keepBxT _ _ _ _ HON.out.2 (show Below wr.heap.size wr W from ⟨hb.os, hb.tape, hb.output, hb.size, hb.block⟩)).1
      have hii : (i : Int) < L.length := by omega
      go_wp2_with fail
      clear b0 b1 hbr
      have k0 : wr.drew.cell? ⟨w.heap.size, 0, none⟩ = some (.slice ad L.length cap) := HCE.out _ (Below.refl _ _)
      go_region_held3 (fun w' => w'.cell? ⟨w.heap.size, 0, none⟩ = some (.slice ad L.length cap)) (go_keep) (first
        | (have _t := HV2; go_at_call 21; refine (HPL.out _ _ _ _ _ _ _ _ (HO1.out.below HB2.out) HO2.out HV1.out HV2.out).mono ?_; rintro e w3 ⟨rfl, ok⟩; have HB3 := hide3 (below_then (below_then HB1.out HB2.out) ok); have k0 := HCE.out _ HB3.out; clear ok)
        | (have _t := HV1; go_at_call 23; refine (HRI.out _ (below_then HBW.out HB1.out) (i : Int)).mono ?_; rintro e w2 ⟨v2, t2, rfl, ho2, hv2, ok⟩; have HB2 := hide3 ok; have HO2 := hide3 ho2; have HV2 := hide3 hv2; have k0 := HCE.out _ (below_then HB1.out ok); clear ok ho2 hv2)
        | (go_at_call 22; refine (HTI.out _ HBW.out (i : Int)).mono ?_; rintro e w1 ⟨v1, t1, rfl, ho1, hv1, ok⟩; have HB1 := hide3 ok; have HO1 := hide3 ho1; have HV1 := hide3 hv1; have k0 := HCE.out _ ok; clear ok ho1 hv1))
      have hb3 : Below w.heap.size w w3 := below_then HBW.out HB3.out
      obtain ⟨g, o, rfl, u, d1, d2, d3, hd⟩ := HDK.out w3 hb3 i hlt
      obtain ⟨ua, uc, rfl⟩ := hd.2.1.1.sl
      have HK : Hid (KeepP fun w9 => Below w.heap.size w w9 ∧ BxT w9 w.heap.size (.slice (some ⟨g, o, none⟩) L.length cap) ∧ DrIn w9 g (o + i * 9) L[i] (.slice ua L[i].pa.length uc) d1 d2 d3) := (keepBelow w).and ((keepBxT _ _).and (keepDr _ _ _ _ _ _ _))
      have HO : Hid (Below w.heap.size w w3 ∧ BxT w3 w.heap.size (.slice (some ⟨g, o, none⟩) L.length cap) ∧ DrIn w3 g (o + i * 9) L[i] (.slice ua L[i].pa.length uc) d1 d2 d3) := ⟨hb3, ⟨k0, Nat.lt_of_lt_of_le HON.out.2.2 HB3.out.size⟩, hd⟩
      have HT1 : Hid (∀ w1, (Below w.heap.size w w1 ∧ BxT w1 w.heap.size (.slice (some ⟨g, o, none⟩) L.length cap) ∧ DrIn w1 g (o + i * 9) L[i] (.slice ua L[i].pa.length uc) d1 d2 d3) → Calls Tryz.prog 17 #[.agg #[.slice (some ⟨g, o, none⟩) L.length cap], .slice ua L[i].pa.length uc] w1 fun e w' => e = .returned (.int .i64 (findV L L[i].pa)) ∧ Below w1.heap.size w1 w') := fun w1 hk => HTF.out w1 hk.1 _ _ hk.2.2.2.1.1
      have HR1 : Hid (∀ w1, (Below w.heap.size w w1 ∧ BxT w1 w.heap.size (.slice (some ⟨g, o, none⟩) L.length cap) ∧ DrIn w1 g (o + i * 9) L[i] (.slice ua L[i].pa.length uc) d1 d2 d3) → Calls Tryz.prog 18 #[.agg #[.slice (some ⟨g, o, none⟩) L.length cap], .slice ua L[i].pa.length uc] w1 fun e w' => e = .returned (.int .i64 (findV L L[i].pa)) ∧ Below w1.heap.size w1 w') := fun w1 hk => HRF.out w1 hk.1 _ _ hk.2.2.2.1.1
      have HT2 := hide3 (fun w1 hb => HTP.out w1 hb (i : Int))
      have HR2 := hide3 (fun w1 hb => HRP.out w1 hb (i : Int))
      generalize findV L L[i].pa = f3 at *
      generalize parV L (i : Int) = f4 at *
      clear HV1 HV2 HO1 HO2 HB1 HB2 HON HBW HCE hd hb3 k0 HB3
      go_wp2_with fail
      refine wp_region_keep HK.out (by kernel_rfl) (by kernel_rfl) (by first | exact HO.out | exact HK.out.drew HO.out) ?_
      intro C hin hout
      have HIN := hide3 hin
      have HOUT := hide3 hout
      clear hin hout HO
      repeat
        (with_reducible refine wpQuiet_step (fun K hK => ?_)
         go_simp
         first
           | (refine hK _ ?_; clear hK K)
           | (apply Exists.intro; refine ⟨fun w1 hC => ?_, hK _ ?_⟩; (focus ((first | (go_at_call 17; with_reducible exact callC' HIN.out HOUT.out HK.out (fun w1 hk => HT1.out w1 hk) w1 hC) | (go_at_call 18; with_reducible exact callC' HIN.out HOUT.out HK.out (fun w1 hk => HR1.out w1 hk) w1 hC) | (go_at_call 19; with_reducible exact callC' HIN.out HOUT.out HK.out (fun w1 hk => HT2.out w1 hk.1) w1 hC) | (go_at_call 20; with_reducible exact callC' HIN.out HOUT.out HK.out (fun w1 hk => HR2.out w1 hk.1) w1 hC) | (exact rfl) | (obtain ⟨hb1, ⟨b0, b1⟩, ⟨⟨p0, _⟩, _, p9⟩⟩ := HOUT.out w1 hC; clear hC; go_simp; first | done | exact rfl)); done)); clear hK K))
      refine wpQuiet_nil ?_
      intro wm hC
      have HO := hide3 (HOUT.out _ hC)
      clear hC HIN HOUT C
      obtain ⟨hb1, ⟨b0, b1⟩, ⟨⟨p0, _⟩, _, p9⟩⟩ := HO.out
      go_wp2
      exact ⟨⟨i + 1, by omega, by go_num, HO.out.1, HO.out.2.1⟩, by simp [intOf]; omega⟩
    · obtain rfl : i = L.length := by omega
      have HL := hide3 (HLV.out wr hbr)
      have HBR := hide3 hbr
      clear hbr
      go_wp2_with (go_at_call 11; refine HL.out.mono ?_; rintro e w9 ⟨rfl, ok⟩; have HB9 := hide3 (below_then HBR.out ok); clear ok)
      go_ret
      exact ⟨rfl, HB9.out⟩
end Go.Proofs.YtcclfaioicklaaaGreatDoor
namespace Go.Proofs.YtcclfaioicklaaaGreatDoor
open Go.ChangeShapes Go.WideShapes Go.ChangeAt Go.RowKit
set_option maxRecDepth 100000

theorem bytesDirT : Tryz.prog.bytesOf 46 = 144 := by kernel_rfl
/-- Directories that came in. -/
theorem dirs_csB {H : Type} {enc : TypeId × Value → H} {W : World} {base fuel : Nat} {held : Bool} {cs : List Value} {x : DataW H × List MemPlace} (h : DataW.trod enc Tryz.prog W base (fun _ => true) held fuel 22 cs = some x) :
    ∃ v L, cs = [v] ∧ DirsAt W v L ∧ L.length ≤ 9223372036854775807 ∧ (∀ d ∈ L, DrN d) ∧ ((x.1.weights Tryz.prog 22).all (· ≤ reachBytes) = true → FitP1 L ∧ L.length * 144 ≤ 140737488355328) := by
  rcases Go.Deep.open_slice Tryz.underlying22 h with ⟨rfl, _⟩ | ⟨ad, len, cap, m, n, D, Pl, rfl, _, hl, hcm, hm, hx, hel⟩
  · exact ⟨_, [], rfl, ⟨none, 0, rfl, Nat.le_refl _, Or.inl rfl⟩, by simp, (fun d hd => by cases hd), fun _ => ⟨(fun d hd => by cases hd), by simp⟩⟩
  · have hz : len ≤ 9223372036854775807 := by unfold maxLen at hcm; omega
    rcases Nat.eq_zero_or_pos len with h0 | h0
    · subst h0
      exact ⟨_, [], rfl, ⟨_, _, rfl, Nat.zero_le _, Or.inl rfl⟩, by simp, (fun d hd => by cases hd), fun _ => ⟨(fun d hd => by cases hd), by simp⟩⟩
    · have hmm : len ≤ m := by rw [hm]; simp; exact hl
      rw [cellsDirT] at hel
      obtain ⟨g, off, spot⟩ := ad
      obtain ⟨cs0, hc0, _⟩ := hel 0 (by omega)
      obtain ⟨_, hln, hq⟩ := World.cells?_some hc0
      have hcell := hq 0 (by decide)
      rw [List.getElem?_eq_getElem (by omega : 0 < cs0.length)] at hcell
      have hspot : spot = none := by simpa [Addr.add] using World.cell?_spot hcell
      subst hspot
      obtain ⟨L, hL, hP⟩ := list_any (P := fun i (d : Dr) => (∃ u v1 v2 v3, DrIn W g (off + i * 9) d u v1 v2 v3) ∧ DrN d ∧ (((D i).weights Tryz.prog 46).all (· ≤ reachBytes) = true → d.pa.length * 16 ≤ 140737488355328)) (n := len) fun i hi => by
        obtain ⟨cs, hc, ht⟩ := hel i (by omega)
        rw [addT] at hc
        exact dir_read hc ht
      subst hL
      refine ⟨_, L, rfl, ⟨_, _, rfl, hl, Or.inr ⟨g, off, rfl, fun i hi => (hP i hi).1⟩⟩, hz, ?_, fun hr => ?_⟩
      · intro d hd
        obtain ⟨i, hi, rfl⟩ := List.getElem_of_mem hd
        exact (hP i hi).2.1
      · have hxi : x.1 = .slice ((List.range L.length).map D) ((List.range (m - L.length)).map fun j => D (L.length + j)) := by rw [hx]
        refine ⟨?_, by
          rw [hxi] at hr
          have hb := (rch_slice Tryz.underlying22 hr).1
          rw [List.length_map, List.length_range, bytesDirT] at hb
          unfold reachBytes at hb
          omega⟩
        intro d hd
        obtain ⟨i, hi, rfl⟩ := List.getElem_of_mem hd
        have hxi : x.1 = .slice ((List.range L.length).map D) ((List.range (m - L.length)).map fun j => D (L.length + j)) := by rw [hx]
        rw [hxi] at hr
        exact (hP i hi).2.2 ((rch_slice Tryz.underlying22 hr).2 (D i) (List.mem_map.2 ⟨i, List.mem_range.2 (by omega), rfl⟩))

/-- A tree that came in. -/
theorem open_treeB {H : Type} {enc : TypeId × Value → H} {W : World} {base b0 : Nat} {held : Bool} {v : Value} {d : DataW H} {p : List MemPlace} (hv : Value.okWide Tryz.prog W .any b0 24 v) (h : DataW.Trod enc Tryz.prog W base (fun _ => true) held 24 v d p) :
    ∃ (L : List Dr) (vt : Value), v = .agg #[vt] ∧ DirsAt W vt L ∧ L.length ≤ 9223372036854775807 ∧ (∀ d ∈ L, DrN d) ∧ ((d.weights Tryz.prog 24).all (· ≤ reachBytes) = true → FitP1 L ∧ L.length * 144 ≤ 140737488355328) := by
  have hs : Tryz.prog.underlying 24 = some (.struct (Tryz.prog.fieldsOf 24)) := by kernel_rfl
  obtain ⟨cs, rfl, hsz⟩ := okWide_struct hs hv
  obtain ⟨n, h⟩ := h
  obtain ⟨xs, n', _, hxx, _, hxl, hf⟩ := DataW.trod_struct hs h
  have hfz : (Tryz.prog.fieldsOf 24).size = 1 := by kernel_rfl
  obtain ⟨f0, i0, t0, o0⟩ := field_at (fs := Tryz.prog.fieldsOf 24) (i := 0) (ty := 22) (off := 0) (by kernel_rfl)
  have r0 := hf 0 f0 i0
  rw [t0, o0, cellsDirsT, List.getElem?_eq_getElem (by omega : 0 < xs.length)] at r0
  obtain ⟨vt, L, e0, hd, hz, hn, hwt⟩ := dirs_csB r0
  have k0 : cs.toList[0]? = some vt := take1 e0
  rw [cellsTreeT] at hsz
  refine ⟨L, vt, ?_, hd, hz, hn, fun hr => ?_⟩
  · congr 1
    apply Array.ext'
    rcases hcs : cs.toList with _ | ⟨y, _ | ⟨z, r⟩⟩
    · rw [hcs] at k0; cases k0
    · rw [hcs] at k0
      simp at k0
      rw [k0]
    · have : cs.toList.length = 1 := by rw [Array.length_toList]; exact hsz
      rw [hcs] at this
      simp at this
  · have hdd : d = .agg (xs.map (·.1)) := congrArg Prod.fst hxx
    rw [hdd] at hr
    have hp2 := rch_part hs hr i0 (d := xs[0].1) (by rw [List.getElem?_map, List.getElem?_eq_getElem (by omega : 0 < xs.length)]; rfl)
    rw [t0] at hp2
    exact hwt hp2
end Go.Proofs.YtcclfaioicklaaaGreatDoor
namespace Go.Proofs.YtcclfaioicklaaaGreatDoor
open Go.ChangeShapes Go.WideShapes Go.ChangeAt Go.RowKit
set_option maxRecDepth 100000

/-- A path that came in. -/
theorem open_path {H : Type} {enc : TypeId × Value → H} {W : World} {base b0 : Nat} {held : Bool} {v : Value} {d : DataW H} {p : List MemPlace} (hv : Value.okWide Tryz.prog W .any b0 29 v) (h : DataW.Trod enc Tryz.prog W base (fun _ => true) held 29 v d p) :
    ∃ L : List ByteArray, PathAt W v L ∧ (∀ s ∈ L, s.size ≤ 9223372036854775807) ∧ ((d.weights Tryz.prog 29).all (· ≤ reachBytes) = true → L.length * 16 ≤ 140737488355328) := by
  obtain ⟨ad, len, cap, rfl⟩ := okWide_slice Tryz.underlying29 hv
  obtain ⟨fuel, hf⟩ := h
  have hf2 : DataW.trod enc Tryz.prog W base (fun _ => true) held fuel 29 [.slice ad len cap] = some (d, p) := by simpa [Value.cells] using hf
  obtain ⟨v, L, e, hp, hs, hw⟩ := strs_cs hf2
  cases e
  exact ⟨L, hp, hs, hw⟩

/-- A text that came in is not too great. -/
theorem str_reach {H : Type} {s : ByteArray} {t : TypeId} (h : ((DataW.lit (.string s.data.toList) : DataW H).weights Tryz.prog t).all (· ≤ reachBytes) = true) : s.size ≤ 140737488351232 := by
  unfold DataW.weights at h
  rw [List.all_cons, Bool.and_eq_true] at h
  have h1 := of_decide_eq_true h.1
  unfold reachBytes at h1
  rw [list_size] at h1
  exact h1
end Go.Proofs.YtcclfaioicklaaaGreatDoor
