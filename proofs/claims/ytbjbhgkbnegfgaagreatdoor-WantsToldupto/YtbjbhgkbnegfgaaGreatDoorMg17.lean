/- Wg1, laid in one text. -/
import Derived.Test.YtbjbhgkbnegfgaaGreatDoorMg16
namespace Go.Proofs.YtbjbhgkbnegfgaaGreatDoor
open Go.RowKit Go.Maps Go.WideMaps
set_option maxRecDepth 100000

/-- The slice of a want's range. -/
def Wt.rs (x : Wt) : Value := .slice x.ad x.ln x.cp
/-- Ranges that share no memory. -/
def ApartR (x y : Wt) : Prop := ∀ g, x.rs.ownBlock = some g → y.rs.ownBlock ≠ some g
theorem ApartR.symm {x y : Wt} (h : ApartR x y) : ApartR y x := fun g hy hx => h g hx hy
/-- Wants of one's own, each with its range, of one's own too; no two ranges share memory. -/
def OwnWt (w : World) (B : Nat) (v : Value) (ps : List (Wt × List Sp)) : Prop := w.ownsRow B 69 3 v ps.length ((ps.map (·.1)).flatMap encW) ∧ (∀ p ∈ ps, OwnS w B p.1.rs p.2) ∧ ps.Pairwise fun p q => ApartR p.1 q.1
theorem OwnWt.nil (w : World) (B : Nat) : OwnWt w B (.slice none 0 0) [] := ⟨⟨rfl, Or.inl ⟨rfl, rfl⟩⟩, fun p hp => (by cases hp), List.Pairwise.nil⟩
theorem OwnWt.below {w w' : World} {B : Nat} {v : Value} {ps : List (Wt × List Sp)} (h : OwnWt w B v ps) (hb : Below w.heap.size w w') : OwnWt w' B v ps := ⟨own_below h.1 hb, fun p hp => (h.2.1 p hp).below hb, h.2.2⟩
theorem OwnWt.base {w : World} {B C : Nat} {v : Value} {ps : List (Wt × List Sp)} (h : OwnWt w B v ps) (hc : C ≤ B) : OwnWt w C v ps := ⟨own_base h.1 hc, fun p hp => (h.2.1 p hp).base hc, h.2.2⟩
theorem OwnWt.len {w : World} {B : Nat} {v : Value} {ps : List (Wt × List Sp)} (h : OwnWt w B v ps) : ∃ ad cap, v = .slice ad ps.length cap := by
  rcases h.1.2 with ⟨rfl, hn⟩ | ⟨g, cap, cur, rfl, _⟩
  · exact ⟨none, 0, by rw [hn]⟩
  · exact ⟨_, cap, rfl⟩
/-- What wants are told of a list: names, kind, ranges; where each stood is counted from t on. -/
def wtsD (O : List Dp) (k : Int) (t : Nat) (ds : List Dp) (ps : List (Wt × List Sp)) : Prop := ps.length = ds.length ∧ ∀ i p, ps[i]? = some p → ∃ d, ds[i]? = some d ∧ p.1.nm = d.nm ∧ p.1.kd = k ∧ p.1.tg = t + i ∧ p.2 = rangeD O d
theorem wtsD_snoc {O : List Dp} {k : Int} {t : Nat} {ds : List Dp} {ps : List (Wt × List Sp)} {d : Dp} {p : Wt × List Sp} (h : wtsD O k t ds ps) (h1 : p.1.nm = d.nm) (h2 : p.1.kd = k) (h3 : p.1.tg = t + ds.length) (h4 : p.2 = rangeD O d) : wtsD O k t (ds ++ [d]) (ps ++ [p]) := by
  refine ⟨by rw [List.length_append, List.length_append, h.1]; rfl, fun i q hq => ?_⟩
  by_cases hi : i < ps.length
  · rw [List.getElem?_append_left hi] at hq
    obtain ⟨e, h5, h6⟩ := h.2 i q hq
    exact ⟨e, by rw [List.getElem?_append_left (by rw [← h.1]; exact hi)]; exact h5, h6⟩
  · rw [List.getElem?_append_right (by omega)] at hq
    have hz : i - ps.length = 0 := by
      have := (List.getElem?_eq_some_iff.1 hq).1
      rw [List.length_singleton] at this
      omega
    rw [hz] at hq
    cases hq
    have e : i = ds.length := by rw [← h.1]; omega
    subst e
    exact ⟨d, by rw [List.getElem?_append_right (Nat.le_refl _), Nat.sub_self]; rfl, h1, h2, h3, h4⟩

/-- One want more. -/
theorem OwnWt.snoc {w w1 : World} {B : Nat} {v v1 : Value} {ps : List (Wt × List Sp)} {p : Wt × List Sp} (h : OwnWt w B v ps) (hs : OwnS w B p.1.rs p.2) (hn : ∀ q ∈ ps, ApartR q.1 p.1) (ho : w1.ownsRow B 69 3 v1 (ps.length + 1) ((ps.map (·.1)).flatMap encW ++ encW p.1)) (hg : w.grownBy w1 v.ownBlock) : OwnWt w1 B v1 (ps ++ [p]) := by
  have hk : ∀ {u : Value} {L : List Sp}, OwnS w B u L → OwnS w1 B u L := fun {u L} hu => by
    refine hu.of_block fun g hgu => hg.block g (hu.lt hgu).1 fun e => ?_
    exact own_ne hu h.1 (by decide) hgu e.symm
  refine ⟨by rw [List.length_append, List.map_append, List.flatMap_append]; simpa using ho, fun q hq => ?_, ?_⟩
  · rcases List.mem_append.1 hq with hq | hq
    · exact hk (h.2.1 q hq)
    · rw [List.mem_singleton.1 hq]
      exact hk hs
  · rw [List.pairwise_append]
    refine ⟨h.2.2, List.pairwise_singleton _ _, fun a ha b hb => ?_⟩
    rw [List.mem_singleton.1 hb]
    exact hn a ha

theorem apart_new {w w6 : World} {B : Nat} {ps : List (Wt × List Sp)} {v : Value} (h : OwnWt w B v ps) {x : Wt} {L : List Sp} (hx : OwnS w6 w.heap.size x.rs L) : ∀ q ∈ ps, ApartR q.1 x := fun q hq => by
  intro g hb e
  have h1 := ((h.2.1 q hq).lt hb).1
  have h2 := (hx.lt e).2
  omega

set_option maxHeartbeats 12800000 in
theorem owants_any {w : World} {O : List Dp} {v4 : Value} {M n : Nat} (h : DepsAt w v4 O) (hm : SmAt w M n (.int .i64 0) (firstI O)) {ds : List Dp} {vd : Value} (hp : DepsAt w vd ds) (hfit : FitP O ds) (kd : Int) (t : Nat) : Calls Tryz.prog 73 #[.agg #[v4, .map (some M)], vd, .int .i64 kd] w fun e w' => ∃ v, e = .returned v ∧ ∃ ps, OwnWt w' w.heap.size v ps ∧ wtsD O kd t ds ps ∧ Below w.heap.size w w' := by
  obtain ⟨ad, cap, rfl, hcap, _⟩ := h.el
  obtain ⟨p2, r2, rfl, _, _⟩ := hp.el
  have HFD := hide3 hfit.2
  have hfl := hfit.1
  have HCL : Hid (∀ (W : World) (u : Value) (R : List Sp), SpansC W u R → R.length * 48 ≤ 140737488355328 → Calls Tryz.prog 76 #[u] W fun e w' => ∃ v', e = .returned v' ∧ OwnS w' W.heap.size v' R ∧ Below W.heap.size W w') := fun W u R hu hr => cloneS_big hu hr
  have HSC : Hid (∀ (s : ByteArray) (W : World), s.size ≤ 281474976710656 → Calls Tryz.prog 75 #[.string s] W fun e w' => e = .returned (.string s) ∧ Below W.heap.size W w') := fun s W hs => strClone_any s hs W
  have HOV2 : Hid (Below w.heap.size w (w.alloc (.cells #[.slice ad O.length cap, .map (some M)] 117))) := boxB _ _
  have HSW : Hid (SmAt (w.alloc (.cells #[.slice ad O.length cap, .map (some M)] 117)) M n (.int .i64 0) (firstI O)) := hm.below (boxB _ _)
  have k0 : (w.alloc (.cells #[.slice ad O.length cap, .map (some M)] 117)).cell? ⟨w.heap.size, 0, none⟩ = some (.slice ad O.length cap) := by simp
  have k1 : (w.alloc (.cells #[.slice ad O.length cap, .map (some M)] 117)).cell? ⟨w.heap.size, 1, none⟩ = some (.map (some M)) := by simp
  have hkl : w.heap.size < (w.alloc (.cells #[.slice ad O.length cap, .map (some M)] 117)).heap.size := by simp
  have HEL : Hid (∀ k (_ : k < ds.length), ∃ g o, p2 = some ⟨g, o, none⟩ ∧ ∃ au nu cu, DpIn (w.alloc (.cells #[.slice ad O.length cap, .map (some M)] 117)) g (o + k * 2) ds[k] (.slice au nu cu)) := by
    obtain ⟨ad', cap', e, _, hel⟩ := (hp.below HOV2.out).el
    injection e with e1 _ _
    subst e1
    exact hel
  have HDO : Hid (DepsAt (w.alloc (.cells #[.slice ad O.length cap, .map (some M)] 117)) (.slice ad O.length cap) O) := h.below HOV2.out
  clear h hp hfit hm
  go_enter Tryz.func73, Tryz.ntmps73
  go_upto_region 1 with fail
  obtain ⟨KB, hKB⟩ : ∃ k, k = w.heap.size := ⟨_, rfl⟩
  rw [← hKB] at k0 k1 hkl
  rw [← hKB]
  generalize (w.alloc (.cells #[.slice ad O.length cap, .map (some M)] 117)) = W at *
  clear hKB
  go_wp2_with fail
  go_loopw [7, 12] (fun vo vi wr => ∃ (k : Nat) (ps : List (Wt × List Sp)), k ≤ ds.length ∧ vi = .int .i64 k ∧ OwnWt wr W.heap.size vo ps ∧ wtsD O kd t (ds.take k) ps ∧ Below W.heap.size W wr) (fun _ vi _ => ds.length - (intOf vi).toNat)
  case atStart => exact ⟨0, [], Nat.zero_le _, rfl, OwnWt.nil _ _, ⟨rfl, fun i p hi => by simp at hi⟩, Below.refl _ _⟩
  case round =>
    obtain ⟨k, ps, hk, rfl, hod, hps, hb⟩ := hrel
    obtain ⟨ao, co, rfl⟩ := hod.len
    have HBR := hide3 hb
    have HOD := hide3 hod
    have HPS := hide3 hps
    have hpl : ps.length = k := by have := hps.1; rw [List.length_take] at this; omega
    have hpz : ps.length ≤ 100000000 := by omega
    clear hb hod hps hpl
    by_cases hlt : k < ds.length
    · have hki : (k : Int) < (ds.length : Int) := by omega
      obtain ⟨g, o, rfl, au, nu, cu, c0, c1, hsp, hg⟩ := HEL.out k hlt
      obtain ⟨hz1, hz2⟩ := HFD.out _ (List.getElem_mem hlt)
      have HTK : Hid (ds.take (k + 1) = ds.take k ++ [ds[k]] ∧ (ds.take k).length = k) := ⟨List.take_succ_eq_append_getElem hlt, by rw [List.length_take]; omega⟩
      obtain ⟨d, hd⟩ : ∃ d, d = ds[k] := ⟨_, rfl⟩
      rw [← hd] at c0 hsp hz1 hz2 HTK
      have d0 := (HBR.out.cell (p := ⟨g, o + k * 2, none⟩) hg).trans c0
      have d1 := (HBR.out.cell (p := ⟨g, o + k * 2 + 1, none⟩) hg).trans c1
      have HDL : Hid (d.rg.length ≤ 9223372036854775807 ∧ d.nm.size ≤ 9223372036854775807) := ⟨hsp.2, by omega⟩
      have HKD : Hid (KeepP fun X => ((Below W.heap.size W X ∧ OwnWt X W.heap.size (.slice ao ps.length co) ps) ∧ (SmAt X M n (.int .i64 0) (firstI O) ∧ DepsAt X (.slice ad O.length cap) O)) ∧ SpansC X (.slice au nu cu) d.rg) := fun p q hx hpq => ⟨⟨⟨below_then hx.1.1.1 hpq, hx.1.1.2.below hpq⟩, hx.1.2.1.below hpq, hx.1.2.2.below hpq⟩, hx.2.below hpq⟩
      have HO0 : Hid (((Below W.heap.size W wr ∧ OwnWt wr W.heap.size (.slice ao ps.length co) ps) ∧ (SmAt wr M n (.int .i64 0) (firstI O) ∧ DepsAt wr (.slice ad O.length cap) O)) ∧ SpansC wr (.slice au nu cu) d.rg) := ⟨⟨⟨HBR.out, HOD.out⟩, HSW.out.below HBR.out, HDO.out.below HBR.out⟩, hsp.1.below HBR.out⟩
      have HO : Hid (((Below W.heap.size W (wr.alloc (.cells #[.string d.nm, .slice au nu cu] 62)).drew ∧ OwnWt (wr.alloc (.cells #[.string d.nm, .slice au nu cu] 62)).drew W.heap.size (.slice ao ps.length co) ps) ∧ (SmAt (wr.alloc (.cells #[.string d.nm, .slice au nu cu] 62)).drew M n (.int .i64 0) (firstI O) ∧ DepsAt (wr.alloc (.cells #[.string d.nm, .slice au nu cu] 62)).drew (.slice ad O.length cap) O)) ∧ SpansC (wr.alloc (.cells #[.string d.nm, .slice au nu cu] 62)).drew (.slice au nu cu) d.rg) := HKD.out _ _ (HKD.out _ _ HO0.out (boxB _ _)) (Below.refl _ _).drew
      have hkr : KB < wr.heap.size := Nat.lt_of_lt_of_le hkl HBR.out.size
      have HBX : Hid (∀ X, Below (wr.alloc (.cells #[.string d.nm, .slice au nu cu] 62)).heap.size (wr.alloc (.cells #[.string d.nm, .slice au nu cu] 62)) X → X.cell? ⟨wr.heap.size, 0, none⟩ = some (.string d.nm) ∧ X.cell? ⟨wr.heap.size, 1, none⟩ = some (.slice au nu cu) ∧ X.cell? ⟨KB, 0, none⟩ = some (.slice ad O.length cap) ∧ X.cell? ⟨KB, 1, none⟩ = some (.map (some M))) := fun X hb => by
        have hq : Below W.heap.size W X := below_then (below_then HBR.out (boxB _ _)) hb
        exact ⟨(hb.cell (p := ⟨wr.heap.size, 0, none⟩) (by simp)).trans (by simp), (hb.cell (p := ⟨wr.heap.size, 1, none⟩) (by simp)).trans (by simp), (hq.cell (p := ⟨KB, 0, none⟩) hkl).trans k0, (hq.cell (p := ⟨KB, 1, none⟩) hkl).trans k1⟩
      have HBB : Hid (Below (wr.alloc (.cells #[.string d.nm, .slice au nu cu] 62)).heap.size (wr.alloc (.cells #[.string d.nm, .slice au nu cu] 62)) (wr.alloc (.cells #[.string d.nm, .slice au nu cu] 62)).drew) := (Below.refl _ _).drew
      have m0 := (HBR.out.cell (p := ⟨KB, 0, none⟩) hkl).trans k0
      have m1 := (HBR.out.cell (p := ⟨KB, 1, none⟩) hkl).trans k1
      have hle : W.heap.size ≤ wr.heap.size := HBR.out.size
      have HNE : Hid (∀ q, (q = wr.heap.size ∨ q = KB) → some q ≠ (Value.slice ao ps.length co).ownBlock) := fun q hq e => by
        have := HOD.out.1.lt _ e.symm
        omega
      have HRO : Hid (∀ X, (((Below W.heap.size W X ∧ OwnWt X W.heap.size (.slice ao ps.length co) ps) ∧ (SmAt X M n (.int .i64 0) (firstI O) ∧ DepsAt X (.slice ad O.length cap) O)) ∧ SpansC X (.slice au nu cu) d.rg) → Calls Tryz.prog 77 #[.agg #[.slice ad O.length cap, .map (some M)], .agg #[.string d.nm, .slice au nu cu]] X fun e w' => ∃ a9 b9 c9, e = .returned (.slice a9 b9 c9) ∧ SpansC w' (.slice a9 b9 c9) (rangeD O d) ∧ Below X.heap.size X w') := fun X hx => (range_any hx.1.2.2 hx.1.2.1 d hx.2 HDL.out.1 HDL.out.2).mono fun e w' hq => by
        obtain ⟨v, h1, h2, h3, h4⟩ := hq
        have h2' := h2
        obtain ⟨⟨a9, c9, rfl, _⟩, _⟩ := h2
        exact ⟨a9, _, c9, h1, h2', h4⟩
      have HFIN : Hid (∀ (w5 w6 w7 : World) (a7 : Option Addr) (n7 c7 : Nat) (v1 : Value), (((Below W.heap.size W w5 ∧ OwnWt w5 W.heap.size (.slice ao ps.length co) ps) ∧ (SmAt w5 M n (.int .i64 0) (firstI O) ∧ DepsAt w5 (.slice ad O.length cap) O)) ∧ SpansC w5 (.slice au nu cu) d.rg) → (((Below W.heap.size W w6 ∧ OwnWt w6 W.heap.size (.slice ao ps.length co) ps) ∧ (SmAt w6 M n (.int .i64 0) (firstI O) ∧ DepsAt w6 (.slice ad O.length cap) O)) ∧ SpansC w6 (.slice au nu cu) d.rg) → OwnS w6 w5.heap.size (.slice a7 n7 c7) (rangeD O d) → w7.ownsRow W.heap.size 69 3 v1 (ps.length + 1) ((ps.map (·.1)).flatMap encW ++ [.string d.nm, .int .i64 kd, .slice a7 n7 c7]) → w6.grownBy w7 (Value.slice ao ps.length co).ownBlock → ∃ q, OwnWt w7 W.heap.size v1 (ps ++ [q]) ∧ wtsD O kd t (ds.take (k + 1)) (ps ++ [q]) ∧ Below W.heap.size W w7) := fun w5 w6 w7 a7 n7 c7 v1 h5 h6 hs ho hg => by
        refine ⟨(⟨d.nm, kd, a7, n7, c7, t + k⟩, rangeD O d), OwnWt.snoc h6.1.1.2 (hs.base h5.1.1.1.size) (apart_new (x := ⟨d.nm, kd, a7, n7, c7, t + k⟩) h5.1.1.2 hs) ho hg, ?_, h6.1.1.1.trans (below_grown hg (fun g e => (h6.1.1.2.1.lt g e).1) h6.1.1.1.size)⟩
        rw [HTK.out.1]
        exact wtsD_snoc HPS.out rfl rfl (by rw [HTK.out.2]) rfl
      clear hcap hd
      go_wp2_with fail
      go_region_held3 (fun w' => w'.cell? ⟨wr.heap.size, 0, none⟩ = some (.string d.nm) ∧ w'.cell? ⟨wr.heap.size, 1, none⟩ = some (.slice au nu cu) ∧ w'.cell? ⟨KB, 0, none⟩ = some (.slice ad O.length cap) ∧ w'.cell? ⟨KB, 1, none⟩ = some (.map (some M))) (go_keep) (first
        | (refine step_own (B := W.heap.size) (M := w7.heap.size) (wx := w7) (v := .slice ao ps.length co) infoW Tryz.underlying56 rfl (by decide) (by decide) rfl (.tmp 16) (.tmp 26) rfl rfl HO7.out.1.1.2.1 hB7 #[.string d.nm, .int .i64 kd, .slice a7 n7 c7] rfl (by simp [Value.oneCell']) rfl rfl (by omega) ?_; intro v1 w8 ho hgr hat; obtain ⟨g8, cap8, rfl, _⟩ := ho.form (by omega); have HP := hide3 (HFIN.out _ _ _ _ _ _ _ HO6.out HO7.out HS7.out ho (grown_pre (boxB _ _) hgr)); have z0 := (grown_pre (boxB _ _) hgr).cell y0 (HNE.out _ (Or.inl rfl)); have z1 := (grown_pre (boxB _ _) hgr).cell y1 (HNE.out _ (Or.inl rfl)); have z2 := (grown_pre (boxB _ _) hgr).cell y2 (HNE.out _ (Or.inr rfl)); have z3 := (grown_pre (boxB _ _) hgr).cell y3 (HNE.out _ (Or.inr rfl)); clear ho hgr hat)
        | (go_at_call 76; refine (HCL.out _ _ _ HV6.out hz2).mono ?_; rintro e w7 ⟨vs, rfl, hos, hb7⟩; have HB7 := hide3 (below_then HB6.out hb7); have HO7 := hide3 (HKD.out _ _ HO6.out hb7); obtain ⟨y0, y1, y2, y3⟩ := HBX.out _ HB7.out; have HS0 := hide3 hos; obtain ⟨a7, c7, hvs, _, _⟩ := hos.sp; obtain ⟨n7, hn7⟩ : ∃ n, n = (rangeD O d).length := ⟨_, rfl⟩; rw [← hn7] at hvs; subst hvs; have HS7 : Hid (OwnS w7 w6.heap.size (.slice a7 n7 c7) (rangeD O d)) := HS0.out; have hB7 : W.heap.size ≤ w7.heap.size := HO7.out.1.1.1.size; clear hb7 hos hn7 HS0)
        | (go_at_call 77; refine (HRO.out _ HO5.out).mono ?_; rintro e w6 ⟨a9, b9, c9, rfl, hv6, hb6⟩; have HV6 := hide3 hv6; have HB6 := hide3 (below_then HB5.out hb6); have HO6 := hide3 (HKD.out _ _ HO5.out hb6); obtain ⟨t0, t1, t2, t3⟩ := HBX.out _ HB6.out; clear hb6 hv6)
        | (go_at_call 75; refine (HSC.out _ _ hz1).mono ?_; rintro e w5 ⟨rfl, hb5⟩; have HB5 := hide3 (below_then HBB.out hb5); have HO5 := hide3 (HKD.out _ _ HO.out hb5); obtain ⟨x0, x1, x2, x3⟩ := HBX.out _ HB5.out; clear hb5))
      all_goals go_wp2
      all_goals (obtain ⟨q9, hq1, hq2, hq3⟩ := HP.out; exact ⟨⟨k + 1, _, by omega, by go_num, hq1, hq2, hq3⟩, by simp [intOf]; omega⟩)
    · obtain rfl : k = ds.length := by omega
      have HPL : Hid (wtsD O kd t ds ps) := by
        have e := HPS.out
        rw [List.take_length] at e
        exact e
      have hki : ¬ ((ds.length : Int) < (ds.length : Int)) := by omega
      clear HPS
      go_wp2
      go_ret
      exact ⟨_, rfl, ps, HOD.out.base HOV2.out.size, HPL.out, below_then HOV2.out HBR.out⟩
end Go.Proofs.YtbjbhgkbnegfgaaGreatDoor
