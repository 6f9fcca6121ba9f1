/- The document's Check of package halyardref17: which deeds are a plan. Conditions: sizes. -/
import Derived.Test.YtefcndfeemnglaaDoorPy2
import Derived.BigQuiet
namespace Go.Proofs.YtefcndfeemnglaaDoor
open Go.RowKit Dk
set_option maxRecDepth 100000

/-- A list of deeds in memory. -/
def DesIn (w : World) (g off : Nat) (l : List De) : Prop := ∀ k (hk : k < l.length), w.cell? ⟨g, off + k * 3, none⟩ = some (.int .i64 l[k].kd) ∧ w.cell? ⟨g, off + k * 3 + 1, none⟩ = some (.string l[k].pa) ∧ w.cell? ⟨g, off + k * 3 + 1 + 1, none⟩ = some (.string l[k].da)
def IsDes (w : World) (a : Option Addr) (l : List De) : Prop := l = [] ∨ ∃ g off, a = some ⟨g, off, none⟩ ∧ g < w.heap.size ∧ DesIn w g off l
theorem IsDes.below {w w' : World} {a : Option Addr} {l : List De} (h : IsDes w a l) (hb : Below w.heap.size w w') : IsDes w' a l := by
  rcases h with h | ⟨g, off, rfl, hg, hc⟩
  · exact Or.inl h
  · refine Or.inr ⟨g, off, rfl, Nat.lt_of_lt_of_le hg hb.size, fun k hk => ?_⟩
    obtain ⟨a0, a1, a2⟩ := hc k hk
    exact ⟨(hb.cell (p := ⟨g, off + k * 3, none⟩) hg).trans a0, (hb.cell (p := ⟨g, off + k * 3 + 1, none⟩) hg).trans a1, (hb.cell (p := ⟨g, off + k * 3 + 1 + 1, none⟩) hg).trans a2⟩

/-- Does a deed stand at that path? -/
def atP (p : ByteArray) (a : De) : Bool := a.pa.toList == p.toList
/-- May a deed stand behind others? -/
def okDe (pre : List De) (d : De) : Bool := (decide (1 ≤ d.kd) && decide (d.kd ≤ 4)) && (pre.getLast?.all fun q => decide (q.kd ≤ d.kd)) && (d.kd == 4 || d.da.toList == []) && (okPath d.pa && !jB d.pa) && ((pre.all fun a => !atP d.pa a || pairB a.kd d.kd) && decide (pre.countP (atP d.pa) ≤ 1))
/-- Deeds that are a plan. -/
def Plan (l : List De) : Prop := ∀ i (hi : i < l.length), okDe (l.take i) l[i] = true
theorem jB_beg (s : ByteArray) : jB s = (s.toList == [47, 106, 111, 117, 114, 110, 97, 108] || begB s ⟨#[47, 106, 111, 117, 114, 110, 97, 108, 47]⟩) := by
  have h1 : jn.toList = [47, 106, 111, 117, 114, 110, 97, 108] := by decide +kernel
  unfold jB begB
  rw [h1]
  rfl
theorem last_take {l : List De} {j : Nat} (hj : j < l.length) : (l.take (j + 1)).getLast? = some l[j] := by
  rw [List.take_succ_eq_append_getElem hj, List.getLast?_append]
  rfl

set_option maxHeartbeats 16000000 in
theorem pCheck_any (l : List De) (a : Option Addr) (cap : Nat) (w : World) (hlen : l.length ≤ 8388608) (hc : IsDes w a l) (hz : ∀ d ∈ l, d.pa.size ≤ maxLen) :
    Calls Tryd.prog 10 #[.slice a l.length cap] w fun e w' => (∃ r, e = .returned (.int .i64 r) ∧ ((Plan l ∧ r = 0) ∨ (¬ Plan l ∧ r = 44))) ∧ Below w.heap.size w w' := by
  have HC := hide3 hc
  have HZ := hide3 hz
  have HNO : Hid (∀ w' i (hi : i < l.length), okDe (l.take i) l[i] = false → Below w.heap.size w w' → (∃ r, Ending.returned (.int .i64 44) = .returned (.int .i64 r) ∧ ((Plan l ∧ r = 0) ∨ (¬ Plan l ∧ r = 44))) ∧ Below w.heap.size w w') := fun w' i hi h hb => ⟨⟨44, rfl, Or.inr ⟨(fun q => by rw [q i hi] at h; exact absurd h (by decide)), rfl⟩⟩, hb⟩
  have HYE : Hid (∀ w', (∀ j (hj : j < l.length), okDe (l.take j) l[j] = true) → Below w.heap.size w w' → (∃ r, Ending.returned (.int .i64 0) = .returned (.int .i64 r) ∧ ((Plan l ∧ r = 0) ∨ (¬ Plan l ∧ r = 44))) ∧ Below w.heap.size w w') := fun w' h hb => ⟨⟨0, rfl, Or.inl ⟨h, rfl⟩⟩, hb⟩
  clear hc hz
  go_enter Tryd.func10, Tryd.ntmps10
  go_wp2_with fail
  go_loopw [3] (fun i wr => ∃ k : Nat, k ≤ l.length ∧ i = .int .i64 k ∧ Below w.heap.size w wr ∧ ∀ j (hj : j < l.length), j < k → okDe (l.take j) l[j] = true) (fun i _ => l.length - (intOf i).toNat)
  case atStart => exact ⟨0, Nat.zero_le _, rfl, Below.refl _ _, fun j hj h => absurd h (Nat.not_lt_zero _)⟩
  case round =>
    obtain ⟨k, hk, rfl, hb, hall⟩ := hrel
    have HB := hide3 hb
    have HA := hide3 hall
    clear hb hall
    by_cases hlt : k < l.length
    · obtain ⟨g, off, rfl, hg, hcs⟩ : ∃ g off, a = some ⟨g, off, none⟩ ∧ g < w.heap.size ∧ DesIn w g off l := by
        rcases HC.out with h | h
        · rw [h] at hlt; exact absurd hlt (Nat.not_lt_zero _)
        · exact h
      have HCW : Hid (∀ W, Below wr.heap.size wr W → ∀ j (hj : j < l.length), W.cell? ⟨g, off + j * 3, none⟩ = some (.int .i64 l[j].kd) ∧ W.cell? ⟨g, off + j * 3 + 1, none⟩ = some (.string l[j].pa) ∧ W.cell? ⟨g, off + j * 3 + 1 + 1, none⟩ = some (.string l[j].da)) := fun W hW j hj => by
        have hb2 := HB.out.trans (hW.mono HB.out.size)
        obtain ⟨a0, a1, a2⟩ := hcs j hj
        exact ⟨(hb2.cell (p := ⟨g, off + j * 3, none⟩) hg).trans a0, (hb2.cell (p := ⟨g, off + j * 3 + 1, none⟩) hg).trans a1, (hb2.cell (p := ⟨g, off + j * 3 + 1 + 1, none⟩) hg).trans a2⟩
      obtain ⟨b0, b1, b2⟩ := HCW.out wr (Below.refl _ _) k hlt
      have HNK := hide3 (fun w' => HNO.out w' k hlt)
      have HPZ := hide3 (HZ.out l[k] (List.getElem_mem hlt))
      have HST : Hid (okDe (l.take k) l[k] = true → ∀ j (hj : j < l.length), j < k + 1 → okDe (l.take j) l[j] = true) := fun h j hj hjk => by
        by_cases e : j = k
        · subst e; exact h
        · exact HA.out j hj (by omega)
      have HDF : Hid (okDe (l.take k) l[k] = ((decide (1 ≤ l[k].kd) && decide (l[k].kd ≤ 4)) && ((l.take k).getLast?.all fun q => decide (q.kd ≤ l[k].kd)) && (l[k].kd == 4 || l[k].da.toList == []) && (okPath l[k].pa && !jB l[k].pa) && (((l.take k).all fun a => !atP l[k].pa a || pairB a.kd l[k].kd) && decide ((l.take k).countP (atP l[k].pa) ≤ 1)))) := rfl
      have hki : (k : Int) < (l.length : Int) := by omega
      have hk0 : (0 : Int) ≤ (k : Int) := by omega
      clear hcs
      obtain ⟨W0, hW0⟩ : ∃ W0, W0 = wr.alloc (.cells #[.int .i64 l[k].kd, .string l[k].pa, .string l[k].da] 37) := ⟨_, rfl⟩
      have HX : Hid (Below wr.heap.size wr W0) := by rw [hW0]; exact (Below.refl _ _).alloc (Nat.le_refl _) _
      have x0 : W0.cell? ⟨wr.heap.size, 0, none⟩ = some (.int .i64 l[k].kd) := by rw [hW0]; simp
      have x1 : W0.cell? ⟨wr.heap.size, 1, none⟩ = some (.string l[k].pa) := by rw [hW0]; simp
      have x2 : W0.cell? ⟨wr.heap.size, 2, none⟩ = some (.string l[k].da) := by rw [hW0]; simp
      have HBF : Hid (∀ q, Below w.heap.size w (W0.drewN q)) := fun q => by
        have h1 := HB.out.trans (HX.out.mono HB.out.size)
        exact ⟨h1.os, h1.tape, h1.output, h1.size, h1.block⟩
      have HPA : Hid (∀ q, Calls Tryd.prog 22 #[.string l[k].pa] (W0.drewN q) fun e w' => e = .returned (.bool (okPath l[k].pa)) ∧ w' = W0.drewN q) := fun q => pPath_any _ _ HPZ.out
      have HBG : Hid (∀ q, Calls Tryd.prog 23 #[.string l[k].pa, .string ⟨#[47, 106, 111, 117, 114, 110, 97, 108, 47]⟩] (W0.drewN q) fun e w' => e = .returned (.bool (begB l[k].pa ⟨#[47, 106, 111, 117, 114, 110, 97, 108, 47]⟩)) ∧ w' = W0.drewN q) := fun q => begins_any _ _ _
      have HJB := hide3 (jB_beg l[k].pa)
      have HPR : Hid (∀ x W, Calls Tryd.prog 24 #[.int .i64 x, .int .i64 l[k].kd] W fun e w' => e = .returned (.bool (pairB x l[k].kd)) ∧ w' = W) := fun x W => pair_any _ _ _
      have HCX : Hid (∀ j (hj : j < l.length), W0.cell? ⟨g, off + j * 3, none⟩ = some (.int .i64 l[j].kd) ∧ W0.cell? ⟨g, off + j * 3 + 1, none⟩ = some (.string l[j].pa)) := fun j hj => ⟨(HCW.out W0 HX.out j hj).1, (HCW.out W0 HX.out j hj).2.1⟩
      have HLT : Hid (∀ j (hj : j < l.length), j < k → (l.take (j + 1)).all (fun a => !atP l[k].pa a || pairB a.kd l[k].kd) = ((l.take j).all (fun a => !atP l[k].pa a || pairB a.kd l[k].kd) && (!(l[j].pa.toList == l[k].pa.toList) || pairB l[j].kd l[k].kd)) ∧ (l.take (j + 1)).countP (atP l[k].pa) = (l.take j).countP (atP l[k].pa) + (if (l[j].pa.toList == l[k].pa.toList) = true then 1 else 0)) := fun j hj _ => by
        rw [List.take_succ_eq_append_getElem hj, List.all_append, List.countP_append]
        refine ⟨by simp [atP], by rw [List.countP_cons, List.countP_nil]; simp [atP]⟩
      have HLE : Hid (∀ j (hj : j < l.length), j < k → (l[j].pa.toList == l[k].pa.toList) = true → pairB l[j].kd l[k].kd = false → (l.take k).all (fun a => !atP l[k].pa a || pairB a.kd l[k].kd) = false) := fun j hj hjk h1 h2 => Bool.eq_false_iff.2 fun q => by
        have hm : l[j] ∈ l.take k := List.mem_take_iff_getElem.2 ⟨j, by omega, rfl⟩
        have := List.all_eq_true.1 q _ hm
        unfold atP at this
        rw [h1, h2] at this
        cases this
      have HPV : Hid ((k = 0 → (l.take k).getLast?.all (fun q => decide (q.kd ≤ l[k].kd)) = true) ∧ ∀ j (hj : j < l.length), k = j + 1 → (l.take k).getLast?.all (fun q => decide (q.kd ≤ l[k].kd)) = decide (l[j].kd ≤ l[k].kd)) := ⟨fun h => by subst h; rfl, fun j hj h => by subst h; rw [last_take hj]; rfl⟩
      generalize okDe (l.take k) l[k] = okd at *
      generalize (l.take k).getLast?.all (fun q => decide (q.kd ≤ l[k].kd)) = lst at *
      generalize jB l[k].pa = jb at *
      generalize okPath l[k].pa = opt at *
      generalize begB l[k].pa ⟨#[47, 106, 111, 117, 114, 110, 97, 108, 47]⟩ = bgs at *
      generalize l[k].kd = kd at *
      generalize l[k].pa = p at *
      generalize l[k].da = t at *
      by_cases h1 : kd < 1
      · have h1d : decide (kd < 1) = true := decide_eq_true h1
        have HFF : Hid (okd = false) := by unfold Hid; rw [HDF.out, decide_eq_false (show ¬ 1 ≤ kd by omega)]; simp
        clear HDF HPV
        subst hW0
        go_wp2_with fail
        go_quiet (fail)
        go_wp2
        go_ret
        exact HNK.out _ HFF.out (HBF.out _)
      have h1d : decide (kd < 1) = false := decide_eq_false h1
      by_cases h4 : 4 < kd
      · have h4d : decide (4 < kd) = true := decide_eq_true h4
        have HFF : Hid (okd = false) := by unfold Hid; rw [HDF.out, decide_eq_false (show ¬ kd ≤ 4 by omega)]; simp
        clear HDF HPV
        subst hW0
        go_wp2_with fail
        go_quiet (fail)
        go_wp2
        go_ret
        exact HNK.out _ HFF.out (HBF.out _)
      have h4d : decide (4 < kd) = false := decide_eq_false h4
      have hk14 : decide (1 ≤ kd) = true ∧ decide (kd ≤ 4) = true := ⟨decide_eq_true (by omega), decide_eq_true (by omega)⟩
      rw [hk14.1, hk14.2] at HDF
      clear hk14
      by_cases hz0 : k = 0
      · have hzd : decide ((0 : Int) < (k : Int)) = false := decide_eq_false (by omega)
        have hzn : decide (0 < k) = false := decide_eq_false (by omega)
        rw [HPV.out.1 hz0] at HDF
        clear HPV hz0
        cases h44 : (kd == 4)
        · have h45 : (kd != 4) = true := by unfold bne; rw [h44]; rfl
          cases htt : (t.toList == [])
          · have htn : (t.toList != []) = true := by unfold bne; rw [htt]; rfl
            have HFF : Hid (okd = false) := by unfold Hid; rw [HDF.out, h44, htt]; simp
            clear HDF
            subst hW0
            go_wp2_with fail
            go_quiet (fail)
            go_wp2
            go_ret
            exact HNK.out _ HFF.out (HBF.out _)
          · have htn : (t.toList != []) = false := by unfold bne; rw [htt]; rfl
            cases hop : opt
            · have HFF : Hid (okd = false) := by unfold Hid; rw [HDF.out, hop]; simp
              subst hop
              clear HDF
              subst hW0
              go_wp2_with fail
              go_quiet (fail)
              go_wp2_with (go_at_call 22; refine (HPA.out _).mono ?_; rintro e w5 ⟨rfl, rfl⟩)
              go_ret
              exact HNK.out _ HFF.out (HBF.out _)
            subst hop
            cases hjn : (p.toList == [47, 106, 111, 117, 114, 110, 97, 108])
            · rw [hjn] at HJB
              cases hbg : bgs
              · have HJF : Hid (jb = false) := by unfold Hid; rw [HJB.out, hbg]; rfl
                subst hbg
                rw [HJF.out] at HDF
                clear HJB HJF
                subst hW0
                go_wp2_with fail
                go_quiet (fail)
                go_wp2_with (first
                  | (go_at_call 22; refine (HPA.out _).mono ?_; rintro e w5 ⟨rfl, rfl⟩)
                  | (go_at_call 23; refine (HBG.out _).mono ?_; rintro e w5 ⟨rfl, rfl⟩))
                generalize hW0 : wr.alloc (.cells #[.int .i64 kd, .string p, .string t] 37) = W0 at *
                clear hW0
                go_loopw [5, 6] (fun v5 v6 wz => ∃ j : Nat, j ≤ k ∧ v6 = .int .i64 j ∧ v5 = .int .i64 ((l.take j).countP (atP p) : Nat) ∧ (∃ q, wz = W0.drewN q) ∧ (l.take j).all (fun a => !atP p a || pairB a.kd kd) = true) (fun _ v6 _ => k - (intOf v6).toNat)
                case atStart => exact ⟨0, Nat.zero_le _, rfl, rfl, ⟨_, rfl⟩, rfl⟩
                case round =>
                  obtain ⟨j, hj, rfl, rfl, ⟨qn, rfl⟩, hpr⟩ := hrel
                  have HPP := hide3 hpr
                  clear hpr
                  have hcl : (l.take j).countP (atP p) ≤ 8388608 := Nat.le_trans List.countP_le_length (by rw [List.length_take]; omega)
                  by_cases hjk : j < k
                  · have hjl : j < l.length := by omega
                    obtain ⟨s0, s1⟩ := HCX.out j hjl
                    obtain ⟨n1, n2⟩ := HLT.out j hjl hjk
                    have HN1 := hide3 n1
                    have HN2 := hide3 n2
                    clear n1 n2
                    have HLJ := hide3 (HLE.out j hjl hjk)
                    have hji : (j : Int) < (k : Int) := by omega
                    have hjl2 : (j : Int) < (l.length : Int) := by omega
                    have hj0 : (0 : Int) ≤ (j : Int) := by omega
                    have HPJ := hide3 (HPR.out l[j].kd)
                    generalize l[j].pa = pj at *
                    generalize l[j].kd = kj at *
                    cases hbe : (pj.toList == p.toList)
                    · have HM1 : Hid ((l.take (j + 1)).countP (atP p) = (l.take j).countP (atP p)) := by unfold Hid; rw [HN2.out, hbe]; rfl
                      have HM2 : Hid ((l.take (j + 1)).all (fun a => !atP p a || pairB a.kd kd) = true) := by unfold Hid; rw [HN1.out, HPP.out, hbe]; rfl
                      clear HN1 HN2 HLJ
                      generalize (l.take j).countP (atP p) = cn at *
                      go_wp2_with fail
                      go_quiet (fail)
                      go_wp2
                      exact ⟨⟨j + 1, by omega, by go_num, by rw [HM1.out], ⟨_, rfl⟩, HM2.out⟩, by simp [intOf]; omega⟩
                    · cases hpj : pairB kj kd
                      · have HFF : Hid (okd = false) := by unfold Hid; rw [HDF.out, HLJ.out hbe hpj]; simp
                        rw [hpj] at HPJ
                        clear HN1 HN2 HLJ HDF
                        generalize (l.take j).countP (atP p) = cn at *
                        go_wp2_with fail
                        go_quiet (fail)
                        go_wp2_with fail
                        go_region_held3 (fun w' => w'.cell? ⟨g, off + j * 3, none⟩ = some (.int .i64 kj) ∧ w'.cell? ⟨wr.heap.size, 0, none⟩ = some (.int .i64 kd)) (go_keep) (first | (go_at_call 24; refine (HPJ.out _).mono ?_; rintro e w5 ⟨rfl, hw5⟩; subst w5))
                        all_goals go_wp2
                        all_goals go_ret
                        all_goals exact HNK.out _ HFF.out (HBF.out (qn + nq + 1))
                      · have HM1 : Hid ((l.take (j + 1)).countP (atP p) = (l.take j).countP (atP p) + 1) := by unfold Hid; rw [HN2.out, hbe]; rfl
                        have HM2 : Hid ((l.take (j + 1)).all (fun a => !atP p a || pairB a.kd kd) = true) := by unfold Hid; rw [HN1.out, HPP.out, hpj]; simp
                        rw [hpj] at HPJ
                        clear HN1 HN2 HLJ
                        generalize (l.take j).countP (atP p) = cn at *
                        go_wp2_with fail
                        go_quiet (fail)
                        go_wp2_with fail
                        go_region_held3 (fun w' => w'.cell? ⟨g, off + j * 3, none⟩ = some (.int .i64 kj) ∧ w'.cell? ⟨wr.heap.size, 0, none⟩ = some (.int .i64 kd)) (go_keep) (first | (go_at_call 24; refine (HPJ.out _).mono ?_; rintro e w5 ⟨rfl, hw5⟩; subst w5))
                        all_goals go_wp2
                        all_goals exact ⟨⟨j + 1, by omega, by go_num, by rw [HM1.out]; go_num, ⟨qn + nq + 1, rfl⟩, HM2.out⟩, by simp [intOf]; omega⟩
                  · obtain rfl : j = k := by omega
                    rw [HPP.out] at HDF
                    by_cases hm1 : 1 < (l.take j).countP (atP p)
                    · have HFF : Hid (okd = false) := by unfold Hid; rw [HDF.out, decide_eq_false (show ¬ (l.take j).countP (atP p) ≤ 1 by omega)]; simp
                      have hmi2 : (1 : Int) < ((l.take j).countP (atP p) : Int) := by omega
                      clear HDF
                      generalize (l.take j).countP (atP p) = cn at *
                      go_wp2
                      go_ret
                      exact HNK.out _ HFF.out (HBF.out _)
                    · have HTT : Hid (okd = true) := by unfold Hid; rw [HDF.out, decide_eq_true (show (l.take j).countP (atP p) ≤ 1 by omega), htt]; first | rfl | simp
                      have hmi2 : ¬ (1 : Int) < ((l.take j).countP (atP p) : Int) := by omega
                      clear HDF
                      generalize (l.take j).countP (atP p) = cn at *
                      go_wp2
                      exact ⟨⟨j + 1, by omega, by go_num, HBF.out _, HST.out HTT.out⟩, by simp [intOf]; omega⟩
              · have HFF : Hid (okd = false) := by unfold Hid; rw [HDF.out, HJB.out, hbg]; simp
                subst hbg
                clear HDF HJB
                subst hW0
                go_wp2_with fail
                go_quiet (fail)
                go_wp2_with (first
                  | (go_at_call 22; refine (HPA.out _).mono ?_; rintro e w5 ⟨rfl, rfl⟩)
                  | (go_at_call 23; refine (HBG.out _).mono ?_; rintro e w5 ⟨rfl, rfl⟩))
                go_ret
                exact HNK.out _ HFF.out (HBF.out _)
            · have HFF : Hid (okd = false) := by unfold Hid; rw [HDF.out, HJB.out, hjn]; simp
              clear HDF HJB
              subst hW0
              go_wp2_with fail
              go_quiet (fail)
              go_wp2_with (go_at_call 22; refine (HPA.out _).mono ?_; rintro e w5 ⟨rfl, rfl⟩)
              go_ret
              exact HNK.out _ HFF.out (HBF.out _)
        · have h45 : (kd != 4) = false := by unfold bne; rw [h44]; rfl
          cases hop : opt
          · have HFF : Hid (okd = false) := by unfold Hid; rw [HDF.out, hop]; simp
            subst hop
            clear HDF
            subst hW0
            go_wp2_with fail
            go_quiet (fail)
            go_wp2_with (go_at_call 22; refine (HPA.out _).mono ?_; rintro e w5 ⟨rfl, rfl⟩)
            go_ret
            exact HNK.out _ HFF.out (HBF.out _)
          subst hop
          cases hjn : (p.toList == [47, 106, 111, 117, 114, 110, 97, 108])
          · rw [hjn] at HJB
            cases hbg : bgs
            · have HJF : Hid (jb = false) := by unfold Hid; rw [HJB.out, hbg]; rfl
              subst hbg
              rw [HJF.out] at HDF
              clear HJB HJF
              subst hW0
              go_wp2_with fail
              go_quiet (fail)
              go_wp2_with (first
                | (go_at_call 22; refine (HPA.out _).mono ?_; rintro e w5 ⟨rfl, rfl⟩)
                | (go_at_call 23; refine (HBG.out _).mono ?_; rintro e w5 ⟨rfl, rfl⟩))
              generalize hW0 : wr.alloc (.cells #[.int .i64 kd, .string p, .string t] 37) = W0 at *
              clear hW0
              go_loopw [5, 6] (fun v5 v6 wz => ∃ j : Nat, j ≤ k ∧ v6 = .int .i64 j ∧ v5 = .int .i64 ((l.take j).countP (atP p) : Nat) ∧ (∃ q, wz = W0.drewN q) ∧ (l.take j).all (fun a => !atP p a || pairB a.kd kd) = true) (fun _ v6 _ => k - (intOf v6).toNat)
              case atStart => exact ⟨0, Nat.zero_le _, rfl, rfl, ⟨_, rfl⟩, rfl⟩
              case round =>
                obtain ⟨j, hj, rfl, rfl, ⟨qn, rfl⟩, hpr⟩ := hrel
                have HPP := hide3 hpr
                clear hpr
                have hcl : (l.take j).countP (atP p) ≤ 8388608 := Nat.le_trans List.countP_le_length (by rw [List.length_take]; omega)
                by_cases hjk : j < k
                · have hjl : j < l.length := by omega
                  obtain ⟨s0, s1⟩ := HCX.out j hjl
                  obtain ⟨n1, n2⟩ := HLT.out j hjl hjk
                  have HN1 := hide3 n1
                  have HN2 := hide3 n2
                  clear n1 n2
                  have HLJ := hide3 (HLE.out j hjl hjk)
                  have hji : (j : Int) < (k : Int) := by omega
                  have hjl2 : (j : Int) < (l.length : Int) := by omega
                  have hj0 : (0 : Int) ≤ (j : Int) := by omega
                  have HPJ := hide3 (HPR.out l[j].kd)
                  generalize l[j].pa = pj at *
                  generalize l[j].kd = kj at *
                  cases hbe : (pj.toList == p.toList)
                  · have HM1 : Hid ((l.take (j + 1)).countP (atP p) = (l.take j).countP (atP p)) := by unfold Hid; rw [HN2.out, hbe]; rfl
                    have HM2 : Hid ((l.take (j + 1)).all (fun a => !atP p a || pairB a.kd kd) = true) := by unfold Hid; rw [HN1.out, HPP.out, hbe]; rfl
                    clear HN1 HN2 HLJ
                    generalize (l.take j).countP (atP p) = cn at *
                    go_wp2_with fail
                    go_quiet (fail)
                    go_wp2
                    exact ⟨⟨j + 1, by omega, by go_num, by rw [HM1.out], ⟨_, rfl⟩, HM2.out⟩, by simp [intOf]; omega⟩
                  · cases hpj : pairB kj kd
                    · have HFF : Hid (okd = false) := by unfold Hid; rw [HDF.out, HLJ.out hbe hpj]; simp
                      rw [hpj] at HPJ
                      clear HN1 HN2 HLJ HDF
                      generalize (l.take j).countP (atP p) = cn at *
                      go_wp2_with fail
                      go_quiet (fail)
                      go_wp2_with fail
                      go_region_held3 (fun w' => w'.cell? ⟨g, off + j * 3, none⟩ = some (.int .i64 kj) ∧ w'.cell? ⟨wr.heap.size, 0, none⟩ = some (.int .i64 kd)) (go_keep) (first | (go_at_call 24; refine (HPJ.out _).mono ?_; rintro e w5 ⟨rfl, hw5⟩; subst w5))
                      all_goals go_wp2
                      all_goals go_ret
                      all_goals exact HNK.out _ HFF.out (HBF.out (qn + nq + 1))
                    · have HM1 : Hid ((l.take (j + 1)).countP (atP p) = (l.take j).countP (atP p) + 1) := by unfold Hid; rw [HN2.out, hbe]; rfl
                      have HM2 : Hid ((l.take (j + 1)).all (fun a => !atP p a || pairB a.kd kd) = true) := by unfold Hid; rw [HN1.out, HPP.out, hpj]; simp
                      rw [hpj] at HPJ
                      clear HN1 HN2 HLJ
                      generalize (l.take j).countP (atP p) = cn at *
                      go_wp2_with fail
                      go_quiet (fail)
                      go_wp2_with fail
                      go_region_held3 (fun w' => w'.cell? ⟨g, off + j * 3, none⟩ = some (.int .i64 kj) ∧ w'.cell? ⟨wr.heap.size, 0, none⟩ = some (.int .i64 kd)) (go_keep) (first | (go_at_call 24; refine (HPJ.out _).mono ?_; rintro e w5 ⟨rfl, hw5⟩; subst w5))
                      all_goals go_wp2
                      all_goals exact ⟨⟨j + 1, by omega, by go_num, by rw [HM1.out]; go_num, ⟨qn + nq + 1, rfl⟩, HM2.out⟩, by simp [intOf]; omega⟩
                · obtain rfl : j = k := by omega
                  rw [HPP.out] at HDF
                  by_cases hm1 : 1 < (l.take j).countP (atP p)
                  · have HFF : Hid (okd = false) := by unfold Hid; rw [HDF.out, decide_eq_false (show ¬ (l.take j).countP (atP p) ≤ 1 by omega)]; simp
                    have hmi2 : (1 : Int) < ((l.take j).countP (atP p) : Int) := by omega
                    clear HDF
                    generalize (l.take j).countP (atP p) = cn at *
                    go_wp2
                    go_ret
                    exact HNK.out _ HFF.out (HBF.out _)
                  · have HTT : Hid (okd = true) := by unfold Hid; rw [HDF.out, decide_eq_true (show (l.take j).countP (atP p) ≤ 1 by omega), h44]; first | rfl | simp
                    have hmi2 : ¬ (1 : Int) < ((l.take j).countP (atP p) : Int) := by omega
                    clear HDF
                    generalize (l.take j).countP (atP p) = cn at *
                    go_wp2
                    exact ⟨⟨j + 1, by omega, by go_num, HBF.out _, HST.out HTT.out⟩, by simp [intOf]; omega⟩
            · have HFF : Hid (okd = false) := by unfold Hid; rw [HDF.out, HJB.out, hbg]; simp
              subst hbg
              clear HDF HJB
              subst hW0
              go_wp2_with fail
              go_quiet (fail)
              go_wp2_with (first
                | (go_at_call 22; refine (HPA.out _).mono ?_; rintro e w5 ⟨rfl, rfl⟩)
                | (go_at_call 23; refine (HBG.out _).mono ?_; rintro e w5 ⟨rfl, rfl⟩))
              go_ret
              exact HNK.out _ HFF.out (HBF.out _)
          · have HFF : Hid (okd = false) := by unfold Hid; rw [HDF.out, HJB.out, hjn]; simp
            clear HDF HJB
            subst hW0
            go_wp2_with fail
            go_quiet (fail)
            go_wp2_with (go_at_call 22; refine (HPA.out _).mono ?_; rintro e w5 ⟨rfl, rfl⟩)
            go_ret
            exact HNK.out _ HFF.out (HBF.out _)
      · obtain ⟨m, hm⟩ : ∃ m, k = m + 1 := ⟨k - 1, by omega⟩
        have hml : m < l.length := by omega
        have hzd : decide ((0 : Int) < (k : Int)) = true := decide_eq_true (by omega)
        have hzn : decide (0 < k) = true := decide_eq_true (by omega)
        have hmw : IntKind.i64.wrap ((k : Int) - 1) = (m : Int) := by rw [IntKind.wrap_i64] <;> omega
        have hm0 : (0 : Int) ≤ (m : Int) := by omega
        have hmi : (m : Int) < (l.length : Int) := by omega
        have z0 := (HCX.out m hml).1
        rw [HPV.out.2 m hml hm] at HDF
        clear HPV hz0 hm
        generalize l[m].kd = pk at *
        by_cases hpk : kd < pk
        · have hpkd : decide (kd < pk) = true := decide_eq_true hpk
          have HFF : Hid (okd = false) := by unfold Hid; rw [HDF.out, decide_eq_false (show ¬ pk ≤ kd by omega)]; simp
          clear HDF
          subst hW0
          go_wp2_with fail
          go_quiet (fail)
          go_wp2
          go_ret
          exact HNK.out _ HFF.out (HBF.out _)
        have hpkd : decide (kd < pk) = false := decide_eq_false hpk
        rw [decide_eq_true (show pk ≤ kd by omega)] at HDF
        cases h44 : (kd == 4)
        · have h45 : (kd != 4) = true := by unfold bne; rw [h44]; rfl
          cases htt : (t.toList == [])
          · have htn : (t.toList != []) = true := by unfold bne; rw [htt]; rfl
            have HFF : Hid (okd = false) := by unfold Hid; rw [HDF.out, h44, htt]; simp
            clear HDF
            subst hW0
            go_wp2_with fail
            go_quiet (fail)
            go_wp2
            go_ret
            exact HNK.out _ HFF.out (HBF.out _)
          · have htn : (t.toList != []) = false := by unfold bne; rw [htt]; rfl
            cases hop : opt
            · have HFF : Hid (okd = false) := by unfold Hid; rw [HDF.out, hop]; simp
              subst hop
              clear HDF
              subst hW0
              go_wp2_with fail
              go_quiet (fail)
              go_wp2_with (go_at_call 22; refine (HPA.out _).mono ?_; rintro e w5 ⟨rfl, rfl⟩)
              go_ret
              exact HNK.out _ HFF.out (HBF.out _)
            subst hop
            cases hjn : (p.toList == [47, 106, 111, 117, 114, 110, 97, 108])
            · rw [hjn] at HJB
              cases hbg : bgs
              · have HJF : Hid (jb = false) := by unfold Hid; rw [HJB.out, hbg]; rfl
                subst hbg
                rw [HJF.out] at HDF
                clear HJB HJF
                subst hW0
                go_wp2_with fail
                go_quiet (fail)
                go_wp2_with (first
                  | (go_at_call 22; refine (HPA.out _).mono ?_; rintro e w5 ⟨rfl, rfl⟩)
                  | (go_at_call 23; refine (HBG.out _).mono ?_; rintro e w5 ⟨rfl, rfl⟩))
                generalize hW0 : wr.alloc (.cells #[.int .i64 kd, .string p, .string t] 37) = W0 at *
                clear hW0
                go_loopw [5, 6] (fun v5 v6 wz => ∃ j : Nat, j ≤ k ∧ v6 = .int .i64 j ∧ v5 = .int .i64 ((l.take j).countP (atP p) : Nat) ∧ (∃ q, wz = W0.drewN q) ∧ (l.take j).all (fun a => !atP p a || pairB a.kd kd) = true) (fun _ v6 _ => k - (intOf v6).toNat)
                case atStart => exact ⟨0, Nat.zero_le _, rfl, rfl, ⟨_, rfl⟩, rfl⟩
                case round =>
                  obtain ⟨j, hj, rfl, rfl, ⟨qn, rfl⟩, hpr⟩ := hrel
                  have HPP := hide3 hpr
                  clear hpr
                  have hcl : (l.take j).countP (atP p) ≤ 8388608 := Nat.le_trans List.countP_le_length (by rw [List.length_take]; omega)
                  by_cases hjk : j < k
                  · have hjl : j < l.length := by omega
                    obtain ⟨s0, s1⟩ := HCX.out j hjl
                    obtain ⟨n1, n2⟩ := HLT.out j hjl hjk
                    have HN1 := hide3 n1
                    have HN2 := hide3 n2
                    clear n1 n2
                    have HLJ := hide3 (HLE.out j hjl hjk)
                    have hji : (j : Int) < (k : Int) := by omega
                    have hjl2 : (j : Int) < (l.length : Int) := by omega
                    have hj0 : (0 : Int) ≤ (j : Int) := by omega
                    have HPJ := hide3 (HPR.out l[j].kd)
                    generalize l[j].pa = pj at *
                    generalize l[j].kd = kj at *
                    cases hbe : (pj.toList == p.toList)
                    · have HM1 : Hid ((l.take (j + 1)).countP (atP p) = (l.take j).countP (atP p)) := by unfold Hid; rw [HN2.out, hbe]; rfl
                      have HM2 : Hid ((l.take (j + 1)).all (fun a => !atP p a || pairB a.kd kd) = true) := by unfold Hid; rw [HN1.out, HPP.out, hbe]; rfl
                      clear HN1 HN2 HLJ
                      generalize (l.take j).countP (atP p) = cn at *
                      go_wp2_with fail
                      go_quiet (fail)
                      go_wp2
                      exact ⟨⟨j + 1, by omega, by go_num, by rw [HM1.out], ⟨_, rfl⟩, HM2.out⟩, by simp [intOf]; omega⟩
                    · cases hpj : pairB kj kd
                      · have HFF : Hid (okd = false) := by unfold Hid; rw [HDF.out, HLJ.out hbe hpj]; simp
                        rw [hpj] at HPJ
                        clear HN1 HN2 HLJ HDF
                        generalize (l.take j).countP (atP p) = cn at *
                        go_wp2_with fail
                        go_quiet (fail)
                        go_wp2_with fail
                        go_region_held3 (fun w' => w'.cell? ⟨g, off + j * 3, none⟩ = some (.int .i64 kj) ∧ w'.cell? ⟨wr.heap.size, 0, none⟩ = some (.int .i64 kd)) (go_keep) (first | (go_at_call 24; refine (HPJ.out _).mono ?_; rintro e w5 ⟨rfl, hw5⟩; subst w5))
                        all_goals go_wp2
                        all_goals go_ret
                        all_goals exact HNK.out _ HFF.out (HBF.out (qn + nq + 1))
                      · have HM1 : Hid ((l.take (j + 1)).countP (atP p) = (l.take j).countP (atP p) + 1) := by unfold Hid; rw [HN2.out, hbe]; rfl
                        have HM2 : Hid ((l.take (j + 1)).all (fun a => !atP p a || pairB a.kd kd) = true) := by unfold Hid; rw [HN1.out, HPP.out, hpj]; simp
                        rw [hpj] at HPJ
                        clear HN1 HN2 HLJ
                        generalize (l.take j).countP (atP p) = cn at *
                        go_wp2_with fail
                        go_quiet (fail)
                        go_wp2_with fail
                        go_region_held3 (fun w' => w'.cell? ⟨g, off + j * 3, none⟩ = some (.int .i64 kj) ∧ w'.cell? ⟨wr.heap.size, 0, none⟩ = some (.int .i64 kd)) (go_keep) (first | (go_at_call 24; refine (HPJ.out _).mono ?_; rintro e w5 ⟨rfl, hw5⟩; subst w5))
                        all_goals go_wp2
                        all_goals exact ⟨⟨j + 1, by omega, by go_num, by rw [HM1.out]; go_num, ⟨qn + nq + 1, rfl⟩, HM2.out⟩, by simp [intOf]; omega⟩
                  · obtain rfl : j = k := by omega
                    rw [HPP.out] at HDF
                    by_cases hm1 : 1 < (l.take j).countP (atP p)
                    · have HFF : Hid (okd = false) := by unfold Hid; rw [HDF.out, decide_eq_false (show ¬ (l.take j).countP (atP p) ≤ 1 by omega)]; simp
                      have hmi2 : (1 : Int) < ((l.take j).countP (atP p) : Int) := by omega
                      clear HDF
                      generalize (l.take j).countP (atP p) = cn at *
                      go_wp2
                      go_ret
                      exact HNK.out _ HFF.out (HBF.out _)
                    · have HTT : Hid (okd = true) := by unfold Hid; rw [HDF.out, decide_eq_true (show (l.take j).countP (atP p) ≤ 1 by omega), htt]; first | rfl | simp
                      have hmi2 : ¬ (1 : Int) < ((l.take j).countP (atP p) : Int) := by omega
                      clear HDF
                      generalize (l.take j).countP (atP p) = cn at *
                      go_wp2
                      exact ⟨⟨j + 1, by omega, by go_num, HBF.out _, HST.out HTT.out⟩, by simp [intOf]; omega⟩
              · have HFF : Hid (okd = false) := by unfold Hid; rw [HDF.out, HJB.out, hbg]; simp
                subst hbg
                clear HDF HJB
                subst hW0
                go_wp2_with fail
                go_quiet (fail)
                go_wp2_with (first
                  | (go_at_call 22; refine (HPA.out _).mono ?_; rintro e w5 ⟨rfl, rfl⟩)
                  | (go_at_call 23; refine (HBG.out _).mono ?_; rintro e w5 ⟨rfl, rfl⟩))
                go_ret
                exact HNK.out _ HFF.out (HBF.out _)
            · have HFF : Hid (okd = false) := by unfold Hid; rw [HDF.out, HJB.out, hjn]; simp
              clear HDF HJB
              subst hW0
              go_wp2_with fail
              go_quiet (fail)
              go_wp2_with (go_at_call 22; refine (HPA.out _).mono ?_; rintro e w5 ⟨rfl, rfl⟩)
              go_ret
              exact HNK.out _ HFF.out (HBF.out _)
        · have h45 : (kd != 4) = false := by unfold bne; rw [h44]; rfl
          cases hop : opt
          · have HFF : Hid (okd = false) := by unfold Hid; rw [HDF.out, hop]; simp
            subst hop
            clear HDF
            subst hW0
            go_wp2_with fail
            go_quiet (fail)
            go_wp2_with (go_at_call 22; refine (HPA.out _).mono ?_; rintro e w5 ⟨rfl, rfl⟩)
            go_ret
            exact HNK.out _ HFF.out (HBF.out _)
          subst hop
          cases hjn : (p.toList == [47, 106, 111, 117, 114, 110, 97, 108])
          · rw [hjn] at HJB
            cases hbg : bgs
            · have HJF : Hid (jb = false) := by unfold Hid; rw [HJB.out, hbg]; rfl
              subst hbg
              rw [HJF.out] at HDF
              clear HJB HJF
              subst hW0
              go_wp2_with fail
              go_quiet (fail)
              go_wp2_with (first
                | (go_at_call 22; refine (HPA.out _).mono ?_; rintro e w5 ⟨rfl, rfl⟩)
                | (go_at_call 23; refine (HBG.out _).mono ?_; rintro e w5 ⟨rfl, rfl⟩))
              generalize hW0 : wr.alloc (.cells #[.int .i64 kd, .string p, .string t] 37) = W0 at *
              clear hW0
              go_loopw [5, 6] (fun v5 v6 wz => ∃ j : Nat, j ≤ k ∧ v6 = .int .i64 j ∧ v5 = .int .i64 ((l.take j).countP (atP p) : Nat) ∧ (∃ q, wz = W0.drewN q) ∧ (l.take j).all (fun a => !atP p a || pairB a.kd kd) = true) (fun _ v6 _ => k - (intOf v6).toNat)
              case atStart => exact ⟨0, Nat.zero_le _, rfl, rfl, ⟨_, rfl⟩, rfl⟩
              case round =>
                obtain ⟨j, hj, rfl, rfl, ⟨qn, rfl⟩, hpr⟩ := hrel
                have HPP := hide3 hpr
                clear hpr
                have hcl : (l.take j).countP (atP p) ≤ 8388608 := Nat.le_trans List.countP_le_length (by rw [List.length_take]; omega)
                by_cases hjk : j < k
                · have hjl : j < l.length := by omega
                  obtain ⟨s0, s1⟩ := HCX.out j hjl
                  obtain ⟨n1, n2⟩ := HLT.out j hjl hjk
                  have HN1 := hide3 n1
                  have HN2 := hide3 n2
                  clear n1 n2
                  have HLJ := hide3 (HLE.out j hjl hjk)
                  have hji : (j : Int) < (k : Int) := by omega
                  have hjl2 : (j : Int) < (l.length : Int) := by omega
                  have hj0 : (0 : Int) ≤ (j : Int) := by omega
                  have HPJ := hide3 (HPR.out l[j].kd)
                  generalize l[j].pa = pj at *
                  generalize l[j].kd = kj at *
                  cases hbe : (pj.toList == p.toList)
                  · have HM1 : Hid ((l.take (j + 1)).countP (atP p) = (l.take j).countP (atP p)) := by unfold Hid; rw [HN2.out, hbe]; rfl
                    have HM2 : Hid ((l.take (j + 1)).all (fun a => !atP p a || pairB a.kd kd) = true) := by unfold Hid; rw [HN1.out, HPP.out, hbe]; rfl
                    clear HN1 HN2 HLJ
                    generalize (l.take j).countP (atP p) = cn at *
                    go_wp2_with fail
                    go_quiet (fail)
                    go_wp2
                    exact ⟨⟨j + 1, by omega, by go_num, by rw [HM1.out], ⟨_, rfl⟩, HM2.out⟩, by simp [intOf]; omega⟩
                  · cases hpj : pairB kj kd
                    · have HFF : Hid (okd = false) := by unfold Hid; rw [HDF.out, HLJ.out hbe hpj]; simp
                      rw [hpj] at HPJ
                      clear HN1 HN2 HLJ HDF
                      generalize (l.take j).countP (atP p) = cn at *
                      go_wp2_with fail
                      go_quiet (fail)
                      go_wp2_with fail
                      go_region_held3 (fun w' => w'.cell? ⟨g, off + j * 3, none⟩ = some (.int .i64 kj) ∧ w'.cell? ⟨wr.heap.size, 0, none⟩ = some (.int .i64 kd)) (go_keep) (first | (go_at_call 24; refine (HPJ.out _).mono ?_; rintro e w5 ⟨rfl, hw5⟩; subst w5))
                      all_goals go_wp2
                      all_goals go_ret
                      all_goals exact HNK.out _ HFF.out (HBF.out (qn + nq + 1))
                    · have HM1 : Hid ((l.take (j + 1)).countP (atP p) = (l.take j).countP (atP p) + 1) := by unfold Hid; rw [HN2.out, hbe]; rfl
                      have HM2 : Hid ((l.take (j + 1)).all (fun a => !atP p a || pairB a.kd kd) = true) := by unfold Hid; rw [HN1.out, HPP.out, hpj]; simp
                      rw [hpj] at HPJ
                      clear HN1 HN2 HLJ
                      generalize (l.take j).countP (atP p) = cn at *
                      go_wp2_with fail
                      go_quiet (fail)
                      go_wp2_with fail
                      go_region_held3 (fun w' => w'.cell? ⟨g, off + j * 3, none⟩ = some (.int .i64 kj) ∧ w'.cell? ⟨wr.heap.size, 0, none⟩ = some (.int .i64 kd)) (go_keep) (first | (go_at_call 24; refine (HPJ.out _).mono ?_; rintro e w5 ⟨rfl, hw5⟩; subst w5))
                      all_goals go_wp2
                      all_goals exact ⟨⟨j + 1, by omega, by go_num, by rw [HM1.out]; go_num, ⟨qn + nq + 1, rfl⟩, HM2.out⟩, by simp [intOf]; omega⟩
                · obtain rfl : j = k := by omega
                  rw [HPP.out] at HDF
                  by_cases hm1 : 1 < (l.take j).countP (atP p)
                  · have HFF : Hid (okd = false) := by unfold Hid; rw [HDF.out, decide_eq_false (show ¬ (l.take j).countP (atP p) ≤ 1 by omega)]; simp
                    have hmi2 : (1 : Int) < ((l.take j).countP (atP p) : Int) := by omega
                    clear HDF
                    generalize (l.take j).countP (atP p) = cn at *
                    go_wp2
                    go_ret
                    exact HNK.out _ HFF.out (HBF.out _)
                  · have HTT : Hid (okd = true) := by unfold Hid; rw [HDF.out, decide_eq_true (show (l.take j).countP (atP p) ≤ 1 by omega), h44]; first | rfl | simp
                    have hmi2 : ¬ (1 : Int) < ((l.take j).countP (atP p) : Int) := by omega
                    clear HDF
                    generalize (l.take j).countP (atP p) = cn at *
                    go_wp2
                    exact ⟨⟨j + 1, by omega, by go_num, HBF.out _, HST.out HTT.out⟩, by simp [intOf]; omega⟩
            · have HFF : Hid (okd = false) := by unfold Hid; rw [HDF.out, HJB.out, hbg]; simp
              subst hbg
              clear HDF HJB
              subst hW0
              go_wp2_with fail
              go_quiet (fail)
              go_wp2_with (first
                | (go_at_call 22; refine (HPA.out _).mono ?_; rintro e w5 ⟨rfl, rfl⟩)
                | (go_at_call 23; refine (HBG.out _).mono ?_; rintro e w5 ⟨rfl, rfl⟩))
              go_ret
              exact HNK.out _ HFF.out (HBF.out _)
          · have HFF : Hid (okd = false) := by unfold Hid; rw [HDF.out, HJB.out, hjn]; simp
            clear HDF HJB
            subst hW0
            go_wp2_with fail
            go_quiet (fail)
            go_wp2_with (go_at_call 22; refine (HPA.out _).mono ?_; rintro e w5 ⟨rfl, rfl⟩)
            go_ret
            exact HNK.out _ HFF.out (HBF.out _)
    · obtain rfl : k = l.length := by omega
      go_wp2
      go_ret
      exact HYE.out _ (fun j hj => HA.out j hj hj) HB.out
end Go.Proofs.YtefcndfeemnglaaDoor
