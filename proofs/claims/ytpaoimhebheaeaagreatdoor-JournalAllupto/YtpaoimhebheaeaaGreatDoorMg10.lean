/- Py3, Py4, laid in one text. -/
import Derived.BigQuiet
import Derived.Laws.IdiomStrings
import Derived.Test.YtpaoimhebheaeaaGreatDoorMg09
namespace Go.Proofs.YtpaoimhebheaeaaGreatDoor
open Go.RowKit Dk
set_option maxRecDepth 100000

/-- A list of deeds in memory. -/
def DesIn (w : World) (g off : Nat) (l : List De) : Prop := ∀ k (hk : k < l.length), w.cell? ⟨g, off + k * 3, none⟩ = some (.int .i64 l[k].kd) ∧ w.cell? ⟨g, off + k * 3 + 1, none⟩ = some (.string l[k].pa) ∧ w.cell? ⟨g, off + k * 3 + 1 + 1, none⟩ = some (.string l[k].da)
def IsDes (w : World) (a : Option Addr) (l : List De) : Prop := l = [] ∨ ∃ g off, a = some ⟨g, off, none⟩ ∧ g < w.heap.size ∧ DesIn w g off l
theorem IsDes.below {w w' : World} {a : Option Addr} {l : List De} (h : IsDes w a l) (hb : Below w.heap.size w w') : IsDes w' a l := by
  rcases h with h | ⟨g, off, rfl, hg, hc⟩
  · exact Or.inl h
  · refine Or.inr ⟨g, off, rfl, Nat.lt_of_lt_of_le hg hb.size, fun k hk => ?_⟩
    obtain ⟨a0, a1, a2⟩ := hc k hk
    exact ⟨(hb.cell (p := ⟨g, off + k * 3, none⟩) hg).trans a0, (hb.cell (p := ⟨g, off + k * 3 + 1, none⟩) hg).trans a1, (hb.cell (p := ⟨g, off + k * 3 + 1 + 1, none⟩) hg).trans a2⟩

/-- Does a deed stand at that path? -/
def atP (p : ByteArray) (a : De) : Bool := a.pa.toList == p.toList
/-- May a deed stand behind others? -/
def okDe (pre : List De) (d : De) : Bool := (decide (1 ≤ d.kd) && decide (d.kd ≤ 4)) && (pre.getLast?.all fun q => decide (q.kd ≤ d.kd)) && (d.kd == 4 || d.da.toList == []) && (okPath d.pa && !jB d.pa) && ((pre.all fun a => !atP d.pa a || pairB a.kd d.kd) && decide (pre.countP (atP d.pa) ≤ 1))
/-- Deeds that are a plan. -/
def Plan (l : List De) : Prop := ∀ i (hi : i < l.length), okDe (l.take i) l[i] = true
theorem jB_beg (s : ByteArray) : jB s = (s.toList == [47, 106, 111, 117, 114, 110, 97, 108] || begB s ⟨#[47, 106, 111, 117, 114, 110, 97, 108, 47]⟩) := by
  have h1 : jn.toList = [47, 106, 111, 117, 114, 110, 97, 108] := by decide +kernel
  unfold jB begB
  rw [h1]
  rfl
theorem last_take {l : List De} {j : Nat} (hj : j < l.length) : (l.take (j + 1)).getLast? = some l[j] := by
  rw [List.take_succ_eq_append_getElem hj, List.getLast?_append]
  rfl

set_option maxHeartbeats 16000000 in
theorem pCheck_any (l : List De) (a : Option Addr) (cap : Nat) (w : World) (hlen : l.length ≤ 8388608) (hc : IsDes w a l) (hz : ∀ d ∈ l, d.pa.size ≤ maxLen) :
    Calls Tryz.prog 73 #[.slice a l.length cap] w fun e w' => (∃ r, e = .returned (.int .i64 r) ∧ ((Plan l ∧ r = 0) ∨ (¬ Plan l ∧ r = 44))) ∧ Below w.heap.size w w' := by
  have HC := hide3 hc
  have HZ := hide3 hz
  have HNO : Hid (∀ w' i (hi : i < l.length), okDe (l.take i) l[i] = false → Below w.heap.size w w' → (∃ r, Ending.returned (.int .i64 44) = .returned (.int .i64 r) ∧ ((Plan l ∧ r = 0) ∨ (¬ Plan l ∧ r = 44))) ∧ Below w.heap.size w w') := fun w' i hi h hb => ⟨⟨44, rfl, Or.inr ⟨(fun q => by rw [q i hi] at h; exact absurd h (by decide)), rfl⟩⟩, hb⟩
  have HYE : Hid (∀ w', (∀ j (hj : j < l.length), okDe (l.take j) l[j] = true) → Below w.heap.size w w' → (∃ r, Ending.returned (.int .i64 0) = .returned (.int .i64 r) ∧ ((Plan l ∧ r = 0) ∨ (¬ Plan l ∧ r = 44))) ∧ Below w.heap.size w w') := fun w' h hb => ⟨⟨0, rfl, Or.inl ⟨h, rfl⟩⟩, hb⟩
  clear hc hz
  go_enter Tryz.func73, Tryz.ntmps73
  go_wp2_with fail
  go_loopw [3] (fun i wr => ∃ k : Nat, k ≤ l.length ∧ i = .int .i64 k ∧ Below w.heap.size w wr ∧ ∀ j (hj : j < l.length), j < k → okDe (l.take j) l[j] = true) (fun i _ => l.length - (intOf i).toNat)
  case atStart => exact ⟨0, Nat.zero_le _, rfl, Below.refl _ _, fun j hj h => absurd h (Nat.not_lt_zero _)⟩
  case round =>
    obtain ⟨k, hk, rfl, hb, hall⟩ := hrel
    have HB := hide3 hb
    have HA := hide3 hall
    clear hb hall
    by_cases hlt : k < l.length
    · obtain ⟨g, off, rfl, hg, hcs⟩ : ∃ g off, a = some ⟨g, off, none⟩ ∧ g < w.heap.size ∧ DesIn w g off l := by
        rcases HC.out with h | h
        · rw [h] at hlt; exact absurd hlt (Nat.not_lt_zero _)
        · exact h
      have HCW : Hid (∀ W, Below wr.heap.size wr W → ∀ j (hj : j < l.length), W.cell? ⟨g, off + j * 3, none⟩ = some (.int .i64 l[j].kd) ∧ W.cell? ⟨g, off + j * 3 + 1, none⟩ = some (.string l[j].pa) ∧ W.cell? ⟨g, off + j * 3 + 1 + 1, none⟩ = some (.string l[j].da)) := fun W hW j hj => by
        have hb2 := HB.out.trans (hW.mono HB.out.size)
        obtain ⟨a0, a1, a2⟩ := hcs j hj
        exact ⟨(hb2.cell (p := ⟨g, off + j * 3, none⟩) hg).trans a0, (hb2.cell (p := ⟨g, off + j * 3 + 1, none⟩) hg).trans a1, (hb2.cell (p := ⟨g, off + j * 3 + 1 + 1, none⟩) hg).trans a2⟩
      obtain ⟨b0, b1, b2⟩ := HCW.out wr (Below.refl _ _) k hlt
      have HNK := hide3 (fun w' => HNO.out w' k hlt)
      have HPZ := hide3 (HZ.out l[k] (List.getElem_mem hlt))
      have HST : Hid (okDe (l.take k) l[k] = true → ∀ j (hj : j < l.length), j < k + 1 → okDe (l.take j) l[j] = true) := fun h j hj hjk => by
        by_cases e : j = k
        · subst e; exact h
        · exact HA.out j hj (by omega)
      have HDF : Hid (okDe (l.take k) l[k] = ((decide (1 ≤ l[k].kd) && decide (l[k].kd ≤ 4)) && ((l.take k).getLast?.all fun q => decide (q.kd ≤ l[k].kd)) && (l[k].kd == 4 || l[k].da.toList == []) && (okPath l[k].pa && !jB l[k].pa) && (((l.take k).all fun a => !atP l[k].pa a || pairB a.kd l[k].kd) && decide ((l.take k).countP (atP l[k].pa) ≤ 1)))) := rfl
      have hki : (k : Int) < (l.length : Int) := by omega
      have hk0 : (0 : Int) ≤ (k : Int) := by omega
      clear hcs
      obtain ⟨W0, hW0⟩ : ∃ W0, W0 = wr.alloc (.cells #[.int .i64 l[k].kd, .string l[k].pa, .string l[k].da] 54) := ⟨_, rfl⟩
      have HX : Hid (Below wr.heap.size wr W0) := by rw [hW0]; exact (Below.refl _ _).alloc (Nat.le_refl _) _
      have x0 : W0.cell? ⟨wr.heap.size, 0, none⟩ = some (.int .i64 l[k].kd) := by rw [hW0]; simp
      have x1 : W0.cell? ⟨wr.heap.size, 1, none⟩ = some (.string l[k].pa) := by rw [hW0]; simp
      have x2 : W0.cell? ⟨wr.heap.size, 2, none⟩ = some (.string l[k].da) := by rw [hW0]; simp
      have HBF : Hid (∀ q, Below w.heap.size w (W0.drewN q)) := fun q => by
        have h1 := HB.out.trans (HX.out.mono HB.out.size)
        exact ⟨h1.os, h1.tape, h1.output, h1.size, h1.block⟩
      have HPA : Hid (∀ q, Calls Tryz.prog 108 #[.string l[k].pa] (W0.drewN q) fun e w' => e = .returned (.bool (okPath l[k].pa)) ∧ w' = W0.drewN q) := fun q => pPath_any _ _ HPZ.out
      have HBG : Hid (∀ q, Calls Tryz.prog 109 #[.string l[k].pa, .string ⟨#[47, 106, 111, 117, 114, 110, 97, 108, 47]⟩] (W0.drewN q) fun e w' => e = .returned (.bool (begB l[k].pa ⟨#[47, 106, 111, 117, 114, 110, 97, 108, 47]⟩)) ∧ w' = W0.drewN q) := fun q => begins_any _ _ _
      have HJB := hide3 (jB_beg l[k].pa)
      have HPR : Hid (∀ x W, Calls Tryz.prog 110 #[.int .i64 x, .int .i64 l[k].kd] W fun e w' => e = .returned (.bool (pairB x l[k].kd)) ∧ w' = W) := fun x W => pair_any _ _ _
      have HCX : Hid (∀ j (hj : j < l.length), W0.cell? ⟨g, off + j * 3, none⟩ = some (.int .i64 l[j].kd) ∧ W0.cell? ⟨g, off + j * 3 + 1, none⟩ = some (.string l[j].pa)) := fun j hj => ⟨(HCW.out W0 HX.out j hj).1, (HCW.out W0 HX.out j hj).2.1⟩
      have HLT : Hid (∀ j (hj : j < l.length), j < k → (l.take (j + 1)).all (fun a => !atP l[k].pa a || pairB a.kd l[k].kd) = ((l.take j).all (fun a => !atP l[k].pa a || pairB a.kd l[k].kd) && (!(l[j].pa.toList == l[k].pa.toList) || pairB l[j].kd l[k].kd)) ∧ (l.take (j + 1)).countP (atP l[k].pa) = (l.take j).countP (atP l[k].pa) + (if (l[j].pa.toList == l[k].pa.toList) = true then 1 else 0)) := fun j hj _ => by
        rw [List.take_succ_eq_append_getElem hj, List.all_append, List.countP_append]
        refine ⟨by simp [atP], by rw [List.countP_cons, List.countP_nil]; simp [atP]⟩
      have HLE : Hid (∀ j (hj : j < l.length), j < k → (l[j].pa.toList == l[k].pa.toList) = true → pairB l[j].kd l[k].kd = false → (l.take k).all (fun a => !atP l[k].pa a || pairB a.kd l[k].kd) = false) := fun j hj hjk h1 h2 => Bool.eq_false_iff.2 fun q => by
        have hm : l[j] ∈ l.take k := List.mem_take_iff_getElem.2 ⟨j, by omega, rfl⟩
        have := List.all_eq_true.1 q _ hm
        unfold atP at this
        rw [h1, h2] at this
        cases this
      have HPV : Hid ((k = 0 → (l.take k).getLast?.all (fun q => decide (q.kd ≤ l[k].kd)) = true) ∧ ∀ j (hj : j < l.length), k = j + 1 → (l.take k).getLast?.all (fun q => decide (q.kd ≤ l[k].kd)) = decide (l[j].kd ≤ l[k].kd)) := ⟨fun h => by subst h; rfl, fun j hj h => by subst h; rw [last_take hj]; rfl⟩
      generalize okDe (l.take k) l[k] = okd at *
      generalize (l.take k).getLast?.all (fun q => decide (q.kd ≤ l[k].kd)) = lst at *
      generalize jB l[k].pa = jb at *
      generalize okPath l[k].pa = opt at *
      generalize begB l[k].pa ⟨#[47, 106, 111, 117, 114, 110, 97, 108, 47]⟩ = bgs at *
      generalize l[k].kd = kd at *
      generalize l[k].pa = p at *
      generalize l[k].da = t at *
      by_cases h1 : kd < 1
      · have h1d : decide (kd < 1) = true := decide_eq_true h1
        have HFF : Hid (okd = false) := by unfold Hid; rw [HDF.out, decide_eq_false (show ¬ 1 ≤ kd by omega)]; simp
        clear HDF HPV
        subst hW0
        go_wp2_with fail
        go_quiet (fail)
        go_wp2
        go_ret
        exact HNK.out _ HFF.out (HBF.out _)
      have h1d : decide (kd < 1) = false := decide_eq_false h1
      by_cases h4 : 4 < kd
      · have h4d : decide (4 < kd) = true := decide_eq_true h4
        have HFF : Hid (okd = false) := by unfold Hid; rw [HDF.out, decide_eq_false (show ¬ kd ≤ 4 by omega)]; simp
        clear HDF HPV
        subst hW0
        go_wp2_with fail
        go_quiet (fail)
        go_wp2
        go_ret
        exact HNK.out _ HFF.out (HBF.out _)
      have h4d : decide (4 < kd) = false := decide_eq_false h4
      have hk14 : decide (1 ≤ kd) = true ∧ decide (kd ≤ 4) = true := ⟨decide_eq_true (by omega), decide_eq_true (by omega)⟩
      rw [hk14.1, hk14.2] at HDF
      clear hk14
      by_cases hz0 : k = 0
      · have hzd : decide ((0 : Int) < (k : Int)) = false := decide_eq_false (by omega)
        have hzn : decide (0 < k) = false := decide_eq_false (by omega)
        rw [HPV.out.1 hz0] at HDF
        clear HPV hz0
        cases h44 : (kd == 4)
        · have h45 : (kd != 4) = true := by unfold bne; rw [h44]; rfl
          cases htt : (t.toList == [])
          · have htn : (t.toList != []) = true := by unfold bne; rw [htt]; rfl
            have HFF : Hid (okd = false) := by unfold Hid; rw [HDF.out, h44, htt]; simp
            clear HDF
            subst hW0
            go_wp2_with fail
            go_quiet (fail)
            go_wp2
            go_ret
            exact HNK.out _ HFF.out (HBF.out _)
          · have htn : (t.toList != []) = false := by unfold bne; rw [htt]; rfl
            cases hop : opt
            · have HFF : Hid (okd = false) := by unfold Hid; rw [HDF.out, hop]; simp
              subst hop
              clear HDF
              subst hW0
              go_wp2_with fail
              go_quiet (fail)
              go_wp2_with (go_at_call 108; refine (HPA.out _).mono ?_; rintro e w5 ⟨rfl, rfl⟩)
              go_ret
              exact HNK.out _ HFF.out (HBF.out _)
            subst hop
            cases hjn : (p.toList == [47, 106, 111, 117, 114, 110, 97, 108])
            · rw [hjn] at HJB
              cases hbg : bgs
              · have HJF : Hid (jb = false) := by unfold Hid; rw [HJB.out, hbg]; rfl
                subst hbg
                rw [HJF.out] at HDF
                clear HJB HJF
                subst hW0
                go_wp2_with fail
                go_quiet (fail)
                go_wp2_with (first
                  | (go_at_call 108; refine (HPA.out _).mono ?_; rintro e w5 ⟨rfl, rfl⟩)
                  | (go_at_call 109; refine (HBG.out _).mono ?_; rintro e w5 ⟨rfl, rfl⟩))
                generalize hW0 : wr.alloc (.cells #[.int .i64 kd, .string p, .string t] 54) = W0 at *
                clear hW0
                go_loopw [5, 6] (fun v5 v6 wz => ∃ j : Nat, j ≤ k ∧ v6 = .int .i64 j ∧ v5 = .int .i64 ((l.take j).countP (atP p) : Nat) ∧ (∃ q, wz = W0.drewN q) ∧ (l.take j).all (fun a => !atP p a || pairB a.kd kd) = true) (fun _ v6 _ => k - (intOf v6).toNat)
                case atStart => exact ⟨0, Nat.zero_le _, rfl, rfl, ⟨_, rfl⟩, rfl⟩
                case round =>
                  obtain ⟨j, hj, rfl, rfl, ⟨qn, rfl⟩, hpr⟩ := hrel
                  have HPP := hide3 hpr
                  clear hpr
                  have hcl : (l.take j).countP (atP p) ≤ 8388608 := Nat.le_trans List.countP_le_length (by rw [List.length_take]; omega)
                  by_cases hjk : j < k
                  · have hjl : j < l.length := by omega
                    obtain ⟨s0, s1⟩ := HCX.out j hjl
                    obtain ⟨n1, n2⟩ := HLT.out j hjl hjk
                    have HN1 := hide3 n1
                    have HN2 := hide3 n2
                    clear n1 n2
                    have HLJ := hide3 (HLE.out j hjl hjk)
                    have hji : (j : Int) < (k : Int) := by omega
                    have hjl2 : (j : Int) < (l.length : Int) := by omega
                    have hj0 : (0 : Int) ≤ (j : Int) := by omega
                    have HPJ := hide3 (HPR.out l[j].kd)
                    generalize l[j].pa = pj at *
                    generalize l[j].kd = kj at *
                    cases hbe : (pj.toList == p.toList)
                    · have HM1 : Hid ((l.take (j + 1)).countP (atP p) = (l.take j).countP (atP p)) := by unfold Hid; rw [HN2.out, hbe]; rfl
                      have HM2 : Hid ((l.take (j + 1)).all (fun a => !atP p a || pairB a.kd kd) = true) := by unfold Hid; rw [HN1.out, HPP.out, hbe]; rfl
                      clear HN1 HN2 HLJ
                      generalize (l.take j).countP (atP p) = cn at *
                      go_wp2_with fail
                      go_quiet (fail)
                      go_wp2
                      exact ⟨⟨j + 1, by omega, by go_num, by rw [HM1.out], ⟨_, rfl⟩, HM2.out⟩, by simp [intOf]; omega⟩
                    · cases hpj : pairB kj kd
                      · have HFF : Hid (okd = false) := by unfold Hid; rw [HDF.out, HLJ.out hbe hpj]; simp
                        rw [hpj] at HPJ
                        clear HN1 HN2 HLJ HDF
                        generalize (l.take j).countP (atP p) = cn at *
                        go_wp2_with fail
                        go_quiet (fail)
                        go_wp2_with fail
                        go_region_held3 (fun w' => w'.cell? ⟨g, off + j * 3, none⟩ = some (.int .i64 kj) ∧ w'.cell? ⟨wr.heap.size, 0, none⟩ = some (.int .i64 kd)) (go_keep) (first | (go_at_call 110; refine (HPJ.out _).mono ?_; rintro e w5 ⟨rfl, hw5⟩; subst w5))
                        all_goals go_wp2
                        all_goals go_ret
                        all_goals exact HNK.out _ HFF.out (HBF.out (qn + nq + 1))
                      · have HM1 : Hid ((l.take (j + 1)).countP (atP p) = (l.take j).countP (atP p) + 1) := by unfold Hid; rw [HN2.out, hbe]; rfl
                        have HM2 : Hid ((l.take (j + 1)).all (fun a => !atP p a || pairB a.kd kd) = true) := by unfold Hid; rw [HN1.out, HPP.out, hpj]; simp
                        rw [hpj] at HPJ
                        clear HN1 HN2 HLJ
                        generalize (l.take j).countP (atP p) = cn at *
                        go_wp2_with fail
                        go_quiet (fail)
                        go_wp2_with fail
                        go_region_held3 (fun w' => w'.cell? ⟨g, off + j * 3, none⟩ = some (.int .i64 kj) ∧ w'.cell? ⟨wr.heap.size, 0, none⟩ = some (.int .i64 kd)) (go_keep) (first | (go_at_call 110; refine (HPJ.out _).mono ?_; rintro e w5 ⟨rfl, hw5⟩; subst w5))
                        all_goals go_wp2
                        all_goals exact ⟨⟨j + 1, by omega, by go_num, by rw [HM1.out]; go_num, ⟨qn + nq + 1, rfl⟩, HM2.out⟩, by simp [intOf]; omega⟩
                  · obtain rfl : j = k := by omega
                    rw [HPP.out] at HDF
                    by_cases hm1 : 1 < (l.take j).countP (atP p)
                    · have HFF : Hid (okd = false) := by unfold Hid; rw [HDF.out, decide_eq_false (show ¬ (l.take j).countP (atP p) ≤ 1 by omega)]; simp
                      have hmi2 : (1 : Int) < ((l.take j).countP (atP p) : Int) := by omega
                      clear HDF
                      generalize (l.take j).countP (atP p) = cn at *
                      go_wp2
                      go_ret
                      exact HNK.out _ HFF.out (HBF.out _)
                    · have HTT : Hid (okd = true) := by unfold Hid; rw [HDF.out, decide_eq_true (show (l.take j).countP (atP p) ≤ 1 by omega), htt]; first | rfl | simp
                      have hmi2 : ¬ (1 : Int) < ((l.take j).countP (atP p) : Int) := by omega
                      clear HDF
                      generalize (l.take j).countP (atP p) = cn at *
                      go_wp2
                      exact ⟨⟨j + 1, by omega, by go_num, HBF.out _, HST.out HTT.out⟩, by simp [intOf]; omega⟩
              · have HFF : Hid (okd = false) := by unfold Hid; rw [HDF.out, HJB.out, hbg]; simp
                subst hbg
                clear HDF HJB
                subst hW0
                go_wp2_with fail
                go_quiet (fail)
                go_wp2_with (first
                  | (go_at_call 108; refine (HPA.out _).mono ?_; rintro e w5 ⟨rfl, rfl⟩)
                  | (go_at_call 109; refine (HBG.out _).mono ?_; rintro e w5 ⟨rfl, rfl⟩))
                go_ret
                exact HNK.out _ HFF.out (HBF.out _)
            · have HFF : Hid (okd = false) := by unfold Hid; rw [HDF.out, HJB.out, hjn]; simp
              clear HDF HJB
              subst hW0
              go_wp2_with fail
              go_quiet (fail)
              go_wp2_with (go_at_call 108; refine (HPA.out _).mono ?_; rintro e w5 ⟨rfl, rfl⟩)
              go_ret
              exact HNK.out _ HFF.out (HBF.out _)
        · have h45 : (kd != 4) = false := by unfold bne; rw [h44]; rfl
          cases hop : opt
          · have HFF : Hid (okd = false) := by unfold Hid; rw [HDF.out, hop]; simp
            subst hop
            clear HDF
            subst hW0
            go_wp2_with fail
            go_quiet (fail)
            go_wp2_with (go_at_call 108; refine (HPA.out _).mono ?_; rintro e w5 ⟨rfl, rfl⟩)
            go_ret
            exact HNK.out _ HFF.out (HBF.out _)
          subst hop
          cases hjn : (p.toList == [47, 106, 111, 117, 114, 110, 97, 108])
          · rw [hjn] at HJB
            cases hbg : bgs
            · have HJF : Hid (jb = false) := by unfold Hid; rw [HJB.out, hbg]; rfl
              subst hbg
              rw [HJF.out] at HDF
              clear HJB HJF
              subst hW0
              go_wp2_with fail
              go_quiet (fail)
              go_wp2_with (first
                | (go_at_call 108; refine (HPA.out _).mono ?_; rintro e w5 ⟨rfl, rfl⟩)
                | (go_at_call 109; refine (HBG.out _).mono ?_; rintro e w5 ⟨rfl, rfl⟩))
              generalize hW0 : wr.alloc (.cells #[.int .i64 kd, .string p, .string t] 54) = W0 at *
              clear hW0
              go_loopw [5, 6] (fun v5 v6 wz => ∃ j : Nat, j ≤ k ∧ v6 = .int .i64 j ∧ v5 = .int .i64 ((l.take j).countP (atP p) : Nat) ∧ (∃ q, wz = W0.drewN q) ∧ (l.take j).all (fun a => !atP p a || pairB a.kd kd) = true) (fun _ v6 _ => k - (intOf v6).toNat)
              case atStart => exact ⟨0, Nat.zero_le _, rfl, rfl, ⟨_, rfl⟩, rfl⟩
              case round =>
                obtain ⟨j, hj, rfl, rfl, ⟨qn, rfl⟩, hpr⟩ := hrel
                have HPP := hide3 hpr
                clear hpr
                have hcl : (l.take j).countP (atP p) ≤ 8388608 := Nat.le_trans List.countP_le_length (by rw [List.length_take]; omega)
                by_cases hjk : j < k
                · have hjl : j < l.length := by omega
                  obtain ⟨s0, s1⟩ := HCX.out j hjl
                  obtain ⟨n1, n2⟩ := HLT.out j hjl hjk
                  have HN1 := hide3 n1
                  have HN2 := hide3 n2
                  clear n1 n2
                  have HLJ := hide3 (HLE.out j hjl hjk)
                  have hji : (j : Int) < (k : Int) := by omega
                  have hjl2 : (j : Int) < (l.length : Int) := by omega
                  have hj0 : (0 : Int) ≤ (j : Int) := by omega
                  have HPJ := hide3 (HPR.out l[j].kd)
                  generalize l[j].pa = pj at *
                  generalize l[j].kd = kj at *
                  cases hbe : (pj.toList == p.toList)
                  · have HM1 : Hid ((l.take (j + 1)).countP (atP p) = (l.take j).countP (atP p)) := by unfold Hid; rw [HN2.out, hbe]; rfl
                    have HM2 : Hid ((l.take (j + 1)).all (fun a => !atP p a || pairB a.kd kd) = true) := by unfold Hid; rw [HN1.out, HPP.out, hbe]; rfl
                    clear HN1 HN2 HLJ
                    generalize (l.take j).countP (atP p) = cn at *
                    go_wp2_with fail
                    go_quiet (fail)
                    go_wp2
                    exact ⟨⟨j + 1, by omega, by go_num, by rw [HM1.out], ⟨_, rfl⟩, HM2.out⟩, by simp [intOf]; omega⟩
                  · cases hpj : pairB kj kd
                    · have HFF : Hid (okd = false) := by unfold Hid; rw [HDF.out, HLJ.out hbe hpj]; simp
                      rw [hpj] at HPJ
                      clear HN1 HN2 HLJ HDF
                      generalize (l.take j).countP (atP p) = cn at *
                      go_wp2_with fail
                      go_quiet (fail)
                      go_wp2_with fail
                      go_region_held3 (fun w' => w'.cell? ⟨g, off + j * 3, none⟩ = some (.int .i64 kj) ∧ w'.cell? ⟨wr.heap.size, 0, none⟩ = some (.int .i64 kd)) (go_keep) (first | (go_at_call 110; refine (HPJ.out _).mono ?_; rintro e w5 ⟨rfl, hw5⟩; subst w5))
                      all_goals go_wp2
                      all_goals go_ret
                      all_goals exact HNK.out _ HFF.out (HBF.out (qn + nq + 1))
                    · have HM1 : Hid ((l.take (j + 1)).countP (atP p) = (l.take j).countP (atP p) + 1) := by unfold Hid; rw [HN2.out, hbe]; rfl
                      have HM2 : Hid ((l.take (j + 1)).all (fun a => !atP p a || pairB a.kd kd) = true) := by unfold Hid; rw [HN1.out, HPP.out, hpj]; simp
                      rw [hpj] at HPJ
                      clear HN1 HN2 HLJ
                      generalize (l.take j).countP (atP p) = cn at *
                      go_wp2_with fail
                      go_quiet (fail)
                      go_wp2_with fail
                      go_region_held3 (fun w' => w'.cell? ⟨g, off + j * 3, none⟩ = some (.int .i64 kj) ∧ w'.cell? ⟨wr.heap.size, 0, none⟩ = some (.int .i64 kd)) (go_keep) (first | (go_at_call 110; refine (HPJ.out _).mono ?_; rintro e w5 ⟨rfl, hw5⟩; subst w5))
                      all_goals go_wp2
                      all_goals exact ⟨⟨j + 1, by omega, by go_num, by rw [HM1.out]; go_num, ⟨qn + nq + 1, rfl⟩, HM2.out⟩, by simp [intOf]; omega⟩
                · obtain rfl : j = k := by omega
                  rw [HPP.out] at HDF
                  by_cases hm1 : 1 < (l.take j).countP (atP p)
                  · have HFF : Hid (okd = false) := by unfold Hid; rw [HDF.out, decide_eq_false (show ¬ (l.take j).countP (atP p) ≤ 1 by omega)]; simp
                    have hmi2 : (1 : Int) < ((l.take j).countP (atP p) : Int) := by omega
                    clear HDF
                    generalize (l.take j).countP (atP p) = cn at *
                    go_wp2
                    go_ret
                    exact HNK.out _ HFF.out (HBF.out _)
                  · have HTT : Hid (okd = true) := by unfold Hid; rw [HDF.out, decide_eq_true (show (l.take j).countP (atP p) ≤ 1 by omega), h44]; first | rfl | simp
                    have hmi2 : ¬ (1 : Int) < ((l.take j).countP (atP p) : Int) := by omega
                    clear HDF
                    generalize (l.take j).countP (atP p) = cn at *
                    go_wp2
                    exact ⟨⟨j + 1, by omega, by go_num, HBF.out _, HST.out HTT.out⟩, by simp [intOf]; omega⟩
            · have HFF : Hid (okd = false) := by unfold Hid; rw [HDF.out, HJB.out, hbg]; simp
              subst hbg
              clear HDF HJB
              subst hW0
              go_wp2_with fail
              go_quiet (fail)
              go_wp2_with (first
                | (go_at_call 108; refine (HPA.out _).mono ?_; rintro e w5 ⟨rfl, rfl⟩)
                | (go_at_call 109; refine (HBG.out _).mono ?_; rintro e w5 ⟨rfl, rfl⟩))
              go_ret
              exact HNK.out _ HFF.out (HBF.out _)
          · have HFF : Hid (okd = false) := by unfold Hid; rw [HDF.out, HJB.out, hjn]; simp
            clear HDF HJB
            subst hW0
            go_wp2_with fail
            go_quiet (fail)
            go_wp2_with (go_at_call 108; refine (HPA.out _).mono ?_; rintro e w5 ⟨rfl, rfl⟩)
            go_ret
            exact HNK.out _ HFF.out (HBF.out _)
      · obtain ⟨m, hm⟩ : ∃ m, k = m + 1 := ⟨k - 1, by omega⟩
        have hml : m < l.length := by omega
        have hzd : decide ((0 : Int) < (k : Int)) = true := decide_eq_true (by omega)
        have hzn : decide (0 < k) = true := decide_eq_true (by omega)
        have hmw : IntKind.i64.wrap ((k : Int) - 1) = (m : Int) := by rw [IntKind.wrap_i64] <;> omega
        have hm0 : (0 : Int) ≤ (m : Int) := by omega
        have hmi : (m : Int) < (l.length : Int) := by omega
        have z0 := (HCX.out m hml).1
        rw [HPV.out.2 m hml hm] at HDF
        clear HPV hz0 hm
        generalize l[m].kd = pk at *
        by_cases hpk : kd < pk
        · have hpkd : decide (kd < pk) = true := decide_eq_true hpk
          have HFF : Hid (okd = false) := by unfold Hid; rw [HDF.out, decide_eq_false (show ¬ pk ≤ kd by omega)]; simp
          clear HDF
          subst hW0
          go_wp2_with fail
          go_quiet (fail)
          go_wp2
          go_ret
          exact HNK.out _ HFF.out (HBF.out _)
        have hpkd : decide (kd < pk) = false := decide_eq_false hpk
        rw [decide_eq_true (show pk ≤ kd by omega)] at HDF
        cases h44 : (kd == 4)
        · have h45 : (kd != 4) = true := by unfold bne; rw [h44]; rfl
          cases htt : (t.toList == [])
          · have htn : (t.toList != []) = true := by unfold bne; rw [htt]; rfl
            have HFF : Hid (okd = false) := by unfold Hid; rw [HDF.out, h44, htt]; simp
            clear HDF
            subst hW0
            go_wp2_with fail
            go_quiet (fail)
            go_wp2
            go_ret
            exact HNK.out _ HFF.out (HBF.out _)
          · have htn : (t.toList != []) = false := by unfold bne; rw [htt]; rfl
            cases hop : opt
            · have HFF : Hid (okd = false) := by unfold Hid; rw [HDF.out, hop]; simp
              subst hop
              clear HDF
              subst hW0
              go_wp2_with fail
              go_quiet (fail)
              go_wp2_with (go_at_call 108; refine (HPA.out _).mono ?_; rintro e w5 ⟨rfl, rfl⟩)
              go_ret
              exact HNK.out _ HFF.out (HBF.out _)
            subst hop
            cases hjn : (p.toList == [47, 106, 111, 117, 114, 110, 97, 108])
            · rw [hjn] at HJB
              cases hbg : bgs
              · have HJF : Hid (jb = false) := by unfold Hid; rw [HJB.out, hbg]; rfl
                subst hbg
                rw [HJF.out] at HDF
                clear HJB HJF
                subst hW0
                go_wp2_with fail
                go_quiet (fail)
                go_wp2_with (first
                  | (go_at_call 108; refine (HPA.out _).mono ?_; rintro e w5 ⟨rfl, rfl⟩)
                  | (go_at_call 109; refine (HBG.out _).mono ?_; rintro e w5 ⟨rfl, rfl⟩))
                generalize hW0 : wr.alloc (.cells #[.int .i64 kd, .string p, .string t] 54) = W0 at *
                clear hW0
                go_loopw [5, 6] (fun v5 v6 wz => ∃ j : Nat, j ≤ k ∧ v6 = .int .i64 j ∧ v5 = .int .i64 ((l.take j).countP (atP p) : Nat) ∧ (∃ q, wz = W0.drewN q) ∧ (l.take j).all (fun a => !atP p a || pairB a.kd kd) = true) (fun _ v6 _ => k - (intOf v6).toNat)
                case atStart => exact ⟨0, Nat.zero_le _, rfl, rfl, ⟨_, rfl⟩, rfl⟩
                case round =>
                  obtain ⟨j, hj, rfl, rfl, ⟨qn, rfl⟩, hpr⟩ := hrel
                  have HPP := hide3 hpr
                  clear hpr
                  have hcl : (l.take j).countP (atP p) ≤ 8388608 := Nat.le_trans List.countP_le_length (by rw [List.length_take]; omega)
                  by_cases hjk : j < k
                  · have hjl : j < l.length := by omega
                    obtain ⟨s0, s1⟩ := HCX.out j hjl
                    obtain ⟨n1, n2⟩ := HLT.out j hjl hjk
                    have HN1 := hide3 n1
                    have HN2 := hide3 n2
                    clear n1 n2
                    have HLJ := hide3 (HLE.out j hjl hjk)
                    have hji : (j : Int) < (k : Int) := by omega
                    have hjl2 : (j : Int) < (l.length : Int) := by omega
                    have hj0 : (0 : Int) ≤ (j : Int) := by omega
                    have HPJ := hide3 (HPR.out l[j].kd)
                    generalize l[j].pa = pj at *
                    generalize l[j].kd = kj at *
                    cases hbe : (pj.toList == p.toList)
                    · have HM1 : Hid ((l.take (j + 1)).countP (atP p) = (l.take j).countP (atP p)) := by unfold Hid; rw [HN2.out, hbe]; rfl
                      have HM2 : Hid ((l.take (j + 1)).all (fun a => !atP p a || pairB a.kd kd) = true) := by unfold Hid; rw [HN1.out, HPP.out, hbe]; rfl
                      clear HN1 HN2 HLJ
                      generalize (l.take j).countP (atP p) = cn at *
                      go_wp2_with fail
                      go_quiet (fail)
                      go_wp2
                      exact ⟨⟨j + 1, by omega, by go_num, by rw [HM1.out], ⟨_, rfl⟩, HM2.out⟩, by simp [intOf]; omega⟩
                    · cases hpj : pairB kj kd
                      · have HFF : Hid (okd = false) := by unfold Hid; rw [HDF.out, HLJ.out hbe hpj]; simp
                        rw [hpj] at HPJ
                        clear HN1 HN2 HLJ HDF
                        generalize (l.take j).countP (atP p) = cn at *
                        go_wp2_with fail
                        go_quiet (fail)
                        go_wp2_with fail
                        go_region_held3 (fun w' => w'.cell? ⟨g, off + j * 3, none⟩ = some (.int .i64 kj) ∧ w'.cell? ⟨wr.heap.size, 0, none⟩ = some (.int .i64 kd)) (go_keep) (first | (go_at_call 110; refine (HPJ.out _).mono ?_; rintro e w5 ⟨rfl, hw5⟩; subst w5))
                        all_goals go_wp2
                        all_goals go_ret
                        all_goals exact HNK.out _ HFF.out (HBF.out (qn + nq + 1))
                      · have HM1 : Hid ((l.take (j + 1)).countP (atP p) = (l.take j).countP (atP p) + 1) := by unfold Hid; rw [HN2.out, hbe]; rfl
                        have HM2 : Hid ((l.take (j + 1)).all (fun a => !atP p a || pairB a.kd kd) = true) := by unfold Hid; rw [HN1.out, HPP.out, hpj]; simp
                        rw [hpj] at HPJ
                        clear HN1 HN2 HLJ
                        generalize (l.take j).countP (atP p) = cn at *
                        go_wp2_with fail
                        go_quiet (fail)
                        go_wp2_with fail
                        go_region_held3 (fun w' => w'.cell? ⟨g, off + j * 3, none⟩ = some (.int .i64 kj) ∧ w'.cell? ⟨wr.heap.size, 0, none⟩ = some (.int .i64 kd)) (go_keep) (first | (go_at_call 110; refine (HPJ.out _).mono ?_; rintro e w5 ⟨rfl, hw5⟩; subst w5))
                        all_goals go_wp2
                        all_goals exact ⟨⟨j + 1, by omega, by go_num, by rw [HM1.out]; go_num, ⟨qn + nq + 1, rfl⟩, HM2.out⟩, by simp [intOf]; omega⟩
                  · obtain rfl : j = k := by omega
                    rw [HPP.out] at HDF
                    by_cases hm1 : 1 < (l.take j).countP (atP p)
                    · have HFF : Hid (okd = false) := by unfold Hid; rw [HDF.out, decide_eq_false (show ¬ (l.take j).countP (atP p) ≤ 1 by omega)]; simp
                      have hmi2 : (1 : Int) < ((l.take j).countP (atP p) : Int) := by omega
                      clear HDF
                      generalize (l.take j).countP (atP p) = cn at *
                      go_wp2
                      go_ret
                      exact HNK.out _ HFF.out (HBF.out _)
                    · have HTT : Hid (okd = true) := by unfold Hid; rw [HDF.out, decide_eq_true (show (l.take j).countP (atP p) ≤ 1 by omega), htt]; first | rfl | simp
                      have hmi2 : ¬ (1 : Int) < ((l.take j).countP (atP p) : Int) := by omega
                      clear HDF
                      generalize (l.take j).countP (atP p) = cn at *
                      go_wp2
                      exact ⟨⟨j + 1, by omega, by go_num, HBF.out _, HST.out HTT.out⟩, by simp [intOf]; omega⟩
              · have HFF : Hid (okd = false) := by unfold Hid; rw [HDF.out, HJB.out, hbg]; simp
                subst hbg
                clear HDF HJB
                subst hW0
                go_wp2_with fail
                go_quiet (fail)
                go_wp2_with (first
                  | (go_at_call 108; refine (HPA.out _).mono ?_; rintro e w5 ⟨rfl, rfl⟩)
                  | (go_at_call 109; refine (HBG.out _).mono ?_; rintro e w5 ⟨rfl, rfl⟩))
                go_ret
                exact HNK.out _ HFF.out (HBF.out _)
            · have HFF : Hid (okd = false) := by unfold Hid; rw [HDF.out, HJB.out, hjn]; simp
              clear HDF HJB
              subst hW0
              go_wp2_with fail
              go_quiet (fail)
              go_wp2_with (go_at_call 108; refine (HPA.out _).mono ?_; rintro e w5 ⟨rfl, rfl⟩)
              go_ret
              exact HNK.out _ HFF.out (HBF.out _)
        · have h45 : (kd != 4) = false := by unfold bne; rw [h44]; rfl
          cases hop : opt
          · have HFF : Hid (okd = false) := by unfold Hid; rw [HDF.out, hop]; simp
            subst hop
            clear HDF
            subst hW0
            go_wp2_with fail
            go_quiet (fail)
            go_wp2_with (go_at_call 108; refine (HPA.out _).mono ?_; rintro e w5 ⟨rfl, rfl⟩)
            go_ret
            exact HNK.out _ HFF.out (HBF.out _)
          subst hop
          cases hjn : (p.toList == [47, 106, 111, 117, 114, 110, 97, 108])
          · rw [hjn] at HJB
            cases hbg : bgs
            · have HJF : Hid (jb = false) := by unfold Hid; rw [HJB.out, hbg]; rfl
              subst hbg
              rw [HJF.out] at HDF
              clear HJB HJF
              subst hW0
              go_wp2_with fail
              go_quiet (fail)
              go_wp2_with (first
                | (go_at_call 108; refine (HPA.out _).mono ?_; rintro e w5 ⟨rfl, rfl⟩)
                | (go_at_call 109; refine (HBG.out _).mono ?_; rintro e w5 ⟨rfl, rfl⟩))
              generalize hW0 : wr.alloc (.cells #[.int .i64 kd, .string p, .string t] 54) = W0 at *
              clear hW0
              go_loopw [5, 6] (fun v5 v6 wz => ∃ j : Nat, j ≤ k ∧ v6 = .int .i64 j ∧ v5 = .int .i64 ((l.take j).countP (atP p) : Nat) ∧ (∃ q, wz = W0.drewN q) ∧ (l.take j).all (fun a => !atP p a || pairB a.kd kd) = true) (fun _ v6 _ => k - (intOf v6).toNat)
              case atStart => exact ⟨0, Nat.zero_le _, rfl, rfl, ⟨_, rfl⟩, rfl⟩
              case round =>
                obtain ⟨j, hj, rfl, rfl, ⟨qn, rfl⟩, hpr⟩ := hrel
                have HPP := hide3 hpr
                clear hpr
                have hcl : (l.take j).countP (atP p) ≤ 8388608 := Nat.le_trans List.countP_le_length (by rw [List.length_take]; omega)
                by_cases hjk : j < k
                · have hjl : j < l.length := by omega
                  obtain ⟨s0, s1⟩ := HCX.out j hjl
                  obtain ⟨n1, n2⟩ := HLT.out j hjl hjk
                  have HN1 := hide3 n1
                  have HN2 := hide3 n2
                  clear n1 n2
                  have HLJ := hide3 (HLE.out j hjl hjk)
                  have hji : (j : Int) < (k : Int) := by omega
                  have hjl2 : (j : Int) < (l.length : Int) := by omega
                  have hj0 : (0 : Int) ≤ (j : Int) := by omega
                  have HPJ := hide3 (HPR.out l[j].kd)
                  generalize l[j].pa = pj at *
                  generalize l[j].kd = kj at *
                  cases hbe : (pj.toList == p.toList)
                  · have HM1 : Hid ((l.take (j + 1)).countP (atP p) = (l.take j).countP (atP p)) := by unfold Hid; rw [HN2.out, hbe]; rfl
                    have HM2 : Hid ((l.take (j + 1)).all (fun a => !atP p a || pairB a.kd kd) = true) := by unfold Hid; rw [HN1.out, HPP.out, hbe]; rfl
                    clear HN1 HN2 HLJ
                    generalize (l.take j).countP (atP p) = cn at *
                    go_wp2_with fail
                    go_quiet (fail)
                    go_wp2
                    exact ⟨⟨j + 1, by omega, by go_num, by rw [HM1.out], ⟨_, rfl⟩, HM2.out⟩, by simp [intOf]; omega⟩
                  · cases hpj : pairB kj kd
                    · have HFF : Hid (okd = false) := by unfold Hid; rw [HDF.out, HLJ.out hbe hpj]; simp
                      rw [hpj] at HPJ
                      clear HN1 HN2 HLJ HDF
                      generalize (l.take j).countP (atP p) = cn at *
                      go_wp2_with fail
                      go_quiet (fail)
                      go_wp2_with fail
                      go_region_held3 (fun w' => w'.cell? ⟨g, off + j * 3, none⟩ = some (.int .i64 kj) ∧ w'.cell? ⟨wr.heap.size, 0, none⟩ = some (.int .i64 kd)) (go_keep) (first | (go_at_call 110; refine (HPJ.out _).mono ?_; rintro e w5 ⟨rfl, hw5⟩; subst w5))
                      all_goals go_wp2
                      all_goals go_ret
                      all_goals exact HNK.out _ HFF.out (HBF.out (qn + nq + 1))
                    · have HM1 : Hid ((l.take (j + 1)).countP (atP p) = (l.take j).countP (atP p) + 1) := by unfold Hid; rw [HN2.out, hbe]; rfl
                      have HM2 : Hid ((l.take (j + 1)).all (fun a => !atP p a || pairB a.kd kd) = true) := by unfold Hid; rw [HN1.out, HPP.out, hpj]; simp
                      rw [hpj] at HPJ
                      clear HN1 HN2 HLJ
                      generalize (l.take j).countP (atP p) = cn at *
                      go_wp2_with fail
                      go_quiet (fail)
                      go_wp2_with fail
                      go_region_held3 (fun w' => w'.cell? ⟨g, off + j * 3, none⟩ = some (.int .i64 kj) ∧ w'.cell? ⟨wr.heap.size, 0, none⟩ = some (.int .i64 kd)) (go_keep) (first | (go_at_call 110; refine (HPJ.out _).mono ?_; rintro e w5 ⟨rfl, hw5⟩; subst w5))
                      all_goals go_wp2
                      all_goals exact ⟨⟨j + 1, by omega, by go_num, by rw [HM1.out]; go_num, ⟨qn + nq + 1, rfl⟩, HM2.out⟩, by simp [intOf]; omega⟩
                · obtain rfl : j = k := by omega
                  rw [HPP.out] at HDF
                  by_cases hm1 : 1 < (l.take j).countP (atP p)
                  · have HFF : Hid (okd = false) := by unfold Hid; rw [HDF.out, decide_eq_false (show ¬ (l.take j).countP (atP p) ≤ 1 by omega)]; simp
                    have hmi2 : (1 : Int) < ((l.take j).countP (atP p) : Int) := by omega
                    clear HDF
                    generalize (l.take j).countP (atP p) = cn at *
                    go_wp2
                    go_ret
                    exact HNK.out _ HFF.out (HBF.out _)
                  · have HTT : Hid (okd = true) := by unfold Hid; rw [HDF.out, decide_eq_true (show (l.take j).countP (atP p) ≤ 1 by omega), h44]; first | rfl | simp
                    have hmi2 : ¬ (1 : Int) < ((l.take j).countP (atP p) : Int) := by omega
                    clear HDF
                    generalize (l.take j).countP (atP p) = cn at *
                    go_wp2
                    exact ⟨⟨j + 1, by omega, by go_num, HBF.out _, HST.out HTT.out⟩, by simp [intOf]; omega⟩
            · have HFF : Hid (okd = false) := by unfold Hid; rw [HDF.out, HJB.out, hbg]; simp
              subst hbg
              clear HDF HJB
              subst hW0
              go_wp2_with fail
              go_quiet (fail)
              go_wp2_with (first
                | (go_at_call 108; refine (HPA.out _).mono ?_; rintro e w5 ⟨rfl, rfl⟩)
                | (go_at_call 109; refine (HBG.out _).mono ?_; rintro e w5 ⟨rfl, rfl⟩))
              go_ret
              exact HNK.out _ HFF.out (HBF.out _)
          · have HFF : Hid (okd = false) := by unfold Hid; rw [HDF.out, HJB.out, hjn]; simp
            clear HDF HJB
            subst hW0
            go_wp2_with fail
            go_quiet (fail)
            go_wp2_with (go_at_call 108; refine (HPA.out _).mono ?_; rintro e w5 ⟨rfl, rfl⟩)
            go_ret
            exact HNK.out _ HFF.out (HBF.out _)
    · obtain rfl : k = l.length := by omega
      go_wp2
      go_ret
      exact HYE.out _ (fun j hj => HA.out j hj hj) HB.out
end Go.Proofs.YtpaoimhebheaeaaGreatDoor
namespace Go.Proofs.YtpaoimhebheaeaaGreatDoor
open Go.RowKit Dk
set_option maxRecDepth 100000

/-- The sixteen digits. -/
def hexD : ByteArray := ⟨#[48, 49, 50, 51, 52, 53, 54, 55, 56, 57, 97, 98, 99, 100, 101, 102]⟩
def hexN (n : Nat) : UInt8 := hexD.data.toList.getD n 0
/-- Bytes in digits. -/
def hexL (l : List UInt8) : List UInt8 := l.flatMap fun b => [hexN (b.toNat / 16), hexN (b.toNat % 16)]
def hexT (s : ByteArray) : ByteArray := if (s.toList == []) = true then ⟨#[45]⟩ else ⟨(hexL s.data.toList).toArray⟩
/-- Bytes of one's own. -/
def byC (l : List UInt8) : List Value := l.map fun b => .int .u8 b.toNat
def OwnBy (w : World) (B : Nat) (v : Value) (l : List UInt8) : Prop := w.ownsRow B 5 1 v l.length (byC l)
theorem infoBy : (Tryz.prog.info? 5).map (fun i => (i.zero, i.size, i.bytes)) = some (some (.int .u8 0), 1, 1) := by kernel_rfl
theorem hexL_snoc (l : List UInt8) (b : UInt8) : hexL (l ++ [b]) = hexL l ++ [hexN (b.toNat / 16), hexN (b.toNat % 16)] := by unfold hexL; simp
theorem hexL_len (l : List UInt8) : (hexL l).length = 2 * l.length := by
  induction l with
  | nil => rfl
  | cons b l ih => unfold hexL at ih ⊢; rw [List.flatMap_cons, List.length_append, ih]; simp; omega

theorem wp_by {B : Nat} {wx : World} {v : Value} {l : List UInt8} {ops : Array Oper} {rest : List Oper} {o : Oper} {f : Act} {Q : Exit → Act → World → Prop}
    (hgd : o.guard = none) (s t : Operand) (ho : o.op = .call { callee := .builtin .append, args := #[s, t], argTypes := #[132, 132] }) (hs : f.eval s = v)
    (hown : OwnBy wx B v l) (hB : B ≤ wx.heap.size) (x : UInt8) {M : Nat} (hM : wx.heap.size = M) (hx : f.eval t = .slice (some ⟨M, 0, none⟩) 1 1) (hlen : l.length ≤ 1000000000)
    (h : ∀ v1 w1, OwnBy w1 B v1 (l ++ [x]) → wx.grownBy w1 v.ownBlock → wpList Tryz.prog ops Q rest (f.put o.dst v1) w1) :
    wpList Tryz.prog ops Q (o :: rest) f (wx.alloc (.cells #[.int .u8 x.toNat] 5)) := by
  subst hM
  obtain ⟨i0, hi, hz0, hz1, hz2⟩ := info_parts infoBy
  refine wpList_append_own _ hgd s t 132 ho B 5 i0 _ 1 1 Tryz.underlying132 hi hz0 hz1 hz2 rfl (by decide) v l.length _ hs (World.ownsRow.alloc hown _) ⟨wx.heap.size, 0, none⟩ 1 1 [.int .u8 x.toNat] hx rfl (World.news_of_block (cs := #[.int .u8 x.toNat]) (t := 5) (fr := (0, 0)) (by show (wx.heap.push _)[wx.heap.size]? = _; rw [Array.getElem?_push, if_pos rfl])) (by simp [Value.oneCell']) (by unfold maxLen; omega) (by omega) (by simp; omega) ?_
  intro v1 w1 h1 h2 _
  refine h v1 w1 ?_ (grown_pre ((Below.refl _ _).alloc (Nat.le_refl _) _) h2)
  unfold OwnBy byC
  rw [List.length_append, List.map_append]
  exact h1

/-- The word of a kind. -/
def wordP (k : Int) : ByteArray := if (k == 1) = true then ⟨#[117, 110, 108, 105, 110, 107]⟩ else if (k == 2) = true then ⟨#[114, 109, 100, 105, 114]⟩ else if (k == 3) = true then ⟨#[109, 107, 100, 105, 114]⟩ else ⟨#[112, 117, 116]⟩

set_option maxHeartbeats 800000 in
theorem word_any (k : Int) (w : World) : Calls Tryz.prog 83 #[.int .i64 k] w fun e w' => e = .returned (.string (wordP k)) ∧ w' = w := by
  unfold wordP
  cases h1 : (k == 1)
  · cases h2 : (k == 2)
    · cases h3 : (k == 3)
      all_goals
        go_enter Tryz.func83, Tryz.ntmps83
        go_wp2
        go_ret
        exact ⟨rfl, rfl⟩
    · go_enter Tryz.func83, Tryz.ntmps83
      go_wp2
      go_ret
      exact ⟨rfl, rfl⟩
  · go_enter Tryz.func83, Tryz.ntmps83
    go_wp2
    go_ret
    exact ⟨rfl, rfl⟩

theorem hexN_at {n : Nat} (h : n < 16) : hexN n = hexD[n]'(by show n < 16; exact h) := by
  unfold hexN
  rw [List.getD_eq_getElem?_getD, List.getElem?_eq_getElem (by show n < 16; exact h)]
  rfl

theorem by_text {w : World} {B : Nat} {v : Value} {l : List UInt8} (h : OwnBy w B v l) (h0 : 0 < l.length) : ∃ g cap, v = .slice (some ⟨g, 0, none⟩) l.length cap ∧ (convert 132 9 (.slice (some ⟨g, 0, none⟩) l.length cap)).run Tryz.prog w = .ok (.string ⟨l.toArray⟩) w := by
  have hr := h
  rcases h.2 with ⟨_, hn⟩ | ⟨g, cap, cur, rfl, _, _, _⟩
  · omega
  · refine ⟨g, cap, rfl, ?_⟩
    exact run_convert_bytes_back (P := Tryz.prog) w 132 9 5 ⟨g, 0, none⟩ cap l Tryz.underlying132 Tryz.underlying5 Tryz.underlying9 (fun j hj => by
      have := row_cells hr j (.int .u8 l[j].toNat) (by unfold byC; rw [List.getElem?_map, List.getElem?_eq_getElem hj]; rfl)
      rw [← this]
      congr 1
      unfold Addr.add
      simp
      exact fun e => e.symm)

set_option maxHeartbeats 4000000 in
theorem hex_any (s : ByteArray) (w : World) (hs : s.size ≤ 100000000) : Calls Tryz.prog 111 #[.string s] w fun e w' => e = .returned (.string (hexT s)) ∧ Below w.heap.size w w' := by
  cases he : (s.toList == [])
  · have HT : Hid (hexT s = ⟨(hexL s.data.toList).toArray⟩) := by unfold Hid hexT; rw [he]; rfl
    have hpos : 0 < s.size := by
      rw [← size_list]
      rw [toList_data] at he
      cases hl : s.data.toList with
      | nil => rw [hl] at he; cases he
      | cons a t => simp
    have HDG : Hid (∀ n (h : n < 16), hexN n = hexD[n]'(by show n < 16; exact h)) := fun n h => hexN_at h
    have hds : 16 ≤ hexD.size := by decide
    obtain ⟨D, hD⟩ : ∃ D, D = hexD := ⟨_, rfl⟩
    go_enter Tryz.func111, Tryz.ntmps111
    go_wp2_with fail
    rw [show (⟨#[48, 49, 50, 51, 52, 53, 54, 55, 56, 57, 97, 98, 99, 100, 101, 102]⟩ : ByteArray) = D from hD.symm]
    have HDG2 : Hid (∀ n (h : n < D.size), n < 16 → hexN n = D[n]) := fun n h h16 => by subst hD; exact hexN_at h16
    have hDs : 16 ≤ D.size := by rw [hD]; exact hds
    clear hD HDG hds
    go_loopw [4, 5] (fun v4 v5 wr => ∃ k : Nat, k ≤ s.size ∧ v5 = .int .i64 k ∧ OwnBy wr w.heap.size v4 (hexL (s.data.toList.take k)) ∧ Below w.heap.size w wr) (fun _ v5 _ => s.size - (intOf v5).toNat)
    case atStart => exact ⟨0, Nat.zero_le _, rfl, ⟨rfl, Or.inl ⟨rfl, rfl⟩⟩, Below.refl _ _⟩
    case round =>
      obtain ⟨k, hk, rfl, ho, hb⟩ := hrel
      have HO := hide3 ho
      have HB := hide3 hb
      have hLn : (hexL (s.data.toList.take k)).length ≤ 200000000 := by rw [hexL_len, List.length_take]; omega
      clear ho hb
      by_cases hlt : k < s.size
      · have HTK : Hid (hexL (s.data.toList.take (k + 1)) = hexL (s.data.toList.take k) ++ [hexN (s[k].toNat / 16), hexN (s[k].toNat % 16)]) := by
          unfold Hid
          rw [List.take_succ_eq_append_getElem (by rw [size_list]; exact hlt), hexL_snoc]
          rfl
        have hx : s[k].toNat < 256 := s[k].toNat_lt
        obtain ⟨q1, hq1⟩ : ∃ q, q = s[k].toNat / 16 := ⟨_, rfl⟩
        obtain ⟨q2, hq2⟩ : ∃ q, q = s[k].toNat % 16 := ⟨_, rfl⟩
        have b1 : q1 < D.size := by omega
        have b2 : q2 < D.size := by omega
        have w1' : IntKind.u8.wrap ((s[k].toNat : Int).tdiv 16) = (q1 : Int) := by
          rw [hq1, IntKind.wrap_u8, Int.tdiv_eq_ediv_of_nonneg (by omega)]; omega
        have w2' : IntKind.u8.wrap ((s[k].toNat : Int).tmod 16) = (q2 : Int) := by
          rw [hq2, IntKind.wrap_u8, Int.tmod_eq_emod_of_nonneg (by omega)]; omega
        have w3' : (s[k].toNat : Int).tdiv 16 = (q1 : Int) := by rw [hq1, Int.tdiv_eq_ediv_of_nonneg (by omega)]; omega
        have w4' : (s[k].toNat : Int).tmod 16 = (q2 : Int) := by rw [hq2, Int.tmod_eq_emod_of_nonneg (by omega)]; omega
        have w5' : (s[k].toNat : Int) / 16 = (q1 : Int) := by omega
        have w6' : (s[k].toNat : Int) % 16 = (q2 : Int) := by omega
        rw [← hq1, ← hq2, HDG2.out q1 b1 (by omega), HDG2.out q2 b2 (by omega)] at HTK
        have i1 : (q1 : Int) < (D.size : Int) := by omega
        have i2 : (q2 : Int) < (D.size : Int) := by omega
        have hki : (k : Int) < (s.size : Int) := by omega
        have HBS : Hid (w.heap.size ≤ wr.heap.size) := HB.out.size
        clear hq1 hq2
        generalize hexL (s.data.toList.take k) = old at *
        go_wp2_with (first
          | (have _t := HO7; at_builtin; refine wp_by (B := w.heap.size) (wx := w7) (v := v7) (l := old ++ [D[q1]]) rfl (.tmp 23) (.tmp 30) rfl rfl HO7.out (Nat.le_trans HBS.out HS7.out) D[q2] rfl rfl (by rw [List.length_append]; simp; omega) ?_; intro v8 w8 ho8 hg8; have HO8 := hide3 ho8; have HB8 := hide3 (HB7.out.grown hg8 HB7.out.size (fun q hq => (row_lt HO7.out hq).2)); clear ho8 hg8)
          | (at_builtin; refine wp_by (B := w.heap.size) (wx := wr) (v := u4) (l := old) rfl (.tmp 14) (.tmp 21) rfl rfl HO.out HBS.out D[q1] rfl rfl (by omega) ?_; intro v7 w7 ho7 hg7; have HO7 := hide3 ho7; have HS7 : Hid (wr.heap.size ≤ w7.heap.size) := hg7.size; have HB7 := hide3 (HB.out.grown hg7 HB.out.size (fun q hq => (row_lt HO.out hq).2)); clear ho7 hg7))
        refine ⟨⟨k + 1, by omega, by go_num, ?_, HB8.out⟩, by simp [intOf]; omega⟩
        rw [HTK.out]
        have := HO8.out
        rw [List.append_assoc] at this
        exact this
      · obtain rfl : k = s.size := by omega
        have hfull : s.data.toList.take s.size = s.data.toList := List.take_of_length_le (by rw [size_list]; exact Nat.le_refl _)
        rw [hfull] at HO
        obtain ⟨g, cp, rfl, hcv⟩ := by_text HO.out (by rw [hexL_len, size_list]; omega)
        rw [← HT.out] at hcv
        clear hfull
        generalize (hexL s.data.toList).length = nn at *
        go_wp2
        go_ret
        exact ⟨rfl, HB.out⟩
  · have HT : Hid (hexT s = ⟨#[45]⟩) := by unfold Hid hexT; rw [he]; rfl
    have HB0 : Hid (Below w.heap.size w w) := Below.refl _ _
    go_enter Tryz.func111, Tryz.ntmps111
    go_wp2
    go_ret
    rw [HT.out]
    exact ⟨rfl, HB0.out⟩
end Go.Proofs.YtpaoimhebheaeaaGreatDoor
