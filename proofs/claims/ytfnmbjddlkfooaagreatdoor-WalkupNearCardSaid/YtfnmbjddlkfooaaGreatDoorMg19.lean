/- Ts4, laid in one text. -/
import Derived.Test.YtfnmbjddlkfooaaGreatDoorMg18
namespace Go.Proofs.YtfnmbjddlkfooaaGreatDoor
open Go.RowKit
set_option maxRecDepth 100000

theorem last_app {p : List ByteArray} (h : 0 < p.length) : p.take (p.length - 1) ++ [lastP p] = p := by
  rw [lastP_at h]
  have := List.take_succ_eq_append_getElem (l := p) (i := p.length - 1) (by omega)
  rw [← this, show p.length - 1 + 1 = p.length by omega, List.take_length]
/-- What a package finds by its own name. -/
theorem self_look {L : List Dr} (hc : checkB L = true) {i : Nat} (hi : i < L.length) (h0 : i ≠ 0) :
    0 < L[i].pa.length ∧ (findV L (L[i].pa ++ [lastP L[i].pa]) = -1 → lookV L (i : Int) (lastP L[i].pa) = i) ∧ (0 ≤ findV L (L[i].pa ++ [lastP L[i].pa]) → lookV L (i : Int) (lastP L[i].pa) = findV L (L[i].pa ++ [lastP L[i].pa])) := by
  have hf := (checkB_iff.1 hc).2.2 i hi h0
  rw [foll_stand hi] at hf
  simp only [Bool.and_eq_true, decide_eq_true_eq] at hf
  obtain ⟨⟨⟨⟨⟨h1, h2⟩, h3⟩, h4⟩, h5⟩, h6⟩ := hf
  have hp := mayPa_pos h1
  have hnm : Sc.nameA (lastP L[i].pa).data.toList = true := by
    unfold mayPaB at h1
    simp only [Bool.and_eq_true, decide_eq_true_eq] at h1
    have := h1.1.2
    unfold namesB at this
    rw [List.all_eq_true] at this
    rw [lastP_at hp]
    exact this _ (List.getElem_mem _)
  rw [lookV_in hi hnm]
  have htk : L[i].pa.take L[i].pa.length = L[i].pa := List.take_length
  refine ⟨hp, fun hm => ?_, fun hm => ?_⟩
  · obtain ⟨n, hn⟩ : ∃ n, L[i].pa.length = n + 1 := ⟨L[i].pa.length - 1, by omega⟩
    have e2 : L[i].pa.take n ++ [lastP L[i].pa] = L[i].pa := by have := last_app hp; rwa [hn, Nat.add_sub_cancel] at this
    rw [hn] at htk ⊢
    rw [look_miss (by rw [htk]; exact hm), look_hit (by rw [e2, h5]; omega), e2, h5]
  · have e1 : findV L (L[i].pa.take L[i].pa.length ++ [lastP L[i].pa]) = findV L (L[i].pa ++ [lastP L[i].pa]) := by rw [htk]
    rw [look_hit (by rw [e1]; omega), e1]

set_option maxHeartbeats 6400000 in
theorem walkupSelf_walk {L : List Dr} {v : Value} {w : World} (h : DirsAt w v L) (hz : L.length ≤ 9223372036854775807) (hk : DrsOk L) (hn : ∀ d ∈ L, PgN d.pk ∧ ∀ s ∈ d.pa, s.size ≤ 9223372036854775807) (he : Env w) (hf : FL w) :
    Calls Tryz.prog 5 #[.agg #[v]] w fun e w' => e = .returned (.bool true) ∧ Below w.heap.size w w' := by
  have HCK : Hid (∀ w1, Below w.heap.size w w1 → Calls Tryz.prog 9 #[.agg #[v]] w1 fun e w' => e = .returned (.int .i64 (errT (checkB L))) ∧ Below w1.heap.size w1 w') := fun w1 hb => rCheck_any (h.below hb) hz hk hn
  have HLV : Hid (∀ w1, Below w.heap.size w w1 → Calls Tryz.prog 8 #[] w1 fun e w' => e = .returned (.bool true) ∧ Below w1.heap.size w1 w') := fun w1 hb => lives_any (he.below hb) (hf.below hb)
  have HLK : Hid (∀ w1, Below w.heap.size w w1 → ∀ (r : Nat) s, Calls Tryz.prog 10 #[.agg #[v], .int .i64 r, .string s] w1 fun e w' => e = .returned (.int .i64 (lookV L r s)) ∧ Below w1.heap.size w1 w') := fun w1 hb r s => look_any (h.below hb) hz hk.1 r s
  have HFD : Hid (∀ w1, Below w.heap.size w w1 → ∀ vp p, PathAt w1 vp p → Calls Tryz.prog 12 #[.agg #[v], vp] w1 fun e w' => e = .returned (.int .i64 (findV L p)) ∧ Below w1.heap.size w1 w') := fun w1 hb vp p hp => rFind_any (h.below hb) hz hk.1.fit hp
  have HFT := hide3 hk.1
  obtain ⟨ad, cap, rfl, hc, hsl⟩ := h.sl
  have HS : Hid (∀ w1, Below w.heap.size w w1 → ∀ i (_ : i < L.length), ∃ g o, ad = some ⟨g, o, none⟩ ∧ ∃ u v1 v2 v3, DrIn w1 g (o + i * 9) L[i] u v1 v2 v3) := fun w1 hb i hi => by
    obtain ⟨g, o, e, u, v1, v2, v3, hd⟩ := hsl i hi
    exact ⟨g, o, e, u, v1, v2, v3, hd.below hb⟩
  clear h hk hn he hf hsl
  have HKB : Hid (KeepP fun w1 => Below w.heap.size w w1 ∧ BxT w1 w.heap.size (.slice ad L.length cap)) := (keepBelow w).and (keepBxT _ _)
  have HBX : Hid (Below w.heap.size w (w.alloc (.cells #[.slice ad L.length cap] 24)) ∧ BxT (w.alloc (.cells #[.slice ad L.length cap] 24)) w.heap.size (.slice ad L.length cap)) := ⟨boxB _ _, BxT.new _ _⟩
  cases hcb : checkB L
  · rw [hcb] at HCK
    go_enter Tryz.func5, Tryz.ntmps5
    go_wp2_with (first
      | (go_at_call 9; refine (HCK.out _ HBX.out.1).mono ?_; rintro e w2 ⟨rfl, ok⟩; have HB2 := hide3 (HKB.out _ _ HBX.out ok); clear ok)
      | (go_at_call 8; refine (HLV.out _ HB2.out.1).mono ?_; rintro e w9 ⟨rfl, ok⟩; have HB9 := hide3 (below_then HB2.out.1 ok); clear ok))
    go_ret
    exact ⟨rfl, HB9.out⟩
  · rw [hcb, show errT true = 0 from rfl] at HCK
    have HSL : Hid (∀ i (hi : i < L.length), i ≠ 0 → 0 < L[i].pa.length ∧ (findV L (L[i].pa ++ [lastP L[i].pa]) = -1 → lookV L (i : Int) (lastP L[i].pa) = i) ∧ (0 ≤ findV L (L[i].pa ++ [lastP L[i].pa]) → lookV L (i : Int) (lastP L[i].pa) = findV L (L[i].pa ++ [lastP L[i].pa]))) := fun i hi h0 => self_look hcb hi h0
    have hpos : 0 < L.length := (checkB_iff.1 hcb).1.1
    have hcc := (checkB_iff.1 hcb).1.2
    clear hcb
    go_enter Tryz.func5, Tryz.ntmps5
    go_wp2_with (go_at_call 9; refine (HCK.out _ HBX.out.1).mono ?_; rintro e w2 ⟨rfl, ok⟩; have HB2 := hide3 (HKB.out _ _ HBX.out ok); clear ok)
    go_loopw [3] (fun vi wr => ∃ k : Nat, (1 ≤ k ∧ k ≤ L.length) ∧ vi = .int .i64 k ∧ Below w.heap.size w wr ∧ BxT wr w.heap.size (.slice ad L.length cap)) (fun vi _ => L.length - (intOf vi).toNat)
    case atStart => exact ⟨1, ⟨Nat.le_refl _, hpos⟩, rfl, HB2.out⟩
    case round =>
      obtain ⟨k, ⟨hk1, hk⟩, rfl, hb, bx0, bx1⟩ := hrel
      have HBR : Hid (Below w.heap.size w wr ∧ BxT wr w.heap.size (.slice ad L.length cap)) := ⟨hb, bx0, bx1⟩
      by_cases hlt : k < L.length
      · obtain ⟨hp0, hs1, hs2⟩ := HSL.out k hlt (by omega)
        have hfk := HFT.out _ (List.getElem_mem hlt)
        obtain ⟨g, o, rfl, u, v1, v2, v3, hd⟩ := HS.out wr hb k hlt
        obtain ⟨ua, uc, rfl, huc, hux⟩ := hd.2.1.1.el
        obtain ⟨gu, ou, rfl, hu0⟩ := hux 0 hp0
        have hus : ∀ i (h : i < L[k].pa.length), StIn wr gu (ou + i) L[k].pa[i] := fun i hi => by
          obtain ⟨g', o', e, h⟩ := hux i hi
          cases e
          exact h
        have c0 := hd.1.1
        have l0 := hus (L[k].pa.length - 1) (by omega)
        rw [← lastP_at hp0] at l0
        have HNW : Hid (∀ j u, (pcs L[k].pa)[j]? = some u → wr.cell? ((⟨gu, ou, none⟩ : Addr).add j) = some u) := path_news hus
        have HL := hide3 (fun w1 hb => HLK.out w1 hb k (lastP L[k].pa))
        have HON := hide3 (own_none wr wr.heap.size)
        have HFIN : Hid (∀ w1 v1 w2 v2, Below wr.heap.size wr w1 → w1.ownsRow wr.heap.size 9 1 v1 L[k].pa.length (pcs L[k].pa) → w2.ownsRow wr.heap.size 9 1 v2 (L[k].pa.length + 1) (pcs L[k].pa ++ [.string (lastP L[k].pa)]) → (w1.alloc (.cells #[.string (lastP L[k].pa)] 9)).grownBy w2 v1.ownBlock → ∃ a c, v2 = .slice a (L[k].pa.length + 1) c ∧ PathAt w2 (.slice a (L[k].pa.length + 1) c) (L[k].pa ++ [lastP L[k].pa]) ∧ Below wr.heap.size wr w2) := fun w1 v1 w2 v2 hb h1 h2 h3 => by
          have ho : OwnPa w2 wr.heap.size v2 (L[k].pa ++ [lastP L[k].pa]) := by unfold OwnPa; rw [pcs_snoc, List.length_append]; exact h2
          obtain ⟨a, c, rfl, _⟩ := ho.form
          refine ⟨a, c, by rw [List.length_append]; rfl, ?_, hb.grown (grown_on (boxB _ _) h3) hb.size (fun q hq => (World.ownsRow.lt h1 q hq).1)⟩
          have := ho.at
          rw [List.length_append] at this
          exact this
        have HPL : Hid ((pcs L[k].pa).length = L[k].pa.length) := pcs_length _
        have HPO := hide3 (pcs_one L[k].pa)
        have HFF : Hid (∀ w1, Below w.heap.size w w1 → ∀ vp, PathAt w1 vp (L[k].pa ++ [lastP L[k].pa]) → Calls Tryz.prog 12 #[.agg #[.slice (some ⟨g, o, none⟩) L.length cap], vp] w1 fun e w' => e = .returned (.int .i64 (findV L (L[k].pa ++ [lastP L[k].pa]))) ∧ Below w1.heap.size w1 w') := fun w1 hb vp hp => HFD.out w1 hb vp _ hp
        have HGE := hide3 (findV_ge L (L[k].pa ++ [lastP L[k].pa]))
        have HS1 := hide3 hs1
        have HS2 := hide3 hs2
        obtain ⟨i0, hi, hz0, hz1, hz2⟩ := Sc.info_parts Sc.infoStr
        generalize lookV L (k : Int) (lastP L[k].pa) = lv at *
        generalize findV L (L[k].pa ++ [lastP L[k].pa]) = f at *
        generalize hq : L[k].pa ++ [lastP L[k].pa] = pq at *
        generalize lastP L[k].pa = s at *
        generalize pcs L[k].pa = px at *
        obtain ⟨n, hn⟩ : ∃ n, L[k].pa.length = n + 1 := ⟨L[k].pa.length - 1, by omega⟩
        rw [hn] at c0 l0 huc HFIN HPL hfk
        rw [Nat.add_sub_cancel] at l0
        obtain ⟨l0, l1⟩ := l0
        clear hd hux hus hu0 hs1 hs2 hp0 hn hq hb
        have t1 : True := trivial
        rcases (show f = -1 ∨ 0 ≤ f by have := HGE.out; omega) with hm | hm
        · have HR := hide3 (HS1.out hm)
          rw [HR.out] at HL
          subst hm
          go_wp2_with (first
            | (have _t := t1; at_builtin; refine wpList_append_own_wide _ rfl (.tmp 31) (.tmp 32) 36 rfl wr.heap.size 9 i0 _ 1 16 Tryz.underlying36 hi hz0 hz1 hz2 rfl (by decide) (.slice none 0 0) 0 [] rfl HON.out ⟨gu, ou, none⟩ (n + 1) uc px rfl (by rw [HPL.out]; omega) HNW.out HPO.out (by unfold maxLen; omega) (by rw [Nat.zero_add]; omega) (Nat.le_refl _) ?_; intro v4 w4 ho hgr _; have HO4 : Hid (w4.ownsRow wr.heap.size 9 1 v4 (n + 1) px) := (by have e := ho; rw [Nat.zero_add, List.nil_append] at e; exact e); have HB4 : Hid (Below wr.heap.size wr w4) := (Below.refl _ _).grown hgr (Nat.le_refl _) (fun q hq => by cases hq); have hs4 := HB4.out.size; obtain ⟨a4, c4, rfl⟩ := own_sl HO4.out; clear ho hgr t1)
            | (have _t := HO4; at_builtin; refine wpList_append_own_wide _ rfl (.tmp 34) (.tmp 36) 36 rfl wr.heap.size 9 i0 _ 1 16 Tryz.underlying36 hi hz0 hz1 hz2 rfl (by decide) (.slice a4 (n + 1) c4) (n + 1) px rfl (HO4.out.alloc _) ⟨w4.heap.size, 0, none⟩ 1 1 [.string s] rfl rfl (cell_one_new _ _ _) (fun u hu => by rw [List.mem_singleton.1 hu]; rfl) (by unfold maxLen; omega) (by omega) (by simp; omega) ?_; intro v5 w5 ho hgr _; obtain ⟨a5, c5, rfl, hp5, hb5⟩ := HFIN.out w4 _ w5 v5 HB4.out HO4.out ho hgr; have HP5 := hide3 hp5; have HB5 := hide3 (HKB.out _ _ HBR.out hb5); obtain ⟨_, z0, z1⟩ := HB5.out; clear ho hgr hp5 hb5 HO4)
            | (go_at_call 12; refine (HFF.out _ HB5.out.1 _ HP5.out).mono ?_; rintro e w6 ⟨rfl, ok⟩; have HB6 := hide3 (HKB.out _ _ HB5.out ok); clear z0 z1; obtain ⟨_, z0, z1⟩ := HB6.out; clear ok)
            | (go_at_call 10; refine (HL.out _ HB6.out.1).mono ?_; rintro e w7 ⟨rfl, ok⟩; have HB7 := hide3 (HKB.out _ _ HB6.out ok); clear ok))
          exact ⟨⟨k + 1, ⟨by omega, by omega⟩, by go_num, HB7.out⟩, by simp [intOf]; omega⟩
        · have HR := hide3 (HS2.out hm)
          rw [HR.out] at HL
          have hm2 : ¬ (f < 0) := by omega
          have hm3 : decide (f < 0) = false := decide_eq_false hm2
          go_wp2_with (first
            | (have _t := t1; at_builtin; refine wpList_append_own_wide _ rfl (.tmp 31) (.tmp 32) 36 rfl wr.heap.size 9 i0 _ 1 16 Tryz.underlying36 hi hz0 hz1 hz2 rfl (by decide) (.slice none 0 0) 0 [] rfl HON.out ⟨gu, ou, none⟩ (n + 1) uc px rfl (by rw [HPL.out]; omega) HNW.out HPO.out (by unfold maxLen; omega) (by rw [Nat.zero_add]; omega) (Nat.le_refl _) ?_; intro v4 w4 ho hgr _; have HO4 : Hid (w4.ownsRow wr.heap.size 9 1 v4 (n + 1) px) := (by have e := ho; rw [Nat.zero_add, List.nil_append] at e; exact e); have HB4 : Hid (Below wr.heap.size wr w4) := (Below.refl _ _).grown hgr (Nat.le_refl _) (fun q hq => by cases hq); have hs4 := HB4.out.size; obtain ⟨a4, c4, rfl⟩ := own_sl HO4.out; clear ho hgr t1)
            | (have _t := HO4; at_builtin; refine wpList_append_own_wide _ rfl (.tmp 34) (.tmp 36) 36 rfl wr.heap.size 9 i0 _ 1 16 Tryz.underlying36 hi hz0 hz1 hz2 rfl (by decide) (.slice a4 (n + 1) c4) (n + 1) px rfl (HO4.out.alloc _) ⟨w4.heap.size, 0, none⟩ 1 1 [.string s] rfl rfl (cell_one_new _ _ _) (fun u hu => by rw [List.mem_singleton.1 hu]; rfl) (by unfold maxLen; omega) (by omega) (by simp; omega) ?_; intro v5 w5 ho hgr _; obtain ⟨a5, c5, rfl, hp5, hb5⟩ := HFIN.out w4 _ w5 v5 HB4.out HO4.out ho hgr; have HP5 := hide3 hp5; have HB5 := hide3 (HKB.out _ _ HBR.out hb5); obtain ⟨_, z0, z1⟩ := HB5.out; clear ho hgr hp5 hb5 HO4)
            | (go_at_call 12; refine (HFF.out _ HB5.out.1 _ HP5.out).mono ?_; rintro e w6 ⟨rfl, ok⟩; have HB6 := hide3 (HKB.out _ _ HB5.out ok); clear z0 z1; obtain ⟨_, z0, z1⟩ := HB6.out; clear ok)
            | (go_at_call 10; refine (HL.out _ HB6.out.1).mono ?_; rintro e w7 ⟨rfl, ok⟩; have HB7 := hide3 (HKB.out _ _ HB6.out ok); clear ok))
          exact ⟨⟨k + 1, ⟨by omega, by omega⟩, by go_num, HB7.out⟩, by simp [intOf]; omega⟩
      · obtain rfl : k = L.length := by omega
        have HC := hide3 (HLV.out wr hb)
        clear hb
        go_wp2_with (go_at_call 8; refine HC.out.mono ?_; rintro e w9 ⟨rfl, ok⟩; have HB9 := hide3 (below_then HBR.out.1 ok); clear ok)
        go_ret
        exact ⟨rfl, HB9.out⟩
end Go.Proofs.YtfnmbjddlkfooaaGreatDoor
