/- Te5, laid in one text. -/
import Derived.Test.YtcclfaioicklaaaGreatDoorMg24
namespace Go.Proofs.YtcclfaioicklaaaGreatDoor
open Go.Shelf Go.RowKit Go.Lib Go.Sort
set_option maxRecDepth 100000

/-- Who stands in a directory ahead of place i, or is among the first k of a list. -/
noncomputable def pK (L : List Dr) (i : Nat) (ts : List Nat) (k x : Nat) : Bool := decide ((x ≠ 0 ∧ parN L x < i) ∨ x ∈ ts.take k)
theorem pK_true {L : List Dr} {i : Nat} {ts : List Nat} {k x : Nat} : pK L i ts k x = true ↔ (x ≠ 0 ∧ parN L x < i) ∨ x ∈ ts.take k := by unfold pK; rw [decide_eq_true_iff]
theorem pK_0 (L : List Dr) (i : Nat) (ts us : List Nat) : pK L i ts 0 = pK L i us 0 := by
  funext x
  rw [Bool.eq_iff_iff, pK_true, pK_true]
  simp
theorem pK_start (L : List Dr) (ts : List Nat) : (fun _ => false) = pK L 0 ts 0 := by
  funext x
  symm
  rw [Bool.eq_false_iff, ne_eq, pK_true]
  simp
theorem pK_new {L : List Dr} (hc : checkB L = true) {i : Nat} (hi : i < L.length) {ts : List Nat} (h : Ins L i ts) {k : Nat} (hk : k < ts.length) : pK L i ts k ts[k] = false ∧ pK L i ts (k + 1) ts[k] = true ∧ ∀ y, y ≠ ts[k] → pK L i ts (k + 1) y = pK L i ts k y := by
  have hm := h.mem.1 (List.getElem_mem hk)
  have hq := (above_iff hc hm.1 hi).1 hm.2
  refine ⟨?_, ?_, fun y hy => ?_⟩
  · rw [Bool.eq_false_iff, ne_eq, pK_true, not_or]
    refine ⟨fun q => by have := q.2; omega, fun q => ?_⟩
    obtain ⟨j, hj, e⟩ := List.getElem_of_mem q
    rw [List.length_take] at hj
    rw [List.getElem_take] at e
    have := (List.getElem_inj h.nodup).1 e
    omega
  · rw [pK_true, List.take_succ_eq_append_getElem hk]
    exact Or.inr (List.mem_append_right _ List.mem_cons_self)
  · rw [Bool.eq_iff_iff, pK_true, pK_true, List.take_succ_eq_append_getElem hk, List.mem_append, List.mem_singleton]
    exact ⟨fun q => q.imp id fun q => q.resolve_right hy, fun q => q.imp id Or.inl⟩
theorem pK_next {L : List Dr} (hc : checkB L = true) {i : Nat} (hi : i < L.length) {ts us : List Nat} (h : Ins L i ts) (x : Nat) (hx : x < L.length) : pK L (i + 1) us 0 x = pK L i ts ts.length x := by
  rw [Bool.eq_iff_iff, pK_true, pK_true, List.take_length, h.mem, List.take_zero]
  constructor
  · rintro (⟨h1, h2⟩ | h1)
    · rcases Nat.lt_or_ge (parN L x) i with q | q
      · exact Or.inl ⟨h1, q⟩
      · exact Or.inr ⟨hx, (above_iff hc hx hi).2 ⟨h1, by omega⟩⟩
    · cases h1
  · rintro (⟨h1, h2⟩ | ⟨_, h2⟩)
    · exact Or.inl ⟨h1, by omega⟩
    · have := (above_iff hc hx hi).1 h2
      exact Or.inl ⟨this.1, by omega⟩
theorem pK_end {L : List Dr} (hc : checkB L = true) {us : List Nat} {x : Nat} (hx : x < L.length) : pK L L.length us 0 x = decide (x ≠ 0) := by
  rw [Bool.eq_iff_iff, pK_true, decide_eq_true_iff, List.take_zero]
  constructor
  · rintro (q | q)
    · exact q.1
    · cases q
  · intro q
    have := (above_lt hc hx q).1
    exact Or.inl ⟨q, by omega⟩

set_option maxHeartbeats 1600000 in
theorem treeAbove_no {L : List Dr} {v : Value} {w : World} (h : DirsAt w v L) (hz : L.length ≤ 9223372036854775807) (hk : DrsOk L) (he : Env w) (hf : FL w) (hc : checkB L = false) :
    Calls Tryz.prog 7 #[.agg #[v]] w fun e w' => e = .returned (.bool true) ∧ Below w.heap.size w w' := by
  have HC : Hid (∀ w1, Below w.heap.size w w1 → Calls Tryz.prog 9 #[.agg #[v]] w1 fun e w' => e = .returned (.int .i64 42) ∧ Below w1.heap.size w1 w') := fun w1 hb => by
    have q := tCheck_any (h.below hb) hz hk (he.below hb) (hf.below hb)
    rw [hc] at q
    exact q
  have HLV : Hid (∀ w1, Below w.heap.size w w1 → Calls Tryz.prog 11 #[] w1 fun e w' => e = .returned (.bool true) ∧ Below w1.heap.size w1 w') := fun w1 hb => lives12_any (he.below hb) (hf.below hb)
  obtain ⟨ad, cap, rfl, hx⟩ := h.sl
  clear h hz hk he hf hc hx
  generalize L.length = n at *
  go_enter Tryz.func7, Tryz.ntmps7
  go_wp2_with (first
    | (go_at_call 9; refine (HC.out _ (boxB _ _)).mono ?_; rintro e w1 ⟨rfl, ok⟩; have HB1 := hide3 (below_then (boxB _ _) ok); clear ok)
    | (go_at_call 11; refine (HLV.out _ HB1.out).mono ?_; rintro e w2 ⟨rfl, ok⟩; have HB2 := hide3 (below_then HB1.out ok); clear ok))
  go_ret
  exact ⟨rfl, HB2.out⟩

set_option maxHeartbeats 6400000 in
theorem treeAbove_yes {L : List Dr} {v : Value} {w : World} (h : DirsAt w v L) (hz : L.length ≤ 9223372036854775807) (hk : DrsOk L) (he : Env w) (hf : FL w) (hc : checkB L = true) :
    Calls Tryz.prog 7 #[.agg #[v]] w fun e w' => e = .returned (.bool true) ∧ Below w.heap.size w w' := by
  have h257 := (check_above hc).1
  have hfd : FitD L := fun d hd => by have := hk.1 d hd; omega
  have HC : Hid (∀ w1, Below w.heap.size w w1 → Calls Tryz.prog 9 #[.agg #[v]] w1 fun e w' => e = .returned (.int .i64 0) ∧ Below w1.heap.size w1 w') := fun w1 hb => by
    have q := tCheck_any (h.below hb) hz hk (he.below hb) (hf.below hb)
    rw [hc] at q
    exact q
  have HIN : Hid (∀ w1, Below w.heap.size w w1 → ∀ i (hi : i < L.length), Calls Tryz.prog 22 #[.agg #[v], .int .i64 i] w1 fun e w' => ∃ v' ts, e = .returned v' ∧ OwnIs w' w1.heap.size v' ts ∧ Ins L i ts ∧ Below w1.heap.size w1 w') := fun w1 hb i hi => tInside_in (h.below hb) (by omega) hfd hi
  have HPA : Hid (∀ w1, Below w.heap.size w w1 → ∀ i (hi : i < L.length), Calls Tryz.prog 19 #[.agg #[v], .int .i64 i] w1 fun e w' => e = .returned (.int .i64 (parV L i)) ∧ Below w1.heap.size w1 w') := fun w1 hb i hi => tParent_in (h.below hb) hz hfd hi
  have HLV : Hid (∀ w1, Below w.heap.size w w1 → Calls Tryz.prog 11 #[] w1 fun e w' => e = .returned (.bool true) ∧ Below w1.heap.size w1 w') := fun w1 hb => lives12_any (he.below hb) (hf.below hb)
  have HCK := hide3 hc
  obtain ⟨ad, cap, rfl, hx⟩ := h.sl
  obtain ⟨i0, hi, hz0, hz1, hz2⟩ := Sc.info_parts infoI8
  clear h hk he hf hc hx hfd
  have HBX : Hid (∀ w1, Below (w.alloc (.cells #[.slice ad L.length cap] 24)).heap.size (w.alloc (.cells #[.slice ad L.length cap] 24)) w1 → BxT w1 w.heap.size (.slice ad L.length cap)) := fun w1 hb => keepBxT _ _ _ _ (BxT.new _ _) hb
  have HB0 : Hid (Below w.heap.size w (w.alloc (.cells #[.slice ad L.length cap] 24))) := boxB _ _
  go_enter Tryz.func7, Tryz.ntmps7
  go_wp2_with (first
    | (go_at_call 9; refine (HC.out _ HB0.out).mono ?_; rintro e w1 ⟨rfl, ok⟩; have HB1 := hide3 ok; obtain ⟨b0, b1⟩ := HBX.out _ ok; clear ok)
    | (at_make; refine wpList_make_full _ rfl _ _ 38 rfl w1.heap.size 3 i0 _ 1 Tryz.underlying38 hi hz0 hz1 .i64 .i64 _ _ L.length rfl rfl rfl rfl (by rw [hz2]; omega) (by unfold maxLen; omega) (Nat.le_refl _) ?_; intro w2 hrow hgr; have HNT := hide3 (made_nts hrow); have HB2 : Hid (Below w1.heap.size w1 w2) := below_grown hgr (fun g e => by cases e) (Nat.le_refl _); clear hrow hgr))
  clear b0 b1
  have HBX2 : Hid (∀ w3, Below w1.heap.size w1 w3 → Below w.heap.size w w3 ∧ BxT w3 w.heap.size (.slice ad L.length cap)) := fun w3 hb => ⟨below_then HB0.out (below_then HB1.out hb), HBX.out _ (below_then HB1.out hb)⟩
  have HNT0 : Hid (Nts w2 w1.heap.size (snL L.length (pK L 0 [] 0))) := by
    have q := HNT.out
    rw [snL_none, pK_start L []] at q
    exact q
  clear HNT HBX
  go_loopw [4] (fun vi wr => ∃ i : Nat, i ≤ L.length ∧ vi = .int .i64 i ∧ Below w1.heap.size w1 wr ∧ Nts wr w1.heap.size (snL L.length (pK L i [] 0))) (fun vi _ => L.length - (intOf vi).toNat)
  case atStart => exact ⟨0, Nat.zero_le _, rfl, HB2.out, HNT0.out⟩
  case round =>
    clear HB2 HNT0
    obtain ⟨i, hil, rfl, hbr, hnr⟩ := hrel
    obtain ⟨wa, rfl⟩ : ∃ x, x = wr := ⟨wr, rfl⟩
    obtain ⟨hbw, b0, b1⟩ := HBX2.out wa hbr
    have HNR := hide3 hnr
    have HBR := hide3 hbr
    by_cases hlt : i < L.length
    · have HI := hide3 (HIN.out wa hbw i hlt)
      have HPK : Hid (∀ ts, Ins L i ts → ∀ k (hk : k < ts.length), (pK L i ts k ts[k] = false ∧ pK L i ts (k + 1) ts[k] = true ∧ ∀ y, y ≠ ts[k] → pK L i ts (k + 1) y = pK L i ts k y) ∧ ts[k] < L.length ∧ i < ts[k] ∧ parV L (ts[k] : Nat) = i) := fun ts hts k hk => by
        have hm := hts.mem.1 (List.getElem_mem hk)
        have hq := (above_iff HCK.out hm.1 hlt).1 hm.2
        have hl := above_lt HCK.out hm.1 hq.1
        exact ⟨pK_new HCK.out hlt hts hk, hm.1, by omega, by rw [hl.2, hq.2]⟩
      have HNX : Hid (∀ ts, Ins L i ts → snL L.length (pK L i ts ts.length) = snL L.length (pK L (i + 1) [] 0)) := fun ts hts => snL_same fun y hy => pK_next HCK.out hlt hts y hy
      have HP0 : Hid (∀ ts, pK L i [] 0 = pK L i ts 0) := fun ts => pK_0 L i [] ts
      clear hbw hbr hnr
      go_wp2_with (go_at_call 22; refine HI.out.mono ?_; rintro e w3 ⟨v3, ts, rfl, ho3, hi3, ok⟩; have HB3 := hide3 (below_then HBR.out ok); have HN3 := hide3 (HNR.out.below ok); have HI3 := hide3 hi3; have HO3 := hide3 ho3; obtain ⟨ta, tc, rfl, htr⟩ := ho3.rows; clear ok ho3)
      have hwl : w1.heap.size < wa.heap.size := (Array.getElem?_eq_some_iff.1 HNR.out).1
      have HTR : Hid (ts = [] ∨ ∃ g, ta = some ⟨g, 0, none⟩ ∧ wa.heap.size ≤ g ∧ RowI w3 g ts) := htr
      have HN30 : Hid (Nts w3 w1.heap.size (snL L.length (pK L i ts 0))) := by
        have q := HN3.out
        rw [HP0.out ts] at q
        exact q
      have HPK3 := hide3 (HPK.out ts hi3)
      have HNX3 := hide3 (HNX.out ts hi3)
      clear htr b0 b1 HI HPK HNX HP0 HN3 hi3
      have htl : ts.length ≤ 1000000 := by
        have q := HI3.out.1.length_eq
        have q2 := inK_len L i L.length
        omega
      go_loopw [6] (fun vk wr => ∃ k : Nat, k ≤ ts.length ∧ vk = .int .i64 k ∧ Below w1.heap.size w1 wr ∧ Nts wr w1.heap.size (snL L.length (pK L i ts k)) ∧ (ts = [] ∨ ∃ g, ta = some ⟨g, 0, none⟩ ∧ wa.heap.size ≤ g ∧ RowI wr g ts)) (fun vk _ => ts.length - (intOf vk).toNat)
      case atStart => exact ⟨0, Nat.zero_le _, rfl, HB3.out, HN30.out, HTR.out⟩
      case round =>
        clear HB3 HN30 HTR
        obtain ⟨k, hkl, rfl, hbq, hnq, htq⟩ := hrel
        have HBQ := hide3 hbq
        have HNQ := hide3 hnq
        obtain ⟨hbw, hbx⟩ := HBX2.out wr hbq
        by_cases hkt : k < ts.length
        · obtain ⟨g, rfl, hgl, hrow⟩ : ∃ g, ta = some ⟨g, 0, none⟩ ∧ wa.heap.size ≤ g ∧ RowI wr g ts := by
            rcases htq with e | e
            · rw [e] at hkt; cases hkt
            · exact e
          have HRW := hide3 hrow
          obtain ⟨⟨p1, p2, p3⟩, x1, x2, x3⟩ := HPK3.out k hkt
          have c0 := (hrow k hkt).1
          have cg := (hrow k hkt).2
          have HP := hide3 (HPA.out wr hbw ts[k] x1)
          have HPP : Hid (∀ w9, Below wr.heap.size wr w9 → Calls Tryz.prog 19 #[.agg #[.slice ad L.length cap], .int .i64 (ts[k] : Nat)] w9 fun e w' => e = .returned (.int .i64 (i : Nat)) ∧ Below w9.heap.size w9 w') := fun w9 h9 => by
            have q := HPA.out w9 (below_then hbw h9) ts[k] x1
            rw [x3] at q
            exact q
          obtain ⟨s0, s1⟩ := hnq.cell (i := ts[k]) (by rw [snL_len]; exact x1)
          rw [snL_get x1, p1, if_neg (by simp)] at s0
          have HSN : Hid ((snL L.length (pK L i ts k)).set ts[k] 1 = snL L.length (pK L i ts (k + 1))) := snL_set p2 fun y _ hy => p3 y hy
          have HZ : Hid (∀ (y : Nat) (_ : y = ts[k]) (h : y < (snL L.length (pK L i ts k)).length), (snL L.length (pK L i ts k))[y] = 0) := fun y e h => by subst e; rw [snL_get x1, p1, if_neg (by simp)]
          clear p1 p2 p3 x3 htq hnq hbq HP hrow
          generalize ts[k] = x at *
          have d1 : decide ((x : Int) ≤ (i : Int)) = false := decide_eq_false (by omega)
          have d2 : decide ((L.length : Int) ≤ (x : Int)) = false := decide_eq_false (by omega)
          have d3 : decide (L.length ≤ x) = false := decide_eq_false (by omega)
          have d4 : decide (x ≤ i) = false := decide_eq_false (by omega)
          have hki : (k : Int) < ts.length := by omega
          have HK : Hid (KeepP fun w9 => Below wr.heap.size wr w9 ∧ (BxT w9 w.heap.size (.slice ad L.length cap) ∧ StKI w9 g k x) ∧ Nts w9 w1.heap.size (snL L.length (pK L i ts k)) ∧ RowI w9 g ts) := (keepBelow wr).and (((keepBxT _ _).and (keepStKI _ _ _)).and ((keepNts _ _).and (keepRowI _ _)))
          have HO : Hid (Below wr.heap.size wr wr ∧ (BxT wr w.heap.size (.slice ad L.length cap) ∧ StKI wr g k x) ∧ Nts wr w1.heap.size (snL L.length (pK L i ts k)) ∧ RowI wr g ts) := ⟨Below.refl _ _, ⟨hbx, c0, cg⟩, HNQ.out, HRW.out⟩
          clear hbx hbw c0 cg s0 s1
          go_wp2_with fail
          refine wp_region_keep HK.out (by kernel_rfl) (by kernel_rfl) (by first | exact HO.out | exact HK.out.drew HO.out) ?_
          intro C hin hout
          have HIN := hide3 hin
          have HOUT := hide3 hout
          clear hin hout HO
          repeat
            (with_reducible refine wpQuiet_step (fun K hK => ?_)
             go_simp
             first
               | (refine hK _ ?_; clear hK K)
               | (apply Exists.intro; refine ⟨fun w1 hC => ?_, hK _ ?_⟩; (focus ((first | (go_at_call 19; with_reducible exact callC' HIN.out HOUT.out HK.out (fun w1 hk => HPP.out w1 hk.1) w1 hC) | (exact rfl) | (obtain ⟨hb1, ⟨⟨b0, b1⟩, c0, c1⟩, hn9, hr9⟩ := HOUT.out w1 hC; clear hC; go_simp; first | done | exact rfl)); done)); clear hK K))
          refine wpQuiet_nil ?_
          intro wn hC
          have HO := hide3 (HOUT.out _ hC)
          clear hC HIN HOUT C
          obtain ⟨hb1, ⟨⟨b0, b1⟩, c0, c1⟩, hn9, hr9⟩ := HO.out
          have HN9 := hide3 hn9
          have HR9 := hide3 hr9
          have HB9 := hide3 (below_then HBQ.out hb1)
          obtain ⟨s0, s1⟩ := hn9.cell (i := x) (by rw [snL_len]; exact x1)
          have HS0 : Hid (wn.cell? ⟨w1.heap.size, x, none⟩ = some (.int .i64 0)) := by
            rw [HZ.out x rfl] at s0
            exact s0
          have s2 := HS0.out
          clear s0 hn9 hr9 hb1
          go_wp2
          refine ⟨⟨k + 1, by omega, by go_num, HB9.out.setCell (p := ⟨w1.heap.size, x, none⟩) (Nat.le_refl _) _, ?_, Or.inr ⟨g, rfl, hgl, HR9.out.set (by omega) _ _⟩⟩, by simp [intOf]; omega⟩
          have q := (HN9.out.set x 1).1
          rw [HSN.out] at q
          exact q
        · obtain rfl : k = ts.length := by omega
          have HNE : Hid (Nts wr w1.heap.size (snL L.length (pK L (i + 1) [] 0))) := by
            have q := HNQ.out
            rw [HNX3.out] at q
            exact q
          clear htq hnq hbq hbw
          obtain ⟨b0, b1⟩ := hbx
          go_wp2
          exact ⟨⟨i + 1, by omega, by go_num, HBQ.out, HNE.out⟩, by simp [intOf]; omega⟩
    · obtain rfl : i = L.length := by omega
      have HL := hide3 (HLV.out wa hbw)
      have HCE : Hid (∀ j (hj : j < L.length), wa.cell? ⟨w1.heap.size, j, none⟩ = some (.int .i64 (if j ≠ 0 then 1 else 0))) := fun j hj => by
        have q := (hnr.cell (i := j) (by rw [snL_len]; exact hj)).1
        rw [snL_get hj, pK_end HCK.out hj] at q
        rw [q]
        by_cases e : j = 0
        · simp [e]
        · simp [e]
      have HBW := hide3 hbw
      clear hbw hbr hnr
      go_wp2_with fail
      go_loopw [7] (fun vj wr => ∃ j : Nat, j ≤ L.length ∧ vj = .int .i64 j ∧ wr = wa) (fun vj _ => L.length - (intOf vj).toNat)
      case atStart => exact ⟨0, Nat.zero_le _, rfl, rfl⟩
      case round =>
        obtain ⟨j, hjl, rfl, hww⟩ := hrel
        subst hww
        by_cases hjt : j < L.length
        · have c0 := HCE.out j hjt
          by_cases e : j = 0
          · subst e
            simp only [ne_eq, not_true_eq_false, if_false] at c0
            go_wp2
            exact ⟨⟨1, by omega, by go_num, trivial⟩, by simp [intOf]; omega⟩
          · rw [if_pos e] at c0
            have hj0 : ((j : Int) == 0) = false := by rw [beq_eq_false_iff_ne]; omega
            go_wp2
            exact ⟨⟨j + 1, by omega, by go_num, trivial⟩, by simp [intOf]; omega⟩
        · obtain rfl : j = L.length := by omega
          go_wp2_with (go_at_call 11; refine HL.out.mono ?_; rintro e w9 ⟨rfl, ok⟩; have HB9 := hide3 (below_then HBW.out ok); clear ok)
          go_ret
          exact ⟨rfl, HB9.out⟩

theorem treeAbove_walk {L : List Dr} {v : Value} {w : World} (h : DirsAt w v L) (hz : L.length ≤ 9223372036854775807) (hk : DrsOk L) (he : Env w) (hf : FL w) :
    Calls Tryz.prog 7 #[.agg #[v]] w fun e w' => e = .returned (.bool true) ∧ Below w.heap.size w w' := by
  cases hc : checkB L
  · exact treeAbove_no h hz hk he hf hc
  · exact treeAbove_yes h hz hk he hf hc
end Go.Proofs.YtcclfaioicklaaaGreatDoor
