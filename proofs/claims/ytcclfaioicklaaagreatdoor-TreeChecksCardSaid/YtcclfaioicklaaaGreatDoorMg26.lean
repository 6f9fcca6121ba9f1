/- Td2, laid in one text. -/
import Derived.Test.YtcclfaioicklaaaGreatDoorMg25
namespace Go.Proofs.YtcclfaioicklaaaGreatDoor
open Go.RowKit
set_option maxRecDepth 100000

set_option maxHeartbeats 1600000 in
theorem treeChecks_walk {L : List Dr} {v : Value} {w : World} (h : DirsAt w v L) (hz : L.length ≤ 9223372036854775807) (hk : DrsOk L) (hn : ∀ d ∈ L, PgN d.pk ∧ ∀ s ∈ d.pa, s.size ≤ 9223372036854775807) (he : Env w) (hf : FL w) :
    Calls Tryz.prog 3 #[.agg #[v]] w fun e w' => e = .returned (.bool true) ∧ Below w.heap.size w w' := by
  have HC : Hid (∀ w1, Below w.heap.size w w1 → Calls Tryz.prog 9 #[.agg #[v]] w1 fun e w' => e = .returned (.int .i64 (errT (checkB L))) ∧ Below w1.heap.size w1 w') := fun w1 hb => tCheck_any (h.below hb) hz hk (he.below hb) (hf.below hb)
  have HR : Hid (∀ w1, Below w.heap.size w w1 → Calls Tryz.prog 10 #[.agg #[v]] w1 fun e w' => e = .returned (.int .i64 (errT (checkB L))) ∧ Below w1.heap.size w1 w') := fun w1 hb => rCheck_any (h.below hb) hz hk hn
  have HLV : Hid (∀ w1, Below w.heap.size w w1 → Calls Tryz.prog 11 #[] w1 fun e w' => e = .returned (.bool true) ∧ Below w1.heap.size w1 w') := fun w1 hb => lives12_any (he.below hb) (hf.below hb)
  obtain ⟨ad, cap, rfl, _⟩ := h.sl
  clear h hz hk hn he hf
  generalize errT (checkB L) = x at *
  have HK : Hid (KeepP fun w1 => Below w.heap.size w w1 ∧ BxT w1 w.heap.size (.slice ad L.length cap)) := (keepBelow w).and (keepBxT _ _)
  have HO : Hid (Below w.heap.size w (w.alloc (.cells #[.slice ad L.length cap] 24)) ∧ BxT (w.alloc (.cells #[.slice ad L.length cap] 24)) w.heap.size (.slice ad L.length cap)) := ⟨boxB _ _, BxT.new _ _⟩
  go_enter Tryz.func3, Tryz.ntmps3
  go_wp2_with fail
  refine wp_region_keep HK.out (by kernel_rfl) (by kernel_rfl) (by first | exact HO.out | exact HK.out.drew HO.out) ?_
  intro C hin hout
  have HIN := hide3 hin
  have HOUT := hide3 hout
  clear hin hout HO
  repeat
    (with_reducible refine wpQuiet_step (fun K hK => ?_)
     go_simp
     first
       | (refine hK _ ?_; clear hK K)
       | (apply Exists.intro; refine ⟨fun w1 hC => ?_, hK _ ?_⟩; (focus ((first | (go_at_call 11; with_reducible exact callC' HIN.out HOUT.out HK.out (fun w1 hk => HLV.out w1 hk.1) w1 hC) | (go_at_call 9; with_reducible exact callC' HIN.out HOUT.out HK.out (fun w1 hk => HC.out w1 hk.1) w1 hC) | (go_at_call 10; with_reducible exact callC' HIN.out HOUT.out HK.out (fun w1 hk => HR.out w1 hk.1) w1 hC) | (exact rfl) | (obtain ⟨hb1, ⟨b0, b1⟩⟩ := HOUT.out w1 hC; clear hC; go_simp; first | done | exact rfl)); done)); clear hK K))
  refine wpQuiet_nil ?_
  intro wn hC
  have HO := hide3 (HOUT.out _ hC)
  clear hC HIN HOUT C
  obtain ⟨hb1, ⟨b0, b1⟩⟩ := HO.out
  go_wp2
  go_ret
  exact ⟨rfl, HO.out.1⟩

set_option maxHeartbeats 3200000 in
theorem treePaths_by {P : List ByteArray} {v : Value} {w : World} (h : PathAt w v P) (hz : P.length * 16 ≤ 140737488355328) (hs : ∀ s ∈ P, s.size ≤ 9223372036854775807) (t : ByteArray) (ht : t.size ≤ 140737488351232) (he : Env w) (hf : FL w) (hb : P = [] ∨ namesB P = true) (hi : (parseV t.data.toList).isSome = true) :
    Calls Tryz.prog 4 #[v, .string t] w fun e w' => e = .returned (.bool true) ∧ Below w.heap.size w w' := by
  have HT : Hid (∀ w1, Below w.heap.size w w1 → Calls Tryz.prog 12 #[v] w1 fun e w' => e = .returned (.string (textPa P)) ∧ Below w1.heap.size w1 w') := fun w1 hb => tText_any (h.below hb) hz
  have HRT : Hid (∀ w1, Below w.heap.size w w1 → Calls Tryz.prog 16 #[v] w1 fun e w' => e = .returned (.string (textPa P)) ∧ Below w1.heap.size w1 w') := fun w1 hb => rTextP_any (h.below hb) hz hs
  have HPA : Hid (∀ w1, Calls Tryz.prog 13 #[.string t] w1 fun e w' => ∃ v, e = .returned (.tuple #[v, .bool (parseV t.data.toList).isSome]) ∧ OwnPa w' w1.heap.size v ((parseV t.data.toList).getD []) ∧ Below w1.heap.size w1 w') := fun w1 => tParse_any t (by omega) (few_size ht) w1
  have HRP : Hid (∀ w1, Calls Tryz.prog 14 #[.string t] w1 fun e w' => ∃ v, e = .returned (.tuple #[v, .bool (parseV t.data.toList).isSome]) ∧ OwnPa w' w1.heap.size v ((parseV t.data.toList).getD []) ∧ Below w1.heap.size w1 w') := fun w1 => rParseP_any t (by omega) (few_size ht) w1
  have HLV : Hid (∀ w1, Below w.heap.size w w1 → Calls Tryz.prog 11 #[] w1 fun e w' => e = .returned (.bool true) ∧ Below w1.heap.size w1 w') := fun w1 hb => lives12_any (he.below hb) (hf.below hb)
  have hpl : ((parseV t.data.toList).getD []).length ≤ 14073748835124 := by
    cases e : parseV t.data.toList with
    | none => simp
    | some L =>
      rcases parse_names e with rfl | hn
      · simp
      · have q := text_parse e
        have h0 := few_size ht L [] hn
        rcases Classical.em (L = []) with rfl | hL
        · simp
        · exact h0 (by rw [List.append_nil, ← q]; unfold textPa; rw [if_neg hL, if_pos hn])
  have HPT : Hid (∀ w1 va vb, PathAt w1 va ((parseV t.data.toList).getD []) → PathAt w1 vb ((parseV t.data.toList).getD []) → Calls Tryz.prog 15 #[va, vb] w1 fun e w' => e = .returned (.bool true) ∧ Below w1.heap.size w1 w') := fun w1 va vb ha hb => by
    have q := rPath_any ha hb (by omega)
    rw [eqB_yes rfl] at q
    exact q
  have HPB : Hid (∀ w1, Calls Tryz.prog 13 #[.string (textPa P)] w1 fun e w' => ∃ v, e = .returned (.tuple #[v, .bool true]) ∧ OwnPa w' w1.heap.size v P ∧ Below w1.heap.size w1 w') := fun w1 => by
    have q := tParse_any (textPa P) (by have := textPa_size hb hz; omega) (few_text hb hz) w1
    rw [parse_text hb] at q
    exact q
  have HPT2 : Hid (∀ w1 vb, PathAt w1 vb P → Below w.heap.size w w1 → Calls Tryz.prog 15 #[vb, v] w1 fun e w' => e = .returned (.bool true) ∧ Below w1.heap.size w1 w') := fun w1 vb hq hb => by
    have q := rPath_any hq (h.below hb) (by omega)
    rw [eqB_yes rfl] at q
    exact q
  have hne : (textPa P).toList ≠ [] := by rw [ByteArray.toList_eq]; exact textPa_some hb
  have hne2 : ((textPa P).toList == []) = false := by rw [beq_eq_false_iff_ne]; exact hne
  have HTP : Hid (∀ w1 vp, PathAt w1 vp ((parseV t.data.toList).getD []) → Calls Tryz.prog 12 #[vp] w1 fun e w' => e = .returned (.string t) ∧ Below w1.heap.size w1 w') := fun w1 vp hp => by
    have q := tText_w hp (by omega) (by
      intro k hk hn
      have q2 := few_take hi (k := k)
      omega)
    cases e : parseV t.data.toList with
    | none => rw [e] at hi; cases hi
    | some L =>
      rw [e] at q
      rw [show (some L).getD [] = L from rfl, text_parse e] at q
      exact q
  obtain ⟨ad, cap, rfl⟩ := h.sl
  rw [hi] at HPA HRP
  generalize (parseV t.data.toList).getD [] = Q at *
  generalize textPa P = tx at *
  clear h hz hs ht he hf hi hpl hb
  generalize P.length = n at *
  go_enter Tryz.func4, Tryz.ntmps4
  go_wp2_with (first
    | (have _t := HB8; go_at_call 11; refine (HLV.out _ HB8.out).mono ?_; rintro e w9 ⟨rfl, ok⟩; have HB9 := hide3 (below_then HB8.out ok); clear ok)
    | (have _t := HB7; go_at_call 12; refine (HTP.out _ _ HP7.out).mono ?_; rintro e w8 ⟨rfl, ok⟩; have HB8 := hide3 (below_then HB7.out ok); clear ok)
    | (have _t := HB6; go_at_call 15; refine (HPT2.out _ _ HQ6.out HB6.out).mono ?_; rintro e w7 ⟨rfl, ok⟩; have HB7 := hide3 (below_then HB6.out ok); have HP7 := hide3 (HP6.out.below ok); clear ok)
    | (have _t := HB5; go_at_call 13; refine (HPB.out _).mono ?_; rintro e w6 ⟨vb, rfl, hq, ok⟩; have HB6 := hide3 (below_then HB5.out ok); have HP6 := hide3 (HP5.out.below ok); have HQ6 := hide3 hq.at; clear hq; clear ok)
    | (have _t := HB4; go_at_call 16; refine (HRT.out _ HB4.out).mono ?_; rintro e w5 ⟨rfl, ok⟩; have HB5 := hide3 (below_then HB4.out ok); have HP5 := hide3 (HP4.out.below ok); clear ok)
    | (have _t := HB3; go_at_call 15; refine (HPT.out _ _ _ HP3.out HQ3.out).mono ?_; rintro e w4 ⟨rfl, ok⟩; have HB4 := hide3 (below_then HB3.out ok); have HP4 := hide3 (HP3.out.below ok); clear ok)
    | (have _t := HB2; go_at_call 14; refine (HRP.out _).mono ?_; rintro e w3 ⟨vq, rfl, hq, ok⟩; have HB3 := hide3 (below_then HB2.out ok); have HP3 := hide3 (HP2.out.below ok); have HQ3 := hide3 hq.at; clear hq; clear ok)
    | (have _t := HB1; go_at_call 13; refine (HPA.out _).mono ?_; rintro e w2 ⟨vp, rfl, hp, ok⟩; have HB2 := hide3 (below_then HB1.out ok); have HP2 := hide3 hp.at; clear hp; clear ok)
    | (go_at_call 12; refine (HT.out _ (Below.refl _ _)).mono ?_; rintro e w1 ⟨rfl, ok⟩; have HB1 := hide3 ok; clear ok))
  go_ret
  exact ⟨rfl, HB9.out⟩

set_option maxHeartbeats 3200000 in
theorem treePaths_bn {P : List ByteArray} {v : Value} {w : World} (h : PathAt w v P) (hz : P.length * 16 ≤ 140737488355328) (hs : ∀ s ∈ P, s.size ≤ 9223372036854775807) (t : ByteArray) (ht : t.size ≤ 140737488351232) (he : Env w) (hf : FL w) (hb : P = [] ∨ namesB P = true) (hi : (parseV t.data.toList).isSome = false) :
    Calls Tryz.prog 4 #[v, .string t] w fun e w' => e = .returned (.bool true) ∧ Below w.heap.size w w' := by
  have HT : Hid (∀ w1, Below w.heap.size w w1 → Calls Tryz.prog 12 #[v] w1 fun e w' => e = .returned (.string (textPa P)) ∧ Below w1.heap.size w1 w') := fun w1 hb => tText_any (h.below hb) hz
  have HRT : Hid (∀ w1, Below w.heap.size w w1 → Calls Tryz.prog 16 #[v] w1 fun e w' => e = .returned (.string (textPa P)) ∧ Below w1.heap.size w1 w') := fun w1 hb => rTextP_any (h.below hb) hz hs
  have HPA : Hid (∀ w1, Calls Tryz.prog 13 #[.string t] w1 fun e w' => ∃ v, e = .returned (.tuple #[v, .bool (parseV t.data.toList).isSome]) ∧ OwnPa w' w1.heap.size v ((parseV t.data.toList).getD []) ∧ Below w1.heap.size w1 w') := fun w1 => tParse_any t (by omega) (few_size ht) w1
  have HRP : Hid (∀ w1, Calls Tryz.prog 14 #[.string t] w1 fun e w' => ∃ v, e = .returned (.tuple #[v, .bool (parseV t.data.toList).isSome]) ∧ OwnPa w' w1.heap.size v ((parseV t.data.toList).getD []) ∧ Below w1.heap.size w1 w') := fun w1 => rParseP_any t (by omega) (few_size ht) w1
  have HLV : Hid (∀ w1, Below w.heap.size w w1 → Calls Tryz.prog 11 #[] w1 fun e w' => e = .returned (.bool true) ∧ Below w1.heap.size w1 w') := fun w1 hb => lives12_any (he.below hb) (hf.below hb)
  have hpl : ((parseV t.data.toList).getD []).length ≤ 14073748835124 := by
    cases e : parseV t.data.toList with
    | none => simp
    | some L =>
      rcases parse_names e with rfl | hn
      · simp
      · have q := text_parse e
        have h0 := few_size ht L [] hn
        rcases Classical.em (L = []) with rfl | hL
        · simp
        · exact h0 (by rw [List.append_nil, ← q]; unfold textPa; rw [if_neg hL, if_pos hn])
  have HPT : Hid (∀ w1 va vb, PathAt w1 va ((parseV t.data.toList).getD []) → PathAt w1 vb ((parseV t.data.toList).getD []) → Calls Tryz.prog 15 #[va, vb] w1 fun e w' => e = .returned (.bool true) ∧ Below w1.heap.size w1 w') := fun w1 va vb ha hb => by
    have q := rPath_any ha hb (by omega)
    rw [eqB_yes rfl] at q
    exact q
  have HPB : Hid (∀ w1, Calls Tryz.prog 13 #[.string (textPa P)] w1 fun e w' => ∃ v, e = .returned (.tuple #[v, .bool true]) ∧ OwnPa w' w1.heap.size v P ∧ Below w1.heap.size w1 w') := fun w1 => by
    have q := tParse_any (textPa P) (by have := textPa_size hb hz; omega) (few_text hb hz) w1
    rw [parse_text hb] at q
    exact q
  have HPT2 : Hid (∀ w1 vb, PathAt w1 vb P → Below w.heap.size w w1 → Calls Tryz.prog 15 #[vb, v] w1 fun e w' => e = .returned (.bool true) ∧ Below w1.heap.size w1 w') := fun w1 vb hq hb => by
    have q := rPath_any hq (h.below hb) (by omega)
    rw [eqB_yes rfl] at q
    exact q
  have hne : (textPa P).toList ≠ [] := by rw [ByteArray.toList_eq]; exact textPa_some hb
  have hne2 : ((textPa P).toList == []) = false := by rw [beq_eq_false_iff_ne]; exact hne
  obtain ⟨ad, cap, rfl⟩ := h.sl
  rw [hi] at HPA HRP
  generalize (parseV t.data.toList).getD [] = Q at *
  generalize textPa P = tx at *
  clear h hz hs ht he hf hi hpl hb
  generalize P.length = n at *
  go_enter Tryz.func4, Tryz.ntmps4
  go_wp2_with (first
    | (have _t := HB7; go_at_call 11; refine (HLV.out _ HB7.out).mono ?_; rintro e w8 ⟨rfl, ok⟩; have HB8 := hide3 (below_then HB7.out ok); clear ok)
    | (have _t := HB6; go_at_call 15; refine (HPT2.out _ _ HQ6.out HB6.out).mono ?_; rintro e w7 ⟨rfl, ok⟩; have HB7 := hide3 (below_then HB6.out ok); have HP7 := hide3 (HP6.out.below ok); clear ok)
    | (have _t := HB5; go_at_call 13; refine (HPB.out _).mono ?_; rintro e w6 ⟨vb, rfl, hq, ok⟩; have HB6 := hide3 (below_then HB5.out ok); have HP6 := hide3 (HP5.out.below ok); have HQ6 := hide3 hq.at; clear hq; clear ok)
    | (have _t := HB4; go_at_call 16; refine (HRT.out _ HB4.out).mono ?_; rintro e w5 ⟨rfl, ok⟩; have HB5 := hide3 (below_then HB4.out ok); have HP5 := hide3 (HP4.out.below ok); clear ok)
    | (have _t := HB3; go_at_call 15; refine (HPT.out _ _ _ HP3.out HQ3.out).mono ?_; rintro e w4 ⟨rfl, ok⟩; have HB4 := hide3 (below_then HB3.out ok); have HP4 := hide3 (HP3.out.below ok); clear ok)
    | (have _t := HB2; go_at_call 14; refine (HRP.out _).mono ?_; rintro e w3 ⟨vq, rfl, hq, ok⟩; have HB3 := hide3 (below_then HB2.out ok); have HP3 := hide3 (HP2.out.below ok); have HQ3 := hide3 hq.at; clear hq; clear ok)
    | (have _t := HB1; go_at_call 13; refine (HPA.out _).mono ?_; rintro e w2 ⟨vp, rfl, hp, ok⟩; have HB2 := hide3 (below_then HB1.out ok); have HP2 := hide3 hp.at; clear hp; clear ok)
    | (go_at_call 12; refine (HT.out _ (Below.refl _ _)).mono ?_; rintro e w1 ⟨rfl, ok⟩; have HB1 := hide3 ok; clear ok))
  go_ret
  exact ⟨rfl, HB8.out⟩

set_option maxHeartbeats 3200000 in
theorem treePaths_ny {P : List ByteArray} {v : Value} {w : World} (h : PathAt w v P) (hz : P.length * 16 ≤ 140737488355328) (hs : ∀ s ∈ P, s.size ≤ 9223372036854775807) (t : ByteArray) (ht : t.size ≤ 140737488351232) (he : Env w) (hf : FL w) (hb0 : P ≠ []) (hb1 : namesB P = false) (hi : (parseV t.data.toList).isSome = true) :
    Calls Tryz.prog 4 #[v, .string t] w fun e w' => e = .returned (.bool true) ∧ Below w.heap.size w w' := by
  have HT : Hid (∀ w1, Below w.heap.size w w1 → Calls Tryz.prog 12 #[v] w1 fun e w' => e = .returned (.string (textPa P)) ∧ Below w1.heap.size w1 w') := fun w1 hb => tText_any (h.below hb) hz
  have HRT : Hid (∀ w1, Below w.heap.size w w1 → Calls Tryz.prog 16 #[v] w1 fun e w' => e = .returned (.string (textPa P)) ∧ Below w1.heap.size w1 w') := fun w1 hb => rTextP_any (h.below hb) hz hs
  have HPA : Hid (∀ w1, Calls Tryz.prog 13 #[.string t] w1 fun e w' => ∃ v, e = .returned (.tuple #[v, .bool (parseV t.data.toList).isSome]) ∧ OwnPa w' w1.heap.size v ((parseV t.data.toList).getD []) ∧ Below w1.heap.size w1 w') := fun w1 => tParse_any t (by omega) (few_size ht) w1
  have HRP : Hid (∀ w1, Calls Tryz.prog 14 #[.string t] w1 fun e w' => ∃ v, e = .returned (.tuple #[v, .bool (parseV t.data.toList).isSome]) ∧ OwnPa w' w1.heap.size v ((parseV t.data.toList).getD []) ∧ Below w1.heap.size w1 w') := fun w1 => rParseP_any t (by omega) (few_size ht) w1
  have HLV : Hid (∀ w1, Below w.heap.size w w1 → Calls Tryz.prog 11 #[] w1 fun e w' => e = .returned (.bool true) ∧ Below w1.heap.size w1 w') := fun w1 hb => lives12_any (he.below hb) (hf.below hb)
  have hpl : ((parseV t.data.toList).getD []).length ≤ 14073748835124 := by
    cases e : parseV t.data.toList with
    | none => simp
    | some L =>
      rcases parse_names e with rfl | hn
      · simp
      · have q := text_parse e
        have h0 := few_size ht L [] hn
        rcases Classical.em (L = []) with rfl | hL
        · simp
        · exact h0 (by rw [List.append_nil, ← q]; unfold textPa; rw [if_neg hL, if_pos hn])
  have HPT : Hid (∀ w1 va vb, PathAt w1 va ((parseV t.data.toList).getD []) → PathAt w1 vb ((parseV t.data.toList).getD []) → Calls Tryz.prog 15 #[va, vb] w1 fun e w' => e = .returned (.bool true) ∧ Below w1.heap.size w1 w') := fun w1 va vb ha hb => by
    have q := rPath_any ha hb (by omega)
    rw [eqB_yes rfl] at q
    exact q
  rw [textPa_none hb0 hb1] at HT HRT
  have HTP : Hid (∀ w1 vp, PathAt w1 vp ((parseV t.data.toList).getD []) → Calls Tryz.prog 12 #[vp] w1 fun e w' => e = .returned (.string t) ∧ Below w1.heap.size w1 w') := fun w1 vp hp => by
    have q := tText_w hp (by omega) (by
      intro k hk hn
      have q2 := few_take hi (k := k)
      omega)
    cases e : parseV t.data.toList with
    | none => rw [e] at hi; cases hi
    | some L =>
      rw [e] at q
      rw [show (some L).getD [] = L from rfl, text_parse e] at q
      exact q
  obtain ⟨ad, cap, rfl⟩ := h.sl
  rw [hi] at HPA HRP
  generalize (parseV t.data.toList).getD [] = Q at *
  generalize textPa P = tx at *
  clear h hz hs ht he hf hi hpl hb0 hb1
  generalize P.length = n at *
  go_enter Tryz.func4, Tryz.ntmps4
  go_wp2_with (first
    | (have _t := HB6; go_at_call 11; refine (HLV.out _ HB6.out).mono ?_; rintro e w7 ⟨rfl, ok⟩; have HB7 := hide3 (below_then HB6.out ok); clear ok)
    | (have _t := HB5; go_at_call 12; refine (HTP.out _ _ HP5.out).mono ?_; rintro e w6 ⟨rfl, ok⟩; have HB6 := hide3 (below_then HB5.out ok); clear ok)
    | (have _t := HB4; go_at_call 16; refine (HRT.out _ HB4.out).mono ?_; rintro e w5 ⟨rfl, ok⟩; have HB5 := hide3 (below_then HB4.out ok); have HP5 := hide3 (HP4.out.below ok); clear ok)
    | (have _t := HB3; go_at_call 15; refine (HPT.out _ _ _ HP3.out HQ3.out).mono ?_; rintro e w4 ⟨rfl, ok⟩; have HB4 := hide3 (below_then HB3.out ok); have HP4 := hide3 (HP3.out.below ok); clear ok)
    | (have _t := HB2; go_at_call 14; refine (HRP.out _).mono ?_; rintro e w3 ⟨vq, rfl, hq, ok⟩; have HB3 := hide3 (below_then HB2.out ok); have HP3 := hide3 (HP2.out.below ok); have HQ3 := hide3 hq.at; clear hq; clear ok)
    | (have _t := HB1; go_at_call 13; refine (HPA.out _).mono ?_; rintro e w2 ⟨vp, rfl, hp, ok⟩; have HB2 := hide3 (below_then HB1.out ok); have HP2 := hide3 hp.at; clear hp; clear ok)
    | (go_at_call 12; refine (HT.out _ (Below.refl _ _)).mono ?_; rintro e w1 ⟨rfl, ok⟩; have HB1 := hide3 ok; clear ok))
  go_ret
  exact ⟨rfl, HB7.out⟩

set_option maxHeartbeats 3200000 in
theorem treePaths_nn {P : List ByteArray} {v : Value} {w : World} (h : PathAt w v P) (hz : P.length * 16 ≤ 140737488355328) (hs : ∀ s ∈ P, s.size ≤ 9223372036854775807) (t : ByteArray) (ht : t.size ≤ 140737488351232) (he : Env w) (hf : FL w) (hb0 : P ≠ []) (hb1 : namesB P = false) (hi : (parseV t.data.toList).isSome = false) :
    Calls Tryz.prog 4 #[v, .string t] w fun e w' => e = .returned (.bool true) ∧ Below w.heap.size w w' := by
  have HT : Hid (∀ w1, Below w.heap.size w w1 → Calls Tryz.prog 12 #[v] w1 fun e w' => e = .returned (.string (textPa P)) ∧ Below w1.heap.size w1 w') := fun w1 hb => tText_any (h.below hb) hz
  have HRT : Hid (∀ w1, Below w.heap.size w w1 → Calls Tryz.prog 16 #[v] w1 fun e w' => e = .returned (.string (textPa P)) ∧ Below w1.heap.size w1 w') := fun w1 hb => rTextP_any (h.below hb) hz hs
  have HPA : Hid (∀ w1, Calls Tryz.prog 13 #[.string t] w1 fun e w' => ∃ v, e = .returned (.tuple #[v, .bool (parseV t.data.toList).isSome]) ∧ OwnPa w' w1.heap.size v ((parseV t.data.toList).getD []) ∧ Below w1.heap.size w1 w') := fun w1 => tParse_any t (by omega) (few_size ht) w1
  have HRP : Hid (∀ w1, Calls Tryz.prog 14 #[.string t] w1 fun e w' => ∃ v, e = .returned (.tuple #[v, .bool (parseV t.data.toList).isSome]) ∧ OwnPa w' w1.heap.size v ((parseV t.data.toList).getD []) ∧ Below w1.heap.size w1 w') := fun w1 => rParseP_any t (by omega) (few_size ht) w1
  have HLV : Hid (∀ w1, Below w.heap.size w w1 → Calls Tryz.prog 11 #[] w1 fun e w' => e = .returned (.bool true) ∧ Below w1.heap.size w1 w') := fun w1 hb => lives12_any (he.below hb) (hf.below hb)
  have hpl : ((parseV t.data.toList).getD []).length ≤ 14073748835124 := by
    cases e : parseV t.data.toList with
    | none => simp
    | some L =>
      rcases parse_names e with rfl | hn
      · simp
      · have q := text_parse e
        have h0 := few_size ht L [] hn
        rcases Classical.em (L = []) with rfl | hL
        · simp
        · exact h0 (by rw [List.append_nil, ← q]; unfold textPa; rw [if_neg hL, if_pos hn])
  have HPT : Hid (∀ w1 va vb, PathAt w1 va ((parseV t.data.toList).getD []) → PathAt w1 vb ((parseV t.data.toList).getD []) → Calls Tryz.prog 15 #[va, vb] w1 fun e w' => e = .returned (.bool true) ∧ Below w1.heap.size w1 w') := fun w1 va vb ha hb => by
    have q := rPath_any ha hb (by omega)
    rw [eqB_yes rfl] at q
    exact q
  rw [textPa_none hb0 hb1] at HT HRT
  obtain ⟨ad, cap, rfl⟩ := h.sl
  rw [hi] at HPA HRP
  generalize (parseV t.data.toList).getD [] = Q at *
  generalize textPa P = tx at *
  clear h hz hs ht he hf hi hpl hb0 hb1
  generalize P.length = n at *
  go_enter Tryz.func4, Tryz.ntmps4
  go_wp2_with (first
    | (have _t := HB5; go_at_call 11; refine (HLV.out _ HB5.out).mono ?_; rintro e w6 ⟨rfl, ok⟩; have HB6 := hide3 (below_then HB5.out ok); clear ok)
    | (have _t := HB4; go_at_call 16; refine (HRT.out _ HB4.out).mono ?_; rintro e w5 ⟨rfl, ok⟩; have HB5 := hide3 (below_then HB4.out ok); have HP5 := hide3 (HP4.out.below ok); clear ok)
    | (have _t := HB3; go_at_call 15; refine (HPT.out _ _ _ HP3.out HQ3.out).mono ?_; rintro e w4 ⟨rfl, ok⟩; have HB4 := hide3 (below_then HB3.out ok); have HP4 := hide3 (HP3.out.below ok); clear ok)
    | (have _t := HB2; go_at_call 14; refine (HRP.out _).mono ?_; rintro e w3 ⟨vq, rfl, hq, ok⟩; have HB3 := hide3 (below_then HB2.out ok); have HP3 := hide3 (HP2.out.below ok); have HQ3 := hide3 hq.at; clear hq; clear ok)
    | (have _t := HB1; go_at_call 13; refine (HPA.out _).mono ?_; rintro e w2 ⟨vp, rfl, hp, ok⟩; have HB2 := hide3 (below_then HB1.out ok); have HP2 := hide3 hp.at; clear hp; clear ok)
    | (go_at_call 12; refine (HT.out _ (Below.refl _ _)).mono ?_; rintro e w1 ⟨rfl, ok⟩; have HB1 := hide3 ok; clear ok))
  go_ret
  exact ⟨rfl, HB6.out⟩

theorem treePaths_walk {P : List ByteArray} {v : Value} {w : World} (h : PathAt w v P) (hz : P.length * 16 ≤ 140737488355328) (hs : ∀ s ∈ P, s.size ≤ 9223372036854775807) (t : ByteArray) (ht : t.size ≤ 140737488351232) (he : Env w) (hf : FL w) :
    Calls Tryz.prog 4 #[v, .string t] w fun e w' => e = .returned (.bool true) ∧ Below w.heap.size w w' := by
  rcases Classical.em (P = [] ∨ namesB P = true) with hb | hb
  · cases hi : (parseV t.data.toList).isSome
    · exact treePaths_bn h hz hs t ht he hf hb hi
    · exact treePaths_by h hz hs t ht he hf hb hi
  · have hb0 : P ≠ [] := fun e => hb (Or.inl e)
    have hb1 : namesB P = false := by
      cases e : namesB P
      · rfl
      · exact absurd (Or.inr e) hb
    cases hi : (parseV t.data.toList).isSome
    · exact treePaths_nn h hz hs t ht he hf hb0 hb1 hi
    · exact treePaths_ny h hz hs t ht he hf hb0 hb1 hi
end Go.Proofs.YtcclfaioicklaaaGreatDoor
