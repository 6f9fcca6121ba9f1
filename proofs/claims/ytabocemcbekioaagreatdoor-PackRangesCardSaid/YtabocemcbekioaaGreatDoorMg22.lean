/- PackRanges: of any arguments it answers true, and each argument reads as it read before (the tied card). Conditions: none but the row's own. -/
import Derived.Test.YtabocemcbekioaaGreatDoorMg21
namespace Go.Proofs.YtabocemcbekioaaGreatDoor
open Go.RowKit
set_option maxRecDepth 100000

theorem rPrint_sp {L : List Sp} {u : Value} {w : World} (h : rangeB L = true) (hu : SpansC w u L) : Calls Tryz.prog 20 #[u] w fun e w' => e = .returned (.string (prS L)) ∧ Below w.heap.size w w' := by
  have hmay := rMayL_any hu.1
  unfold rangeB at h
  rw [Bool.and_eq_true, decide_eq_true_eq] at h
  rw [h.2] at hmay
  obtain ⟨A, rfl, hA, hl⟩ := may_iff.1 h.2
  have hne : A ≠ [] := by rintro rfl; simp at h
  unfold prS
  rw [pl_sp hA]
  obtain ⟨ad, cap, rfl, hc, hs⟩ := hu.rg
  rcases hs with rfl | ⟨g, o, rfl, hg, hs⟩
  · exact absurd rfl hne
  · exact rPrint_walk A hA hne g o cap w hl hg hs hmay
theorem catL (a b : ByteArray) : (a ++ b).data.toList = a.data.toList ++ b.data.toList := by simp
theorem catZ (a b : ByteArray) : (a ++ b).size = a.size + b.size := by simp

set_option maxHeartbeats 3200000 in
theorem rLines_dep {v : Value} {L : List Dp} {x : ByteArray} {w : World} (hd : DepsAt w v L) (hm : mayD L = true) (hx : x.size ≤ 16) :
    Calls Tryz.prog 52 #[.string x, v] w fun e w' => ∃ T : ByteArray, e = .returned (.string T) ∧ T.data.toList = listT x L ∧ Below w.heap.size w w' := by
  have HD : Hid (∀ w', Below w.heap.size w w' → DepsAt w' v L) := fun w' hb => hd.below hb
  have HAll : Hid (∀ d ∈ L, d.nm.size ≤ 16 ∧ rangeB d.rg = true) := by
    have := hm
    unfold mayD at this
    rw [Bool.and_eq_true] at this
    exact rise_all this.2
  have HLN := hide3 (list_len hx hm)
  have h16 := (short_may hm).1
  obtain ⟨ad, cap, rfl⟩ := hd.sl
  clear hd hm
  go_enter Tryz.func52, Tryz.ntmps52
  go_wp2_with fail
  go_loopw [5, 6] (fun vt i wr => ∃ (k : Nat) (T : ByteArray), k ≤ L.length ∧ i = .int .i64 k ∧ vt = .string T ∧ T.data.toList = listT x (L.take k) ∧ Below w.heap.size w wr) (fun _ i _ => L.length - (intOf i).toNat)
  case atStart => exact ⟨0, ⟨#[]⟩, Nat.zero_le _, rfl, rfl, rfl, Below.refl _ _⟩
  case round =>
    obtain ⟨k, T, hk, rfl, rfl, hT, hb⟩ := hrel
    have HT := hide3 hT
    have HB := hide3 hb
    by_cases hlt : k < L.length
    · obtain ⟨ad', cap', e, _, hcs⟩ := HD.out wr hb
      cases e
      obtain ⟨g, o, rfl, hg, hcs⟩ : ∃ g o, ad = some ⟨g, o, none⟩ ∧ g < wr.heap.size ∧ ∀ i (h : i < L.length), ∃ u, DpIn wr g (o + i * 2) L[i] u := by
        rcases hcs with h | h
        · rw [h] at hlt; simp at hlt
        · exact h
      obtain ⟨u, hu⟩ := hcs k hlt
      obtain ⟨hn16, hrb⟩ := HAll.out _ (List.getElem_mem hlt)
      have hpz := prS_size hrb
      have HSN := hide3 (listT_snoc (x := x) hlt)
      have hTz : T.size ≤ 80000 := by rw [← list_size, hT]; exact HLN.out k
      have HO : Hid (Below w.heap.size w wr ∧ DpIn wr g (o + k * 2) L[k] u) := ⟨hb, hu⟩
      have HK : Hid (KeepP fun w1 => Below w.heap.size w w1 ∧ DpIn w1 g (o + k * 2) L[k] u) := (keepBelow w).and (keepDp _ _ _ _)
      have HC : Hid (∀ w1, (Below w.heap.size w w1 ∧ DpIn w1 g (o + k * 2) L[k] u) → Calls Tryz.prog 20 #[u] w1 fun e w' => e = .returned (.string (prS L[k].rg)) ∧ Below w1.heap.size w1 w') := fun w1 h => rPrint_sp hrb h.2.2.2.1.1
      obtain ⟨au, cu, rfl⟩ := hu.2.2.1.1.1.sl
      clear hcs hu hb hT hrb
      generalize prS L[k].rg = rt at *
      generalize L[k] = d at *
      have z1 : (⟨#[32]⟩ : ByteArray).size = 1 := rfl
      have z2 : (⟨#[10]⟩ : ByteArray).size = 1 := rfl
      have e1 := fun W : World => run_string_add_sum (P := Tryz.prog) (w := W) T x (by omega)
      have e2 := fun W : World => run_string_add_sum (P := Tryz.prog) (w := W) (T ++ x) ⟨#[32]⟩ (by rw [catZ]; omega)
      have e3 := fun W : World => run_string_add_sum (P := Tryz.prog) (w := W) (T ++ x ++ ⟨#[32]⟩) d.nm (by rw [catZ, catZ]; omega)
      have e4 := fun W : World => run_string_add_sum (P := Tryz.prog) (w := W) (T ++ x ++ ⟨#[32]⟩ ++ d.nm) ⟨#[32]⟩ (by rw [catZ, catZ, catZ]; omega)
      have e5 := fun W : World => run_string_add_sum (P := Tryz.prog) (w := W) (T ++ x ++ ⟨#[32]⟩ ++ d.nm ++ ⟨#[32]⟩) rt (by rw [catZ, catZ, catZ, catZ]; omega)
      have e6 := fun W : World => run_string_add_sum (P := Tryz.prog) (w := W) (T ++ x ++ ⟨#[32]⟩ ++ d.nm ++ ⟨#[32]⟩ ++ rt) ⟨#[10]⟩ (by rw [catZ, catZ, catZ, catZ, catZ]; omega)
      clear z1 z2
      go_wp2_with fail
      refine wp_region_keep HK.out (by kernel_rfl) (by kernel_rfl) (by first | exact HO.out | exact HK.out.drew HO.out) ?_
      intro C hin hout
      have HIN := hide3 hin
      have HOUT := hide3 hout
      clear hin hout HO
      repeat
        (with_reducible refine wpQuiet_step (fun K hK => ?_)
         go_simp
         first
           | (refine hK _ ?_; clear hK K)
           | (apply Exists.intro; refine ⟨fun w1 hC => ?_, hK _ ?_⟩; (focus ((first | (go_at_call 20; with_reducible exact callC' HIN.out HOUT.out HK.out HC.out w1 hC) | (exact rfl) | (obtain ⟨hb1, ⟨p0, p1, ph, p3⟩⟩ := HOUT.out w1 hC; clear hC; go_simp; first | done | exact rfl)); done)); clear hK K))
      refine wpQuiet_nil ?_
      intro wn hC
      have HO := hide3 (HOUT.out _ hC)
      clear hC HIN HOUT C
      obtain ⟨hb1, ⟨p0, p1, ph, p3⟩⟩ := HO.out
      go_wp2
      refine ⟨⟨k + 1, _, by omega, by go_num, rfl, ?_, HO.out.1⟩, by simp [intOf]; omega⟩
      rw [HSN.out, ← HT.out]
      unfold lineB
      simp
    · obtain rfl : k = L.length := by omega
      rw [List.take_length] at HT
      clear hb hT
      go_wp2
      go_ret
      exact ⟨T, rfl, HT.out, HB.out⟩

theorem rLines_is {v : Value} {L : List Dp} {x : ByteArray} {w : World} (hd : DepsAt w v L) (hm : mayD L = true) (hx : x.size ≤ 16) :
    Calls Tryz.prog 52 #[.string x, v] w fun e w' => e = .returned (.string ⟨(listT x L).toArray⟩) ∧ Below w.heap.size w w' := by
  refine (rLines_dep hd hm hx).mono ?_
  rintro e w' ⟨T, rfl, hT, hb⟩
  refine ⟨?_, hb⟩
  rw [← hT]
theorem arr_size (l : Sc.Bs) : (⟨l.toArray⟩ : ByteArray).size = l.length := by show l.toArray.size = _; simp
end Go.Proofs.YtabocemcbekioaaGreatDoor
namespace Go.Proofs.YtabocemcbekioaaGreatDoor
open Go.RowKit
set_option maxRecDepth 100000

set_option maxHeartbeats 6400000 in
theorem packRanges_good {n t : ByteArray} {w : World} (hE : Env w ∧ FL w) (hn : Sc.nameA n.data.toList = true) (he0 : parE (parR t) = 0) (hL : rangeB ((parL (parR t)).map spR) = true) (hLl : 0 < ((parL (parR t)).map spR).length) :
    Calls Tryz.prog 7 #[.string n, .string t] w fun e w' => e = .returned (.bool true) ∧ Below w.heap.size w w' := by
  obtain ⟨he, hf⟩ := hE
  have HKN : Hid (Calls Tryz.prog 13 #[] w fun e w' => e = .returned (.bool true) ∧ Below w.heap.size w w') := known_pk he hf
  have HPA : Hid (∀ w1, Calls Tryz.prog 18 #[.string t] w1 fun e w' => ∃ v, e = .returned (.tuple #[v, .int .i64 0]) ∧ OwnS w' w1.heap.size v ((parL (parR t)).map spR) ∧ Below w1.heap.size w1 w') := fun w1 => by have := rParse3_all t w1; rw [he0] at this; exact this
  have h16 : n.size ≤ 16 := by have g0 := hn; unfold Sc.nameA at g0; rw [Bool.and_eq_true, decide_eq_true_eq, list_size] at g0; exact g0.2
  have HNA : Hid (∀ w1, Calls Tryz.prog 19 #[.string n] w1 fun e w' => e = .returned (.bool true) ∧ w' = w1) := fun w1 => by have := Sc.rName_any n (by omega) w1; rw [hn] at this; exact this
  have ht : t.size ≤ 4096 := by
    unfold parR at he0
    split at he0
    · assumption
    · cases he0
  have HPR : Hid (∀ w1 B v, OwnS w1 B v ((parL (parR t)).map spR) → Calls Tryz.prog 20 #[v] w1 fun e w' => e = .returned (.string (prS ((parL (parR t)).map spR))) ∧ Below w1.heap.size w1 w') := fun w1 B v h => rPrint_sp hL h.at.1
  obtain ⟨hw1, hw2⟩ := one_written hn hL
  obtain ⟨hk1, hk2⟩ := pk_back hw1
  rw [hw2] at hk1 hk2
  have HQ2 : Hid (∀ w1, Below w.heap.size w w1 → Calls Tryz.prog 16 #[.string (oneT n (prS ((parL (parR t)).map spR)))] w1 fun e w' => ∃ q1 qc1 q2 qc2 q3 qc3, e = .returned (.tuple #[.agg #[.string ⟨#[97]⟩, .int .i64 1, .int .i64 0, .int .i64 0, .slice q1 1 qc1, .slice q2 0 qc2, .slice q3 0 qc3], .int .i64 0]) ∧ Below w1.heap.size w1 w' ∧ PgAt w' (onePk n ((parL (parR t)).map spR)) (.slice q1 1 qc1) (.slice q2 0 qc2) (.slice q3 0 qc3)) := fun w1 hb => (Parse_pk _ (he.below hb) (hf.below hb)).mono fun e w' h => by
    rw [hk1, hk2] at h
    obtain ⟨s, a, b, c, v1, v2, v3, h1, h2, h3, _⟩ := h
    obtain ⟨rfl, rfl, rfl, rfl, ho⟩ := h3 rfl
    have hp := ho.at
    obtain ⟨a1, c1, e1⟩ := hp.1.sl
    obtain ⟨a2, c2, e2⟩ := hp.2.1.sl
    obtain ⟨a3, c3, e3⟩ := hp.2.2.sl
    rw [e1, e2, e3] at hp
    rw [e1, e2, e3] at h1
    exact ⟨a1, c1, a2, c2, a3, c3, h1, h2, hp⟩
  have HP1 : Hid (∀ w1, Below w.heap.size w w1 → Calls Tryz.prog 16 #[.string (oneT n t)] w1 (PkQ w1 (parPE (oneT n t)) (parPP (oneT n t)))) := fun w1 hb => Parse_pk _ (he.below hb) (hf.below hb)
  have hor := one_read hn he0 hL
  have hpz := prS_less hL
  have HL0 : Hid (((((parL (parR t)).map spR).length : Int) == 0) = false) := by unfold Hid; rw [beq_eq_false_iff_ne]; omega
  have HSA : Hid (∀ w1 v1 v2 v3 u1 u2 u3, PgAt w1 (onePk n ((parL (parR t)).map spR)) v1 v2 v3 → PgAt w1 (onePk n ((parL (parR t)).map spR)) u1 u2 u3 → Calls Tryz.prog 11 #[.agg #[.string ⟨#[97]⟩, .int .i64 1, .int .i64 0, .int .i64 0, v1, v2, v3], .agg #[.string ⟨#[97]⟩, .int .i64 1, .int .i64 0, .int .i64 0, u1, u2, u3]] w1 fun e w' => e = .returned (.bool true) ∧ Below w1.heap.size w1 w') := fun w1 v1 v2 v3 u1 u2 u3 h1 h2 => by
    have := Same_any h1 h2 (by simp [onePk]) (by simp [onePk]) (by simp [onePk])
    rw [eqB_yes rfl] at this
    exact this
  have HSP : Hid (∀ w1 va vb, SpansAt w1 va ((parL (parR t)).map spR) → SpansAt w1 vb ((parL (parR t)).map spR) → Calls Tryz.prog 21 #[va, vb] w1 fun e w' => e = .returned (.bool true) ∧ Below w1.heap.size w1 w') := fun w1 va vb h1 h2 => by
    have := rSpans_any h1 h2 (by rw [List.length_map]; have hl64 : (parL (parR t)).length ≤ 64 := by { cases hq : parR t with | none => simp [parL] | some R => exact fit_len R }; omega)
    rw [eqB_yes rfl] at this
    exact this
  have hpl : (onePk n ((parL (parR t)).map spR)).d = [⟨n, (parL (parR t)).map spR⟩] := rfl
  have z0 : preO.size = 22 := rfl
  have z1 : (⟨#[32]⟩ : ByteArray).size = 1 := rfl
  have z2 : (⟨#[10]⟩ : ByteArray).size = 1 := rfl
  generalize hPG : (parL (parR t)).map spR = L at *
  have hoT : ∀ x, oneT n x = preO ++ n ++ ⟨#[32]⟩ ++ x ++ ⟨#[10]⟩ := fun _ => rfl
  have hpe : preO = (⟨#[112, 97, 99, 107, 97, 103, 101, 32, 97, 32, 49, 46, 48, 46, 48, 10, 110, 101, 101, 100, 115, 32]⟩ : ByteArray) := rfl
  have e1 := fun W : World => run_string_add_sum (P := Tryz.prog) (w := W) preO n (by omega)
  have e2 := fun W : World => run_string_add_sum (P := Tryz.prog) (w := W) (preO ++ n) ⟨#[32]⟩ (by rw [catZd]; omega)
  have e3 := fun W : World => run_string_add_sum (P := Tryz.prog) (w := W) (preO ++ n ++ ⟨#[32]⟩) t (by rw [catZd, catZd]; omega)
  have e4 := fun W : World => run_string_add_sum (P := Tryz.prog) (w := W) (preO ++ n ++ ⟨#[32]⟩ ++ t) ⟨#[10]⟩ (by rw [catZd, catZd, catZd]; omega)
  have e5 := fun W : World => run_string_add_sum (P := Tryz.prog) (w := W) (preO ++ n ++ ⟨#[32]⟩) (prS L) (by rw [catZd, catZd]; omega)
  have e6 := fun W : World => run_string_add_sum (P := Tryz.prog) (w := W) (preO ++ n ++ ⟨#[32]⟩ ++ prS L) ⟨#[10]⟩ (by rw [catZd, catZd, catZd]; omega)
  clear z0 z1 z2 hn hk1 hk2 hw1 hw2
  have HOR := hide3 hor
  rw [hoT] at HP1 HQ2
  generalize hPE : parPE (oneT n t) = PE at *
  generalize hPP : parPP (oneT n t) = PP at *
  rw [hoT] at hPE hPP
  rw [hPE, hPP] at HP1
  clear hPE hPP hoT hor
  generalize prS L = rt at *
  rw [hpe] at e1 e2 e3 e4 e5 e6 HP1 HQ2
  clear hpe
  have hL0 := HL0.out
  by_cases hpe0 : PE = 0
  · have hPP : PP = onePk n L := by
      rcases HOR.out with h | h | h
      · omega
      · omega
      · exact h.2
    have HP3 : Hid (∀ w1, Below w.heap.size w w1 → Calls Tryz.prog 16 #[.string ((⟨#[112, 97, 99, 107, 97, 103, 101, 32, 97, 32, 49, 46, 48, 46, 48, 10, 110, 101, 101, 100, 115, 32]⟩ : ByteArray) ++ n ++ ⟨#[32]⟩ ++ t ++ ⟨#[10]⟩)] w1 fun e w' => ∃ gd od pc1 p2 pc2 p3 pc3 u, e = .returned (.tuple #[.agg #[.string ⟨#[97]⟩, .int .i64 1, .int .i64 0, .int .i64 0, .slice (some ⟨gd, od, none⟩) 1 pc1, .slice p2 0 pc2, .slice p3 0 pc3], .int .i64 0]) ∧ Below w1.heap.size w1 w' ∧ PgAt w' (onePk n L) (.slice (some ⟨gd, od, none⟩) 1 pc1) (.slice p2 0 pc2) (.slice p3 0 pc3) ∧ DpIn w' gd od ⟨n, L⟩ u) := fun w1 hb => (HP1.out w1 hb).mono fun e w' h => by
      rw [hpe0, hPP] at h
      obtain ⟨s, a, b, c, v1, v2, v3, h1, h2, h3, _⟩ := h
      obtain ⟨rfl, rfl, rfl, rfl, ho⟩ := h3 rfl
      have hp := ho.at
      obtain ⟨a1, c1, e1⟩ := hp.1.sl
      obtain ⟨a2, c2, e2⟩ := hp.2.1.sl
      obtain ⟨a3, c3, e3⟩ := hp.2.2.sl
      rw [e1, e2, e3] at hp
      rw [e1, e2, e3] at h1
      obtain ⟨ad, cap, ee, _, hcs⟩ := hp.1
      rcases hcs with hcs | ⟨gd, od, rfl, hgd, hcs⟩
      · rw [hpl] at hcs; cases hcs
      · simp only [Value.slice.injEq] at ee
        obtain ⟨rfl, _, rfl⟩ := ee
        obtain ⟨u, hu⟩ := hcs 0 (by rw [hpl]; simp)
        exact ⟨gd, od, c1, a2, c2, a3, c3, u, h1, h2, hp, hu⟩
    clear HP1 hpl
    have t1 : True := trivial
    go_enter Tryz.func7, Tryz.ntmps7
    go_wp2_with (first
      | (go_at_call 13; refine HKN.out.mono ?_; rintro e w1 ⟨rfl, ok1⟩; have HB1 := hide3 ok1; clear ok1)
      | (go_at_call 18; refine (HPA.out _).mono ?_; rintro e w2 ⟨v2, rfl, h1, ok⟩; obtain ⟨ad2, cap2, rfl, _⟩ := h1.sp; have HB2 : Hid (Below w.heap.size w w2) := below_then HB1.out ok; have HO2 := hide3 h1; clear ok h1)
      | (go_at_call 19; refine (HNA.out _).mono ?_; rintro e wn ⟨rfl, hwn⟩; obtain rfl : w2 = wn := hwn.symm)
      | (have _t := t1; go_at_call 16; refine (HP3.out _ HB2.out).mono ?_; rintro e w3 ⟨gd, od, pc1, p2, pc2, p3, pc3, u, rfl, ok, hp, hu⟩; obtain ⟨au, cu, rfl⟩ := hu.2.2.1.1.1.sl; have HA3 : Hid ((Below w.heap.size w (w3.alloc (.cells #[.string ⟨#[97]⟩, .int .i64 1, .int .i64 0, .int .i64 0, .slice (some ⟨gd, od, none⟩) 1 pc1, .slice p2 0 pc2, .slice p3 0 pc3] 26)) ∧ BxP (w3.alloc (.cells #[.string ⟨#[97]⟩, .int .i64 1, .int .i64 0, .int .i64 0, .slice (some ⟨gd, od, none⟩) 1 pc1, .slice p2 0 pc2, .slice p3 0 pc3] 26)) w3.heap.size ⟨#[97]⟩ 1 0 0 (.slice (some ⟨gd, od, none⟩) 1 pc1) (.slice p2 0 pc2) (.slice p3 0 pc3)) ∧ (PgAt (w3.alloc (.cells #[.string ⟨#[97]⟩, .int .i64 1, .int .i64 0, .int .i64 0, .slice (some ⟨gd, od, none⟩) 1 pc1, .slice p2 0 pc2, .slice p3 0 pc3] 26)) (onePk n L) (.slice (some ⟨gd, od, none⟩) 1 pc1) (.slice p2 0 pc2) (.slice p3 0 pc3) ∧ DpIn (w3.alloc (.cells #[.string ⟨#[97]⟩, .int .i64 1, .int .i64 0, .int .i64 0, .slice (some ⟨gd, od, none⟩) 1 pc1, .slice p2 0 pc2, .slice p3 0 pc3] 26)) gd od ⟨n, L⟩ (.slice au L.length cu)) ∧ OwnS (w3.alloc (.cells #[.string ⟨#[97]⟩, .int .i64 1, .int .i64 0, .int .i64 0, .slice (some ⟨gd, od, none⟩) 1 pc1, .slice p2 0 pc2, .slice p3 0 pc3] 26)) w1.heap.size (.slice ad2 L.length cap2) L) := ⟨⟨below_then (below_then HB2.out ok) (boxB _ _), BxP.new rfl _ _ _ _ _ _ _⟩, ⟨hp.below (boxB _ _), hu.below (boxB _ _)⟩, (HO2.out.below ok).below (boxB _ _)⟩; clear ok hp hu t1)
      | (go_at_call 20; refine (HPR.out _ _ _ HA3.out.2.2).mono ?_; rintro e w4 ⟨rfl, ok⟩; have HA4 : Hid ((Below w.heap.size w w4 ∧ BxP w4 w3.heap.size ⟨#[97]⟩ 1 0 0 (.slice (some ⟨gd, od, none⟩) 1 pc1) (.slice p2 0 pc2) (.slice p3 0 pc3)) ∧ (PgAt w4 (onePk n L) (.slice (some ⟨gd, od, none⟩) 1 pc1) (.slice p2 0 pc2) (.slice p3 0 pc3) ∧ DpIn w4 gd od ⟨n, L⟩ (.slice au L.length cu)) ∧ OwnS w4 w1.heap.size (.slice ad2 L.length cap2) L) := ⟨⟨below_then HA3.out.1.1 ok, keepBxP _ _ _ _ _ _ _ _ _ _ HA3.out.1.2 ok⟩, ⟨HA3.out.2.1.1.below ok, HA3.out.2.1.2.below ok⟩, HA3.out.2.2.below ok⟩; clear ok)
      | (go_at_call 16; refine (HQ2.out _ HA4.out.1.1).mono ?_; rintro e w5 ⟨q1, qc1, q2, qc2, q3, qc3, rfl, ok, hq⟩; have HA5 : Hid ((Below w.heap.size w (w5.alloc (.cells #[.string ⟨#[97]⟩, .int .i64 1, .int .i64 0, .int .i64 0, .slice q1 1 qc1, .slice q2 0 qc2, .slice q3 0 qc3] 26)) ∧ BxP (w5.alloc (.cells #[.string ⟨#[97]⟩, .int .i64 1, .int .i64 0, .int .i64 0, .slice q1 1 qc1, .slice q2 0 qc2, .slice q3 0 qc3] 26)) w3.heap.size ⟨#[97]⟩ 1 0 0 (.slice (some ⟨gd, od, none⟩) 1 pc1) (.slice p2 0 pc2) (.slice p3 0 pc3)) ∧ (PgAt (w5.alloc (.cells #[.string ⟨#[97]⟩, .int .i64 1, .int .i64 0, .int .i64 0, .slice q1 1 qc1, .slice q2 0 qc2, .slice q3 0 qc3] 26)) (onePk n L) (.slice (some ⟨gd, od, none⟩) 1 pc1) (.slice p2 0 pc2) (.slice p3 0 pc3) ∧ DpIn (w5.alloc (.cells #[.string ⟨#[97]⟩, .int .i64 1, .int .i64 0, .int .i64 0, .slice q1 1 qc1, .slice q2 0 qc2, .slice q3 0 qc3] 26)) gd od ⟨n, L⟩ (.slice au L.length cu)) ∧ OwnS (w5.alloc (.cells #[.string ⟨#[97]⟩, .int .i64 1, .int .i64 0, .int .i64 0, .slice q1 1 qc1, .slice q2 0 qc2, .slice q3 0 qc3] 26)) w1.heap.size (.slice ad2 L.length cap2) L) := ⟨⟨below_then (below_then HA4.out.1.1 ok) (boxB _ _), keepBxP _ _ _ _ _ _ _ _ _ _ (keepBxP _ _ _ _ _ _ _ _ _ _ HA4.out.1.2 ok) (boxB _ _)⟩, ⟨(HA4.out.2.1.1.below ok).below (boxB _ _), (HA4.out.2.1.2.below ok).below (boxB _ _)⟩, (HA4.out.2.2.below ok).below (boxB _ _)⟩; have HQ5 : Hid (BxP (w5.alloc (.cells #[.string ⟨#[97]⟩, .int .i64 1, .int .i64 0, .int .i64 0, .slice q1 1 qc1, .slice q2 0 qc2, .slice q3 0 qc3] 26)) w5.heap.size ⟨#[97]⟩ 1 0 0 (.slice q1 1 qc1) (.slice q2 0 qc2) (.slice q3 0 qc3) ∧ PgAt (w5.alloc (.cells #[.string ⟨#[97]⟩, .int .i64 1, .int .i64 0, .int .i64 0, .slice q1 1 qc1, .slice q2 0 qc2, .slice q3 0 qc3] 26)) (onePk n L) (.slice q1 1 qc1) (.slice q2 0 qc2) (.slice q3 0 qc3)) := ⟨BxP.new rfl _ _ _ _ _ _ _, hq.below (boxB _ _)⟩; obtain ⟨y0, y1, y2, y3, y4, y5, y6, y7⟩ := HA5.out.1.2; obtain ⟨x0, x1, x2, x3, x4, x5, x6, x7⟩ := HQ5.out.1; clear ok hq)
      | (go_at_call 11; refine (HSA.out _ _ _ _ _ _ _ HA5.out.2.1.1 HQ5.out.2).mono ?_; rintro e w6 ⟨rfl, ok⟩; have HA6 : Hid (Below w.heap.size w w6 ∧ DpIn w6 gd od ⟨n, L⟩ (.slice au L.length cu) ∧ OwnS w6 w1.heap.size (.slice ad2 L.length cap2) L) := ⟨below_then HA5.out.1.1 ok, HA5.out.2.1.2.below ok, HA5.out.2.2.below ok⟩; have HX6 := hide3 (keepBxP _ _ _ _ _ _ _ _ _ _ HA5.out.1.2 ok); clear y0 y1 y2 y3 y4 y5 y6 y7 x0 x1 x2 x3 x4 x5 x6 x7; obtain ⟨y0, y1, y2, y3, y4, y5, y6, y7⟩ := HX6.out; obtain ⟨d0, d1, _, _⟩ := HA6.out.2.1; clear ok)
      | (go_at_call 21; refine (HSP.out _ _ _ HA6.out.2.1.2.2.1.1.1 HA6.out.2.2.at.1.1).mono ?_; rintro e w7 ⟨rfl, ok⟩; have HB7 := hide3 (below_then HA6.out.1 ok); clear ok))
    go_ret
    exact ⟨by first | rfl | simp, HB7.out⟩
  · have hff : (PE == 22) = true ∨ ((PE == 22) = false ∧ (PE == 25) = true) := by
      rcases HOR.out with h | h | h
      · left; simp [h]
      · right; simp [h]
      · exact absurd h.1 hpe0
    have hpn : (PE == 0) = false := by simpa using hpe0
    have HP3 : Hid (∀ w1, Below w.heap.size w w1 → Calls Tryz.prog 16 #[.string ((⟨#[112, 97, 99, 107, 97, 103, 101, 32, 97, 32, 49, 46, 48, 46, 48, 10, 110, 101, 101, 100, 115, 32]⟩ : ByteArray) ++ n ++ ⟨#[32]⟩ ++ t ++ ⟨#[10]⟩)] w1 fun e w' => e = .returned (.tuple #[.agg #[.string ⟨#[]⟩, .int .i64 0, .int .i64 0, .int .i64 0, .slice none 0 0, .slice none 0 0, .slice none 0 0], .int .i64 PE]) ∧ Below w1.heap.size w1 w') := fun w1 hb => (HP1.out w1 hb).mono fun e w' h => by
      obtain ⟨s, a, b, c, v1, v2, v3, h1, h2, _, h4⟩ := h
      obtain ⟨rfl, rfl, rfl, rfl, rfl, rfl, rfl⟩ := h4 hpe0
      exact ⟨h1, h2⟩
    clear HP1 hpl HSA HSP HOR hpe0
    rcases hff with hf1 | ⟨hf1, hf2⟩
    · have t1 : True := trivial
      go_enter Tryz.func7, Tryz.ntmps7
      go_wp2_with (first
        | (go_at_call 13; refine HKN.out.mono ?_; rintro e w1 ⟨rfl, ok1⟩; have HB1 := hide3 ok1; clear ok1)
        | (go_at_call 18; refine (HPA.out _).mono ?_; rintro e w2 ⟨v2, rfl, h1, ok⟩; obtain ⟨ad2, cap2, rfl, _⟩ := h1.sp; have HB2 : Hid (Below w.heap.size w w2) := below_then HB1.out ok; have HO2 := hide3 h1; clear ok h1)
        | (go_at_call 19; refine (HNA.out _).mono ?_; rintro e wn ⟨rfl, hwn⟩; obtain rfl : w2 = wn := hwn.symm)
        | (have _t := t1; go_at_call 16; refine (HP3.out _ HB2.out).mono ?_; rintro e w3 ⟨rfl, ok⟩; have HA3 : Hid (Below w.heap.size w (w3.alloc (.cells #[.string ⟨#[]⟩, .int .i64 0, .int .i64 0, .int .i64 0, .slice none 0 0, .slice none 0 0, .slice none 0 0] 26)) ∧ OwnS (w3.alloc (.cells #[.string ⟨#[]⟩, .int .i64 0, .int .i64 0, .int .i64 0, .slice none 0 0, .slice none 0 0, .slice none 0 0] 26)) w1.heap.size (.slice ad2 L.length cap2) L) := ⟨below_then (below_then HB2.out ok) (boxB _ _), (HO2.out.below ok).below (boxB _ _)⟩; clear ok t1)
        | (go_at_call 20; refine (HPR.out _ _ _ HA3.out.2).mono ?_; rintro e w4 ⟨rfl, ok⟩; have HA4 := hide3 (below_then HA3.out.1 ok); clear ok)
        | (go_at_call 16; refine (HQ2.out _ HA4.out).mono ?_; rintro e w5 ⟨q1, qc1, q2, qc2, q3, qc3, rfl, ok, _⟩; have HB7 : Hid (Below w.heap.size w (w5.alloc (.cells #[.string ⟨#[97]⟩, .int .i64 1, .int .i64 0, .int .i64 0, .slice q1 1 qc1, .slice q2 0 qc2, .slice q3 0 qc3] 26))) := below_then (below_then HA4.out ok) (boxB _ _); clear ok))
      go_ret
      exact ⟨by first | rfl | simp, HB7.out⟩
    · have t1 : True := trivial
      go_enter Tryz.func7, Tryz.ntmps7
      go_wp2_with (first
        | (go_at_call 13; refine HKN.out.mono ?_; rintro e w1 ⟨rfl, ok1⟩; have HB1 := hide3 ok1; clear ok1)
        | (go_at_call 18; refine (HPA.out _).mono ?_; rintro e w2 ⟨v2, rfl, h1, ok⟩; obtain ⟨ad2, cap2, rfl, _⟩ := h1.sp; have HB2 : Hid (Below w.heap.size w w2) := below_then HB1.out ok; have HO2 := hide3 h1; clear ok h1)
        | (go_at_call 19; refine (HNA.out _).mono ?_; rintro e wn ⟨rfl, hwn⟩; obtain rfl : w2 = wn := hwn.symm)
        | (have _t := t1; go_at_call 16; refine (HP3.out _ HB2.out).mono ?_; rintro e w3 ⟨rfl, ok⟩; have HA3 : Hid (Below w.heap.size w (w3.alloc (.cells #[.string ⟨#[]⟩, .int .i64 0, .int .i64 0, .int .i64 0, .slice none 0 0, .slice none 0 0, .slice none 0 0] 26)) ∧ OwnS (w3.alloc (.cells #[.string ⟨#[]⟩, .int .i64 0, .int .i64 0, .int .i64 0, .slice none 0 0, .slice none 0 0, .slice none 0 0] 26)) w1.heap.size (.slice ad2 L.length cap2) L) := ⟨below_then (below_then HB2.out ok) (boxB _ _), (HO2.out.below ok).below (boxB _ _)⟩; clear ok t1)
        | (go_at_call 20; refine (HPR.out _ _ _ HA3.out.2).mono ?_; rintro e w4 ⟨rfl, ok⟩; have HA4 := hide3 (below_then HA3.out.1 ok); clear ok)
        | (go_at_call 16; refine (HQ2.out _ HA4.out).mono ?_; rintro e w5 ⟨q1, qc1, q2, qc2, q3, qc3, rfl, ok, _⟩; have HB7 : Hid (Below w.heap.size w (w5.alloc (.cells #[.string ⟨#[97]⟩, .int .i64 1, .int .i64 0, .int .i64 0, .slice q1 1 qc1, .slice q2 0 qc2, .slice q3 0 qc3] 26))) := below_then (below_then HA4.out ok) (boxB _ _); clear ok))
      go_ret
      exact ⟨by first | rfl | simp, HB7.out⟩

set_option maxHeartbeats 3200000 in
theorem packRanges_bad {n t : ByteArray} {w : World} (hE : Env w ∧ FL w) (hz : n.size ≤ 9223372036854775807) (h : ¬ (Sc.nameA n.data.toList = true ∧ parE (parR t) = 0 ∧ 0 < ((parL (parR t)).map spR).length)) :
    Calls Tryz.prog 7 #[.string n, .string t] w fun e w' => e = .returned (.bool true) ∧ Below w.heap.size w w' := by
  obtain ⟨he, hf⟩ := hE
  have HKN : Hid (Calls Tryz.prog 13 #[] w fun e w' => e = .returned (.bool true) ∧ Below w.heap.size w w') := known_pk he hf
  have HPA : Hid (∀ w1, Calls Tryz.prog 18 #[.string t] w1 fun e w' => ∃ v, e = .returned (.tuple #[v, .int .i64 (parE (parR t))]) ∧ OwnS w' w1.heap.size v ((parL (parR t)).map spR) ∧ Below w1.heap.size w1 w') := fun w1 => rParse3_all t w1
  have HNA : Hid (∀ w1, Calls Tryz.prog 19 #[.string n] w1 fun e w' => e = .returned (.bool (Sc.nameA n.data.toList)) ∧ w' = w1) := fun w1 => Sc.rName_any n hz w1
  generalize (parL (parR t)).map spR = L at *
  generalize parE (parR t) = er at *
  generalize Sc.nameA n.data.toList = nb at *
  clear he hf
  by_cases her : er = 0
  · subst her
    by_cases hl : 0 < L.length
    · have hl0 : ((L.length : Int) == 0) = false := by rw [beq_eq_false_iff_ne]; omega
      cases nb
      · clear h hl
        go_enter Tryz.func7, Tryz.ntmps7
        go_wp2_with (first
          | (go_at_call 13; refine HKN.out.mono ?_; rintro e w1 ⟨rfl, ok1⟩; have HB1 := hide3 ok1; clear ok1)
          | (go_at_call 18; refine (HPA.out _).mono ?_; rintro e w2 ⟨v2, rfl, h1, ok⟩; obtain ⟨ad2, cap2, rfl, _⟩ := h1.sp; have HB2 : Hid (Below w.heap.size w w2) := below_then HB1.out ok; have HO2 := hide3 h1; clear ok h1)
          | (go_at_call 19; refine (HNA.out _).mono ?_; rintro e wn ⟨rfl, hwn⟩; obtain rfl : w2 = wn := hwn.symm))
        go_ret
        exact ⟨by first | rfl | simp, HB2.out⟩
      · exact absurd ⟨rfl, rfl, hl⟩ h
    · have hl0 : L.length = 0 := by omega
      clear h hl
      go_enter Tryz.func7, Tryz.ntmps7
      go_wp2_with (first
        | (go_at_call 13; refine HKN.out.mono ?_; rintro e w1 ⟨rfl, ok1⟩; have HB1 := hide3 ok1; clear ok1)
        | (go_at_call 18; refine (HPA.out _).mono ?_; rintro e w2 ⟨v2, rfl, h1, ok⟩; obtain ⟨ad2, cap2, rfl, _⟩ := h1.sp; rw [hl0]; have HB2 : Hid (Below w.heap.size w w2) := below_then HB1.out ok; clear ok h1))
      go_ret
      exact ⟨by first | rfl | simp, HB2.out⟩
  · have hre : (er == 0) = false := by simpa using her
    clear h
    go_enter Tryz.func7, Tryz.ntmps7
    go_wp2_with (first
      | (go_at_call 13; refine HKN.out.mono ?_; rintro e w1 ⟨rfl, ok1⟩; have HB1 := hide3 ok1; clear ok1)
      | (go_at_call 18; refine (HPA.out _).mono ?_; rintro e w2 ⟨v2, rfl, h1, ok⟩; obtain ⟨ad2, cap2, rfl, _⟩ := h1.sp; have HB2 : Hid (Below w.heap.size w w2) := below_then HB1.out ok; have HO2 := hide3 h1; clear ok h1))
    go_ret
    exact ⟨by first | rfl | simp, HB2.out⟩

theorem packRanges_walk (n t : ByteArray) {w : World} (hz : n.size ≤ 9223372036854775807) (hE : Env w ∧ FL w) : Calls Tryz.prog 7 #[.string n, .string t] w fun e w' => e = .returned (.bool true) ∧ Below w.heap.size w w' := by
  by_cases h : Sc.nameA n.data.toList = true ∧ parE (parR t) = 0 ∧ 0 < ((parL (parR t)).map spR).length
  · exact packRanges_good hE h.1 h.2.1 (by rw [par_range0 h.2.1]; exact decide_eq_true h.2.2) h.2.2
  · exact packRanges_bad hE hz h
end Go.Proofs.YtabocemcbekioaaGreatDoor
namespace Go.Proofs.YtabocemcbekioaaGreatDoor
open Go.ChangeShapes Go.WideShapes Go.ChangeAt Go.RowKit
open Go.ChangeMaps (open_string shut_string)
set_option maxRecDepth 100000

theorem packRanges_lifted (os : Os) (started : os.Started) (H : Type) (enc : TypeId × Value → H) :
    ReturnsInHanded {} Tryz.checked os 7 .any (fun w args => (Rows.packRangesSpec.pre enc Tryz.prog Tryz.f7 [] false w args ∧ laidMetH Tryz.prog Rows.packRangesRow.laid w) ∧ sizedMet enc Tryz.prog Tryz.f7 (OpenSpec.ofChange Rows.packRangesSpec) false w args)
      (Rows.packRangesSpec.post enc Tryz.prog Tryz.f7 false true false false) := by
  refine wrap_laid (C := Tryz.checked) (l := Rows.packRangesRow.laid) own started (by kernel_rfl) Tryz.func7
    (ChangeSpec.witness_shaped (enc := enc) (C := Tryz.checked) (os := os) (X := fun w _ => laidMetH Tryz.prog Rows.packRangesRow.laid w) false (World.laidAll Tryz.prog os Rows.packRangesRow.laid) #[.string ByteArray.empty, .string ByteArray.empty] 8 (World.laidAll_os _ _ _)
      (World.shaped_of_ZipB (by kernel_rfl) (by kernel_rfl)) (by kernel_rfl) (by kernel_rfl) (by kernel_rfl)
      (by rw [MakeChecks.laidMetH_plain _ _ _ (by kernel_rfl)]; exact laidMet_laidAll _ (by kernel_rfl) (by kernel_rfl))) ?_
  intro W base args ds gs before hval0 hW _ hsh hlaid
  have hval : ∀ (j : Nat) t v, Tryz.f7.params[j]? = some t → args[j]? = some v → Value.okWide Tryz.prog W .any base t v := hval0
  have hW' := hW
  obtain ⟨p, q, hA0, hV, rfl, _, _⟩ := hW
  have hA : DataW.TrodAll enc Tryz.prog W 0 (fun _ => true) true Tryz.f7.params.toList args.toList ds p := hA0
  rw [Tryz.params7] at hA hval
  rw [MakeChecks.laidMetH_plain _ _ _ (by kernel_rfl)] at hlaid
  obtain ⟨v0, vs0, d0, ds0, p0, q0, hargs, rfl, rfl, h0, r0⟩ := trodAll_cons hA
  obtain ⟨v1, vs1, d1, ds1, p1, q1, rfl, rfl, rfl, h1, r1⟩ := trodAll_cons r0
  obtain ⟨rfl, rfl, rfl⟩ := trodAll_nil r1
  obtain rfl : args = #[v0, v1] := by cases args; simp_all
  obtain ⟨rfl, rfl⟩ := trodVars_none hV
  obtain ⟨s0, rfl, rfl, rfl, w0⟩ := open_string Tryz.underlying9 (hval 0 9 v0 rfl rfl) h0
  obtain ⟨s1, rfl, rfl, rfl, w1⟩ := open_string Tryz.underlying9 (hval 1 9 v1 rfl rfl) h1
  clear hA0 hval0
  refine (packRanges_walk s0 s1 (by have := w0; unfold maxLen at this; omega) (env3_of hsh hlaid)).mono fun e W' ⟨he, bel⟩ => ?_
  subst he
  exact ⟨_, rfl, _, _, _, [], _, [], hW', trodAll_mk1 (shut_bool Tryz.underlying4 _), (trodAll_cons_mk (shut_string Tryz.underlying9 w0) (trodAll_cons_mk (shut_string Tryz.underlying9 w1) trodAll_mk0)), rfl, bel.frame _, fun h => by cases h⟩

theorem packRanges_said : Rows.PackRangesSaid :=
  OpenClaim.holds_of_wide 7 Tryz.f7 rfl rfl rfl rfl rfl rfl rfl ⟨rfl, rfl, rfl, rfl, rfl⟩ rfl rfl rfl rfl rfl (by kernel_rfl) Tryz.func7 (by kernel_rfl)
    (of_decide_eq_true (by kernel_rfl)) (by unfold Func.isWrapper; first | (rw [if_pos (by decide +kernel)]; kernel_rfl) | (rw [if_neg (by decide +kernel)]; exact ⟨rfl, rfl⟩))
    (fun os started H enc _ => packRanges_lifted os started H enc)

theorem packRanges_holds : Rows.PackRangesCardSaid :=
  Claim7.holds_tied_plain_at .later [] _ _ _ _ packRanges_said (fun _ h => by cases h) (by kernel_rfl) (fun _ h => by cases h) packRanges_row_tie rfl ⟨rfl, rfl⟩ (by kernel_rfl) rfl
    (fun f fn hf hfn => by
      obtain rfl : f = 7 := Option.some.inj ((show Tryz.prog.funcNamed Rows.packRangesRow.func = some 7 by kernel_rfl).symm.trans hf) |>.symm
      obtain rfl : fn = Tryz.f7 := (Option.some.inj (Tryz.func7.symm.trans hfn)).symm
      exact ⟨by kernel_rfl, fun j t ht => by
        rw [Tryz.params7] at ht
        have hm : t ∈ [9, 9] := by simpa using Array.mem_of_getElem? ht
        have hall : ([9, 9].all fun u => !Tryz.prog.wantsStandIn u) = true := by kernel_rfl
        exact (show Tryz.prog.wantsStandIn t = false by simpa using List.all_eq_true.1 hall t hm)⟩)
    (by kernel_rfl)
#print axioms packRanges_holds
end Go.Proofs.YtabocemcbekioaaGreatDoor
