/- Jk6, laid in one text. -/
import Derived.Test.YtpaoimhebheaeaaGreatDoorMg23
namespace Go.Proofs.YtpaoimhebheaeaaGreatDoor
open Go.RowKit Go.Maps Go.WideMaps Go.WideElems Dk
set_option maxRecDepth 100000

theorem jS_app (n : ByteArray) : (((jS ++ n).toList == [47, 106, 111, 117, 114, 110, 97, 108, 47, 112, 108, 97, 110]) = (n.toList == [112, 108, 97, 110])) ∧ (((jS ++ n).toList == [47, 106, 111, 117, 114, 110, 97, 108, 47, 112, 108, 97, 110, 46, 110, 101, 119]) = (n.toList == [112, 108, 97, 110, 46, 110, 101, 119])) := by
  have e : (jS ++ n).toList = [47, 106, 111, 117, 114, 110, 97, 108, 47] ++ n.toList := by
    rw [toList_data, ByteArray.data_append, Array.toList_append, toList_data]
    rfl
  have e1 : ([47, 106, 111, 117, 114, 110, 97, 108, 47, 112, 108, 97, 110] : List UInt8) = [47, 106, 111, 117, 114, 110, 97, 108, 47] ++ [112, 108, 97, 110] := rfl
  have e2 : ([47, 106, 111, 117, 114, 110, 97, 108, 47, 112, 108, 97, 110, 46, 110, 101, 119] : List UInt8) = [47, 106, 111, 117, 114, 110, 97, 108, 47] ++ [112, 108, 97, 110, 46, 110, 101, 119] := rfl
  rw [e, e1, e2]
  exact ⟨by rw [Bool.eq_iff_iff, beq_iff_eq, beq_iff_eq, List.append_cancel_left_eq], by rw [Bool.eq_iff_iff, beq_iff_eq, beq_iff_eq, List.append_cancel_left_eq]⟩
/-- May what is at the journal's path be a journal? -/
def mayJ (x : Ab) : Bool := (listE x.D jn == 0) && !((listT x.D jn).any (badL x.D))

set_option maxHeartbeats 8000000 in
theorem mayJ_P {B : Nat} {w : World} {d mb n : Nat} {rv : Value} {x : Ab} {m : Int} {k : Nat} (h : PrgK B w d mb n rv x m k) (hk : k < 2199023255552) :
    Calls Tryz.prog 41 #[.pointer (some ⟨d, 0, none⟩)] w fun e' w' => e' = .returned (.bool (mayJ x)) ∧ Below w.heap.size w w' := by
  have hfl : (filesD x.D).length ≤ k := Nat.le_trans (files_facts h.disk.own).2.1 h.lf
  have hll : (listT x.D jn).length ≤ k := Nat.le_trans (list_len (D := x.D) jn) hfl
  have HN := hide3 (list_sizes h.fine.pl jn)
  have HL : Hid (Calls Tryz.prog 80 #[.pointer (some ⟨d, 0, none⟩), .string ⟨#[47, 106, 111, 117, 114, 110, 97, 108]⟩] w fun e' w' => ∃ ao cap, e' = .returned (.tuple #[.slice ao (listT x.D jn).length cap, .int .i64 (listE x.D jn)]) ∧ w'.ownsRow w.heap.size 9 1 (.slice ao (listT x.D jn).length cap) (listT x.D jn).length ((listT x.D jn).map encStr) ∧ Below w.heap.size w w') := List_any h.disk jn m h.max (by decide) (by have := h.lf; omega)
  have HKI : Hid (∀ W, Below w.heap.size w W → ∀ s : ByteArray, s.size ≤ maxLen → Calls Tryz.prog 22 #[.pointer (some ⟨d, 0, none⟩), .string s] W fun e' w' => e' = .returned (.int .i64 (kindD x.D s)) ∧ Below W.heap.size W w') := fun W hb s hs => pKind (h.below hb) s hs
  have HMJ : Hid (mayJ x = ((listE x.D jn == 0) && !((listT x.D jn).any (badL x.D)))) := rfl
  clear h hfl
  generalize mayJ x = G at *
  generalize listE x.D jn = le at *
  generalize listT x.D jn = L at *
  cases hle : (le == 0)
  · have hle2 : (le != 0) = true := by unfold bne; rw [hle]; rfl
    rw [hle, Bool.false_and] at HMJ
    rw [HMJ.out]
    clear HMJ HKI HN
    go_enter Tryz.func41, Tryz.ntmps41
    go_wp2_with (go_at_call 80; refine HL.out.mono ?_; intro e1 w1 hq; obtain ⟨ao, cap, rfl, hrow, hb1⟩ := hq; have HB1 := hide3 hb1; clear hb1 hrow)
    go_ret
    exact ⟨rfl, HB1.out⟩
  · have hle2 : (le != 0) = false := by unfold bne; rw [hle]; rfl
    rw [hle, Bool.true_and] at HMJ
    clear hle
    go_enter Tryz.func41, Tryz.ntmps41
    go_wp2_with (go_at_call 80; refine HL.out.mono ?_; intro e1 w1 hq; obtain ⟨ao, cap, rfl, hrow, hb1⟩ := hq; have HB1 := hide3 hb1; have HRW := hide3 hrow; clear hb1 hrow)
    clear HL
    go_loopw [17] (fun v17 wr => ∃ i : Nat, i ≤ L.length ∧ v17 = .int .i64 i ∧ Below w1.heap.size w1 wr ∧ (L.take i).any (badL x.D) = false) (fun v17 _ => L.length - (intOf v17).toNat)
    case atStart => exact ⟨0, Nat.zero_le _, rfl, Below.refl _ _, rfl⟩
    case round =>
      obtain ⟨i, hi, rfl, hbr, ha⟩ := hrel
      have HBR := hide3 hbr
      have HBW : Hid (Below w.heap.size w wr) := HB1.out.trans (hbr.mono HB1.out.size)
      have HA := hide3 ha
      clear ha hbr
      by_cases hlt : i < L.length
      · obtain ⟨g, rfl⟩ := row_shape HRW.out (by omega)
        have hg := (row_lt HRW.out (k := g) rfl).1
        have hce : wr.cell? ⟨g, i, none⟩ = some (.string ⟨L[i].toArray⟩) := (HBR.out.cell (p := ⟨g, i, none⟩) hg).trans (row_cells HRW.out i _ (by rw [List.getElem?_map, List.getElem?_eq_getElem hlt]; rfl))
        have hsz : (⟨L[i].toArray⟩ : ByteArray).size ≤ 4096 := HN.out _ (List.getElem_mem hlt)
        have HTK := hide3 (any_take hlt HA.out)
        have HAN : Hid (badL x.D L[i] = true → L.any (badL x.D) = true) := any_of_take hlt
        have HBD : Hid (badL x.D L[i] = badN x.D ⟨L[i].toArray⟩) := rfl
        rw [HBD.out] at HTK HAN
        clear HBD HA
        generalize (⟨L[i].toArray⟩ : ByteArray) = nb at *
        have hii : (i : Int) < (L.length : Int) := by omega
        have hi0 : (0 : Int) ≤ (i : Int) := by omega
        have e1 := fun W : World => run_string_add_sum (P := Tryz.prog) (w := W) ⟨#[47, 106, 111, 117, 114, 110, 97, 108, 47]⟩ nb (by have : (⟨#[47, 106, 111, 117, 114, 110, 97, 108, 47]⟩ : ByteArray).size = 9 := rfl
                                                                                                                                      omega)
        have HKN : Hid (Calls Tryz.prog 22 #[.pointer (some ⟨d, 0, none⟩), .string ((⟨#[47, 106, 111, 117, 114, 110, 97, 108, 47]⟩ : ByteArray) ++ nb)] wr fun e' w' => e' = .returned (.int .i64 (kindD x.D (jS ++ nb))) ∧ Below wr.heap.size wr w') := HKI.out wr HBW.out (jS ++ nb) (by
          rw [ByteArray.size_append]
          have : jS.size = 9 := rfl
          unfold maxLen
          omega)
        obtain ⟨j1, j2⟩ := jS_app nb
        have HBN : Hid (badN x.D nb = ((!((jS ++ nb).toList == [47, 106, 111, 117, 114, 110, 97, 108, 47, 112, 108, 97, 110]) && !((jS ++ nb).toList == [47, 106, 111, 117, 114, 110, 97, 108, 47, 112, 108, 97, 110, 46, 110, 101, 119])) || kindD x.D (jS ++ nb) != 1)) := by
          rw [j1, j2]
          rfl
        clear j1 j2 hsz HKI HN
        rw [show (⟨#[47, 106, 111, 117, 114, 110, 97, 108, 47]⟩ : ByteArray) = jS from rfl] at e1 HKN
        generalize badN x.D nb = bn at *
        generalize kindD x.D (jS ++ nb) = kn at *
        generalize jS ++ nb = pb at *
        rw [show jS = (⟨#[47, 106, 111, 117, 114, 110, 97, 108, 47]⟩ : ByteArray) from rfl] at e1
        cases hq1 : (pb.toList == [47, 106, 111, 117, 114, 110, 97, 108, 47, 112, 108, 97, 110])
        · cases hq2 : (pb.toList == [47, 106, 111, 117, 114, 110, 97, 108, 47, 112, 108, 97, 110, 46, 110, 101, 119])
          · rw [hq1, hq2] at HBN
            rw [HAN.out (by rw [HBN.out]; rfl)] at HMJ
            clear HKN HTK HAN HBN
            go_wp2_with fail
            go_ret
            rw [HMJ.out]
            exact ⟨rfl, HBW.out⟩
          · rw [hq1, hq2] at HBN
            cases hkn : (kn != 1)
            · have HBF : Hid (bn = false) := by unfold Hid; rw [HBN.out, hkn]; rfl
              clear HBN HAN HMJ
              go_wp2_with (go_at_call 22; refine HKN.out.mono ?_; rintro e2 w2 ⟨rfl, hb2⟩; have HB2 := hide3 hb2; clear hb2)
              exact ⟨⟨i + 1, by omega, by go_num, HBR.out.trans (HB2.out.mono HBR.out.size), by rw [HTK.out, HBF.out]⟩, by simp [intOf]; omega⟩
            · rw [HAN.out (by rw [HBN.out, hkn]; rfl)] at HMJ
              go_wp2_with (go_at_call 22; refine HKN.out.mono ?_; rintro e2 w2 ⟨rfl, hb2⟩; have HB2 := hide3 hb2; clear hb2)
              go_ret
              rw [HMJ.out]
              exact ⟨rfl, HBW.out.trans (HB2.out.mono HBW.out.size)⟩
        · rw [hq1] at HBN
          cases hkn : (kn != 1)
          · have HBF : Hid (bn = false) := by unfold Hid; rw [HBN.out, hkn]; rfl
            clear HBN HAN HMJ
            go_wp2_with (go_at_call 22; refine HKN.out.mono ?_; rintro e2 w2 ⟨rfl, hb2⟩; have HB2 := hide3 hb2; clear hb2)
            exact ⟨⟨i + 1, by omega, by go_num, HBR.out.trans (HB2.out.mono HBR.out.size), by rw [HTK.out, HBF.out]⟩, by simp [intOf]; omega⟩
          · rw [HAN.out (by rw [HBN.out, hkn]; rfl)] at HMJ
            go_wp2_with (go_at_call 22; refine HKN.out.mono ?_; rintro e2 w2 ⟨rfl, hb2⟩; have HB2 := hide3 hb2; clear hb2)
            go_ret
            rw [HMJ.out]
            exact ⟨rfl, HBW.out.trans (HB2.out.mono HBW.out.size)⟩
      · obtain rfl : i = L.length := by omega
        have hii : ¬ ((L.length : Int) < (L.length : Int)) := by omega
        rw [List.take_length] at HA
        rw [HA.out] at HMJ
        go_wp2_with fail
        go_ret
        rw [HMJ.out]
        exact ⟨rfl, HBW.out⟩
/-- What read reads. -/
noncomputable def readJ (x : Ab) : Int × List De := if (readE x.D pP == 12) = true then (0, []) else if ((parO (readT x.D pP)).1 != 0) = true then (44, []) else parO (readT x.D pP)

set_option maxHeartbeats 4000000 in
theorem read_P {B : Nat} {w : World} {d mb n : Nat} {rv : Value} {x : Ab} {m : Int} {k : Nat} (h : PrgK B w d mb n rv x m k) (ht : (readT x.D pP).size ≤ 4194304) :
    Calls Tryz.prog 42 #[.pointer (some ⟨d, 0, none⟩)] w (ParQ w (readJ x)) := by
  have HRD : Hid (Calls Tryz.prog 27 #[.pointer (some ⟨d, 0, none⟩), .string ⟨#[47, 106, 111, 117, 114, 110, 97, 108, 47, 112, 108, 97, 110]⟩] w fun e' w' => e' = .returned (.tuple #[.string (readT x.D pP), .int .i64 (readE x.D pP)]) ∧ Below w.heap.size w w') := Read_any h.disk pP m h.max (by decide)
  have HPA : Hid (∀ W, Below w.heap.size w W → Calls Tryz.prog 81 #[.string (readT x.D pP)] W (ParQ W (parO (readT x.D pP)))) := fun W hb => Parse_any _ ht m W ((hb.cell (p := ⟨0, 0, none⟩) (cell_lt h.max)).trans h.max)
  have HRJ : Hid (readJ x = (if (readE x.D pP == 12) = true then (0, []) else if ((parO (readT x.D pP)).1 != 0) = true then (44, []) else parO (readT x.D pP))) := rfl
  have HNO := hide3 (fun w' c hc hb => ParQ.no w w' (readJ x) c hc hb)
  clear h ht
  generalize readJ x = G at *
  generalize readE x.D pP = re at *
  generalize parO (readT x.D pP) = PO at *
  generalize readT x.D pP = T at *
  cases hre : (re == 12)
  · rw [hre, if_neg (by decide)] at HRJ
    cases hpo : (PO.1 != 0)
    · rw [hpo, if_neg (by decide)] at HRJ
      rw [HRJ.out]
      clear HRJ HNO
      go_enter Tryz.func42, Tryz.ntmps42
      go_wp2_with (first
        | (go_at_call 81; have _t := HB1; refine (HPA.out _ HB1.out).mono ?_; intro e3 w3 hq; obtain ⟨v, rfl, hod, hb3⟩ := hq; obtain ⟨a3, c3, rfl, _⟩ := hod.isDes; have HB3 := hide3 (HB1.out.trans (hb3.mono HB1.out.size)); have HOD := hide3 (hod.low HB1.out.size); clear hb3 hod)
        | (go_at_call 27; refine HRD.out.mono ?_; rintro e1 w1 ⟨rfl, hb1⟩; have HB1 := hide3 hb1; clear hb1))
      go_ret2
      have hp0 : PO.1 = 0 := bne_eq_false_iff_eq.1 hpo
      exact ⟨.slice a3 PO.2.length c3, by rw [hp0]; rfl, HOD.out, HB3.out⟩
    · rw [hpo, if_pos rfl] at HRJ
      have HN2 := hide3 (fun w' hb => HNO.out w' 44 HRJ.out hb)
      clear HRJ HNO
      go_enter Tryz.func42, Tryz.ntmps42
      go_wp2_with (first
        | (go_at_call 81; have _t := HB1; refine (HPA.out _ HB1.out).mono ?_; intro e3 w3 hq; obtain ⟨v, rfl, hod, hb3⟩ := hq; obtain ⟨a3, c3, rfl, _⟩ := hod.isDes; have HB3 := hide3 (HB1.out.trans (hb3.mono HB1.out.size)); clear hb3 hod)
        | (go_at_call 27; refine HRD.out.mono ?_; rintro e1 w1 ⟨rfl, hb1⟩; have HB1 := hide3 hb1; clear hb1))
      go_ret2
      exact HN2.out _ HB3.out
  · rw [hre, if_pos rfl] at HRJ
    have HN2 := hide3 (fun w' hb => HNO.out w' 0 HRJ.out hb)
    clear HRJ HNO HPA
    go_enter Tryz.func42, Tryz.ntmps42
    go_wp2_with (go_at_call 27; refine HRD.out.mono ?_; rintro e1 w1 ⟨rfl, hb1⟩; have HB1 := hide3 hb1; clear hb1)
    go_ret2
    exact HN2.out _ HB1.out

set_option maxHeartbeats 8000000 in
theorem rec_P {B : Nat} {w : World} {d mb n : Nat} {rv : Value} {x : Ab} {m : Int} {k : Nat} (h : PrgK B w d mb n rv x m k) (ht : (readT x.D pP).size ≤ 4194304) (hk : k + (parO (readT x.D pP)).2.length + 4 < 2199023255552) :
    Calls Tryz.prog 17 #[.pointer (some ⟨d, 0, none⟩)] w fun e' w' => e' = .returned (.int .i64 (recA x).1) ∧ PrgT B w d mb rv (recA x).2 m (k + (parO (readT x.D pP)).2.length + 3) w' := by
  have hps := parO_sizes (readT x.D pP)
  have HDN : Hid (Calls Tryz.prog 28 #[.pointer (some ⟨d, 0, none⟩)] w fun e w' => e = .returned (.bool (x.left == 0)) ∧ w' = w) := Down_any h.disk
  have HK : Hid (Calls Tryz.prog 22 #[.pointer (some ⟨d, 0, none⟩), .string ⟨#[47, 106, 111, 117, 114, 110, 97, 108]⟩] w fun e' w' => e' = .returned (.int .i64 (kindD x.D jn)) ∧ Below w.heap.size w w') := pKind h jn (by decide)
  have HMJ : Hid (∀ W, Below w.heap.size w W → Calls Tryz.prog 41 #[.pointer (some ⟨d, 0, none⟩)] W fun e' w' => e' = .returned (.bool (mayJ x)) ∧ Below W.heap.size W w') := fun W hb => mayJ_P (h.below hb) (by omega)
  have HRJ : Hid (∀ W, Below w.heap.size w W → Calls Tryz.prog 42 #[.pointer (some ⟨d, 0, none⟩)] W (ParQ W (readJ x))) := fun W hb => read_P (h.below hb) ht
  have hrl : (readJ x).2 = [] ∨ readJ x = parO (readT x.D pP) := by
    unfold readJ
    split
    · exact Or.inl rfl
    · split
      · exact Or.inl rfl
      · exact Or.inr rfl
  have hrs : (readJ x).2.length ≤ (parO (readT x.D pP)).2.length ∧ ∀ d ∈ (readJ x).2, d.pa.size ≤ maxLen ∧ d.da.size ≤ maxLen := by
    rcases hrl with e | e
    · rw [e]; exact ⟨Nat.zero_le _, fun _ q => by cases q⟩
    · rw [e]; exact ⟨Nat.le_refl _, fun d q => ⟨Nat.le_trans (hps.2 d q).1 (Nat.le_trans ht (by decide)), Nat.le_trans (hps.2 d q).2 (Nat.le_trans ht (by decide))⟩⟩
  have HFN : Hid (∀ W a cap, Below w.heap.size w W → OwnDe W w.heap.size (.slice a (readJ x).2.length cap) (readJ x).2 → Calls Tryz.prog 31 #[.pointer (some ⟨d, 0, none⟩), .slice a (readJ x).2.length cap] W fun e' w' => e' = .returned (.int .i64 (finA (readJ x).2 x).1) ∧ PrgT B w d mb rv (finA (readJ x).2 x).2 m (k + (parO (readT x.D pP)).2.length + 3) w') := fun W a cap hb ho =>
    (fin_P (h.below hb) _ a cap (ho.stay fun j q => (h.disk.foot_lt q).1) hrs.2 (by have := hrs.1; omega)).mono fun _ _ q => ⟨q.1, (q.2.pre hb).more (by have := hrs.1; omega)⟩
  have HSM : Hid (∀ W, Below w.heap.size w W → PrgT B w d mb rv x m (k + (parO (readT x.D pP)).2.length + 3) W) := fun W hb => (h.away hb).more (by omega)
  -- what it comes to
  have HG : Hid (recA x = (if (x.left == 0) = true then (15, x) else if (kindD x.D jn == 0) = true then (0, x) else if mayJ x = false then (44, x) else if ((readJ x).1 != 0) = true then ((readJ x).1, x) else finA (readJ x).2 x)) := by
    unfold Hid recA
    by_cases h0 : (x.left == 0) = true
    · rw [if_pos h0, if_pos h0]
    · rw [if_neg h0, if_neg h0]
      rcases kind_cases x.D jn with hj | hj | hj
      · rw [hj, if_pos (show ((0 : Int) == 0) = true from rfl), if_pos (show ((0 : Int) == 0) = true from rfl)]
      · have hm : mayJ x = false := by
          unfold mayJ listE
          rw [if_pos (show pathB jn = true by decide +kernel), hj]
          rfl
        rw [hj, hm, if_neg (show ¬ ((1 : Int) == 0) = true by decide), if_neg (show ¬ ((1 : Int) == 0) = true by decide), if_pos (show ((1 : Int) == 1) = true from rfl), if_pos rfl]
      · have hm : mayJ x = !((listT x.D jn).any (badL x.D)) := by
          unfold mayJ listE
          rw [if_pos (show pathB jn = true by decide +kernel), hj]
          rfl
        rw [hm, if_neg (show ¬ (kindD x.D jn == 0) = true by rw [hj]; decide), if_neg (show ¬ (kindD x.D jn == 0) = true by rw [hj]; decide), if_neg (show ¬ (kindD x.D jn == 1) = true by rw [hj]; decide)]
        cases hb : (listT x.D jn).any (badL x.D)
        · rw [if_neg (show ¬ false = true by decide), if_neg (show ¬ (!false) = false by decide)]
          have kP := list_kind h.fine hj hb pP_ok pP_par pP_nam
          have kN := list_kind h.fine hj hb pN_ok pN_par pN_nam
          have hN2 : kindD x.D pN ≠ 2 := by omega
          have hpb : pathB pP = true := by decide +kernel
          rcases kP with kP | kP
          · have hrj : readJ x = (0, []) := by
              unfold readJ readE
              rw [if_pos hpb, kP]
              rfl
            rw [kP, if_pos (show ((0 : Int) == 0) = true from rfl), hrj, if_neg (show ¬ ((0 : Int) != 0) = true by decide)]
            exact (fin_gone hj kP hN2).symm
          · have he : readE x.D pP = 0 := by
              unfold readE
              rw [if_pos hpb, kP]
              rfl
            have hrj : readJ x = if ((parO (readT x.D pP)).1 != 0) = true then (44, []) else parO (readT x.D pP) := by
              unfold readJ
              rw [he]
              rfl
            rw [kP, if_neg (show ¬ ((1 : Int) == 0) = true by decide), hrj]
            cases hpo : ((parO (readT x.D pP)).1 != 0)
            · rw [if_neg (show ¬ false = true by decide), if_neg (show ¬ false = true by decide), hpo, if_neg (show ¬ false = true by decide)]
              have h0 : (parO (readT x.D pP)).1 = 0 := bne_eq_false_iff_eq.1 hpo
              have hpl : Plan (parO (readT x.D pP)).2 := (parO_ok (t := readT x.D pP) (l := (parO (readT x.D pP)).2) (by rw [← h0])).1
              exact (fin_end hpl hj (by rw [kP]; decide) hN2).symm
            · rfl
        · rfl
  clear h ht hk hps hrl hrs
  generalize recA x = G at *
  generalize finA (readJ x).2 x = G4 at *
  generalize k + (parO (readT x.D pP)).2.length + 3 = k3 at *
  generalize readJ x = PO at *
  generalize mayJ x = mj at *
  generalize kindD x.D jn = kk at *
  cases hl0 : (x.left == 0)
  · rw [hl0, if_neg (by decide)] at HG
    rw [hl0] at HDN
    cases hk0 : (kk == 0)
    · rw [hk0, if_neg (by decide)] at HG
      cases mj
      · rw [if_pos rfl] at HG
        rw [HG.out]
        clear HG HRJ HFN
        go_enter Tryz.func17, Tryz.ntmps17
        go_wp2_with (first
          | (go_at_call 41; have _t := HB1; refine (HMJ.out _ HB1.out).mono ?_; rintro e2 w2 ⟨rfl, hb2⟩; have HB2 := hide3 (HB1.out.trans (hb2.mono HB1.out.size)); clear hb2)
          | (go_at_call 22; refine HK.out.mono ?_; rintro e1 w1 ⟨rfl, hb1⟩; have HB1 := hide3 hb1; clear hb1)
          | (go_at_call 28; refine HDN.out.mono ?_; rintro e0 w0 ⟨rfl, rfl⟩))
        go_ret
        exact ⟨rfl, HSM.out _ HB2.out⟩
      · rw [if_neg (by decide)] at HG
        obtain ⟨c, ds⟩ := PO
        simp only at HG HFN
        cases hc : (c != 0)
        · rw [hc, if_neg (by decide)] at HG
          rw [HG.out]
          clear HG
          go_enter Tryz.func17, Tryz.ntmps17
          go_wp2_with (first
            | (go_at_call 31; have _t := HB3; refine (HFN.out _ _ _ HB3.out HOD.out).mono ?_; rintro e6 w6 ⟨rfl, ht6⟩; have HT6 := hide3 ht6; clear ht6)
            | (go_at_call 42; have _t := HB2; refine (HRJ.out _ HB2.out).mono ?_; intro e3 w3 hq; obtain ⟨v, rfl, hod, hb3⟩ := hq; obtain ⟨a3, c3, rfl, _⟩ := hod.isDes; have HB3 := hide3 (HB2.out.trans (hb3.mono HB2.out.size)); have HOD := hide3 (hod.low HB2.out.size); clear hb3 hod)
            | (go_at_call 41; have _t := HB1; refine (HMJ.out _ HB1.out).mono ?_; rintro e2 w2 ⟨rfl, hb2⟩; have HB2 := hide3 (HB1.out.trans (hb2.mono HB1.out.size)); clear hb2)
            | (go_at_call 22; refine HK.out.mono ?_; rintro e1 w1 ⟨rfl, hb1⟩; have HB1 := hide3 hb1; clear hb1)
            | (go_at_call 28; refine HDN.out.mono ?_; rintro e0 w0 ⟨rfl, rfl⟩))
          go_ret
          exact ⟨rfl, HT6.out⟩
        · rw [hc, if_pos rfl] at HG
          rw [HG.out]
          clear HG HFN
          go_enter Tryz.func17, Tryz.ntmps17
          go_wp2_with (first
            | (go_at_call 42; have _t := HB2; refine (HRJ.out _ HB2.out).mono ?_; intro e3 w3 hq; obtain ⟨v, rfl, hod, hb3⟩ := hq; obtain ⟨a3, c3, rfl, _⟩ := hod.isDes; have HB3 := hide3 (HB2.out.trans (hb3.mono HB2.out.size)); clear hb3 hod)
            | (go_at_call 41; have _t := HB1; refine (HMJ.out _ HB1.out).mono ?_; rintro e2 w2 ⟨rfl, hb2⟩; have HB2 := hide3 (HB1.out.trans (hb2.mono HB1.out.size)); clear hb2)
            | (go_at_call 22; refine HK.out.mono ?_; rintro e1 w1 ⟨rfl, hb1⟩; have HB1 := hide3 hb1; clear hb1)
            | (go_at_call 28; refine HDN.out.mono ?_; rintro e0 w0 ⟨rfl, rfl⟩))
          go_ret
          exact ⟨rfl, HSM.out _ HB3.out⟩
    · rw [hk0, if_pos rfl] at HG
      rw [HG.out]
      clear HG HRJ HFN HMJ
      go_enter Tryz.func17, Tryz.ntmps17
      go_wp2_with (first
        | (go_at_call 22; refine HK.out.mono ?_; rintro e1 w1 ⟨rfl, hb1⟩; have HB1 := hide3 hb1; clear hb1)
        | (go_at_call 28; refine HDN.out.mono ?_; rintro e0 w0 ⟨rfl, rfl⟩))
      go_ret
      exact ⟨rfl, HSM.out _ HB1.out⟩
  · rw [hl0, if_pos rfl] at HG
    rw [hl0] at HDN
    rw [HG.out]
    clear HG HRJ HFN HMJ HK
    go_enter Tryz.func17, Tryz.ntmps17
    go_wp2_with (go_at_call 28; refine HDN.out.mono ?_; rintro e0 w0 ⟨rfl, rfl⟩)
    go_ret
    exact ⟨rfl, HSM.out _ (Below.refl _ _)⟩
theorem rec_nil (w : World) : Calls Tryz.prog 17 #[.pointer none] w fun e' w' => e' = .returned (.int .i64 1) ∧ w' = w := by
  go_enter Tryz.func17, Tryz.ntmps17
  go_wp2_with fail
  go_ret
  exact ⟨rfl, rfl⟩
end Go.Proofs.YtpaoimhebheaeaaGreatDoor
