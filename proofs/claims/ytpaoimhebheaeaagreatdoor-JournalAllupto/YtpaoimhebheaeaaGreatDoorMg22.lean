/- Jr8, Jr9, Jq1, laid in one text. -/
import Derived.Test.YtpaoimhebheaeaaGreatDoorMg21
namespace Go.Proofs.YtpaoimhebheaeaaGreatDoor
open Go.RowKit Go.Maps Go.WideMaps Go.WideElems Dk
set_option maxRecDepth 100000

/-- Something in the journal that doesn't belong there. -/
def badN (D : DataW Unit) (n : ByteArray) : Bool := (!(n.toList == [112, 108, 97, 110]) && !(n.toList == [112, 108, 97, 110, 46, 110, 101, 119])) || kindD D (jS ++ n) != 1
/-- The same, for a name of a list. -/
def badL (D : DataW Unit) (n : List UInt8) : Bool := badN D ⟨n.toArray⟩
/-- Recover. -/
noncomputable def recA (x : Ab) : Int × Ab :=
  if (x.left == 0) = true then (15, x)
  else if (kindD x.D jn == 0) = true then (0, x)
  else if (kindD x.D jn == 1) = true then (44, x)
  else if (listT x.D jn).any (badL x.D) = true then (44, x)
  else if (kindD x.D pP == 0) = true then goneA x
  else if ((parO (readT x.D pP)).1 != 0) = true then (44, x)
  else endA (parO (readT x.D pP)).2 x

theorem any_take {α : Type} {p : α → Bool} {l : List α} {i : Nat} (hi : i < l.length) (h : (l.take i).any p = false) : (l.take (i + 1)).any p = p l[i] := by
  rw [List.take_succ_eq_append_getElem hi, List.any_append, h, List.any_cons, List.any_nil, Bool.false_or, Bool.or_false]
theorem any_of_take {α : Type} {p : α → Bool} {l : List α} {i : Nat} (hi : i < l.length) (h : p l[i] = true) : l.any p = true := List.any_eq_true.2 ⟨l[i], List.getElem_mem hi, h⟩

/-- Deeds that were made after the disk stay where they are. -/
theorem OwnDe.stay {B0 : Nat} {F : Nat → Prop} {w : World} {a : Option Addr} {n cap : Nat} {l : List De} (h : OwnDe w B0 (.slice a n cap) l) (hF : ∀ k, F k → k < B0) : ∀ W, Upd F w W → IsDes W a l := fun W hu => by
  have h2 : OwnDe W B0 (.slice a n cap) l := ownsRow_upd h hu fun k hk q => by
    have := (row_lt h hk).2
    have := hF k q
    omega
  obtain ⟨a2, cap2, he, hd2⟩ := h2.isDes
  cases he
  exact hd2

theorem OwnDe.low {w : World} {B B' : Nat} {v : Value} {l : List De} (h : OwnDe w B v l) (hb : B' ≤ B) : OwnDe w B' v l :=
  ⟨h.1, h.2.imp id fun ⟨g, cap, cur, h1, h2, h3⟩ => ⟨g, cap, cur, h1, Nat.le_trans hb h2, h3⟩⟩

set_option maxHeartbeats 16000000 in
theorem rec_K {B : Nat} {w : World} {e : Nat} {lv rv : Value} {x : Ab} {k : Nat} (h : RefK B w e lv rv x k) (hn : ∀ n ∈ listT x.D jn, n.length ≤ 1000000000000) (ht : (readT x.D pP).size ≤ 4194304) (hz : ∀ d ∈ (parO (readT x.D pP)).2, d.pa.size ≤ maxLen) (hk : k + (parO (readT x.D pP)).2.length + 4 < 2199023255552) (hll : (listT x.D jn).length < 2199023255552) :
    Calls Tryz.prog 18 #[.pointer (some ⟨e, 0, none⟩)] w fun e' w' => e' = .returned (.int .i64 (recA x).1) ∧ RefT B w e lv rv (recA x).2 (k + (parO (readT x.D pP)).2.length + 3) w' := by
  have hc2 := h.ref.c2
  have HK : Hid (Calls Tryz.prog 32 #[.pointer (some ⟨e, 0, none⟩), .string ⟨#[47, 106, 111, 117, 114, 110, 97, 108]⟩] w fun e' w' => e' = .returned (.int .i64 (kindD x.D jn)) ∧ w' = w) := rKind_any h.ref h.fine.pl.good jn (by have := h.lf; omega)
  have HRF : Hid (∀ W, Below w.heap.size w W → RefK B W e lv rv x k) := fun W hb => ⟨h.ref.below hb, h.fine, h.lf, h.lr, Nat.le_trans h.base hb.size⟩
  have HB0 : Hid (∀ W, Below w.heap.size w W → RefT B w e lv rv x k W) := fun W hb => ⟨lv, rv, HRF.out W hb, Upd.of_below hb, fun _ q => Or.inl q⟩
  have HKP : Hid (∀ W, Below w.heap.size w W → Calls Tryz.prog 32 #[.pointer (some ⟨e, 0, none⟩), .string ⟨#[47, 106, 111, 117, 114, 110, 97, 108, 47, 112, 108, 97, 110]⟩] W fun e' w' => e' = .returned (.int .i64 (kindD x.D pP)) ∧ w' = W) := fun W hb => rKind_any (HRF.out W hb).ref h.fine.pl.good pP (by have := h.lf; omega)
  have HKI : Hid (∀ W, Below w.heap.size w W → ∀ s : ByteArray, Calls Tryz.prog 32 #[.pointer (some ⟨e, 0, none⟩), .string s] W fun e' w' => e' = .returned (.int .i64 (kindD x.D s)) ∧ w' = W) := fun W hb s => rKind_any (HRF.out W hb).ref h.fine.pl.good s (by have := h.lf; omega)
  have HL : Hid (Calls Tryz.prog 43 #[.pointer (some ⟨e, 0, none⟩), .string ⟨#[47, 106, 111, 117, 114, 110, 97, 108]⟩] w fun e' w' => ∃ ao cap, e' = .returned (.tuple #[.slice ao (listT x.D jn).length cap, .int .i64 (listE x.D jn)]) ∧
      w'.ownsRow w.heap.size 9 1 (.slice ao (listT x.D jn).length cap) (listT x.D jn).length ((listT x.D jn).map encStr) ∧ Below w.heap.size w w') := rList_any h.ref h.fine.pl jn (by decide) (by have := h.lf; omega)
  have HRD : Hid (∀ W, Below w.heap.size w W → Calls Tryz.prog 45 #[.pointer (some ⟨e, 0, none⟩), .string ⟨#[47, 106, 111, 117, 114, 110, 97, 108, 47, 112, 108, 97, 110]⟩] W fun e' w' => e' = .returned (.tuple #[.string (readT x.D pP), .int .i64 (readE x.D pP)]) ∧ Below W.heap.size W w') := fun W hb => rRead_any (HRF.out W hb).ref h.fine.pl.good pP (by decide) (by have := h.lf; omega)
  have HPA : Hid (∀ W, Calls Tryz.prog 46 #[.string (readT x.D pP)] W (ParQ W (parO (readT x.D pP)))) := fun W => rParse17 _ ht W
  have HGO : Hid (∀ W, Below w.heap.size w W → Calls Tryz.prog 44 #[.pointer (some ⟨e, 0, none⟩)] W fun e' w' => e' = .returned (.int .i64 (goneA x).1) ∧ RefT B w e lv rv (goneA x).2 (k + (parO (readT x.D pP)).2.length + 3) w') := fun W hb => (HB0.out W hb).call fun lv1 rv1 hr => (gone_K hr (by omega)).mono fun _ _ q => ⟨q.1, q.2.more (by omega)⟩
  have HEN : Hid (∀ W a cap, Below w.heap.size w W → OwnDe W w.heap.size (.slice a (parO (readT x.D pP)).2.length cap) (parO (readT x.D pP)).2 → Calls Tryz.prog 38 #[.pointer (some ⟨e, 0, none⟩), .slice a (parO (readT x.D pP)).2.length cap] W fun e' w' => e' = .returned (.int .i64 (endA (parO (readT x.D pP)).2 x).1) ∧ RefT B w e lv rv (endA (parO (readT x.D pP)).2 x).2 (k + (parO (readT x.D pP)).2.length + 3) w') := fun W a cap hb ho =>
    (end_K (HRF.out W hb) _ a cap (ho.stay fun j q => (h.ref.foot_lt q).1) hz hk).mono fun _ _ q => ⟨q.1, q.2.step (Upd.of_below hb) fun _ q => Or.inl q⟩
  have HSM : Hid (∀ W, Below w.heap.size w W → RefT B w e lv rv x (k + (parO (readT x.D pP)).2.length + 3) W) := fun W hb => (HB0.out W hb).more (by omega)
  have HRA : Hid (recA x = (if (x.left == 0) = true then (15, x)
  else if (kindD x.D jn == 0) = true then (0, x)
  else if (kindD x.D jn == 1) = true then (44, x)
  else if (listT x.D jn).any (badL x.D) = true then (44, x)
  else if (kindD x.D pP == 0) = true then goneA x
  else if ((parO (readT x.D pP)).1 != 0) = true then (44, x)
  else endA (parO (readT x.D pP)).2 x)) := rfl
  have HN := hide3 hn
  clear h hn ht hz hk HRF HB0
  generalize recA x = G at *
  generalize endA (parO (readT x.D pP)).2 x = G4 at *
  generalize goneA x = G3 at *
  generalize k + (parO (readT x.D pP)).2.length + 3 = k3 at *
  generalize parO (readT x.D pP) = PO at *
  generalize readT x.D pP = T at *
  generalize kindD x.D pP = kp at *
  generalize kindD x.D jn = kk at *
  cases hl0 : (x.left == 0)
  · rw [hl0, if_neg (by decide)] at HRA
    cases hk0 : (kk == 0)
    · rw [hk0, if_neg (by decide)] at HRA
      cases hk1 : (kk == 1)
      · rw [hk1, if_neg (by decide)] at HRA
        generalize listT x.D jn = L at *
        go_enter Tryz.func18, Tryz.ntmps18
        go_wp2_with (first
          | (go_at_call 43; refine HL.out.mono ?_; intro e1 w1 hq; obtain ⟨ao, cap, rfl, hrow, hb1⟩ := hq; have HB1 := hide3 hb1; have HRW := hide3 hrow; clear hb1 hrow)
          | (go_at_call 32; refine HK.out.mono ?_; rintro e0 w0 ⟨rfl, rfl⟩))
        clear HK HL
        go_loopw [6] (fun v5 wr => ∃ i : Nat, i ≤ L.length ∧ v5 = .int .i64 i ∧ wr = w1 ∧ (L.take i).any (badL x.D) = false) (fun v5 _ => L.length - (intOf v5).toNat)
        case atStart => exact ⟨0, Nat.zero_le _, rfl, rfl, rfl⟩
        case round =>
          obtain ⟨i, hi, rfl, rfl, ha⟩ := hrel
          have HA := hide3 ha
          clear ha
          by_cases hlt : i < L.length
          · obtain ⟨g, rfl⟩ := row_shape HRW.out (by omega)
            have hce : wr.cell? ⟨g, i, none⟩ = some (.string ⟨L[i].toArray⟩) := row_cells HRW.out i _ (by rw [List.getElem?_map, List.getElem?_eq_getElem hlt]; rfl)
            have hsz : (⟨L[i].toArray⟩ : ByteArray).size ≤ 1000000000000 := HN.out _ (List.getElem_mem hlt)
            have HTK := hide3 (any_take hlt HA.out)
            have HAN : Hid (badL x.D L[i] = true → L.any (badL x.D) = true) := any_of_take hlt
            have HBD : Hid (badL x.D L[i] = badN x.D ⟨L[i].toArray⟩) := rfl
            rw [HBD.out] at HTK HAN
            clear HBD HA
            generalize (⟨L[i].toArray⟩ : ByteArray) = nb at *
            have hii : (i : Int) < (L.length : Int) := by omega
            have hi0 : (0 : Int) ≤ (i : Int) := by omega
            have e1 := fun W : World => run_string_add_sum (P := Tryz.prog) (w := W) ⟨#[47, 106, 111, 117, 114, 110, 97, 108, 47]⟩ nb (by have : (⟨#[47, 106, 111, 117, 114, 110, 97, 108, 47]⟩ : ByteArray).size = 9 := rfl
                                                                                                                                          omega)
            have HKN : Hid (Calls Tryz.prog 32 #[.pointer (some ⟨e, 0, none⟩), .string ((⟨#[47, 106, 111, 117, 114, 110, 97, 108, 47]⟩ : ByteArray) ++ nb)] wr fun e' w' => e' = .returned (.int .i64 (kindD x.D (jS ++ nb))) ∧ w' = wr) := HKI.out wr HB1.out (jS ++ nb)
            have HBN : Hid (badN x.D nb = ((!(nb.toList == [112, 108, 97, 110]) && !(nb.toList == [112, 108, 97, 110, 46, 110, 101, 119])) || kindD x.D (jS ++ nb) != 1)) := rfl
            generalize badN x.D nb = bn at *
            generalize kindD x.D (jS ++ nb) = kn at *
            clear HKI HKP HRD HPA HGO HEN hsz
            cases hq1 : (nb.toList == [112, 108, 97, 110])
            · cases hq2 : (nb.toList == [112, 108, 97, 110, 46, 110, 101, 119])
              · rw [hq1, hq2] at HBN
                rw [HAN.out (by rw [HBN.out]; rfl), if_pos rfl] at HRA
                go_wp2_with (go_at_call 32; refine HKN.out.mono ?_; rintro e0 w0 ⟨rfl, rfl⟩)
                go_ret
                rw [HRA.out]
                exact ⟨rfl, HSM.out _ HB1.out⟩
              · rw [hq1, hq2] at HBN
                cases hkn : (kn != 1)
                · have HBF : Hid (bn = false) := by unfold Hid; rw [HBN.out, hkn]; rfl
                  clear HBN HAN HRA
                  go_wp2_with (go_at_call 32; refine HKN.out.mono ?_; rintro e0 w0 ⟨rfl, rfl⟩)
                  exact ⟨⟨i + 1, by omega, by go_num, trivial, by rw [HTK.out, HBF.out]⟩, by simp [intOf]; omega⟩
                · rw [HAN.out (by rw [HBN.out, hkn]; rfl), if_pos rfl] at HRA
                  go_wp2_with (go_at_call 32; refine HKN.out.mono ?_; rintro e0 w0 ⟨rfl, rfl⟩)
                  go_ret
                  rw [HRA.out]
                  exact ⟨rfl, HSM.out _ HB1.out⟩
            · rw [hq1] at HBN
              cases hkn : (kn != 1)
              · have HBF : Hid (bn = false) := by unfold Hid; rw [HBN.out, hkn]; rfl
                clear HBN HAN HRA
                go_wp2_with (go_at_call 32; refine HKN.out.mono ?_; rintro e0 w0 ⟨rfl, rfl⟩)
                exact ⟨⟨i + 1, by omega, by go_num, trivial, by rw [HTK.out, HBF.out]⟩, by simp [intOf]; omega⟩
              · rw [HAN.out (by rw [HBN.out, hkn]; rfl), if_pos rfl] at HRA
                go_wp2_with (go_at_call 32; refine HKN.out.mono ?_; rintro e0 w0 ⟨rfl, rfl⟩)
                go_ret
                rw [HRA.out]
                exact ⟨rfl, HSM.out _ HB1.out⟩
          · obtain rfl : i = L.length := by omega
            have hii : ¬ ((L.length : Int) < (L.length : Int)) := by omega
            rw [List.take_length] at HA
            rw [HA.out, if_neg (by decide)] at HRA
            have HKQ := hide3 (HKP.out wr HB1.out)
            have HGQ := hide3 (HGO.out wr HB1.out)
            have HRQ := hide3 (HRD.out wr HB1.out)
            clear HKI HKP HGO HRD HA
            cases hkp : (kp == 0)
            · rw [hkp, if_neg (by decide)] at HRA
              clear HGQ
              cases hpo : (PO.1 != 0)
              · rw [hpo, if_neg (by decide)] at HRA
                go_wp2_with (first
                  | (go_at_call 38; have _t := HB3; refine (HEN.out _ _ _ HB3.out HOD.out).mono ?_; rintro e6 w6 ⟨rfl, ht6⟩; have HT6 := hide3 ht6; clear ht6)
                  | (go_at_call 46; have _t := HB2; refine (HPA.out _).mono ?_; intro e3 w3 hq; obtain ⟨v, rfl, hod, hb3⟩ := hq; obtain ⟨a3, c3, rfl, _⟩ := hod.isDes; have HB3 := hide3 (HB2.out.trans (hb3.mono HB2.out.size)); have HOD := hide3 (hod.low HB2.out.size); clear hb3 hod)
                  | (go_at_call 45; refine HRQ.out.mono ?_; rintro e2 w2 ⟨rfl, hb2⟩; have HB2 := hide3 (HB1.out.trans (hb2.mono HB1.out.size)); clear hb2)
                  | (go_at_call 32; refine HKQ.out.mono ?_; rintro e0 w0 ⟨rfl, rfl⟩))
                go_ret
                rw [HRA.out]
                exact ⟨rfl, HT6.out⟩
              · rw [hpo, if_pos rfl] at HRA
                clear HEN
                go_wp2_with (first
                  | (go_at_call 46; have _t := HB2; refine (HPA.out _).mono ?_; intro e3 w3 hq; obtain ⟨v, rfl, hod, hb3⟩ := hq; obtain ⟨a3, c3, rfl, _⟩ := hod.isDes; have HB3 := hide3 (HB2.out.trans (hb3.mono HB2.out.size)); clear hb3 hod)
                  | (go_at_call 45; refine HRQ.out.mono ?_; rintro e2 w2 ⟨rfl, hb2⟩; have HB2 := hide3 (HB1.out.trans (hb2.mono HB1.out.size)); clear hb2)
                  | (go_at_call 32; refine HKQ.out.mono ?_; rintro e0 w0 ⟨rfl, rfl⟩))
                go_ret
                rw [HRA.out]
                exact ⟨rfl, HSM.out _ HB3.out⟩
            · rw [hkp, if_pos rfl] at HRA
              clear HRQ HPA HEN
              go_wp2_with (first
                | (go_at_call 44; refine HGQ.out.mono ?_; rintro e6 w6 ⟨rfl, ht6⟩; have HT6 := hide3 ht6; clear ht6)
                | (go_at_call 32; refine HKQ.out.mono ?_; rintro e0 w0 ⟨rfl, rfl⟩))
              go_ret
              rw [HRA.out]
              exact ⟨rfl, HT6.out⟩
      · rw [hk1, if_pos rfl] at HRA
        rw [HRA.out]
        clear HRA HKP HKI HL HRD HPA HGO HEN HN
        go_enter Tryz.func18, Tryz.ntmps18
        go_wp2_with (go_at_call 32; refine HK.out.mono ?_; rintro e0 w0 ⟨rfl, rfl⟩)
        go_ret
        exact ⟨rfl, HSM.out _ (Below.refl _ _)⟩
    · rw [hk0, if_pos rfl] at HRA
      rw [HRA.out]
      clear HRA HKP HKI HL HRD HPA HGO HEN HN
      go_enter Tryz.func18, Tryz.ntmps18
      go_wp2_with (go_at_call 32; refine HK.out.mono ?_; rintro e0 w0 ⟨rfl, rfl⟩)
      go_ret
      exact ⟨rfl, HSM.out _ (Below.refl _ _)⟩
  · rw [hl0, if_pos rfl] at HRA
    rw [HRA.out]
    clear HRA HKP HKI HL HRD HPA HGO HEN HN HK
    go_enter Tryz.func18, Tryz.ntmps18
    go_wp2_with fail
    go_ret
    exact ⟨rfl, HSM.out _ (Below.refl _ _)⟩
end Go.Proofs.YtpaoimhebheaeaaGreatDoor
namespace Go.Proofs.YtpaoimhebheaeaaGreatDoor
open Go.RowKit Go.Maps Go.WideMaps Go.WideElems Dk
set_option maxRecDepth 100000

theorem list_sizes {D : DataW Unit} (hP : Plain D) (s : ByteArray) : ∀ n ∈ listT D s, n.length ≤ 4096 := fun n hn => by
  unfold listT at hn
  split at hn
  · unfold namesD at hn
    obtain ⟨f, hf, rfl⟩ := List.mem_map.1 hn
    have h1 := (okPath_parts (hP.ok (List.mem_filter.1 hf).1)).1
    have h2 : (nameOf f.1).size ≤ f.1.size := by
      unfold nameOf
      rw [ByteArray.size_extract]
      omega
    rw [Array.length_toList]
    exact Nat.le_trans h2 h1
  · cases hn
theorem list_len {D : DataW Unit} (s : ByteArray) : (listT D s).length ≤ (filesD D).length := by
  unfold listT
  split
  · unfold namesD kidsD
    rw [List.length_map]
    exact List.length_filter_le _ _
  · exact Nat.zero_le _
theorem parO_sizes (t : ByteArray) : (parO t).2.length ≤ t.size ∧ ∀ d ∈ (parO t).2, d.pa.size ≤ t.size ∧ d.da.size ≤ t.size := by
  have hcase : (parO t).2 = [] ∨ ∃ l, parO t = (0, l) := by
    unfold parO
    split
    · exact Or.inl rfl
    · split
      · exact Or.inl rfl
      · split
        · exact Or.inr ⟨_, rfl⟩
        · exact Or.inl rfl
  rcases hcase with h | ⟨l, h⟩
  · rw [h]; exact ⟨Nat.zero_le _, fun _ q => by cases q⟩
  · rw [h]
    obtain ⟨h1, h2⟩ := parO_ok h
    have := h1.sizes
    rw [h2] at this
    exact this
theorem rec_any {B : Nat} {w : World} {e : Nat} {lv rv : Value} {x : Ab} {k : Nat} (h : RefK B w e lv rv x k) (ht : (readT x.D pP).size ≤ 4194304) (hk : k + 4194308 < 2199023255552) :
    Calls Tryz.prog 18 #[.pointer (some ⟨e, 0, none⟩)] w fun e' w' => e' = .returned (.int .i64 (recA x).1) ∧ RefT B w e lv rv (recA x).2 (k + 4194307) w' := by
  have h1 := parO_sizes (readT x.D pP)
  refine (rec_K h (fun n q => Nat.le_trans (list_sizes h.fine.pl jn n q) (by decide)) ht (fun d q => Nat.le_trans (h1.2 d q).1 (Nat.le_trans ht (by decide))) (by omega) (by have := h.lf; have := list_len (D := x.D) jn; omega)).mono fun _ _ q => ⟨q.1, q.2.more (by omega)⟩
end Go.Proofs.YtpaoimhebheaeaaGreatDoor
namespace Go.Proofs.YtpaoimhebheaeaaGreatDoor
open Go.RowKit Go.Maps Go.WideMaps Go.WideElems Dk
set_option maxRecDepth 100000

theorem kind_cases (D : DataW Unit) (s : ByteArray) : kindD D s = 0 ∨ kindD D s = 1 ∨ kindD D s = 2 := by
  unfold kindD
  split
  · exact Or.inr (Or.inr rfl)
  · split
    · split
      · exact Or.inr (Or.inr rfl)
      · exact Or.inr (Or.inl rfl)
    · exact Or.inl rfl
theorem read_put_other {D : DataW Unit} {s q : ByteArray} {v : DataW Unit} (h : q ≠ s) : readT (D.put (keyD s) v) q = readT D q := by
  have hk : keyD q ≠ keyD s := fun e => h (keyD_inj e)
  unfold readT readE
  rw [kind_put_other h, atKey_put_other hk]
theorem read_del_other {D : DataW Unit} {s q : ByteArray} (h : q ≠ s) : readT (D.del (keyD s)) q = readT D q := by
  have hk : keyD q ≠ keyD s := fun e => h (keyD_inj e)
  unfold readT readE
  rw [kind_del_other h, atKey_del_other hk]
theorem read_gone {D : DataW Unit} {s : ByteArray} (h : kindD D s = 0) : readT D s = ByteArray.empty := by
  have e : (readE D s == 0) = false := by
    unfold readE
    rw [h]
    by_cases q : pathB s = true
    · rw [if_pos q]; rfl
    · rw [if_neg q]; rfl
  unfold readT
  rw [e]
  rfl
/-- Between two disks only these paths were touched. -/
structure Tch (P : ByteArray → Prop) (x y : Ab) : Prop where
  kind : ∀ q, ¬ P q → kindD y.D q = kindD x.D q
  text : ∀ q, ¬ P q → readT y.D q = readT x.D q
  raw : ∃ r, y.rs = x.rs ++ r ∧ ∀ z ∈ r, P z.2.1
  up : x.left = -1 → y.left = -1
theorem Tch.refl (P : ByteArray → Prop) (x : Ab) : Tch P x x := ⟨fun _ _ => rfl, fun _ _ => rfl, ⟨[], by simp, fun _ h => by cases h⟩, id⟩
theorem Tch.trans {P : ByteArray → Prop} {x y z : Ab} (h : Tch P x y) (k : Tch P y z) : Tch P x z := by
  obtain ⟨r, hr, hp⟩ := h.raw
  obtain ⟨s, hs, hq⟩ := k.raw
  refine ⟨fun q n => (k.kind q n).trans (h.kind q n), fun q n => (k.text q n).trans (h.text q n), ⟨r ++ s, by rw [hs, hr, List.append_assoc], fun z hz => ?_⟩, fun e => k.up (h.up e)⟩
  rcases List.mem_append.1 hz with hz | hz
  · exact hp z hz
  · exact hq z hz
theorem Tch.mono {P Q : ByteArray → Prop} {x y : Ab} (h : Tch P x y) (k : ∀ q, P q → Q q) : Tch Q x y := by
  obtain ⟨r, hr, hp⟩ := h.raw
  exact ⟨fun q n => h.kind q fun e => n (k q e), fun q n => h.text q fun e => n (k q e), ⟨r, hr, fun z hz => k _ (hp z hz)⟩, h.up⟩
theorem tch_note {x : Ab} {D : DataW Unit} {P : ByteArray → Prop} (k : Int) (s t : ByteArray) (hs : P s) (h1 : ∀ q, ¬ P q → kindD D q = kindD x.D q) (h2 : ∀ q, ¬ P q → readT D q = readT x.D q) : Tch P x (noteAb { D := D, rs := x.rs, left := x.left } (k, s, t)) := by
  refine ⟨h1, h2, ⟨[(k, s, t)], rfl, fun z hz => ?_⟩, fun e => ?_⟩
  · rw [List.mem_singleton.1 hz]; exact hs
  · unfold noteAb
    simp only
    rw [if_neg (by omega), e]
theorem tch_rem (x : Ab) (s : ByteArray) : Tch (fun q => q = s) x (removeD x s).2 := by
  unfold removeD
  split
  · exact Tch.refl _ _
  · split
    · exact Tch.refl _ _
    · split
      · exact Tch.refl _ _
      · exact tch_note _ _ _ rfl (fun q n => kind_del_other n) (fun q n => read_del_other n)
theorem tch_mk (x : Ab) (s : ByteArray) : Tch (fun q => q = s) x (mkdirD x s).2 := by
  unfold mkdirD
  split
  · exact Tch.refl _ _
  · split
    · exact Tch.refl _ _
    · split
      · exact Tch.refl _ _
      · exact tch_note _ _ _ rfl (fun q n => kind_put_other n) (fun q n => read_put_other n)
theorem tch_wt (x : Ab) (s t : ByteArray) : Tch (fun q => q = s) x (writeFD x s t).2 := by
  unfold writeFD
  split
  · exact Tch.refl _ _
  · split
    · exact Tch.refl _ _
    · exact tch_note _ _ _ rfl (fun q n => kind_put_other n) (fun q n => read_put_other n)
theorem tch_ren (x : Ab) (s t : ByteArray) : Tch (fun q => q = s ∨ q = t) x (renameD x s t).2 := by
  unfold renameD
  split
  · exact Tch.refl _ _
  · split
    · exact Tch.refl _ _
    · split
      · exact Tch.refl _ _
      · exact tch_note _ _ _ (Or.inl rfl) (fun q n => (kind_put_other fun e => n (Or.inr e)).trans (kind_del_other fun e => n (Or.inl e))) (fun q n => (read_put_other fun e => n (Or.inr e)).trans (read_del_other fun e => n (Or.inl e)))
theorem tch_do (x : Ab) (d : De) : Tch (fun q => q = d.pa) x (doA x d).2 := by
  unfold doA
  split
  · exact tch_rem _ _
  · split
    · exact tch_rem _ _
    · split
      · exact tch_mk _ _
      · split
        · split
          · exact tch_wt _ _ _
          · exact Tch.refl _ _
        · exact Tch.refl _ _
/-- The paths of deeds. -/
def ofDs (l : List De) (q : ByteArray) : Prop := ∃ d ∈ l, d.pa = q
theorem tch_run (l : List De) : ∀ x : Ab, Tch (ofDs l) x (runA l x).2 := by
  induction l with
  | nil => intro x; exact Tch.refl _ _
  | cons d r ih =>
    intro x
    have h1 : Tch (ofDs (d :: r)) x (doA x d).2 := (tch_do x d).mono fun q e => ⟨d, List.mem_cons_self, e.symm⟩
    have e : runA (d :: r) x = if ((doA x d).1 != 0) = true then doA x d else runA r (doA x d).2 := rfl
    rw [e]
    split
    · exact h1
    · exact h1.trans ((ih _).mono fun q ⟨a, ha, e⟩ => ⟨a, List.mem_cons_of_mem _ ha, e⟩)
/-- The journal's own paths. -/
def ofJ (q : ByteArray) : Prop := q = jn ∨ q = pN ∨ q = pP
theorem jn_pN : jn ≠ pN := by decide
theorem jn_pP : jn ≠ pP := by decide
theorem pN_pP : pN ≠ pP := by decide
theorem tch_gone (x : Ab) : Tch ofJ x (goneA x).2 := by
  unfold goneA
  split
  · have h1 : Tch ofJ x (removeD x pN).2 := (tch_rem x pN).mono fun q e => Or.inr (Or.inl e)
    split
    · exact h1
    · exact h1.trans ((tch_rem _ jn).mono fun q e => Or.inl e)
  · exact (tch_rem x jn).mono fun q e => Or.inl e
theorem tch_end (l : List De) (x : Ab) : Tch (fun q => ofJ q ∨ ofDs l q) x (endA l x).2 := by
  have h1 : Tch (fun q => ofJ q ∨ ofDs l q) x (runA l x).2 := (tch_run l x).mono fun q e => Or.inr e
  unfold endA
  split
  · exact h1
  · have h2 := h1.trans ((tch_rem (runA l x).2 pP).mono fun q e => Or.inl (Or.inr (Or.inr e)))
    split
    · exact h2
    · exact h2.trans ((tch_gone _).mono fun q e => Or.inl e)
theorem tch_writ (l : List De) (x : Ab) : Tch (fun q => ofJ q ∨ ofDs l q) x (writA l x).2 := by
  have h1 : Tch (fun q => ofJ q ∨ ofDs l q) x (mkdirD x jn).2 := (tch_mk x jn).mono fun q e => Or.inl (Or.inl e)
  unfold writA
  split
  · exact h1
  · have h2 := h1.trans ((tch_wt (mkdirD x jn).2 pN (textD l)).mono fun q e => Or.inl (Or.inr (Or.inl e)))
    split
    · exact h2
    · have h3 := h2.trans ((tch_ren (writeFD (mkdirD x jn).2 pN (textD l)).2 pN pP).mono fun q e => Or.inl (e.elim (fun e => Or.inr (Or.inl e)) (fun e => Or.inr (Or.inr e))))
      split
      · exact h3
      · exact h3.trans (tch_end l _)
theorem tch_commit (l : List De) (x : Ab) : Tch (fun q => ofJ q ∨ ofDs l q) x (commitA l x).2 := by
  unfold commitA
  split
  · exact Tch.refl _ _
  · split
    · exact Tch.refl _ _
    · split
      · exact Tch.refl _ _
      · split
        · exact Tch.refl _ _
        · exact tch_writ l x
theorem tch_rec (x : Ab) : Tch (fun q => ofJ q ∨ ofDs (parO (readT x.D pP)).2 q) x (recA x).2 := by
  unfold recA
  split
  · exact Tch.refl _ _
  · split
    · exact Tch.refl _ _
    · split
      · exact Tch.refl _ _
      · split
        · exact Tch.refl _ _
        · split
          · exact (tch_gone x).mono fun q e => Or.inl e
          · split
            · exact Tch.refl _ _
            · exact tch_end _ x
/-- No deed of a plan is in the journal. -/
theorem plan_out {l : List De} (h : Plan l) {q : ByteArray} (hq : jB q = true) : ¬ ofDs l q := by
  rintro ⟨d, hd, rfl⟩
  obtain ⟨i, hi, rfl⟩ := List.getElem_of_mem hd
  have := h i hi
  unfold okDe at this
  simp only [Bool.and_eq_true, Bool.not_eq_true'] at this
  rw [this.1.2.2] at hq
  cases hq
theorem jB_jn : jB jn = true := by decide +kernel
theorem jB_pN : jB pN = true := by decide +kernel
theorem jB_pP : jB pP = true := by decide +kernel
/-- A path goes, if something is there. -/
def remIf (x : Ab) (s : ByteArray) : Int × Ab := if (kindD x.D s == 0) = true then (0, x) else removeD x s
/-- What the program does behind the plan. -/
def finA (l : List De) (x : Ab) : Int × Ab :=
  if ((runA l x).1 != 0) = true then runA l x
  else if ((remIf (runA l x).2 pP).1 != 0) = true then remIf (runA l x).2 pP
  else if ((remIf (remIf (runA l x).2 pP).2 pN).1 != 0) = true then remIf (remIf (runA l x).2 pP).2 pN
  else remIf (remIf (remIf (runA l x).2 pP).2 pN).2 jn
theorem remIf_some {x : Ab} {s : ByteArray} (h : kindD x.D s ≠ 0) : remIf x s = removeD x s := by
  unfold remIf
  rw [if_neg (by rw [beq_iff_eq]; exact h)]
theorem remIf_none {x : Ab} {s : ByteArray} (h : kindD x.D s = 0) : remIf x s = (0, x) := by
  unfold remIf
  rw [if_pos (by rw [beq_iff_eq]; exact h)]
theorem fin_tail {x : Ab} (hj : kindD x.D jn = 2) (hn : kindD x.D pN ≠ 2) : (if ((remIf x pN).1 != 0) = true then remIf x pN else remIf (remIf x pN).2 jn) = goneA x := by
  unfold goneA
  rcases kind_cases x.D pN with h | h | h
  · rw [remIf_none h, h, if_neg (show ¬ ((0 : Int) != 0) = true by decide), if_neg (by decide)]
    exact remIf_some (by rw [hj]; decide)
  · have hk : kindD (removeD x pN).2.D jn = 2 := by rw [(tch_rem x pN).kind jn jn_pN]; exact hj
    rw [remIf_some (by rw [h]; decide), h, if_pos (show ((1 : Int) == 1) = true from rfl), remIf_some (by rw [hk]; decide)]
  · exact absurd h hn
theorem fin_end {l : List De} {x : Ab} (hp : Plan l) (hj : kindD x.D jn = 2) (hP : kindD x.D pP ≠ 0) (hn : kindD x.D pN ≠ 2) : finA l x = endA l x := by
  have k1 := (tch_run l x).kind jn (plan_out hp jB_jn)
  have k2 := (tch_run l x).kind pN (plan_out hp jB_pN)
  have k3 := (tch_run l x).kind pP (plan_out hp jB_pP)
  unfold finA endA
  rw [remIf_some (x := (runA l x).2) (s := pP) (by rw [k3]; exact hP)]
  have t := tch_rem (runA l x).2 pP
  rw [fin_tail (x := (removeD (runA l x).2 pP).2) (by rw [t.kind jn jn_pP, k1]; exact hj) (by rw [t.kind pN pN_pP, k2]; exact hn)]
theorem fin_gone {x : Ab} (hj : kindD x.D jn = 2) (hP : kindD x.D pP = 0) (hn : kindD x.D pN ≠ 2) : finA [] x = goneA x := by
  show (if ((0 : Int) != 0) = true then ((0 : Int), x) else if ((remIf x pP).1 != 0) = true then remIf x pP else if ((remIf (remIf x pP).2 pN).1 != 0) = true then remIf (remIf x pP).2 pN else remIf (remIf (remIf x pP).2 pN).2 jn) = goneA x
  rw [if_neg (show ¬ ((0 : Int) != 0) = true by decide), remIf_none hP, if_neg (show ¬ ((0 : Int) != 0) = true by decide)]
  exact fin_tail hj hn
/-- What may lie in the journal. -/
theorem in_list {x : Ab} (hf : Fine x) {s : ByteArray} (hk : kindD x.D s ≠ 0) (hok : okPath s = true) (hpar : parentOf s = jn) (hj : kindD x.D jn = 2) : (nameOf s).data.toList ∈ listT x.D jn := by
  have he : listE x.D jn = 0 := by
    unfold listE
    rw [if_pos (show pathB jn = true by decide +kernel), hj]
    rfl
  unfold listT
  rw [he, if_pos (show ((0 : Int) == 0) = true from rfl)]
  obtain ⟨y, hy, rfl⟩ := (has_mem hf.pl s).1 (kind_has hok hk)
  exact List.mem_map.2 ⟨y, mem_kids.2 ⟨hy, hpar⟩, rfl⟩
theorem list_kind {x : Ab} (hf : Fine x) (hj : kindD x.D jn = 2) (hb : (listT x.D jn).any (badL x.D) = false) {s : ByteArray} (hok : okPath s = true) (hpar : parentOf s = jn) (hjs : jS ++ nameOf s = s) : kindD x.D s = 0 ∨ kindD x.D s = 1 := by
  by_cases hk : kindD x.D s = 0
  · exact Or.inl hk
  · right
    have hm := in_list hf hk hok hpar hj
    have := List.any_eq_false.1 hb _ hm
    rw [Bool.not_eq_true] at this
    unfold badL badN at this
    rw [Bool.or_eq_false_iff] at this
    have h2 := bne_eq_false_iff_eq.1 this.2
    rw [bytes_mk, hjs] at h2
    exact h2
theorem pP_par : parentOf pP = jn := by decide +kernel
theorem pN_par : parentOf pN = jn := by decide +kernel
theorem pP_nam : jS ++ nameOf pP = pP := by decide +kernel
theorem pN_nam : jS ++ nameOf pN = pN := by decide +kernel
end Go.Proofs.YtpaoimhebheaeaaGreatDoor
