/- Rp4, Sh1, Fd5, laid in one text. -/
import Derived.Test.YthoacfmfpbngkaaGreatDoorMg13
namespace Go.Proofs.YthoacfmfpbngkaaGreatDoor
open Go.RowKit
set_option maxRecDepth 100000

/-- The signs, in their order. -/
def sV : Nat → ByteArray
  | 0 => ⟨#[60, 61]⟩
  | 1 => ⟨#[62, 61]⟩
  | 2 => ⟨#[60]⟩
  | 3 => ⟨#[62]⟩
  | 4 => ⟨#[61]⟩
  | 5 => ⟨#[94]⟩
  | 6 => ⟨#[126]⟩
  | _ => ⟨#[]⟩
def sL : Nat → Bt
  | 0 => [60, 61]
  | 1 => [62, 61]
  | 2 => [60]
  | 3 => [62]
  | 4 => [61]
  | 5 => [94]
  | 6 => [126]
  | _ => []
theorem sV_list (j : Nat) : (sV j).data.toList = sL j := by
  match j with
  | 0 | 1 | 2 | 3 | 4 | 5 | 6 => rfl
  | _ + 7 => rfl
/-- Nothing of the first k signs stands ahead. -/
def NoSg (p : Bt) (k : Nat) : Prop := ∀ j, j < k → (sL j).isPrefixOf p = false
theorem NoSg.succ {p : Bt} {k : Nat} (h : NoSg p k) (hk : (sL k).isPrefixOf p = false) : NoSg p (k + 1) := fun j hj => by
  rcases Nat.lt_or_ge j k with h1 | h1
  · exact h j h1
  · obtain rfl : j = k := by omega
    exact hk
theorem sg_none {p : Bt} (h : NoSg p 7) : sgD p = [] := by
  have h0 := h 0 (by omega)
  have h1 := h 1 (by omega)
  have h2 := h 2 (by omega)
  have h3 := h 3 (by omega)
  have h4 := h 4 (by omega)
  have h5 := h 5 (by omega)
  have h6 := h 6 (by omega)
  simp only [sL] at h0 h1 h2 h3 h4 h5 h6
  simp only [sgD, signsD, List.find?, h0, h1, h2, h3, h4, h5, h6, Option.getD]
theorem sg_found {p : Bt} {j : Nat} (hj : j < 7) (h : NoSg p j) (hp : (sL j).isPrefixOf p = true) : sgD p = sL j := by
  match j, hj with
  | 0, _ =>
    simp only [sL] at  hp ⊢
    simp only [sgD, signsD, List.find?, Option.getD, hp]
  | 1, _ =>
    have h0 := h 0 (by omega)
    simp only [sL] at h0 hp ⊢
    simp only [sgD, signsD, List.find?, h0, Option.getD, hp]
  | 2, _ =>
    have h0 := h 0 (by omega)
    have h1 := h 1 (by omega)
    simp only [sL] at h0 h1 hp ⊢
    simp only [sgD, signsD, List.find?, h0, h1, Option.getD, hp]
  | 3, _ =>
    have h0 := h 0 (by omega)
    have h1 := h 1 (by omega)
    have h2 := h 2 (by omega)
    simp only [sL] at h0 h1 h2 hp ⊢
    simp only [sgD, signsD, List.find?, h0, h1, h2, Option.getD, hp]
  | 4, _ =>
    have h0 := h 0 (by omega)
    have h1 := h 1 (by omega)
    have h2 := h 2 (by omega)
    have h3 := h 3 (by omega)
    simp only [sL] at h0 h1 h2 h3 hp ⊢
    simp only [sgD, signsD, List.find?, h0, h1, h2, h3, Option.getD, hp]
  | 5, _ =>
    have h0 := h 0 (by omega)
    have h1 := h 1 (by omega)
    have h2 := h 2 (by omega)
    have h3 := h 3 (by omega)
    have h4 := h 4 (by omega)
    simp only [sL] at h0 h1 h2 h3 h4 hp ⊢
    simp only [sgD, signsD, List.find?, h0, h1, h2, h3, h4, Option.getD, hp]
  | 6, _ =>
    have h0 := h 0 (by omega)
    have h1 := h 1 (by omega)
    have h2 := h 2 (by omega)
    have h3 := h 3 (by omega)
    have h4 := h 4 (by omega)
    have h5 := h 5 (by omega)
    simp only [sL] at h0 h1 h2 h3 h4 h5 hp ⊢
    simp only [sgD, signsD, List.find?, h0, h1, h2, h3, h4, h5, Option.getD, hp]

/-- What the document's word answers. -/
def WordQ (w : World) (p : Bt) (e : Ending) (w' : World) : Prop := ∃ v, e = .returned (.tuple #[v, .bool (docW p).isSome]) ∧ SpansR w' v ((docW p).getD []) ∧ Below w.heap.size w w'

theorem word_star_doc (w : World) : Calls Tryz.prog 73 #[.string ⟨#[42]⟩] w (WordQ w [42]) := by
  have HA : Hid (Calls Tryz.prog 72 #[] w fun e w' => ∃ v, e = .returned v ∧ SpansR w' v allR ∧ Below w.heap.size w w') := rAll_rg w
  unfold WordQ
  have HW : Hid (docW [42] = some allR) := by unfold Hid docW; rw [if_pos rfl]
  rw [HW.out]
  go_enter Tryz.func73, Tryz.ntmps73
  go_wp2_with (go_at_call 72; refine HA.out.mono ?_; rintro e w1 ⟨v1, rfl, ok⟩)
  go_ret2
  exact ⟨_, rfl, ok.1, ok.2⟩

set_option maxHeartbeats 12800000 in
theorem word_walk_doc (p : Bt) (hp : p.length ≤ 1048576) (h42 : p ≠ [42]) (w : World) : Calls Tryz.prog 73 #[.string (bt p)] w (WordQ w p) := by
  have h42' : ((bt p).toList == [42]) = false := beq_no (by rw [bt_list]; exact h42)
  have HBG : Hid (∀ t w1, Calls Tryz.prog 91 #[.string (bt p), .string t] w1 fun e w' => e = .returned (.bool (t.data.toList.isPrefixOf p)) ∧ Below w1.heap.size w1 w') := fun t w1 => by
    have := begins_any (bt p) t w1
    rw [bt_list] at this
    exact this
  have HPA : Hid (∀ (g : Bt) w1, Calls Tryz.prog 13 #[.string ((bt p).extract g.length (bt p).size)] w1 fun e w' => e = .returned (.tuple #[.agg #[.int .i64 (resA (bt (p.drop g.length))), .int .i64 (resB (bt (p.drop g.length))), .int .i64 (resC (bt (p.drop g.length)))], .bool (okP (bt (p.drop g.length)))]) ∧ Below w1.heap.size w1 w') := fun g w1 => by
    have e : (bt p).extract g.length (bt p).size = bt (p.drop g.length) := of_list (by rw [Lib.extract_to_end, bt_list])
    rw [e]
    exact rParse_walk _ (by rw [bt_size, List.length_drop]; omega) w1
  have HP0 : Hid (∀ w1, Calls Tryz.prog 13 #[.string (bt p)] w1 fun e w' => e = .returned (.tuple #[.agg #[.int .i64 (resA (bt (p.drop 0))), .int .i64 (resB (bt (p.drop 0))), .int .i64 (resC (bt (p.drop 0)))], .bool (okP (bt (p.drop 0)))]) ∧ Below w1.heap.size w1 w') := fun w1 => rParse_walk (bt p) (by rw [bt_size]; exact hp) w1
  have HRK : Hid (∀ a b c w1, Calls Tryz.prog 75 #[.agg #[.int .i64 a, .int .i64 b, .int .i64 c]] w1 fun e w' => e = .returned (.int .i64 (rankV a b c)) ∧ Below w1.heap.size w1 w') := rrank_any
  have HFR : Hid (∀ lo hi w1, Calls Tryz.prog 92 #[.int .i64 lo, .int .i64 hi] w1 fun e w' => ∃ v, e = .returned v ∧ SpansR w' v (fromR lo hi) ∧ Below w1.heap.size w1 w') := from_doc
  have HDO : Hid (∀ g, sgD p = g → okP (bt (p.drop g.length)) = true → docW p = some (docS g (plP (bt (p.drop g.length))))) := fun g hg ho => by
    subst hg
    unfold docW
    rw [if_neg h42, if_pos ho]
  have HDN : Hid (∀ g, sgD p = g → okP (bt (p.drop g.length)) = false → docW p = none) := fun g hg ho => by
    subst hg
    unfold docW
    rw [if_neg h42, if_neg (by rw [ho]; simp)]
  have HC0 : Hid (∀ w1, Below (w.alloc (.cells #[.string ⟨#[60, 61]⟩, .string ⟨#[62, 61]⟩, .string ⟨#[60]⟩, .string ⟨#[62]⟩, .string ⟨#[61]⟩, .string ⟨#[94]⟩, .string ⟨#[126]⟩] 9)).heap.size (w.alloc (.cells #[.string ⟨#[60, 61]⟩, .string ⟨#[62, 61]⟩, .string ⟨#[60]⟩, .string ⟨#[62]⟩, .string ⟨#[61]⟩, .string ⟨#[94]⟩, .string ⟨#[126]⟩] 9)) w1 → ∀ k, k < 7 → w1.cell? ⟨w.heap.size, k, none⟩ = some (.string (sV k))) := fun w1 hb k hk => by
    refine (hb.cell (p := ⟨w.heap.size, k, none⟩) (by simp)).trans ?_
    match k, hk with
    | 0, _ | 1, _ | 2, _ | 3, _ | 4, _ | 5, _ | 6, _ => simp [sV]
  unfold WordQ
  go_enter Tryz.func73, Tryz.ntmps73
  go_wp2_with fail
  go_loopw [5, 6] (fun sg i wr => ∃ k : Nat, k ≤ 7 ∧ i = .int .i64 k ∧ Below (w.alloc (.cells #[.string ⟨#[60, 61]⟩, .string ⟨#[62, 61]⟩, .string ⟨#[60]⟩, .string ⟨#[62]⟩, .string ⟨#[61]⟩, .string ⟨#[94]⟩, .string ⟨#[126]⟩] 9)).heap.size (w.alloc (.cells #[.string ⟨#[60, 61]⟩, .string ⟨#[62, 61]⟩, .string ⟨#[60]⟩, .string ⟨#[62]⟩, .string ⟨#[61]⟩, .string ⟨#[94]⟩, .string ⟨#[126]⟩] 9)) wr ∧ ((sg = .string ⟨#[]⟩ ∧ NoSg p k) ∨ ∃ j, k = j + 1 ∧ j < 7 ∧ sg = .string (sV j) ∧ NoSg p j ∧ (sL j).isPrefixOf p = true)) (fun _ i _ => 7 - (intOf i).toNat)
  case atStart => exact ⟨0, Nat.zero_le _, rfl, Below.refl _ _, Or.inl ⟨rfl, fun j hj => by omega⟩⟩
  case round =>
    obtain ⟨k, hk, rfl, hb, hst⟩ := hrel
    have HB := hide3 hb
    have HBW : Hid (Below w.heap.size w wr) := below_then (boxB _ _) hb
    rcases hst with ⟨rfl, hno⟩ | ⟨j, rfl, hj, rfl, hno, hpre⟩
    · by_cases hk7 : k < 7
      · have hc := HC0.out wr hb k hk7
        have HNO := hide3 hno
        have HBk : Hid (∀ w1, Calls Tryz.prog 91 #[.string (bt p), .string (sV k)] w1 fun e w' => e = .returned (.bool ((sL k).isPrefixOf p)) ∧ Below w1.heap.size w1 w') := fun w1 => by
          have := HBG.out (sV k) w1
          rw [sV_list] at this
          exact this
        clear hb hno
        cases hq : (sL k).isPrefixOf p
        · have HNO2 := hide3 (HNO.out.succ hq)
          rw [hq] at HBk
          go_wp2_with (go_at_call 91; refine (HBk.out _).mono ?_; rintro e w1 ⟨rfl, ok⟩; have HOK := hide3 (below_then HB.out ok); clear ok)
          exact ⟨⟨k + 1, by omega, by go_num, HOK.out, Or.inl ⟨rfl, HNO2.out⟩⟩, by simp [intOf]; omega⟩
        · rw [hq] at HBk
          go_wp2_with (go_at_call 91; refine (HBk.out _).mono ?_; rintro e w1 ⟨rfl, ok⟩; have HOK := hide3 (below_then HB.out ok); have hc1 : w1.cell? ⟨w.heap.size, k, none⟩ = some (.string (sV k)) := HC0.out w1 HOK.out k hk7; clear ok)
          exact ⟨⟨k + 1, by omega, by go_num, HOK.out, Or.inr ⟨k, rfl, hk7, rfl, HNO.out, hq⟩⟩, by simp [intOf]; omega⟩
      · obtain rfl : k = 7 := by omega
        have HSG := hide3 (sg_none hno)
        clear hb hno
        have HP1 : Hid (∀ w1, Calls Tryz.prog 13 #[.string (bt p)] w1 fun e w' => e = .returned (.tuple #[.agg #[.int .i64 (resA (bt (p.drop 0))), .int .i64 (resB (bt (p.drop 0))), .int .i64 (resC (bt (p.drop 0)))], .bool (okP (bt (p.drop 0)))]) ∧ Below w1.heap.size w1 w') := HP0.out
        have HD1 : Hid (okP (bt (p.drop 0)) = true → docW p = some (docS [] (plP (bt (p.drop 0))))) := HDO.out [] HSG.out
        have HD2 : Hid (okP (bt (p.drop 0)) = false → docW p = none) := HDN.out [] HSG.out
        have HPL : Hid (okP (bt (p.drop 0)) = true → okR (plP (bt (p.drop 0))) ∧ atA (plP (bt (p.drop 0))) = resA (bt (p.drop 0)) ∧ atB (plP (bt (p.drop 0))) = resB (bt (p.drop 0))) := fun h => ⟨(plP_ok h).1, (plP_ok h).2.1, (plP_ok h).2.2.1⟩
        have HPD : Hid (plP (bt (p.drop 0)) = rankV (resA (bt (p.drop 0))) (resB (bt (p.drop 0))) (resC (bt (p.drop 0)))) := rfl
        clear HPA HP0 HDO HDN HBG HC0 HSG
        generalize bt (p.drop 0) = t at *
        cases ho : okP t
        · have HDW := hide3 (HD2.out ho)
          rw [ho] at HP1
          clear HD1 HD2 HPL
          go_wp2_with (go_at_call 13; refine (HP1.out _).mono ?_; rintro e w2 ⟨rfl, ok⟩; have HO2 := hide3 (below_then HBW.out ok); clear ok)
          go_ret2
          exact ⟨_, by rw [HDW.out]; rfl, by rw [HDW.out]; exact ⟨none, 0, rfl, Nat.le_refl _, Or.inl rfl⟩, below_then HO2.out (boxB _ _)⟩
        · have HDW := hide3 (HD1.out ho)
          obtain ⟨⟨hn0, hn1⟩, hA, hB⟩ := HPL.out ho
          rw [ho] at HP1
          rw [HPD.out] at HDW hn0 hn1 hA hB
          clear HD1 HD2 HPL HPD ho
          have HRK1 := hide3 (HRK.out (resA t) (resB t) (resC t))
          generalize rankV (resA t) (resB t) (resC t) = n at *
          generalize resA t = a at *
          generalize resB t = b at *
          generalize resC t = c at *
          clear HRK
          have r1 : n.tmod 1000 = n % 1000 := Int.tmod_eq_emod_of_nonneg hn0
          have r2 : n.tmod 1000000 = n % 1000000 := Int.tmod_eq_emod_of_nonneg hn0
          have m1 : n - n % 1000 + 999 = minorR n := by unfold minorR; omega
          have m2 : n - n % 1000000 + 999999 = majorR n := by unfold majorR; omega
          have q0 : IntKind.i64.wrap (n - n % 1000) = n - n % 1000 := by rw [IntKind.wrap_i64]; omega
          have q1 : IntKind.i64.wrap (n - n % 1000 + 999) = minorR n := by rw [← m1, IntKind.wrap_i64]; omega
          have q2 : IntKind.i64.wrap (n - n % 1000000) = n - n % 1000000 := by rw [IntKind.wrap_i64]; omega
          have q3 : IntKind.i64.wrap (n - n % 1000000 + 999999) = majorR n := by rw [← m2, IntKind.wrap_i64]; omega
          have HDS : Hid (docS [] n = fromR n n) := by unfold Hid docS; simp
          have HF1 := hide3 (HFR.out n n)
          clear HFR
          go_wp2_with (first
            | (go_at_call 13; refine (HP1.out _).mono ?_; rintro e w2 ⟨rfl, ok⟩; have HO2 := hide3 (below_then (below_then HBW.out ok) (boxB w2 (.cells #[.int .i64 a, .int .i64 b, .int .i64 c] 23))); have HV2 : Hid (BxAt (w2.alloc (.cells #[.int .i64 a, .int .i64 b, .int .i64 c] 23)) ⟨w2.heap.size, .int .i64 a, .int .i64 b, .int .i64 c⟩) := ⟨by simp, by simp, by simp, by simp⟩; clear ok)
            | (go_at_call 75; refine (HRK1.out _).mono ?_; rintro e w3 ⟨rfl, ok⟩; have HO3 := hide3 (below_then HO2.out ok); obtain ⟨b0, b1, b2, b3⟩ := HV2.out.below ok; clear ok)
            | (go_at_call 92; refine (HF1.out _).mono ?_; rintro e w4 ⟨v4, rfl, ok⟩; have HO4 : Hid (SpansR w4 v4 (fromR n n) ∧ Below w.heap.size w w4) := ⟨ok.1, below_then HO3.out ok.2⟩; clear ok))
          go_ret2
          exact ⟨_, by rw [HDW.out]; rfl, by rw [HDW.out]; show SpansR _ _ (docS [] n); rw [HDS.out]; exact HO4.out.1, HO4.out.2⟩
    · have HSG := hide3 (sg_found hj hno hpre)
      have HLE : Hid ((sL j).length ≤ (bt p).size) := by unfold Hid; rw [bt_size]; exact (List.isPrefixOf_iff_prefix.1 hpre).length_le
      clear hb hno hpre
      rcases (show j = 0 ∨ j = 1 ∨ j = 2 ∨ j = 3 ∨ j = 4 ∨ j = 5 ∨ j = 6 by omega) with rfl | rfl | rfl | rfl | rfl | rfl | rfl
      · simp only [sL, sV] at *
        have hle : ((2 : Nat) : Int) ≤ ((bt p).size : Int) := by have := HLE.out; simp at this; omega
        have HP1 : Hid (∀ w1, Calls Tryz.prog 13 #[.string ((bt p).extract 2 (bt p).size)] w1 fun e w' => e = .returned (.tuple #[.agg #[.int .i64 (resA (bt (p.drop 2))), .int .i64 (resB (bt (p.drop 2))), .int .i64 (resC (bt (p.drop 2)))], .bool (okP (bt (p.drop 2)))]) ∧ Below w1.heap.size w1 w') := HPA.out [60, 61]
        have HD1 : Hid (okP (bt (p.drop 2)) = true → docW p = some (docS [60, 61] (plP (bt (p.drop 2))))) := HDO.out [60, 61] HSG.out
        have HD2 : Hid (okP (bt (p.drop 2)) = false → docW p = none) := HDN.out [60, 61] HSG.out
        have HPL : Hid (okP (bt (p.drop 2)) = true → okR (plP (bt (p.drop 2))) ∧ atA (plP (bt (p.drop 2))) = resA (bt (p.drop 2)) ∧ atB (plP (bt (p.drop 2))) = resB (bt (p.drop 2))) := fun h => ⟨(plP_ok h).1, (plP_ok h).2.1, (plP_ok h).2.2.1⟩
        have HPD : Hid (plP (bt (p.drop 2)) = rankV (resA (bt (p.drop 2))) (resB (bt (p.drop 2))) (resC (bt (p.drop 2)))) := rfl
        clear HPA HP0 HDO HDN HBG HC0 HSG HLE
        generalize bt (p.drop 2) = t at *
        cases ho : okP t
        · have HDW := hide3 (HD2.out ho)
          rw [ho] at HP1
          clear HD1 HD2 HPL
          go_wp2_with (go_at_call 13; refine (HP1.out _).mono ?_; rintro e w2 ⟨rfl, ok⟩; have HO2 := hide3 (below_then HBW.out ok); clear ok)
          go_ret2
          exact ⟨_, by rw [HDW.out]; rfl, by rw [HDW.out]; exact ⟨none, 0, rfl, Nat.le_refl _, Or.inl rfl⟩, below_then HO2.out (boxB _ _)⟩
        · have HDW := hide3 (HD1.out ho)
          obtain ⟨⟨hn0, hn1⟩, hA, hB⟩ := HPL.out ho
          rw [ho] at HP1
          rw [HPD.out] at HDW hn0 hn1 hA hB
          clear HD1 HD2 HPL HPD ho
          have HRK1 := hide3 (HRK.out (resA t) (resB t) (resC t))
          generalize rankV (resA t) (resB t) (resC t) = n at *
          generalize resA t = a at *
          generalize resB t = b at *
          generalize resC t = c at *
          clear HRK
          have r1 : n.tmod 1000 = n % 1000 := Int.tmod_eq_emod_of_nonneg hn0
          have r2 : n.tmod 1000000 = n % 1000000 := Int.tmod_eq_emod_of_nonneg hn0
          have m1 : n - n % 1000 + 999 = minorR n := by unfold minorR; omega
          have m2 : n - n % 1000000 + 999999 = majorR n := by unfold majorR; omega
          have q0 : IntKind.i64.wrap (n - n % 1000) = n - n % 1000 := by rw [IntKind.wrap_i64]; omega
          have q1 : IntKind.i64.wrap (n - n % 1000 + 999) = minorR n := by rw [← m1, IntKind.wrap_i64]; omega
          have q2 : IntKind.i64.wrap (n - n % 1000000) = n - n % 1000000 := by rw [IntKind.wrap_i64]; omega
          have q3 : IntKind.i64.wrap (n - n % 1000000 + 999999) = majorR n := by rw [← m2, IntKind.wrap_i64]; omega
          have HDS : Hid (docS [60, 61] n = fromR 0 n) := by unfold Hid docS; simp
          have HF1 := hide3 (HFR.out 0 n)
          clear HFR
          go_wp2_with (first
            | (go_at_call 13; refine (HP1.out _).mono ?_; rintro e w2 ⟨rfl, ok⟩; have HO2 := hide3 (below_then (below_then HBW.out ok) (boxB w2 (.cells #[.int .i64 a, .int .i64 b, .int .i64 c] 23))); have HV2 : Hid (BxAt (w2.alloc (.cells #[.int .i64 a, .int .i64 b, .int .i64 c] 23)) ⟨w2.heap.size, .int .i64 a, .int .i64 b, .int .i64 c⟩) := ⟨by simp, by simp, by simp, by simp⟩; clear ok)
            | (go_at_call 75; refine (HRK1.out _).mono ?_; rintro e w3 ⟨rfl, ok⟩; have HO3 := hide3 (below_then HO2.out ok); obtain ⟨b0, b1, b2, b3⟩ := HV2.out.below ok; clear ok)
            | (go_at_call 92; refine (HF1.out _).mono ?_; rintro e w4 ⟨v4, rfl, ok⟩; have HO4 : Hid (SpansR w4 v4 (fromR 0 n) ∧ Below w.heap.size w w4) := ⟨ok.1, below_then HO3.out ok.2⟩; clear ok))
          go_ret2
          exact ⟨_, by rw [HDW.out]; rfl, by rw [HDW.out]; show SpansR _ _ (docS [60, 61] n); rw [HDS.out]; exact HO4.out.1, HO4.out.2⟩
      · simp only [sL, sV] at *
        have hle : ((2 : Nat) : Int) ≤ ((bt p).size : Int) := by have := HLE.out; simp at this; omega
        have HP1 : Hid (∀ w1, Calls Tryz.prog 13 #[.string ((bt p).extract 2 (bt p).size)] w1 fun e w' => e = .returned (.tuple #[.agg #[.int .i64 (resA (bt (p.drop 2))), .int .i64 (resB (bt (p.drop 2))), .int .i64 (resC (bt (p.drop 2)))], .bool (okP (bt (p.drop 2)))]) ∧ Below w1.heap.size w1 w') := HPA.out [62, 61]
        have HD1 : Hid (okP (bt (p.drop 2)) = true → docW p = some (docS [62, 61] (plP (bt (p.drop 2))))) := HDO.out [62, 61] HSG.out
        have HD2 : Hid (okP (bt (p.drop 2)) = false → docW p = none) := HDN.out [62, 61] HSG.out
        have HPL : Hid (okP (bt (p.drop 2)) = true → okR (plP (bt (p.drop 2))) ∧ atA (plP (bt (p.drop 2))) = resA (bt (p.drop 2)) ∧ atB (plP (bt (p.drop 2))) = resB (bt (p.drop 2))) := fun h => ⟨(plP_ok h).1, (plP_ok h).2.1, (plP_ok h).2.2.1⟩
        have HPD : Hid (plP (bt (p.drop 2)) = rankV (resA (bt (p.drop 2))) (resB (bt (p.drop 2))) (resC (bt (p.drop 2)))) := rfl
        clear HPA HP0 HDO HDN HBG HC0 HSG HLE
        generalize bt (p.drop 2) = t at *
        cases ho : okP t
        · have HDW := hide3 (HD2.out ho)
          rw [ho] at HP1
          clear HD1 HD2 HPL
          go_wp2_with (go_at_call 13; refine (HP1.out _).mono ?_; rintro e w2 ⟨rfl, ok⟩; have HO2 := hide3 (below_then HBW.out ok); clear ok)
          go_ret2
          exact ⟨_, by rw [HDW.out]; rfl, by rw [HDW.out]; exact ⟨none, 0, rfl, Nat.le_refl _, Or.inl rfl⟩, below_then HO2.out (boxB _ _)⟩
        · have HDW := hide3 (HD1.out ho)
          obtain ⟨⟨hn0, hn1⟩, hA, hB⟩ := HPL.out ho
          rw [ho] at HP1
          rw [HPD.out] at HDW hn0 hn1 hA hB
          clear HD1 HD2 HPL HPD ho
          have HRK1 := hide3 (HRK.out (resA t) (resB t) (resC t))
          generalize rankV (resA t) (resB t) (resC t) = n at *
          generalize resA t = a at *
          generalize resB t = b at *
          generalize resC t = c at *
          clear HRK
          have r1 : n.tmod 1000 = n % 1000 := Int.tmod_eq_emod_of_nonneg hn0
          have r2 : n.tmod 1000000 = n % 1000000 := Int.tmod_eq_emod_of_nonneg hn0
          have m1 : n - n % 1000 + 999 = minorR n := by unfold minorR; omega
          have m2 : n - n % 1000000 + 999999 = majorR n := by unfold majorR; omega
          have q0 : IntKind.i64.wrap (n - n % 1000) = n - n % 1000 := by rw [IntKind.wrap_i64]; omega
          have q1 : IntKind.i64.wrap (n - n % 1000 + 999) = minorR n := by rw [← m1, IntKind.wrap_i64]; omega
          have q2 : IntKind.i64.wrap (n - n % 1000000) = n - n % 1000000 := by rw [IntKind.wrap_i64]; omega
          have q3 : IntKind.i64.wrap (n - n % 1000000 + 999999) = majorR n := by rw [← m2, IntKind.wrap_i64]; omega
          have HDS : Hid (docS [62, 61] n = fromR n 999999999) := by unfold Hid docS; simp
          have HF1 := hide3 (HFR.out n 999999999)
          clear HFR
          go_wp2_with (first
            | (go_at_call 13; refine (HP1.out _).mono ?_; rintro e w2 ⟨rfl, ok⟩; have HO2 := hide3 (below_then (below_then HBW.out ok) (boxB w2 (.cells #[.int .i64 a, .int .i64 b, .int .i64 c] 23))); have HV2 : Hid (BxAt (w2.alloc (.cells #[.int .i64 a, .int .i64 b, .int .i64 c] 23)) ⟨w2.heap.size, .int .i64 a, .int .i64 b, .int .i64 c⟩) := ⟨by simp, by simp, by simp, by simp⟩; clear ok)
            | (go_at_call 75; refine (HRK1.out _).mono ?_; rintro e w3 ⟨rfl, ok⟩; have HO3 := hide3 (below_then HO2.out ok); obtain ⟨b0, b1, b2, b3⟩ := HV2.out.below ok; clear ok)
            | (go_at_call 92; refine (HF1.out _).mono ?_; rintro e w4 ⟨v4, rfl, ok⟩; have HO4 : Hid (SpansR w4 v4 (fromR n 999999999) ∧ Below w.heap.size w w4) := ⟨ok.1, below_then HO3.out ok.2⟩; clear ok))
          go_ret2
          exact ⟨_, by rw [HDW.out]; rfl, by rw [HDW.out]; show SpansR _ _ (docS [62, 61] n); rw [HDS.out]; exact HO4.out.1, HO4.out.2⟩
      · simp only [sL, sV] at *
        have hle : ((1 : Nat) : Int) ≤ ((bt p).size : Int) := by have := HLE.out; simp at this; omega
        have HP1 : Hid (∀ w1, Calls Tryz.prog 13 #[.string ((bt p).extract 1 (bt p).size)] w1 fun e w' => e = .returned (.tuple #[.agg #[.int .i64 (resA (bt (p.drop 1))), .int .i64 (resB (bt (p.drop 1))), .int .i64 (resC (bt (p.drop 1)))], .bool (okP (bt (p.drop 1)))]) ∧ Below w1.heap.size w1 w') := HPA.out [60]
        have HD1 : Hid (okP (bt (p.drop 1)) = true → docW p = some (docS [60] (plP (bt (p.drop 1))))) := HDO.out [60] HSG.out
        have HD2 : Hid (okP (bt (p.drop 1)) = false → docW p = none) := HDN.out [60] HSG.out
        have HPL : Hid (okP (bt (p.drop 1)) = true → okR (plP (bt (p.drop 1))) ∧ atA (plP (bt (p.drop 1))) = resA (bt (p.drop 1)) ∧ atB (plP (bt (p.drop 1))) = resB (bt (p.drop 1))) := fun h => ⟨(plP_ok h).1, (plP_ok h).2.1, (plP_ok h).2.2.1⟩
        have HPD : Hid (plP (bt (p.drop 1)) = rankV (resA (bt (p.drop 1))) (resB (bt (p.drop 1))) (resC (bt (p.drop 1)))) := rfl
        clear HPA HP0 HDO HDN HBG HC0 HSG HLE
        generalize bt (p.drop 1) = t at *
        cases ho : okP t
        · have HDW := hide3 (HD2.out ho)
          rw [ho] at HP1
          clear HD1 HD2 HPL
          go_wp2_with (go_at_call 13; refine (HP1.out _).mono ?_; rintro e w2 ⟨rfl, ok⟩; have HO2 := hide3 (below_then HBW.out ok); clear ok)
          go_ret2
          exact ⟨_, by rw [HDW.out]; rfl, by rw [HDW.out]; exact ⟨none, 0, rfl, Nat.le_refl _, Or.inl rfl⟩, below_then HO2.out (boxB _ _)⟩
        · have HDW := hide3 (HD1.out ho)
          obtain ⟨⟨hn0, hn1⟩, hA, hB⟩ := HPL.out ho
          rw [ho] at HP1
          rw [HPD.out] at HDW hn0 hn1 hA hB
          clear HD1 HD2 HPL HPD ho
          have HRK1 := hide3 (HRK.out (resA t) (resB t) (resC t))
          generalize rankV (resA t) (resB t) (resC t) = n at *
          generalize resA t = a at *
          generalize resB t = b at *
          generalize resC t = c at *
          clear HRK
          have r1 : n.tmod 1000 = n % 1000 := Int.tmod_eq_emod_of_nonneg hn0
          have r2 : n.tmod 1000000 = n % 1000000 := Int.tmod_eq_emod_of_nonneg hn0
          have m1 : n - n % 1000 + 999 = minorR n := by unfold minorR; omega
          have m2 : n - n % 1000000 + 999999 = majorR n := by unfold majorR; omega
          have q0 : IntKind.i64.wrap (n - n % 1000) = n - n % 1000 := by rw [IntKind.wrap_i64]; omega
          have q1 : IntKind.i64.wrap (n - n % 1000 + 999) = minorR n := by rw [← m1, IntKind.wrap_i64]; omega
          have q2 : IntKind.i64.wrap (n - n % 1000000) = n - n % 1000000 := by rw [IntKind.wrap_i64]; omega
          have q3 : IntKind.i64.wrap (n - n % 1000000 + 999999) = majorR n := by rw [← m2, IntKind.wrap_i64]; omega
          have q4 : IntKind.i64.wrap (n - 1) = n - 1 := by rw [IntKind.wrap_i64]; omega
          have HDS : Hid (docS [60] n = fromR 0 (n - 1)) := by unfold Hid docS; simp
          have HF1 := hide3 (HFR.out 0 (n - 1))
          clear HFR
          go_wp2_with (first
            | (go_at_call 13; refine (HP1.out _).mono ?_; rintro e w2 ⟨rfl, ok⟩; have HO2 := hide3 (below_then (below_then HBW.out ok) (boxB w2 (.cells #[.int .i64 a, .int .i64 b, .int .i64 c] 23))); have HV2 : Hid (BxAt (w2.alloc (.cells #[.int .i64 a, .int .i64 b, .int .i64 c] 23)) ⟨w2.heap.size, .int .i64 a, .int .i64 b, .int .i64 c⟩) := ⟨by simp, by simp, by simp, by simp⟩; clear ok)
            | (go_at_call 75; refine (HRK1.out _).mono ?_; rintro e w3 ⟨rfl, ok⟩; have HO3 := hide3 (below_then HO2.out ok); obtain ⟨b0, b1, b2, b3⟩ := HV2.out.below ok; clear ok)
            | (go_at_call 92; refine (HF1.out _).mono ?_; rintro e w4 ⟨v4, rfl, ok⟩; have HO4 : Hid (SpansR w4 v4 (fromR 0 (n - 1)) ∧ Below w.heap.size w w4) := ⟨ok.1, below_then HO3.out ok.2⟩; clear ok))
          go_ret2
          exact ⟨_, by rw [HDW.out]; rfl, by rw [HDW.out]; show SpansR _ _ (docS [60] n); rw [HDS.out]; exact HO4.out.1, HO4.out.2⟩
      · simp only [sL, sV] at *
        have hle : ((1 : Nat) : Int) ≤ ((bt p).size : Int) := by have := HLE.out; simp at this; omega
        have HP1 : Hid (∀ w1, Calls Tryz.prog 13 #[.string ((bt p).extract 1 (bt p).size)] w1 fun e w' => e = .returned (.tuple #[.agg #[.int .i64 (resA (bt (p.drop 1))), .int .i64 (resB (bt (p.drop 1))), .int .i64 (resC (bt (p.drop 1)))], .bool (okP (bt (p.drop 1)))]) ∧ Below w1.heap.size w1 w') := HPA.out [62]
        have HD1 : Hid (okP (bt (p.drop 1)) = true → docW p = some (docS [62] (plP (bt (p.drop 1))))) := HDO.out [62] HSG.out
        have HD2 : Hid (okP (bt (p.drop 1)) = false → docW p = none) := HDN.out [62] HSG.out
        have HPL : Hid (okP (bt (p.drop 1)) = true → okR (plP (bt (p.drop 1))) ∧ atA (plP (bt (p.drop 1))) = resA (bt (p.drop 1)) ∧ atB (plP (bt (p.drop 1))) = resB (bt (p.drop 1))) := fun h => ⟨(plP_ok h).1, (plP_ok h).2.1, (plP_ok h).2.2.1⟩
        have HPD : Hid (plP (bt (p.drop 1)) = rankV (resA (bt (p.drop 1))) (resB (bt (p.drop 1))) (resC (bt (p.drop 1)))) := rfl
        clear HPA HP0 HDO HDN HBG HC0 HSG HLE
        generalize bt (p.drop 1) = t at *
        cases ho : okP t
        · have HDW := hide3 (HD2.out ho)
          rw [ho] at HP1
          clear HD1 HD2 HPL
          go_wp2_with (go_at_call 13; refine (HP1.out _).mono ?_; rintro e w2 ⟨rfl, ok⟩; have HO2 := hide3 (below_then HBW.out ok); clear ok)
          go_ret2
          exact ⟨_, by rw [HDW.out]; rfl, by rw [HDW.out]; exact ⟨none, 0, rfl, Nat.le_refl _, Or.inl rfl⟩, below_then HO2.out (boxB _ _)⟩
        · have HDW := hide3 (HD1.out ho)
          obtain ⟨⟨hn0, hn1⟩, hA, hB⟩ := HPL.out ho
          rw [ho] at HP1
          rw [HPD.out] at HDW hn0 hn1 hA hB
          clear HD1 HD2 HPL HPD ho
          have HRK1 := hide3 (HRK.out (resA t) (resB t) (resC t))
          generalize rankV (resA t) (resB t) (resC t) = n at *
          generalize resA t = a at *
          generalize resB t = b at *
          generalize resC t = c at *
          clear HRK
          have r1 : n.tmod 1000 = n % 1000 := Int.tmod_eq_emod_of_nonneg hn0
          have r2 : n.tmod 1000000 = n % 1000000 := Int.tmod_eq_emod_of_nonneg hn0
          have m1 : n - n % 1000 + 999 = minorR n := by unfold minorR; omega
          have m2 : n - n % 1000000 + 999999 = majorR n := by unfold majorR; omega
          have q0 : IntKind.i64.wrap (n - n % 1000) = n - n % 1000 := by rw [IntKind.wrap_i64]; omega
          have q1 : IntKind.i64.wrap (n - n % 1000 + 999) = minorR n := by rw [← m1, IntKind.wrap_i64]; omega
          have q2 : IntKind.i64.wrap (n - n % 1000000) = n - n % 1000000 := by rw [IntKind.wrap_i64]; omega
          have q3 : IntKind.i64.wrap (n - n % 1000000 + 999999) = majorR n := by rw [← m2, IntKind.wrap_i64]; omega
          have q4 : IntKind.i64.wrap (n + 1) = n + 1 := by rw [IntKind.wrap_i64]; omega
          have HDS : Hid (docS [62] n = fromR (n + 1) 999999999) := by unfold Hid docS; simp
          have HF1 := hide3 (HFR.out (n + 1) 999999999)
          clear HFR
          go_wp2_with (first
            | (go_at_call 13; refine (HP1.out _).mono ?_; rintro e w2 ⟨rfl, ok⟩; have HO2 := hide3 (below_then (below_then HBW.out ok) (boxB w2 (.cells #[.int .i64 a, .int .i64 b, .int .i64 c] 23))); have HV2 : Hid (BxAt (w2.alloc (.cells #[.int .i64 a, .int .i64 b, .int .i64 c] 23)) ⟨w2.heap.size, .int .i64 a, .int .i64 b, .int .i64 c⟩) := ⟨by simp, by simp, by simp, by simp⟩; clear ok)
            | (go_at_call 75; refine (HRK1.out _).mono ?_; rintro e w3 ⟨rfl, ok⟩; have HO3 := hide3 (below_then HO2.out ok); obtain ⟨b0, b1, b2, b3⟩ := HV2.out.below ok; clear ok)
            | (go_at_call 92; refine (HF1.out _).mono ?_; rintro e w4 ⟨v4, rfl, ok⟩; have HO4 : Hid (SpansR w4 v4 (fromR (n + 1) 999999999) ∧ Below w.heap.size w w4) := ⟨ok.1, below_then HO3.out ok.2⟩; clear ok))
          go_ret2
          exact ⟨_, by rw [HDW.out]; rfl, by rw [HDW.out]; show SpansR _ _ (docS [62] n); rw [HDS.out]; exact HO4.out.1, HO4.out.2⟩
      · simp only [sL, sV] at *
        have hle : ((1 : Nat) : Int) ≤ ((bt p).size : Int) := by have := HLE.out; simp at this; omega
        have HP1 : Hid (∀ w1, Calls Tryz.prog 13 #[.string ((bt p).extract 1 (bt p).size)] w1 fun e w' => e = .returned (.tuple #[.agg #[.int .i64 (resA (bt (p.drop 1))), .int .i64 (resB (bt (p.drop 1))), .int .i64 (resC (bt (p.drop 1)))], .bool (okP (bt (p.drop 1)))]) ∧ Below w1.heap.size w1 w') := HPA.out [61]
        have HD1 : Hid (okP (bt (p.drop 1)) = true → docW p = some (docS [61] (plP (bt (p.drop 1))))) := HDO.out [61] HSG.out
        have HD2 : Hid (okP (bt (p.drop 1)) = false → docW p = none) := HDN.out [61] HSG.out
        have HPL : Hid (okP (bt (p.drop 1)) = true → okR (plP (bt (p.drop 1))) ∧ atA (plP (bt (p.drop 1))) = resA (bt (p.drop 1)) ∧ atB (plP (bt (p.drop 1))) = resB (bt (p.drop 1))) := fun h => ⟨(plP_ok h).1, (plP_ok h).2.1, (plP_ok h).2.2.1⟩
        have HPD : Hid (plP (bt (p.drop 1)) = rankV (resA (bt (p.drop 1))) (resB (bt (p.drop 1))) (resC (bt (p.drop 1)))) := rfl
        clear HPA HP0 HDO HDN HBG HC0 HSG HLE
        generalize bt (p.drop 1) = t at *
        cases ho : okP t
        · have HDW := hide3 (HD2.out ho)
          rw [ho] at HP1
          clear HD1 HD2 HPL
          go_wp2_with (go_at_call 13; refine (HP1.out _).mono ?_; rintro e w2 ⟨rfl, ok⟩; have HO2 := hide3 (below_then HBW.out ok); clear ok)
          go_ret2
          exact ⟨_, by rw [HDW.out]; rfl, by rw [HDW.out]; exact ⟨none, 0, rfl, Nat.le_refl _, Or.inl rfl⟩, below_then HO2.out (boxB _ _)⟩
        · have HDW := hide3 (HD1.out ho)
          obtain ⟨⟨hn0, hn1⟩, hA, hB⟩ := HPL.out ho
          rw [ho] at HP1
          rw [HPD.out] at HDW hn0 hn1 hA hB
          clear HD1 HD2 HPL HPD ho
          have HRK1 := hide3 (HRK.out (resA t) (resB t) (resC t))
          generalize rankV (resA t) (resB t) (resC t) = n at *
          generalize resA t = a at *
          generalize resB t = b at *
          generalize resC t = c at *
          clear HRK
          have r1 : n.tmod 1000 = n % 1000 := Int.tmod_eq_emod_of_nonneg hn0
          have r2 : n.tmod 1000000 = n % 1000000 := Int.tmod_eq_emod_of_nonneg hn0
          have m1 : n - n % 1000 + 999 = minorR n := by unfold minorR; omega
          have m2 : n - n % 1000000 + 999999 = majorR n := by unfold majorR; omega
          have q0 : IntKind.i64.wrap (n - n % 1000) = n - n % 1000 := by rw [IntKind.wrap_i64]; omega
          have q1 : IntKind.i64.wrap (n - n % 1000 + 999) = minorR n := by rw [← m1, IntKind.wrap_i64]; omega
          have q2 : IntKind.i64.wrap (n - n % 1000000) = n - n % 1000000 := by rw [IntKind.wrap_i64]; omega
          have q3 : IntKind.i64.wrap (n - n % 1000000 + 999999) = majorR n := by rw [← m2, IntKind.wrap_i64]; omega
          have HDS : Hid (docS [61] n = fromR n n) := by unfold Hid docS; simp
          have HF1 := hide3 (HFR.out n n)
          clear HFR
          go_wp2_with (first
            | (go_at_call 13; refine (HP1.out _).mono ?_; rintro e w2 ⟨rfl, ok⟩; have HO2 := hide3 (below_then (below_then HBW.out ok) (boxB w2 (.cells #[.int .i64 a, .int .i64 b, .int .i64 c] 23))); have HV2 : Hid (BxAt (w2.alloc (.cells #[.int .i64 a, .int .i64 b, .int .i64 c] 23)) ⟨w2.heap.size, .int .i64 a, .int .i64 b, .int .i64 c⟩) := ⟨by simp, by simp, by simp, by simp⟩; clear ok)
            | (go_at_call 75; refine (HRK1.out _).mono ?_; rintro e w3 ⟨rfl, ok⟩; have HO3 := hide3 (below_then HO2.out ok); obtain ⟨b0, b1, b2, b3⟩ := HV2.out.below ok; clear ok)
            | (go_at_call 92; refine (HF1.out _).mono ?_; rintro e w4 ⟨v4, rfl, ok⟩; have HO4 : Hid (SpansR w4 v4 (fromR n n) ∧ Below w.heap.size w w4) := ⟨ok.1, below_then HO3.out ok.2⟩; clear ok))
          go_ret2
          exact ⟨_, by rw [HDW.out]; rfl, by rw [HDW.out]; show SpansR _ _ (docS [61] n); rw [HDS.out]; exact HO4.out.1, HO4.out.2⟩
      · simp only [sL, sV] at *
        have hle : ((1 : Nat) : Int) ≤ ((bt p).size : Int) := by have := HLE.out; simp at this; omega
        have HP1 : Hid (∀ w1, Calls Tryz.prog 13 #[.string ((bt p).extract 1 (bt p).size)] w1 fun e w' => e = .returned (.tuple #[.agg #[.int .i64 (resA (bt (p.drop 1))), .int .i64 (resB (bt (p.drop 1))), .int .i64 (resC (bt (p.drop 1)))], .bool (okP (bt (p.drop 1)))]) ∧ Below w1.heap.size w1 w') := HPA.out [94]
        have HD1 : Hid (okP (bt (p.drop 1)) = true → docW p = some (docS [94] (plP (bt (p.drop 1))))) := HDO.out [94] HSG.out
        have HD2 : Hid (okP (bt (p.drop 1)) = false → docW p = none) := HDN.out [94] HSG.out
        have HPL : Hid (okP (bt (p.drop 1)) = true → okR (plP (bt (p.drop 1))) ∧ atA (plP (bt (p.drop 1))) = resA (bt (p.drop 1)) ∧ atB (plP (bt (p.drop 1))) = resB (bt (p.drop 1))) := fun h => ⟨(plP_ok h).1, (plP_ok h).2.1, (plP_ok h).2.2.1⟩
        have HPD : Hid (plP (bt (p.drop 1)) = rankV (resA (bt (p.drop 1))) (resB (bt (p.drop 1))) (resC (bt (p.drop 1)))) := rfl
        clear HPA HP0 HDO HDN HBG HC0 HSG HLE
        generalize bt (p.drop 1) = t at *
        cases ho : okP t
        · have HDW := hide3 (HD2.out ho)
          rw [ho] at HP1
          clear HD1 HD2 HPL
          go_wp2_with (go_at_call 13; refine (HP1.out _).mono ?_; rintro e w2 ⟨rfl, ok⟩; have HO2 := hide3 (below_then HBW.out ok); clear ok)
          go_ret2
          exact ⟨_, by rw [HDW.out]; rfl, by rw [HDW.out]; exact ⟨none, 0, rfl, Nat.le_refl _, Or.inl rfl⟩, below_then HO2.out (boxB _ _)⟩
        · have HDW := hide3 (HD1.out ho)
          obtain ⟨⟨hn0, hn1⟩, hA, hB⟩ := HPL.out ho
          rw [ho] at HP1
          rw [HPD.out] at HDW hn0 hn1 hA hB
          clear HD1 HD2 HPL HPD ho
          have HRK1 := hide3 (HRK.out (resA t) (resB t) (resC t))
          generalize rankV (resA t) (resB t) (resC t) = n at *
          generalize resA t = a at *
          generalize resB t = b at *
          generalize resC t = c at *
          clear HRK
          have r1 : n.tmod 1000 = n % 1000 := Int.tmod_eq_emod_of_nonneg hn0
          have r2 : n.tmod 1000000 = n % 1000000 := Int.tmod_eq_emod_of_nonneg hn0
          have m1 : n - n % 1000 + 999 = minorR n := by unfold minorR; omega
          have m2 : n - n % 1000000 + 999999 = majorR n := by unfold majorR; omega
          have q0 : IntKind.i64.wrap (n - n % 1000) = n - n % 1000 := by rw [IntKind.wrap_i64]; omega
          have q1 : IntKind.i64.wrap (n - n % 1000 + 999) = minorR n := by rw [← m1, IntKind.wrap_i64]; omega
          have q2 : IntKind.i64.wrap (n - n % 1000000) = n - n % 1000000 := by rw [IntKind.wrap_i64]; omega
          have q3 : IntKind.i64.wrap (n - n % 1000000 + 999999) = majorR n := by rw [← m2, IntKind.wrap_i64]; omega
          by_cases ha : 0 < a
          · have hA1 : 0 < atA n := by rw [hA]; exact ha
            have HDS : Hid (docS [94] n = fromR n (majorR n)) := by unfold Hid docS; simp [hA1]
            have HF1 := hide3 (HFR.out n (majorR n))
            clear HFR
            go_wp2_with (first
              | (go_at_call 13; refine (HP1.out _).mono ?_; rintro e w2 ⟨rfl, ok⟩; have HO2 := hide3 (below_then (below_then HBW.out ok) (boxB w2 (.cells #[.int .i64 a, .int .i64 b, .int .i64 c] 23))); have HV2 : Hid (BxAt (w2.alloc (.cells #[.int .i64 a, .int .i64 b, .int .i64 c] 23)) ⟨w2.heap.size, .int .i64 a, .int .i64 b, .int .i64 c⟩) := ⟨by simp, by simp, by simp, by simp⟩; clear ok)
              | (go_at_call 75; refine (HRK1.out _).mono ?_; rintro e w3 ⟨rfl, ok⟩; have HO3 := hide3 (below_then HO2.out ok); obtain ⟨b0, b1, b2, b3⟩ := HV2.out.below ok; clear ok)
              | (go_at_call 92; refine (HF1.out _).mono ?_; rintro e w4 ⟨v4, rfl, ok⟩; have HO4 : Hid (SpansR w4 v4 (fromR n (majorR n)) ∧ Below w.heap.size w w4) := ⟨ok.1, below_then HO3.out ok.2⟩; clear ok))
            go_ret2
            exact ⟨_, by rw [HDW.out]; rfl, by rw [HDW.out]; show SpansR _ _ (docS [94] n); rw [HDS.out]; exact HO4.out.1, HO4.out.2⟩
          · have hA1 : ¬ 0 < atA n := by rw [hA]; exact ha
            by_cases hbb : 0 < b
            · have hB1 : 0 < atB n := by rw [hB]; exact hbb
              have HDS : Hid (docS [94] n = fromR n (minorR n)) := by unfold Hid docS; simp [hA1, hB1]
              have HF1 := hide3 (HFR.out n (minorR n))
              clear HFR
              go_wp2_with (first
                | (go_at_call 13; refine (HP1.out _).mono ?_; rintro e w2 ⟨rfl, ok⟩; have HO2 := hide3 (below_then (below_then HBW.out ok) (boxB w2 (.cells #[.int .i64 a, .int .i64 b, .int .i64 c] 23))); have HV2 : Hid (BxAt (w2.alloc (.cells #[.int .i64 a, .int .i64 b, .int .i64 c] 23)) ⟨w2.heap.size, .int .i64 a, .int .i64 b, .int .i64 c⟩) := ⟨by simp, by simp, by simp, by simp⟩; clear ok)
                | (go_at_call 75; refine (HRK1.out _).mono ?_; rintro e w3 ⟨rfl, ok⟩; have HO3 := hide3 (below_then HO2.out ok); obtain ⟨b0, b1, b2, b3⟩ := HV2.out.below ok; clear ok)
                | (go_at_call 92; refine (HF1.out _).mono ?_; rintro e w4 ⟨v4, rfl, ok⟩; have HO4 : Hid (SpansR w4 v4 (fromR n (minorR n)) ∧ Below w.heap.size w w4) := ⟨ok.1, below_then HO3.out ok.2⟩; clear ok))
              go_ret2
              exact ⟨_, by rw [HDW.out]; rfl, by rw [HDW.out]; show SpansR _ _ (docS [94] n); rw [HDS.out]; exact HO4.out.1, HO4.out.2⟩
            · have hB1 : ¬ 0 < atB n := by rw [hB]; exact hbb
              have HDS : Hid (docS [94] n = fromR n n) := by unfold Hid docS; simp [hA1, hB1]
              have HF1 := hide3 (HFR.out n n)
              clear HFR
              go_wp2_with (first
                | (go_at_call 13; refine (HP1.out _).mono ?_; rintro e w2 ⟨rfl, ok⟩; have HO2 := hide3 (below_then (below_then HBW.out ok) (boxB w2 (.cells #[.int .i64 a, .int .i64 b, .int .i64 c] 23))); have HV2 : Hid (BxAt (w2.alloc (.cells #[.int .i64 a, .int .i64 b, .int .i64 c] 23)) ⟨w2.heap.size, .int .i64 a, .int .i64 b, .int .i64 c⟩) := ⟨by simp, by simp, by simp, by simp⟩; clear ok)
                | (go_at_call 75; refine (HRK1.out _).mono ?_; rintro e w3 ⟨rfl, ok⟩; have HO3 := hide3 (below_then HO2.out ok); obtain ⟨b0, b1, b2, b3⟩ := HV2.out.below ok; clear ok)
                | (go_at_call 92; refine (HF1.out _).mono ?_; rintro e w4 ⟨v4, rfl, ok⟩; have HO4 : Hid (SpansR w4 v4 (fromR n n) ∧ Below w.heap.size w w4) := ⟨ok.1, below_then HO3.out ok.2⟩; clear ok))
              go_ret2
              exact ⟨_, by rw [HDW.out]; rfl, by rw [HDW.out]; show SpansR _ _ (docS [94] n); rw [HDS.out]; exact HO4.out.1, HO4.out.2⟩
      · simp only [sL, sV] at *
        have hle : ((1 : Nat) : Int) ≤ ((bt p).size : Int) := by have := HLE.out; simp at this; omega
        have HP1 : Hid (∀ w1, Calls Tryz.prog 13 #[.string ((bt p).extract 1 (bt p).size)] w1 fun e w' => e = .returned (.tuple #[.agg #[.int .i64 (resA (bt (p.drop 1))), .int .i64 (resB (bt (p.drop 1))), .int .i64 (resC (bt (p.drop 1)))], .bool (okP (bt (p.drop 1)))]) ∧ Below w1.heap.size w1 w') := HPA.out [126]
        have HD1 : Hid (okP (bt (p.drop 1)) = true → docW p = some (docS [126] (plP (bt (p.drop 1))))) := HDO.out [126] HSG.out
        have HD2 : Hid (okP (bt (p.drop 1)) = false → docW p = none) := HDN.out [126] HSG.out
        have HPL : Hid (okP (bt (p.drop 1)) = true → okR (plP (bt (p.drop 1))) ∧ atA (plP (bt (p.drop 1))) = resA (bt (p.drop 1)) ∧ atB (plP (bt (p.drop 1))) = resB (bt (p.drop 1))) := fun h => ⟨(plP_ok h).1, (plP_ok h).2.1, (plP_ok h).2.2.1⟩
        have HPD : Hid (plP (bt (p.drop 1)) = rankV (resA (bt (p.drop 1))) (resB (bt (p.drop 1))) (resC (bt (p.drop 1)))) := rfl
        clear HPA HP0 HDO HDN HBG HC0 HSG HLE
        generalize bt (p.drop 1) = t at *
        cases ho : okP t
        · have HDW := hide3 (HD2.out ho)
          rw [ho] at HP1
          clear HD1 HD2 HPL
          go_wp2_with (go_at_call 13; refine (HP1.out _).mono ?_; rintro e w2 ⟨rfl, ok⟩; have HO2 := hide3 (below_then HBW.out ok); clear ok)
          go_ret2
          exact ⟨_, by rw [HDW.out]; rfl, by rw [HDW.out]; exact ⟨none, 0, rfl, Nat.le_refl _, Or.inl rfl⟩, below_then HO2.out (boxB _ _)⟩
        · have HDW := hide3 (HD1.out ho)
          obtain ⟨⟨hn0, hn1⟩, hA, hB⟩ := HPL.out ho
          rw [ho] at HP1
          rw [HPD.out] at HDW hn0 hn1 hA hB
          clear HD1 HD2 HPL HPD ho
          have HRK1 := hide3 (HRK.out (resA t) (resB t) (resC t))
          generalize rankV (resA t) (resB t) (resC t) = n at *
          generalize resA t = a at *
          generalize resB t = b at *
          generalize resC t = c at *
          clear HRK
          have r1 : n.tmod 1000 = n % 1000 := Int.tmod_eq_emod_of_nonneg hn0
          have r2 : n.tmod 1000000 = n % 1000000 := Int.tmod_eq_emod_of_nonneg hn0
          have m1 : n - n % 1000 + 999 = minorR n := by unfold minorR; omega
          have m2 : n - n % 1000000 + 999999 = majorR n := by unfold majorR; omega
          have q0 : IntKind.i64.wrap (n - n % 1000) = n - n % 1000 := by rw [IntKind.wrap_i64]; omega
          have q1 : IntKind.i64.wrap (n - n % 1000 + 999) = minorR n := by rw [← m1, IntKind.wrap_i64]; omega
          have q2 : IntKind.i64.wrap (n - n % 1000000) = n - n % 1000000 := by rw [IntKind.wrap_i64]; omega
          have q3 : IntKind.i64.wrap (n - n % 1000000 + 999999) = majorR n := by rw [← m2, IntKind.wrap_i64]; omega
          have HDS : Hid (docS [126] n = fromR n (minorR n)) := by unfold Hid docS; simp
          have HF1 := hide3 (HFR.out n (minorR n))
          clear HFR
          go_wp2_with (first
            | (go_at_call 13; refine (HP1.out _).mono ?_; rintro e w2 ⟨rfl, ok⟩; have HO2 := hide3 (below_then (below_then HBW.out ok) (boxB w2 (.cells #[.int .i64 a, .int .i64 b, .int .i64 c] 23))); have HV2 : Hid (BxAt (w2.alloc (.cells #[.int .i64 a, .int .i64 b, .int .i64 c] 23)) ⟨w2.heap.size, .int .i64 a, .int .i64 b, .int .i64 c⟩) := ⟨by simp, by simp, by simp, by simp⟩; clear ok)
            | (go_at_call 75; refine (HRK1.out _).mono ?_; rintro e w3 ⟨rfl, ok⟩; have HO3 := hide3 (below_then HO2.out ok); obtain ⟨b0, b1, b2, b3⟩ := HV2.out.below ok; clear ok)
            | (go_at_call 92; refine (HF1.out _).mono ?_; rintro e w4 ⟨v4, rfl, ok⟩; have HO4 : Hid (SpansR w4 v4 (fromR n (minorR n)) ∧ Below w.heap.size w w4) := ⟨ok.1, below_then HO3.out ok.2⟩; clear ok))
          go_ret2
          exact ⟨_, by rw [HDW.out]; rfl, by rw [HDW.out]; show SpansR _ _ (docS [126] n); rw [HDS.out]; exact HO4.out.1, HO4.out.2⟩
end Go.Proofs.YthoacfmfpbngkaaGreatDoor
namespace Go.Proofs.YthoacfmfpbngkaaGreatDoor
open Go.RowKit
set_option maxRecDepth 100000

theorem keepSpR (v : Value) (A : Rg) : KeepP fun w1 => SpansR w1 v A := fun _ _ h hb => h.below hb
/-- A call that answers with a pair, of which the first is a new list. -/
def NewSp (f : Nat) (va vb : Value) (w : World) (er : Int) (X : Rg) : Prop := Calls Tryz.prog f #[va, vb] w fun e w' => ∃ v, e = .returned (.tuple #[v, .int .i64 er]) ∧ SpansR w' v X ∧ Below w.heap.size w w'
def Says (f : Nat) (args : Array Value) (w : World) (b : Bool) : Prop := Calls Tryz.prog f args w fun e w' => e = .returned (.bool b) ∧ Below w.heap.size w w'

/-- A call that answers with an empty list and no error. -/
def NilSp (f : Nat) (va vb : Value) (w : World) : Prop := Calls Tryz.prog f #[va, vb] w fun e w' => ∃ ad cap, e = .returned (.tuple #[.slice ad 0 cap, .int .i64 0]) ∧ SpansR w' (.slice ad 0 cap) [] ∧ Below w.heap.size w w'
def OneSp (f : Nat) (args : Array Value) (w : World) (X : Rg) : Prop := Calls Tryz.prog f args w fun e w' => ∃ v, e = .returned v ∧ SpansR w' v X ∧ Below w.heap.size w w'

theorem Says.of {f : Nat} {args : Array Value} {w : World} {b c : Bool} (h : Says f args w b) (e : b = c) : Says f args w c := e ▸ h

/-- A range that came in, or a list that is none. -/
theorem rg_or {w : World} {v : Value} {L : List Sp} (h : SpansC w v L) : mayL L = false ∨ ∃ A, L = A.map spR ∧ RangeR A ∧ A.length ≤ 64 ∧ SpansR w v A := by
  cases hm : mayL L
  · exact Or.inl rfl
  · obtain ⟨A, rfl, hA, hl⟩ := may_iff.1 hm
    exact Or.inr ⟨A, rfl, hA, hl, h.rg⟩

theorem sMay_rg {A : Rg} (hA : RangeR A) (hl : A.length ≤ 64) {w : World} {v : Value} (h : SpansR w v A) : Says 86 #[v] w true := by
  have := sMay_any h.at; rw [may_rg hA hl] at this; exact this

theorem full_0 {n : Nat} (h : n ≤ 64) : fullE n = 0 := by unfold fullE; rw [if_pos h]
theorem full_26 {n : Nat} (h : ¬ n ≤ 64) : fullE n = 26 := by unfold fullE; rw [if_neg h]

end Go.Proofs.YthoacfmfpbngkaaGreatDoor
namespace Go.Proofs.YthoacfmfpbngkaaGreatDoor
open Go.RowKit
set_option maxRecDepth 100000

/-- A call that answers a list of its own, and an error's number. -/
def NewOw (f : Nat) (args : Array Value) (w : World) (er : Int) (X : Rg) : Prop := Calls Tryz.prog f args w fun e w' => ∃ v, e = .returned (.tuple #[v, .int .i64 er]) ∧ OwnS w' w.heap.size v (X.map spR) ∧ Below w.heap.size w w'

theorem rk_sp {A : Rg} (hA : RangeR A) : (A.map spR).map rkS = A := by
  rw [List.map_map]
  conv => rhs; rw [← List.map_id A]
  refine List.map_congr_left fun p hp => ?_
  obtain ⟨h1, h2, _⟩ := hA.ok p hp
  show (rankV (atA p.1) (atB p.1) (atC p.1), rankV (atA p.2) (atB p.2) (atC p.2)) = p
  have e1 := (may_at (n := p.1) (by unfold hasV; obtain ⟨a, b⟩ := h1; simp; omega)).2
  have e2 := (may_at (n := p.2) (by unfold hasV; obtain ⟨a, b⟩ := h2; simp; omega)).2
  rw [e1, e2]

/-- A row of spans of one's own, whatever it holds. -/
def RowW (w : World) (B : Nat) (v : Value) (n : Nat) : Prop := ∃ xs, w.ownsRow B 90 6 v n xs
theorem RowW.set {w : World} {B : Nat} {v : Value} {n : Nat} (h : RowW w B v n) (a : Addr) (u : Value) : RowW (w.setCell a u) B v n := by
  obtain ⟨xs, hl, h⟩ := h
  rcases h with ⟨rfl, rfl⟩ | ⟨g, cap, cur, rfl, hB, hg, hn, hm, hc, hx⟩
  · exact ⟨xs, hl, Or.inl ⟨rfl, rfl⟩⟩
  · by_cases hga : g = a.block
    · obtain ⟨cur', h1, h2⟩ : ∃ cur' : Array Value, (w.setCell a u).heap[g]? = some (.cells cur' 90 (0, 0)) ∧ cur'.size = cur.size := by
        subst hga
        simp only [World.setCell, Array.getElem?_modify, if_pos, hg, Option.map_some]
        cases hs : a.spot <;> simp
      refine ⟨cur'.toList.take (n * 6), ?_, Or.inr ⟨g, cap, cur', rfl, hB, h1, hn, hm, h2.trans hc, rfl⟩⟩
      rw [List.length_take, Array.length_toList, h2, hc]
      omega
    · exact ⟨xs, hl, Or.inr ⟨g, cap, cur, rfl, hB, (Below.heap_setCell _ _ _ _ hga).trans hg, hn, hm, hc, hx⟩⟩
theorem RowW.below {w w' : World} {B : Nat} {v : Value} {n : Nat} (h : RowW w B v n) (hb : Below w.heap.size w w') : RowW w' B v n := by
  obtain ⟨xs, h⟩ := h
  refine ⟨xs, h.1, h.2.imp id ?_⟩
  rintro ⟨g, cap, cur, rfl, hB, hg, hr⟩
  exact ⟨g, cap, cur, rfl, hB, (hb.block g (Array.getElem?_eq_some_iff.1 hg).1).trans hg, hr⟩
/-- All that are rows stay rows. -/
def RowsStay (w w' : World) : Prop := ∀ B v n, RowW w B v n → RowW w' B v n

theorem RowW.at {w : World} {B n cap g : Nat} (h : RowW w B (.slice (some ⟨g, 0, none⟩) n cap) n) {i : Nat} (hi : i < n * 6) : (∃ x, w.cell? ⟨g, i, none⟩ = some x) ∧ w.frozen? ⟨g, i, none⟩ = false ∧ B ≤ g := by
  obtain ⟨xs, _, h⟩ := h
  rcases h with ⟨h, _⟩ | ⟨g', cap', cur, e, hB, hg, hn, hm, hc, hx⟩
  · cases h
  · cases e
    have hlt : i < cur.size := by rw [hc]; exact Nat.lt_of_lt_of_le hi (Nat.mul_le_mul_right 6 hn)
    exact ⟨⟨cur[i], by rw [Lib.cell_of_heap hg]; exact Array.getElem?_eq_getElem hlt⟩, Lib.frozen_of_heap hg i, hB⟩
theorem six_stay {w0 w : World} (h : RowsStay w0 w) (a0 a1 a2 a3 a4 a5 : Addr) (u0 u1 u2 u3 u4 u5 : Value) : RowsStay w0 ((((((w.setCell a0 u0).setCell a1 u1).setCell a2 u2).setCell a3 u3).setCell a4 u4).setCell a5 u5) :=
  fun B v n hr => ((((((h B v n hr).set a0 u0).set a1 u1).set a2 u2).set a3 u3).set a4 u4).set a5 u5
theorem six_below {w0 w : World} {C g : Nat} (h : Below C w0 w) (hg : C ≤ g) (i0 i1 i2 i3 i4 i5 : Nat) (u0 u1 u2 u3 u4 u5 : Value) : Below C w0 ((((((w.setCell ⟨g, i0, none⟩ u0).setCell ⟨g, i1, none⟩ u1).setCell ⟨g, i2, none⟩ u2).setCell ⟨g, i3, none⟩ u3).setCell ⟨g, i4, none⟩ u4).setCell ⟨g, i5, none⟩ u5) :=
  (((((h.setCell (p := ⟨g, i0, none⟩) hg u0).setCell (p := ⟨g, i1, none⟩) hg u1).setCell (p := ⟨g, i2, none⟩) hg u2).setCell (p := ⟨g, i3, none⟩) hg u3).setCell (p := ⟨g, i4, none⟩) hg u4).setCell (p := ⟨g, i5, none⟩) hg u5

end Go.Proofs.YthoacfmfpbngkaaGreatDoor
