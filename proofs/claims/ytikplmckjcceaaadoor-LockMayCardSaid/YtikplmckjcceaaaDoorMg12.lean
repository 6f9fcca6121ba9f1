/- Lk27, Lk28, laid in one text. -/
import Derived.Test.YtikplmckjcceaaaDoorMg11
namespace Go.Proofs.YtikplmckjcceaaaDoor
open Go.RowKit
open Sc (KeepP hide3 keepBelow Bs ba)
set_option maxRecDepth 100000

/-- A node may stand at its place. -/
def okAt (n : Nat) (j : Nat) (x : Nd) : Bool := (if j = 0 then firstB x else laterB x) && mayEd n x.ed
theorem mayG_iff {G : List Nd} : mayG G = true ↔ 0 < G.length ∧ G.length ≤ 128 ∧ ∀ j (h : j < G.length), okAt G.length j G[j] = true := by
  cases G with
  | nil => exact ⟨fun h => (by cases h), fun h => (by have := h.1; simp at this)⟩
  | cons n r =>
    have ec : (((n :: r).length : Nat) : Int) = (r.length : Int) + 1 := by simp
    unfold mayG
    simp only [Bool.and_eq_true, decide_eq_true_eq, List.all_eq_true]
    constructor
    · rintro ⟨⟨⟨h1, h2⟩, h3⟩, h4⟩
      refine ⟨by simp, by simpa using h1, fun j hj => ?_⟩
      unfold okAt
      rw [Bool.and_eq_true, ec]
      refine ⟨?_, h4 _ (List.getElem_mem hj)⟩
      cases j with
      | zero => exact h2
      | succ j => exact h3 _ (by simp)
    · rintro ⟨_, h1, h2⟩
      have q : ∀ j (h : j < (n :: r).length), (if j = 0 then firstB (n :: r)[j] else laterB (n :: r)[j]) = true ∧ mayEd ((r.length : Int) + 1) (n :: r)[j].ed = true := fun j h => by
        have := h2 j h
        unfold okAt at this
        rwa [Bool.and_eq_true, ec] at this
      refine ⟨⟨⟨by simpa using h1, (q 0 (by simp)).1⟩, fun m hm => ?_⟩, fun m hm => ?_⟩
      · obtain ⟨i, hi, rfl⟩ := List.getElem_of_mem hm
        exact (q (i + 1) (by simpa using hi)).1
      · obtain ⟨i, hi, rfl⟩ := List.getElem_of_mem hm
        exact (q i hi).2
/-- What stays while a node is looked at. -/
def KM (w : World) (v : Value) (x : Nd) (vc ve : Value) (M : Nat) (W : World) : Prop := (Below w.heap.size w W ∧ BxG W w.heap.size v) ∧ BxNd W M x vc ve ∧ PinsAt W vc x.cx ∧ EdgesAt W ve x.ed
theorem keepKM (w : World) (v : Value) (x : Nd) (vc ve : Value) (M : Nat) : KeepP (KM w v x vc ve M) := fun _ _ ⟨⟨h1, h2⟩, h3, h4, h5⟩ hb => ⟨⟨below_then h1 hb, keepBxG _ _ _ _ h2 hb⟩, keepBxNd _ _ _ _ _ _ h3 hb, h4.below hb, h5.below hb⟩

set_option maxHeartbeats 12800000 in
theorem rMayG_walk {G : List Nd} {ad : Option Addr} {cap : Nat} {w : World} (h : NodesAt w (.slice ad G.length cap) G) (hz : ∀ n ∈ G, NdZ n) (h0 : 0 < G.length) (h1 : G.length ≤ 128) :
    Calls Tryd.prog 9 #[.agg #[.slice ad G.length cap]] w fun e w' => e = .returned (.bool (mayG G)) ∧ Below w.heap.size w w' := by
  obtain ⟨ga, oa, rfl, hcs⟩ : ∃ ga oa, ad = some ⟨ga, oa, none⟩ ∧ ∀ W, Below w.heap.size w W → ∀ i (h : i < G.length), ∃ vc ve, NdIn W ga (oa + i * 6) G[i] vc ve := by
    obtain ⟨a1, c1, hv, _, hl⟩ := h
    cases hv
    rcases hl with rfl | ⟨g, o, rfl, _, hs⟩
    · cases h0
    · exact ⟨g, o, rfl, fun W hb i hi => by obtain ⟨vc, ve, k⟩ := hs i hi; exact ⟨vc, ve, k.below hb⟩⟩
  have HCS := hide3 hcs
  have HZ := hide3 hz
  have HMG : Hid (∀ k (h : k < G.length), okAt G.length k G[k] = false → mayG G = false) := fun k hk he => by
    cases hm : mayG G with
    | false => rfl
    | true => have := (mayG_iff.1 hm).2.2 k hk; rw [he] at this; cases this
  have HMY : Hid ((∀ j (h : j < G.length), okAt G.length j G[j] = true) → mayG G = true) := fun hj => mayG_iff.2 ⟨h0, h1, hj⟩
  have hl1 : decide ((G.length : Int) < 1) = false := decide_eq_false (by omega)
  have hl2 : decide ((128 : Int) < (G.length : Int)) = false := decide_eq_false (by omega)
  have HB0 : Hid (Below w.heap.size w (w.alloc (.cells #[.slice (some ⟨ga, oa, none⟩) G.length cap] 24)) ∧ BxG (w.alloc (.cells #[.slice (some ⟨ga, oa, none⟩) G.length cap] 24)) w.heap.size (.slice (some ⟨ga, oa, none⟩) G.length cap)) := ⟨boxB _ _, BxG.new rfl _⟩
  clear h hz hcs
  go_enter Tryd.func9, Tryd.ntmps9
  go_wp2_with fail
  go_loopw [4] (fun i wr => ∃ k : Nat, k ≤ G.length ∧ i = .int .i64 k ∧ (Below w.heap.size w wr ∧ BxG wr w.heap.size (.slice (some ⟨ga, oa, none⟩) G.length cap)) ∧ ∀ j (h : j < k) (h1 : j < G.length), okAt G.length j G[j] = true) (fun i _ => G.length - (intOf i).toNat)
  case atStart => exact ⟨0, Nat.zero_le _, rfl, HB0.out, fun j h => by omega⟩
  case round =>
    clear HB0
    obtain ⟨k, hk, rfl, hb, hall⟩ := hrel
    have HALL := hide3 hall
    have HB := hide3 hb
    obtain ⟨_, y0, y1⟩ := hb
    clear hall
    by_cases hlt : k < G.length
    · obtain ⟨vc, ve, hx⟩ := HCS.out wr HB.out.1 k hlt
      have hzk := HZ.out G[k] (List.getElem_mem hlt)
      have HNO := hide3 (HMG.out k hlt)
      have HST : Hid (okAt G.length k G[k] = true → ∀ j (h : j < k + 1) (h1 : j < G.length), okAt G.length j G[j] = true) := fun h j hj h1 => by
        rcases Nat.lt_or_ge j k with hjk | hjk
        · exact HALL.out j hjk h1
        · obtain rfl : j = k := by omega
          exact h
      clear HALL HCS HZ HMG HMY
      generalize G[k] = x at *
      obtain ⟨av, cv, rfl⟩ := hx.2.1.1.sl
      obtain ⟨ae, ce, rfl⟩ := hx.2.1.2.sl
      have HX1 := hide3 (hx.below (boxB wr (.cells #[.string x.nm, .int .i64 x.a, .int .i64 x.b, .int .i64 x.c, .slice av x.cx.length cv, .slice ae x.ed.length ce] 38)))
      have HKM : Hid (KM w (.slice (some ⟨ga, oa, none⟩) G.length cap) x (.slice av x.cx.length cv) (.slice ae x.ed.length ce) wr.heap.size (wr.alloc (.cells #[.string x.nm, .int .i64 x.a, .int .i64 x.b, .int .i64 x.c, .slice av x.cx.length cv, .slice ae x.ed.length ce] 38))) := ⟨⟨below_then HB.out.1 (boxB _ _), keepBxG _ _ _ _ HB.out.2 (boxB _ _)⟩, BxNd.new rfl _ _ _, HX1.out.2.1.1, HX1.out.2.1.2⟩
      have HKP := hide3 (keepKM w (.slice (some ⟨ga, oa, none⟩) G.length cap) x (.slice av x.cx.length cv) (.slice ae x.ed.length ce) wr.heap.size)
      have HPI : Hid (∀ W v, PinsAt W v x.cx → Calls Tryd.prog 22 #[v] W fun e w' => e = .returned (.bool (mayCx x.cx)) ∧ Below W.heap.size W w') := fun W v hp => rpins_any hp hzk.2.1.1 hzk.2.1.2
      have HED : Hid (∀ W v, EdgesAt W v x.ed → Calls Tryd.prog 23 #[v, .int .i64 G.length] W fun e w' => e = .returned (.bool (mayEd G.length x.ed)) ∧ Below W.heap.size W w') := fun W v hp => redges_any _ hp hzk.2.2.1 hzk.2.2.2
      have HNM : Hid (∀ W, Calls Tryd.prog 20 #[.string x.nm] W fun e w' => e = .returned (.bool (Sc.nameA x.nm.data.toList)) ∧ Below W.heap.size W w') := fun W => (Sc.rName_any x.nm hzk.1 W).mono fun e w' ⟨h1, h2⟩ => ⟨h1, by rw [h2]; exact Below.refl _ _⟩
      have HMV : Hid (∀ W, Calls Tryd.prog 21 #[.agg #[.int .i64 x.a, .int .i64 x.b, .int .i64 x.c]] W fun e w' => e = .returned (.bool (mayV x.a x.b x.c)) ∧ Below W.heap.size W w') := fun W => rMay_any _ _ _ W
      obtain ⟨⟨x0, x1, x2, x3, x4, x5⟩, _, x6⟩ := hx
      clear HX1 hzk
      have hgd := guardV
      obtain ⟨wa, rfl⟩ : ∃ q, q = wr := ⟨wr, rfl⟩
      rcases Nat.eq_zero_or_pos k with hk0 | hk0
      · subst hk0
        have HOK : Hid (okAt G.length 0 x = (x.nm.toList.isEmpty && (decide (x.a = 0 ∧ x.b = 0 ∧ x.c = 0)) && decide (x.cx.length = 0) && mayEd G.length x.ed)) := by
          unfold Hid okAt firstB
          have e : decide (x.nm.size = 0) = x.nm.toList.isEmpty := by
            rw [ByteArray.toList_eq, Bool.eq_iff_iff, decide_eq_true_eq, List.isEmpty_iff_length_eq_zero]
            rfl
          rw [e]
          rfl
        have HCX : Hid (x.cx.length = 0 → mayCx x.cx = true) := fun e => by rw [List.eq_nil_of_length_eq_zero e]; rfl
        have hv := neqV x.a x.b x.c 0 0 0
        rw [show oa + 0 * 6 = oa by omega] at x0 x1 x2 x3 x4 x5
        cases hx : x.nm.toList.isEmpty
        · have hx2 : (x.nm.toList == []) = false := by rw [← hx]; cases x.nm.toList <;> rfl
          rw [hx] at HOK
          clear hx HCX
          have HR := hide3 (HNO.out (by rw [HOK.out]; simp))
          clear HST HNO HOK
          go_wp2
          go_ret
          exact ⟨ret_bool HR.out.symm, HKM.out.1.1⟩
        · have hx2 : (x.nm.toList == []) = true := by rw [← hx]; cases x.nm.toList <;> rfl
          rw [hx] at HOK
          clear hx
          generalize decide (x.a = 0 ∧ x.b = 0 ∧ x.c = 0) = xv at *
          cases xv
          · clear HCX
            have HR := hide3 (HNO.out (by rw [HOK.out]; simp))
            clear HST HNO HOK
            go_wp2
            go_ret
            exact ⟨ret_bool HR.out.symm, HKM.out.1.1⟩
          · by_cases hl : x.cx.length = 0
            · have HCY := hide3 (HCX.out hl)
              have hl3 : decide ((0 : Int) < (x.cx.length : Int)) = false := decide_eq_false (by omega)
              have hl4 : decide (0 < x.cx.length) = false := decide_eq_false (by omega)
              rw [decide_eq_true hl] at HOK
              rw [HCY.out] at HPI
              clear hl HCX
              generalize mayEd G.length x.ed = b9 at *
              cases b9
              · skip
                have HR := hide3 (HNO.out (by rw [HOK.out]; simp))
                clear HST HNO HOK
                go_wp2_with (first
                  | (have _h := HKM; go_at_call 22; refine (HPI.out _ _ HKM.out.2.2.1).mono ?_; rintro e z1 ⟨rfl, ok⟩; have HO1 := hide3 (HKP.out _ _ HKM.out ok); clear ok HKM; obtain ⟨⟨b0, b1, b2, b3, b4, b5⟩, b6⟩ := HO1.out.2.1)
                  | (have _h := HO1; go_at_call 23; refine (HED.out _ _ HO1.out.2.2.2).mono ?_; rintro e z2 ⟨rfl, ok⟩; have HO2 := hide3 (HKP.out _ _ HO1.out ok); clear ok HO1 b0 b1 b2 b3 b4 b5 b6; obtain ⟨⟨b0, b1, b2, b3, b4, b5⟩, b6⟩ := HO2.out.2.1))
                go_ret
                exact ⟨ret_bool HR.out.symm, HO2.out.1.1⟩
              · skip
                have HR := hide3 (HST.out (by rw [HOK.out]; simp))
                clear HST HNO HOK
                go_wp2_with (first
                  | (have _h := HKM; go_at_call 22; refine (HPI.out _ _ HKM.out.2.2.1).mono ?_; rintro e z1 ⟨rfl, ok⟩; have HO1 := hide3 (HKP.out _ _ HKM.out ok); clear ok HKM; obtain ⟨⟨b0, b1, b2, b3, b4, b5⟩, b6⟩ := HO1.out.2.1)
                  | (have _h := HO1; go_at_call 23; refine (HED.out _ _ HO1.out.2.2.2).mono ?_; rintro e z2 ⟨rfl, ok⟩; have HO2 := hide3 (HKP.out _ _ HO1.out ok); clear ok HO1 b0 b1 b2 b3 b4 b5 b6; obtain ⟨⟨b0, b1, b2, b3, b4, b5⟩, b6⟩ := HO2.out.2.1))
                exact ⟨⟨0 + 1, by omega, by go_num, HO2.out.1, HR.out⟩, by simp [intOf]; omega⟩
            · have hl3 : decide ((0 : Int) < (x.cx.length : Int)) = true := decide_eq_true (by omega)
              have hl4 : decide (0 < x.cx.length) = true := decide_eq_true (by omega)
              rw [decide_eq_false hl] at HOK
              clear hl HCX
              have HR := hide3 (HNO.out (by rw [HOK.out]; simp))
              clear HST HNO HOK
              go_wp2
              go_ret
              exact ⟨ret_bool HR.out.symm, HKM.out.1.1⟩
      · have hk1 : ((k : Int) == 0) = false := by rw [beq_eq_false_iff_ne]; omega
        have hk2 : decide ((0 : Int) < (k : Int)) = true := decide_eq_true (by omega)
        have hk3 : decide (0 < k) = true := decide_eq_true hk0
        have HOK : Hid (okAt G.length k x = (Sc.nameA x.nm.data.toList && mayV x.a x.b x.c && mayCx x.cx && mayEd G.length x.ed)) := by
          unfold Hid okAt laterB
          rw [if_neg (by omega)]
        generalize Sc.nameA x.nm.data.toList = c1 at *
        generalize mayV x.a x.b x.c = c2 at *
        generalize mayCx x.cx = c3 at *
        generalize mayEd G.length x.ed = c4 at *
        cases c1
        · skip
          have HR := hide3 (HNO.out (by rw [HOK.out]; simp))
          clear HST HNO HOK
          go_wp2_with (first
            | (have _h := HKM; go_at_call 20; refine (HNM.out _).mono ?_; rintro e z1 ⟨rfl, ok⟩; have HO1 := hide3 (HKP.out _ _ HKM.out ok); clear ok HKM; obtain ⟨⟨b0, b1, b2, b3, b4, b5⟩, b6⟩ := HO1.out.2.1))
          go_ret
          exact ⟨ret_bool HR.out.symm, HO1.out.1.1⟩
        · cases c2
          · skip
            have HR := hide3 (HNO.out (by rw [HOK.out]; simp))
            clear HST HNO HOK
            go_wp2_with (first
              | (have _h := HKM; go_at_call 20; refine (HNM.out _).mono ?_; rintro e z1 ⟨rfl, ok⟩; have HO1 := hide3 (HKP.out _ _ HKM.out ok); clear ok HKM; obtain ⟨⟨b0, b1, b2, b3, b4, b5⟩, b6⟩ := HO1.out.2.1)
              | (have _h := HO1; go_at_call 21; refine (HMV.out _).mono ?_; rintro e z2 ⟨rfl, ok⟩; have HO2 := hide3 (HKP.out _ _ HO1.out ok); clear ok HO1 b0 b1 b2 b3 b4 b5 b6; obtain ⟨⟨b0, b1, b2, b3, b4, b5⟩, b6⟩ := HO2.out.2.1))
            go_ret
            exact ⟨ret_bool HR.out.symm, HO2.out.1.1⟩
          · cases c3
            · skip
              have HR := hide3 (HNO.out (by rw [HOK.out]; simp))
              clear HST HNO HOK
              go_wp2_with (first
                | (have _h := HKM; go_at_call 20; refine (HNM.out _).mono ?_; rintro e z1 ⟨rfl, ok⟩; have HO1 := hide3 (HKP.out _ _ HKM.out ok); clear ok HKM; obtain ⟨⟨b0, b1, b2, b3, b4, b5⟩, b6⟩ := HO1.out.2.1)
                | (have _h := HO1; go_at_call 21; refine (HMV.out _).mono ?_; rintro e z2 ⟨rfl, ok⟩; have HO2 := hide3 (HKP.out _ _ HO1.out ok); clear ok HO1 b0 b1 b2 b3 b4 b5 b6; obtain ⟨⟨b0, b1, b2, b3, b4, b5⟩, b6⟩ := HO2.out.2.1)
                | (have _h := HO2; go_at_call 22; refine (HPI.out _ _ HO2.out.2.2.1).mono ?_; rintro e z3 ⟨rfl, ok⟩; have HO3 := hide3 (HKP.out _ _ HO2.out ok); clear ok HO2 b0 b1 b2 b3 b4 b5 b6; obtain ⟨⟨b0, b1, b2, b3, b4, b5⟩, b6⟩ := HO3.out.2.1))
              go_ret
              exact ⟨ret_bool HR.out.symm, HO3.out.1.1⟩
            · cases c4
              · skip
                have HR := hide3 (HNO.out (by rw [HOK.out]; simp))
                clear HST HNO HOK
                go_wp2_with (first
                  | (have _h := HKM; go_at_call 20; refine (HNM.out _).mono ?_; rintro e z1 ⟨rfl, ok⟩; have HO1 := hide3 (HKP.out _ _ HKM.out ok); clear ok HKM; obtain ⟨⟨b0, b1, b2, b3, b4, b5⟩, b6⟩ := HO1.out.2.1)
                  | (have _h := HO1; go_at_call 21; refine (HMV.out _).mono ?_; rintro e z2 ⟨rfl, ok⟩; have HO2 := hide3 (HKP.out _ _ HO1.out ok); clear ok HO1 b0 b1 b2 b3 b4 b5 b6; obtain ⟨⟨b0, b1, b2, b3, b4, b5⟩, b6⟩ := HO2.out.2.1)
                  | (have _h := HO2; go_at_call 22; refine (HPI.out _ _ HO2.out.2.2.1).mono ?_; rintro e z3 ⟨rfl, ok⟩; have HO3 := hide3 (HKP.out _ _ HO2.out ok); clear ok HO2 b0 b1 b2 b3 b4 b5 b6; obtain ⟨⟨b0, b1, b2, b3, b4, b5⟩, b6⟩ := HO3.out.2.1)
                  | (have _h := HO3; go_at_call 23; refine (HED.out _ _ HO3.out.2.2.2).mono ?_; rintro e z4 ⟨rfl, ok⟩; have HO4 := hide3 (HKP.out _ _ HO3.out ok); clear ok HO3 b0 b1 b2 b3 b4 b5 b6; obtain ⟨⟨b0, b1, b2, b3, b4, b5⟩, b6⟩ := HO4.out.2.1))
                go_ret
                exact ⟨ret_bool HR.out.symm, HO4.out.1.1⟩
              · skip
                have HR := hide3 (HST.out (by rw [HOK.out]; simp))
                clear HST HNO HOK
                go_wp2_with (first
                  | (have _h := HKM; go_at_call 20; refine (HNM.out _).mono ?_; rintro e z1 ⟨rfl, ok⟩; have HO1 := hide3 (HKP.out _ _ HKM.out ok); clear ok HKM; obtain ⟨⟨b0, b1, b2, b3, b4, b5⟩, b6⟩ := HO1.out.2.1)
                  | (have _h := HO1; go_at_call 21; refine (HMV.out _).mono ?_; rintro e z2 ⟨rfl, ok⟩; have HO2 := hide3 (HKP.out _ _ HO1.out ok); clear ok HO1 b0 b1 b2 b3 b4 b5 b6; obtain ⟨⟨b0, b1, b2, b3, b4, b5⟩, b6⟩ := HO2.out.2.1)
                  | (have _h := HO2; go_at_call 22; refine (HPI.out _ _ HO2.out.2.2.1).mono ?_; rintro e z3 ⟨rfl, ok⟩; have HO3 := hide3 (HKP.out _ _ HO2.out ok); clear ok HO2 b0 b1 b2 b3 b4 b5 b6; obtain ⟨⟨b0, b1, b2, b3, b4, b5⟩, b6⟩ := HO3.out.2.1)
                  | (have _h := HO3; go_at_call 23; refine (HED.out _ _ HO3.out.2.2.2).mono ?_; rintro e z4 ⟨rfl, ok⟩; have HO4 := hide3 (HKP.out _ _ HO3.out ok); clear ok HO3 b0 b1 b2 b3 b4 b5 b6; obtain ⟨⟨b0, b1, b2, b3, b4, b5⟩, b6⟩ := HO4.out.2.1))
                exact ⟨⟨k + 1, by omega, by go_num, HO4.out.1, HR.out⟩, by simp [intOf]; omega⟩
    · obtain rfl : k = G.length := by omega
      have HR := hide3 (HMY.out fun j h => HALL.out j h h)
      clear HALL HMY HMG
      go_wp2
      go_ret
      exact ⟨ret_bool HR.out.symm, HB.out.1⟩

theorem rMayG_any {G : List Nd} {v : Value} {w : World} (h : NodesAt w v G) (hz : ∀ n ∈ G, NdZ n) :
    Calls Tryd.prog 9 #[.agg #[v]] w fun e w' => e = .returned (.bool (mayG G)) ∧ Below w.heap.size w w' := by
  obtain ⟨ad, cap, rfl, hc⟩ := h
  by_cases h0 : 0 < G.length
  · by_cases h1 : G.length ≤ 128
    · exact rMayG_walk ⟨ad, cap, rfl, hc⟩ hz h0 h1
    · have HR : Hid (mayG G = false) := by
        unfold Hid
        cases hm : mayG G with
        | false => rfl
        | true => exact absurd (mayG_iff.1 hm).2.1 h1
      have hl1 : decide ((G.length : Int) < 1) = false := decide_eq_false (by omega)
      have hl2 : decide ((128 : Int) < (G.length : Int)) = true := decide_eq_true (by omega)
      have HB0 : Hid (Below w.heap.size w (w.alloc (.cells #[.slice ad G.length cap] 24))) := boxB _ _
      clear h0 h1 hc hz
      go_enter Tryd.func9, Tryd.ntmps9
      go_wp2
      go_ret
      exact ⟨ret_bool HR.out.symm, HB0.out⟩
  · have HR : Hid (mayG G = false) := by
      unfold Hid
      cases hm : mayG G with
      | false => rfl
      | true => exact absurd (mayG_iff.1 hm).1 h0
    have hl1 : decide ((G.length : Int) < 1) = true := decide_eq_true (by omega)
    have HB0 : Hid (Below w.heap.size w (w.alloc (.cells #[.slice ad G.length cap] 24))) := boxB _ _
    clear h0 hc hz
    go_enter Tryd.func9, Tryd.ntmps9
    go_wp2
    go_ret
    exact ⟨ret_bool HR.out.symm, HB0.out⟩
end Go.Proofs.YtikplmckjcceaaaDoor
namespace Go.Proofs.YtikplmckjcceaaaDoor
open Go.RowKit
open Sc (KeepP hide3 keepBelow Bs ba textT lineT nameA wp_region_keep callC callC')
set_option maxRecDepth 100000

theorem catZ (a b : ByteArray) : (a ++ b).size = a.size + b.size := by simp
theorem textT_app (A B : List (List Bs)) : textT (A ++ B) = textT A ++ textT B := by simp [textT]
theorem textT_pre (A B : List (List Bs)) : (textT A).length ≤ (textT (A ++ B)).length := by rw [textT_app, List.length_append]; omega
/-- The lines of the nodes so far. -/
def preL (G : List Nd) (k : Nat) : List (List Bs) := [wLock] :: outL (G.take k)
def hdL (k : Nat) (x : Nd) : List Bs := if k = 0 then [wRoot] else nodeL x
theorem preL_step {G : List Nd} {k : Nat} (h : k < G.length) : preL G (k + 1) = preL G k ++ (hdL k G[k] :: listL G[k]) := by
  unfold preL hdL
  rw [List.take_succ_eq_append_getElem h]
  by_cases hk : k = 0
  · subst hk
    simp [outL, restL]
  · have hne : G.take k ≠ [] := fun e => by
      have := congrArg List.length e
      rw [List.length_take] at this
      simp only [List.length_nil] at this
      omega
    rw [outL_snoc hne, if_neg hk]
    rfl
theorem preL_le {G : List Nd} : ∀ {k n : Nat}, k ≤ n → n ≤ G.length → (textT (preL G k)).length ≤ (textT (preL G n)).length
  | k, 0, h, _ => (by obtain rfl : k = 0 := (by omega); exact Nat.le_refl _)
  | k, n + 1, h, hn => by
    rcases Nat.lt_or_ge k (n + 1) with h1 | h1
    · refine Nat.le_trans (preL_le (k := k) (n := n) (by omega) (by omega)) ?_
      rw [preL_step (by omega)]
      exact textT_pre _ _
    · obtain rfl : k = n + 1 := by omega
      exact Nat.le_refl _
theorem preL_short {G : List Nd} (h : mayG G = true) {k : Nat} (hk : k ≤ G.length) : (textT (preL G k)).length ≤ 1048576 := by
  refine Nat.le_trans (preL_le hk (Nat.le_refl _)) ?_
  obtain ⟨_, h2⟩ := linesG_ok h
  have hne : G ≠ [] := by rintro rfl; cases h
  rw [linesG_out hne] at h2
  unfold preL
  rw [List.take_length]
  exact h2
theorem map_snoc {α β : Type} (f : α → β) {L : List α} {m : Nat} (h : m < L.length) : (L.take (m + 1)).map f = (L.take m).map f ++ [f L[m]] := by
  rw [List.take_succ_eq_append_getElem h, List.map_append]
  rfl
theorem map_split {α β : Type} (f : α → β) (L : List α) (m : Nat) : L.map f = (L.take m).map f ++ (L.drop m).map f := by rw [← List.map_append, List.take_append_drop]
theorem nm_len {s : ByteArray} (h : nameA s.data.toList = true) : s.size ≤ 16 := by
  have := name_len h
  rwa [Sc.list_size] at this
theorem keepPn2 (g o : Nat) (p : Pn) : KeepP fun W => PnIn W g o p := fun _ _ h hb => h.below hb
theorem keepEg2 (g o : Nat) (p : Eg) : KeepP fun W => EgIn W g o p := fun _ _ h hb => h.below hb
theorem pins_cell2 {W : World} {ad : Option Addr} {n cap : Nat} {L : List Pn} (h : PinsAt W (.slice ad n cap) L) {m : Nat} (hm : m < L.length) : ∃ g o, ad = some ⟨g, o, none⟩ ∧ PnIn W g (o + m * 4) L[m] := by
  obtain ⟨a1, c1, hv, hc, hl⟩ := h
  cases hv
  rcases hl with rfl | ⟨g, o, rfl, _, hs⟩
  · cases hm
  · exact ⟨g, o, rfl, hs m hm⟩
theorem edges_cell2 {W : World} {ad : Option Addr} {n cap : Nat} {L : List Eg} (h : EdgesAt W (.slice ad n cap) L) {m : Nat} (hm : m < L.length) : ∃ g o, ad = some ⟨g, o, none⟩ ∧ EgIn W g (o + m * 2) L[m] := by
  obtain ⟨a1, c1, hv, hc, hl⟩ := h
  cases hv
  rcases hl with rfl | ⟨g, o, rfl, _, hs⟩
  · cases hm
  · exact ⟨g, o, rfl, hs m hm⟩
theorem line_data (x y z : Bs) : lineT [x, y, z] = x ++ [32] ++ (y ++ [32] ++ (z ++ [10])) := rfl
theorem cat_line {T A B C : ByteArray} {x : Bs} (hA : A.data.toList = x ++ [32]) : (T ++ A ++ B ++ ⟨#[32]⟩ ++ C ++ ⟨#[10]⟩).data.toList = T.data.toList ++ lineT [x, B.data.toList, C.data.toList] := by
  rw [line_data]
  simp [hA]

set_option maxHeartbeats 12800000 in
theorem rTextG_walk {G : List Nd} {ad : Option Addr} {cap : Nat} {w : World} (h : NodesAt w (.slice ad G.length cap) G) (hm : mayG G = true) :
    Calls Tryd.prog 16 #[.agg #[.slice ad G.length cap]] w fun e w' => e = .returned (.string (textG G)) ∧ Below w.heap.size w w' := by
  obtain ⟨gl, g0, g3, g4⟩ := mayG_nodes hm
  obtain ⟨ga, oa, rfl, hcs⟩ : ∃ ga oa, ad = some ⟨ga, oa, none⟩ ∧ ∀ W, Below w.heap.size w W → ∀ i (h : i < G.length), ∃ vc ve, NdIn W ga (oa + i * 6) G[i] vc ve := by
    obtain ⟨a1, c1, hv, _, hl⟩ := h
    cases hv
    rcases hl with rfl | ⟨g, o, rfl, _, hs⟩
    · cases hm
    · exact ⟨g, o, rfl, fun W hb i hi => by obtain ⟨vc, ve, k⟩ := hs i hi; exact ⟨vc, ve, k.below hb⟩⟩
  have HCS := hide3 hcs
  have HG3 := hide3 g3
  have HG4 := hide3 g4
  have HSHORT : Hid (∀ k, k ≤ G.length → (textT (preL G k)).length ≤ 1048576) := fun k hk => preL_short hm hk
  have HEND : Hid (∀ T : ByteArray, T.data.toList = textT (preL G G.length) → T = textG G) := fun T hT => by
    have hne : G ≠ [] := by rintro rfl; cases hm
    unfold textG
    rw [linesG_out hne, ← Sc.ba_of T, hT]
    unfold preL
    rw [List.take_length]
  have HB0 : Hid (Below w.heap.size w (w.alloc (.cells #[.slice (some ⟨ga, oa, none⟩) G.length cap] 24)) ∧ BxG (w.alloc (.cells #[.slice (some ⟨ga, oa, none⟩) G.length cap] 24)) w.heap.size (.slice (some ⟨ga, oa, none⟩) G.length cap)) := ⟨boxB _ _, BxG.new rfl _⟩
  clear h hm hcs g3 g4 g0
  go_enter Tryd.func16, Tryd.ntmps16
  go_wp2_with fail
  go_loopw [3, 4] (fun vt i wr => ∃ (k : Nat) (T : ByteArray), k ≤ G.length ∧ i = .int .i64 k ∧ vt = .string T ∧ T.data.toList = textT (preL G k) ∧ Below w.heap.size w wr ∧ BxG wr w.heap.size (.slice (some ⟨ga, oa, none⟩) G.length cap)) (fun _ i _ => G.length - (intOf i).toNat)
  case atStart => exact ⟨0, ⟨#[108, 111, 99, 107, 10]⟩, Nat.zero_le _, rfl, rfl, rfl, HB0.out⟩
  case round =>
    clear HB0
    obtain ⟨k, T, hk, rfl, rfl, hT, hb⟩ := hrel
    have HT := hide3 hT
    have HB := hide3 hb
    obtain ⟨_, y0, y1⟩ := hb
    clear hT
    by_cases hlt : k < G.length
    · obtain ⟨vc, ve, hx⟩ := HCS.out wr HB.out.1 k hlt
      have HNP : Hid (∀ p ∈ G[k].cx, p.nm.size ≤ 16 ∧ mayV p.a p.b p.c = true) := fun p hp => ⟨nm_len ((HG3.out _ (List.getElem_mem hlt)).1.2 p hp).1, ((HG3.out _ (List.getElem_mem hlt)).1.2 p hp).2⟩
      have HNE : Hid (∀ e ∈ G[k].ed, e.lb.size ≤ 16 ∧ 0 ≤ e.to ∧ e.to ≤ 999) := fun p hp => ⟨nm_len ((HG3.out _ (List.getElem_mem hlt)).2.2 p hp).1, ((HG3.out _ (List.getElem_mem hlt)).2.2 p hp).2⟩
      have hl1 := (HG3.out _ (List.getElem_mem hlt)).1.1
      have hl2 := (HG3.out _ (List.getElem_mem hlt)).2.1
      have HNN : Hid (0 < k → G[k].nm.size ≤ 16 ∧ mayV G[k].a G[k].b G[k].c = true) := fun h => ⟨nm_len (HG4.out k hlt h).1, (HG4.out k hlt h).2⟩
      have HPS := hide3 (preL_step hlt)
      have hTz : T.size ≤ 1048576 := by rw [← Sc.list_size, HT.out]; exact HSHORT.out k hk
      have HS1 : Hid (∀ A B, preL G k ++ (hdL k G[k] :: listL G[k]) = A ++ B → (textT A).length ≤ 1048576) := fun A B e => by
        have := HSHORT.out (k + 1) hlt
        rw [HPS.out, e] at this
        exact Nat.le_trans (textT_pre A B) this
      clear HCS HG3 HG4 HSHORT HEND
      generalize G[k] = x at *
      obtain ⟨av, cv, rfl⟩ := hx.2.1.1.sl
      obtain ⟨ae, ce, rfl⟩ := hx.2.1.2.sl
      have HX1 := hide3 (hx.below (boxB wr (.cells #[.string x.nm, .int .i64 x.a, .int .i64 x.b, .int .i64 x.c, .slice av x.cx.length cv, .slice ae x.ed.length ce] 38)))
      have HKM : Hid (KM w (.slice (some ⟨ga, oa, none⟩) G.length cap) x (.slice av x.cx.length cv) (.slice ae x.ed.length ce) wr.heap.size (wr.alloc (.cells #[.string x.nm, .int .i64 x.a, .int .i64 x.b, .int .i64 x.c, .slice av x.cx.length cv, .slice ae x.ed.length ce] 38))) := ⟨⟨below_then HB.out.1 (boxB _ _), keepBxG _ _ _ _ HB.out.2 (boxB _ _)⟩, BxNd.new rfl _ _ _, HX1.out.2.1.1, HX1.out.2.1.2⟩
      have HKP := hide3 (keepKM w (.slice (some ⟨ga, oa, none⟩) G.length cap) x (.slice av x.cx.length cv) (.slice ae x.ed.length ce) wr.heap.size)
      obtain ⟨⟨x0, x1, x2, x3, x4, x5⟩, _, x6⟩ := hx
      clear HX1
      obtain ⟨wa, rfl⟩ : ∃ q, q = wr := ⟨wr, rfl⟩
      rcases Nat.eq_zero_or_pos k with hk0 | hk0
      · have hk1 : ((k : Int) == 0) = true := by rw [hk0]; rfl
        have z0 : (⟨#[114, 111, 111, 116, 10]⟩ : ByteArray).size = 5 := rfl
        have e0 := fun W : World => run_string_add_sum (P := Tryd.prog) (w := W) T ⟨#[114, 111, 111, 116, 10]⟩ (by omega)
        have HT1 : Hid ((T ++ ⟨#[114, 111, 111, 116, 10]⟩).data.toList = textT (preL G k ++ [hdL k x])) := by
          unfold Hid
          rw [textT_app, ← HT.out]
          have : (T ++ ⟨#[114, 111, 111, 116, 10]⟩).data.toList = T.data.toList ++ [114, 111, 111, 116, 10] := by simp
          rw [this]
          unfold hdL
          rw [if_pos hk0]
          rfl
        clear z0 HNN HT hk0
        go_wp2_with fail
        generalize T ++ ⟨#[114, 111, 111, 116, 10]⟩ = T1 at *
        clear e0 x0 x1 x2 x3 x4 x5 x6 hTz
        go_loopw [3, 6] (fun vt j wq => ∃ (m : Nat) (T2 : ByteArray), m ≤ x.cx.length ∧ j = .int .i64 m ∧ vt = .string T2 ∧ T2.data.toList = textT (preL G k ++ [hdL k x] ++ (x.cx.take m).map pinL) ∧ KM w (.slice (some ⟨ga, oa, none⟩) G.length cap) x (.slice av x.cx.length cv) (.slice ae x.ed.length ce) wa.heap.size wq) (fun _ j _ => x.cx.length - (intOf j).toNat)
        case atStart => exact ⟨0, T1, Nat.zero_le _, rfl, rfl, by rw [HT1.out]; simp, HKM.out⟩
        case round =>
          clear HKM HT1
          obtain ⟨m, T2, hm, rfl, rfl, hT2, hkm⟩ := hrel
          have HT2 := hide3 hT2
          have HKM := hide3 hkm
          obtain ⟨_, ⟨⟨b0, b1, b2, b3, b4, b5⟩, b6⟩, _, _⟩ := hkm
          clear hT2
          by_cases hml : m < x.cx.length
          · obtain ⟨gp, op, rfl, hpi⟩ := pins_cell2 HKM.out.2.2.1 hml
            have hT2z : T2.size ≤ 1048576 := by
              rw [← Sc.list_size, HT2.out]
              exact HS1.out _ ((x.cx.drop m).map pinL ++ x.ed.map edgL) (by
                unfold listL
                rw [map_split pinL x.cx m]
                simp only [List.append_assoc, List.cons_append, List.nil_append])
            have HSN : Hid ((x.cx.take (m + 1)).map pinL = (x.cx.take m).map pinL ++ [pinL x.cx[m]]) := map_snoc _ hml
            have hpz := HNP.out _ (List.getElem_mem hml)
            have HO : Hid (KM w (.slice (some ⟨ga, oa, none⟩) G.length cap) x (.slice (some ⟨gp, op, none⟩) x.cx.length cv) (.slice ae x.ed.length ce) wa.heap.size wr ∧ PnIn wr gp (op + m * 4) x.cx[m]) := ⟨HKM.out, hpi⟩
            have HK : Hid (KeepP fun W => KM w (.slice (some ⟨ga, oa, none⟩) G.length cap) x (.slice (some ⟨gp, op, none⟩) x.cx.length cv) (.slice ae x.ed.length ce) wa.heap.size W ∧ PnIn W gp (op + m * 4) x.cx[m]) := HKP.out.and (keepPn2 _ _ _)
            clear HKM hpi
            generalize x.cx[m] = p at *
            have HT3 : Hid ((T2 ++ ⟨#[119, 105, 116, 104, 32]⟩ ++ p.nm ++ ⟨#[32]⟩ ++ textV p.a p.b p.c ++ ⟨#[10]⟩).data.toList = textT (preL G k ++ [hdL k x] ++ (x.cx.take (m + 1)).map pinL)) := by
              unfold Hid
              rw [HSN.out, ← List.append_assoc, textT_app, ← HT2.out, cat_line (x := wWith) rfl]
              simp [textT, pinL, bsV, wWith]
            have hvz : (textV p.a p.b p.c).size ≤ 11 := by have := bsV_len hpz.2; unfold bsV at this; rwa [Sc.list_size] at this
            have HC : Hid (∀ W, Calls Tryd.prog 33 #[.agg #[.int .i64 p.a, .int .i64 p.b, .int .i64 p.c]] W fun e w' => e = .returned (.string (textV p.a p.b p.c)) ∧ Below W.heap.size W w') := fun W => rPrint_any _ _ _ W
            generalize textV p.a p.b p.c = pt at *
            have z1 : (⟨#[32]⟩ : ByteArray).size = 1 := rfl
            have z2 : (⟨#[10]⟩ : ByteArray).size = 1 := rfl
            have z3 : (⟨#[119, 105, 116, 104, 32]⟩ : ByteArray).size = 5 := rfl
            have hpn := hpz.1
            have e1 := fun W : World => run_string_add_sum (P := Tryd.prog) (w := W) T2 ⟨#[119, 105, 116, 104, 32]⟩ (by omega)
            have e2 := fun W : World => run_string_add_sum (P := Tryd.prog) (w := W) (T2 ++ ⟨#[119, 105, 116, 104, 32]⟩) p.nm (by rw [catZ]; omega)
            have e3 := fun W : World => run_string_add_sum (P := Tryd.prog) (w := W) (T2 ++ ⟨#[119, 105, 116, 104, 32]⟩ ++ p.nm) ⟨#[32]⟩ (by rw [catZ, catZ]; omega)
            have e4 := fun W : World => run_string_add_sum (P := Tryd.prog) (w := W) (T2 ++ ⟨#[119, 105, 116, 104, 32]⟩ ++ p.nm ++ ⟨#[32]⟩) pt (by rw [catZ, catZ, catZ]; omega)
            have e5 := fun W : World => run_string_add_sum (P := Tryd.prog) (w := W) (T2 ++ ⟨#[119, 105, 116, 104, 32]⟩ ++ p.nm ++ ⟨#[32]⟩ ++ pt) ⟨#[10]⟩ (by rw [catZ, catZ, catZ, catZ]; omega)
            clear z1 z2 z3 hpn hpz hvz hT2z HT2 HSN
            go_wp2_with fail
            clear b0 b1 b2 b3 b4 b5 b6
            refine wp_region_keep HK.out (by kernel_rfl) (by kernel_rfl) (by first | exact HO.out | exact HK.out.drew HO.out) ?_
            intro C hin hout
            have HIN := hide3 hin
            have HOUT := hide3 hout
            clear hin hout HO
            repeat
              (with_reducible refine wpQuiet_step (fun K hK => ?_)
               go_simp
               first
                 | (refine hK _ ?_; clear hK K)
                 | (apply Exists.intro; refine ⟨fun w1 hC => ?_, hK _ ?_⟩; (focus ((first | (go_at_call 33; with_reducible exact callC HIN.out HOUT.out HK.out HC.out w1 hC) | (exact rfl) | (obtain ⟨⟨⟨hb1, hg1⟩, ⟨⟨b0, b1, b2, b3, b4, b5⟩, b6⟩, hp1, hq1⟩, ⟨⟨p0, p1, p2, p3⟩, p4⟩⟩ := HOUT.out w1 hC; clear hC; go_simp; first | done | exact rfl)); done)); clear hK K))
            refine wpQuiet_nil ?_
            intro wn hC
            have HO := hide3 (HOUT.out _ hC)
            clear hC HIN HOUT C
            obtain ⟨⟨⟨hb1, hg1⟩, ⟨⟨b0, b1, b2, b3, b4, b5⟩, b6⟩, hp1, hq1⟩, ⟨⟨p0, p1, p2, p3⟩, p4⟩⟩ := HO.out
            go_wp2
            exact ⟨⟨m + 1, _, by omega, by go_num, rfl, HT3.out, HO.out.1⟩, by simp [intOf]; omega⟩
          · have hme : m = x.cx.length := by omega
            have HT4 : Hid (T2.data.toList = textT (preL G k ++ [hdL k x] ++ x.cx.map pinL)) := by
              unfold Hid
              rw [HT2.out, hme, List.take_length]
            subst hme
            clear HT2
            obtain ⟨wb, rfl⟩ : ∃ q, q = wr := ⟨wr, rfl⟩
            go_wp2_with fail
            clear b0 b1 b2 b3 b4 b5 b6
            go_loopw [3, 7] (fun vt j wq => ∃ (m : Nat) (T2 : ByteArray), m ≤ x.ed.length ∧ j = .int .i64 m ∧ vt = .string T2 ∧ T2.data.toList = textT (preL G k ++ [hdL k x] ++ x.cx.map pinL ++ (x.ed.take m).map edgL) ∧ KM w (.slice (some ⟨ga, oa, none⟩) G.length cap) x (.slice av x.cx.length cv) (.slice ae x.ed.length ce) wa.heap.size wq) (fun _ j _ => x.ed.length - (intOf j).toNat)
            case atStart => exact ⟨0, T2, Nat.zero_le _, rfl, rfl, by rw [HT4.out]; simp, HKM.out⟩
            case round =>
              clear HKM HT4
              obtain ⟨m, T2, hm, rfl, rfl, hT2, hkm⟩ := hrel
              have HT2 := hide3 hT2
              have HKM := hide3 hkm
              obtain ⟨_, ⟨⟨b0, b1, b2, b3, b4, b5⟩, b6⟩, _, _⟩ := hkm
              clear hT2
              by_cases hml : m < x.ed.length
              · obtain ⟨gp, op, rfl, hpi⟩ := edges_cell2 HKM.out.2.2.2 hml
                have hT2z : T2.size ≤ 1048576 := by
                  rw [← Sc.list_size, HT2.out]
                  exact HS1.out _ ((x.ed.drop m).map edgL) (by
                    unfold listL
                    rw [map_split edgL x.ed m]
                    simp only [List.append_assoc, List.cons_append, List.nil_append])
                have HSN : Hid ((x.ed.take (m + 1)).map edgL = (x.ed.take m).map edgL ++ [edgL x.ed[m]]) := map_snoc _ hml
                have hpz := HNE.out _ (List.getElem_mem hml)
                have HO : Hid (KM w (.slice (some ⟨ga, oa, none⟩) G.length cap) x (.slice av x.cx.length cv) (.slice (some ⟨gp, op, none⟩) x.ed.length ce) wa.heap.size wr ∧ EgIn wr gp (op + m * 2) x.ed[m]) := ⟨HKM.out, hpi⟩
                have HK : Hid (KeepP fun W => KM w (.slice (some ⟨ga, oa, none⟩) G.length cap) x (.slice av x.cx.length cv) (.slice (some ⟨gp, op, none⟩) x.ed.length ce) wa.heap.size W ∧ EgIn W gp (op + m * 2) x.ed[m]) := HKP.out.and (keepEg2 _ _ _)
                clear HKM hpi
                generalize x.ed[m] = p at *
                have HT3 : Hid ((T2 ++ ⟨#[116, 111, 32]⟩ ++ p.lb ++ ⟨#[32]⟩ ++ (⟨(Lib.itoa p.to).toArray⟩ : ByteArray) ++ ⟨#[10]⟩).data.toList = textT (preL G k ++ [hdL k x] ++ x.cx.map pinL ++ (x.ed.take (m + 1)).map edgL)) := by
                  unfold Hid
                  rw [HSN.out, ← List.append_assoc, textT_app, ← HT2.out, cat_line (x := wTo) rfl]
                  simp [textT, edgL, wTo]
                have hvz : (⟨(Lib.itoa p.to).toArray⟩ : ByteArray).size ≤ 11 := by
                  have := itoa_len hpz.2.1 hpz.2.2
                  show (Lib.itoa p.to).toArray.size ≤ 11
                  rw [List.size_toArray]
                  omega
                have HC : Hid (∀ W, Calls Tryd.prog 34 #[.int .i64 p.to] W fun e w' => e = .returned (.string ⟨(Lib.itoa p.to).toArray⟩) ∧ Below W.heap.size W w') := fun W => Number_any _ hpz.2.1 hpz.2.2 W
                generalize (⟨(Lib.itoa p.to).toArray⟩ : ByteArray) = pt at *
                have z1 : (⟨#[32]⟩ : ByteArray).size = 1 := rfl
                have z2 : (⟨#[10]⟩ : ByteArray).size = 1 := rfl
                have z3 : (⟨#[116, 111, 32]⟩ : ByteArray).size = 3 := rfl
                have hpn := hpz.1
                have e1 := fun W : World => run_string_add_sum (P := Tryd.prog) (w := W) T2 ⟨#[116, 111, 32]⟩ (by omega)
                have e2 := fun W : World => run_string_add_sum (P := Tryd.prog) (w := W) (T2 ++ ⟨#[116, 111, 32]⟩) p.lb (by rw [catZ]; omega)
                have e3 := fun W : World => run_string_add_sum (P := Tryd.prog) (w := W) (T2 ++ ⟨#[116, 111, 32]⟩ ++ p.lb) ⟨#[32]⟩ (by rw [catZ, catZ]; omega)
                have e4 := fun W : World => run_string_add_sum (P := Tryd.prog) (w := W) (T2 ++ ⟨#[116, 111, 32]⟩ ++ p.lb ++ ⟨#[32]⟩) pt (by rw [catZ, catZ, catZ]; omega)
                have e5 := fun W : World => run_string_add_sum (P := Tryd.prog) (w := W) (T2 ++ ⟨#[116, 111, 32]⟩ ++ p.lb ++ ⟨#[32]⟩ ++ pt) ⟨#[10]⟩ (by rw [catZ, catZ, catZ, catZ]; omega)
                clear z1 z2 z3 hpn hpz hvz hT2z HT2 HSN
                go_wp2_with fail
                clear b0 b1 b2 b3 b4 b5 b6
                refine wp_region_keep HK.out (by kernel_rfl) (by kernel_rfl) (by first | exact HO.out | exact HK.out.drew HO.out) ?_
                intro C hin hout
                have HIN := hide3 hin
                have HOUT := hide3 hout
                clear hin hout HO
                repeat
                  (with_reducible refine wpQuiet_step (fun K hK => ?_)
                   go_simp
                   first
                     | (refine hK _ ?_; clear hK K)
                     | (apply Exists.intro; refine ⟨fun w1 hC => ?_, hK _ ?_⟩; (focus ((first | (go_at_call 34; with_reducible exact callC HIN.out HOUT.out HK.out HC.out w1 hC) | (exact rfl) | (obtain ⟨⟨⟨hb1, hg1⟩, ⟨⟨b0, b1, b2, b3, b4, b5⟩, b6⟩, hp1, hq1⟩, ⟨⟨p0, p1⟩, p4⟩⟩ := HOUT.out w1 hC; clear hC; go_simp; first | done | exact rfl)); done)); clear hK K))
                refine wpQuiet_nil ?_
                intro wn hC
                have HO := hide3 (HOUT.out _ hC)
                clear hC HIN HOUT C
                obtain ⟨⟨⟨hb1, hg1⟩, ⟨⟨b0, b1, b2, b3, b4, b5⟩, b6⟩, hp1, hq1⟩, ⟨⟨p0, p1⟩, p4⟩⟩ := HO.out
                go_wp2
                exact ⟨⟨m + 1, _, by omega, by go_num, rfl, HT3.out, HO.out.1⟩, by simp [intOf]; omega⟩
              · have hme : m = x.ed.length := by omega
                have HT4 : Hid (T2.data.toList = textT (preL G k ++ [hdL k x] ++ x.cx.map pinL ++ x.ed.map edgL)) := by
                  unfold Hid
                  rw [HT2.out, hme, List.take_length]
                subst hme
                clear HT2
                have HR : Hid (T2.data.toList = textT (preL G (k + 1))) := by
                  unfold Hid
                  rw [HT4.out, HPS.out]
                  unfold listL
                  simp
                clear HT4 HPS HS1
                go_wp2
                exact ⟨⟨k + 1, T2, by omega, by go_num, rfl, HR.out, HKM.out.1⟩, by simp [intOf]; omega⟩
      · have hk1 : ((k : Int) == 0) = false := by rw [beq_eq_false_iff_ne]; omega
        obtain ⟨hn1, hn2⟩ := HNN.out hk0
        have hvz : (textV x.a x.b x.c).size ≤ 11 := by have := bsV_len hn2; unfold bsV at this; rwa [Sc.list_size] at this
        have HC : Hid (∀ W, Calls Tryd.prog 33 #[.agg #[.int .i64 x.a, .int .i64 x.b, .int .i64 x.c]] W fun e w' => e = .returned (.string (textV x.a x.b x.c)) ∧ Below W.heap.size W w') := fun W => rPrint_any _ _ _ W
        have HT1 : Hid ((T ++ ⟨#[110, 111, 100, 101, 32]⟩ ++ x.nm ++ ⟨#[32]⟩ ++ textV x.a x.b x.c ++ ⟨#[10]⟩).data.toList = textT (preL G k ++ [hdL k x])) := by
          unfold Hid
          rw [textT_app, ← HT.out, cat_line (x := wNode) rfl]
          unfold hdL
          rw [if_neg (by omega)]
          simp [textT, nodeL, bsV, wNode]
        generalize textV x.a x.b x.c = pt at *
        have z1 : (⟨#[32]⟩ : ByteArray).size = 1 := rfl
        have z2 : (⟨#[10]⟩ : ByteArray).size = 1 := rfl
        have z3 : (⟨#[110, 111, 100, 101, 32]⟩ : ByteArray).size = 5 := rfl
        have e1 := fun W : World => run_string_add_sum (P := Tryd.prog) (w := W) T ⟨#[110, 111, 100, 101, 32]⟩ (by omega)
        have e2 := fun W : World => run_string_add_sum (P := Tryd.prog) (w := W) (T ++ ⟨#[110, 111, 100, 101, 32]⟩) x.nm (by rw [catZ]; omega)
        have e3 := fun W : World => run_string_add_sum (P := Tryd.prog) (w := W) (T ++ ⟨#[110, 111, 100, 101, 32]⟩ ++ x.nm) ⟨#[32]⟩ (by rw [catZ, catZ]; omega)
        have e4 := fun W : World => run_string_add_sum (P := Tryd.prog) (w := W) (T ++ ⟨#[110, 111, 100, 101, 32]⟩ ++ x.nm ++ ⟨#[32]⟩) pt (by rw [catZ, catZ, catZ]; omega)
        have e5 := fun W : World => run_string_add_sum (P := Tryd.prog) (w := W) (T ++ ⟨#[110, 111, 100, 101, 32]⟩ ++ x.nm ++ ⟨#[32]⟩ ++ pt) ⟨#[10]⟩ (by rw [catZ, catZ, catZ, catZ]; omega)
        have HO := HKM
        have HK := HKP
        clear z1 z2 z3 HNN HT HKM hn1 hn2 hvz hTz
        go_wp2_with fail
        clear x0 x1 x2 x3 x4 x5 x6
        refine wp_region_keep HK.out (by kernel_rfl) (by kernel_rfl) (by first | exact HO.out | exact HK.out.drew HO.out) ?_
        intro C hin hout
        have HIN := hide3 hin
        have HOUT := hide3 hout
        clear hin hout HO
        repeat
          (with_reducible refine wpQuiet_step (fun K hK => ?_)
           go_simp
           first
             | (refine hK _ ?_; clear hK K)
             | (apply Exists.intro; refine ⟨fun w1 hC => ?_, hK _ ?_⟩; (focus ((first | (go_at_call 33; with_reducible exact callC HIN.out HOUT.out HK.out HC.out w1 hC) | (exact rfl) | (obtain ⟨⟨hb1, hg1⟩, ⟨⟨b0, b1, b2, b3, b4, b5⟩, b6⟩, hp1, hq1⟩ := HOUT.out w1 hC; clear hC; go_simp; first | done | exact rfl)); done)); clear hK K))
        refine wpQuiet_nil ?_
        intro wn hC
        have HO := hide3 (HOUT.out _ hC)
        clear hC HIN HOUT C
        obtain ⟨⟨hb1, hg1⟩, ⟨⟨b0, b1, b2, b3, b4, b5⟩, b6⟩, hp1, hq1⟩ := HO.out
        have HKM := HO
        clear HO hb1 hg1 hp1 hq1 HK HC
        go_wp2_with fail
        generalize T ++ ⟨#[110, 111, 100, 101, 32]⟩ ++ x.nm ++ ⟨#[32]⟩ ++ pt ++ ⟨#[10]⟩ = T1 at *
        clear e1 e2 e3 e4 e5 b0 b1 b2 b3 b4 b5 b6
        go_loopw [3, 6] (fun vt j wq => ∃ (m : Nat) (T2 : ByteArray), m ≤ x.cx.length ∧ j = .int .i64 m ∧ vt = .string T2 ∧ T2.data.toList = textT (preL G k ++ [hdL k x] ++ (x.cx.take m).map pinL) ∧ KM w (.slice (some ⟨ga, oa, none⟩) G.length cap) x (.slice av x.cx.length cv) (.slice ae x.ed.length ce) wa.heap.size wq) (fun _ j _ => x.cx.length - (intOf j).toNat)
        case atStart => exact ⟨0, T1, Nat.zero_le _, rfl, rfl, by rw [HT1.out]; simp, HKM.out⟩
        case round =>
          clear HKM HT1
          obtain ⟨m, T2, hm, rfl, rfl, hT2, hkm⟩ := hrel
          have HT2 := hide3 hT2
          have HKM := hide3 hkm
          obtain ⟨_, ⟨⟨b0, b1, b2, b3, b4, b5⟩, b6⟩, _, _⟩ := hkm
          clear hT2
          by_cases hml : m < x.cx.length
          · obtain ⟨gp, op, rfl, hpi⟩ := pins_cell2 HKM.out.2.2.1 hml
            have hT2z : T2.size ≤ 1048576 := by
              rw [← Sc.list_size, HT2.out]
              exact HS1.out _ ((x.cx.drop m).map pinL ++ x.ed.map edgL) (by
                unfold listL
                rw [map_split pinL x.cx m]
                simp only [List.append_assoc, List.cons_append, List.nil_append])
            have HSN : Hid ((x.cx.take (m + 1)).map pinL = (x.cx.take m).map pinL ++ [pinL x.cx[m]]) := map_snoc _ hml
            have hpz := HNP.out _ (List.getElem_mem hml)
            have HO : Hid (KM w (.slice (some ⟨ga, oa, none⟩) G.length cap) x (.slice (some ⟨gp, op, none⟩) x.cx.length cv) (.slice ae x.ed.length ce) wa.heap.size wr ∧ PnIn wr gp (op + m * 4) x.cx[m]) := ⟨HKM.out, hpi⟩
            have HK : Hid (KeepP fun W => KM w (.slice (some ⟨ga, oa, none⟩) G.length cap) x (.slice (some ⟨gp, op, none⟩) x.cx.length cv) (.slice ae x.ed.length ce) wa.heap.size W ∧ PnIn W gp (op + m * 4) x.cx[m]) := HKP.out.and (keepPn2 _ _ _)
            clear HKM hpi
            generalize x.cx[m] = p at *
            have HT3 : Hid ((T2 ++ ⟨#[119, 105, 116, 104, 32]⟩ ++ p.nm ++ ⟨#[32]⟩ ++ textV p.a p.b p.c ++ ⟨#[10]⟩).data.toList = textT (preL G k ++ [hdL k x] ++ (x.cx.take (m + 1)).map pinL)) := by
              unfold Hid
              rw [HSN.out, ← List.append_assoc, textT_app, ← HT2.out, cat_line (x := wWith) rfl]
              simp [textT, pinL, bsV, wWith]
            have hvz : (textV p.a p.b p.c).size ≤ 11 := by have := bsV_len hpz.2; unfold bsV at this; rwa [Sc.list_size] at this
            have HC : Hid (∀ W, Calls Tryd.prog 33 #[.agg #[.int .i64 p.a, .int .i64 p.b, .int .i64 p.c]] W fun e w' => e = .returned (.string (textV p.a p.b p.c)) ∧ Below W.heap.size W w') := fun W => rPrint_any _ _ _ W
            generalize textV p.a p.b p.c = pt at *
            have z1 : (⟨#[32]⟩ : ByteArray).size = 1 := rfl
            have z2 : (⟨#[10]⟩ : ByteArray).size = 1 := rfl
            have z3 : (⟨#[119, 105, 116, 104, 32]⟩ : ByteArray).size = 5 := rfl
            have hpn := hpz.1
            have e1 := fun W : World => run_string_add_sum (P := Tryd.prog) (w := W) T2 ⟨#[119, 105, 116, 104, 32]⟩ (by omega)
            have e2 := fun W : World => run_string_add_sum (P := Tryd.prog) (w := W) (T2 ++ ⟨#[119, 105, 116, 104, 32]⟩) p.nm (by rw [catZ]; omega)
            have e3 := fun W : World => run_string_add_sum (P := Tryd.prog) (w := W) (T2 ++ ⟨#[119, 105, 116, 104, 32]⟩ ++ p.nm) ⟨#[32]⟩ (by rw [catZ, catZ]; omega)
            have e4 := fun W : World => run_string_add_sum (P := Tryd.prog) (w := W) (T2 ++ ⟨#[119, 105, 116, 104, 32]⟩ ++ p.nm ++ ⟨#[32]⟩) pt (by rw [catZ, catZ, catZ]; omega)
            have e5 := fun W : World => run_string_add_sum (P := Tryd.prog) (w := W) (T2 ++ ⟨#[119, 105, 116, 104, 32]⟩ ++ p.nm ++ ⟨#[32]⟩ ++ pt) ⟨#[10]⟩ (by rw [catZ, catZ, catZ, catZ]; omega)
            clear z1 z2 z3 hpn hpz hvz hT2z HT2 HSN
            go_wp2_with fail
            clear b0 b1 b2 b3 b4 b5 b6
            refine wp_region_keep HK.out (by kernel_rfl) (by kernel_rfl) (by first | exact HO.out | exact HK.out.drew HO.out) ?_
            intro C hin hout
            have HIN := hide3 hin
            have HOUT := hide3 hout
            clear hin hout HO
            repeat
              (with_reducible refine wpQuiet_step (fun K hK => ?_)
               go_simp
               first
                 | (refine hK _ ?_; clear hK K)
                 | (apply Exists.intro; refine ⟨fun w1 hC => ?_, hK _ ?_⟩; (focus ((first | (go_at_call 33; with_reducible exact callC HIN.out HOUT.out HK.out HC.out w1 hC) | (exact rfl) | (obtain ⟨⟨⟨hb1, hg1⟩, ⟨⟨b0, b1, b2, b3, b4, b5⟩, b6⟩, hp1, hq1⟩, ⟨⟨p0, p1, p2, p3⟩, p4⟩⟩ := HOUT.out w1 hC; clear hC; go_simp; first | done | exact rfl)); done)); clear hK K))
            refine wpQuiet_nil ?_
            intro wn hC
            have HO := hide3 (HOUT.out _ hC)
            clear hC HIN HOUT C
            obtain ⟨⟨⟨hb1, hg1⟩, ⟨⟨b0, b1, b2, b3, b4, b5⟩, b6⟩, hp1, hq1⟩, ⟨⟨p0, p1, p2, p3⟩, p4⟩⟩ := HO.out
            go_wp2
            exact ⟨⟨m + 1, _, by omega, by go_num, rfl, HT3.out, HO.out.1⟩, by simp [intOf]; omega⟩
          · have hme : m = x.cx.length := by omega
            have HT4 : Hid (T2.data.toList = textT (preL G k ++ [hdL k x] ++ x.cx.map pinL)) := by
              unfold Hid
              rw [HT2.out, hme, List.take_length]
            subst hme
            clear HT2
            obtain ⟨wb, rfl⟩ : ∃ q, q = wr := ⟨wr, rfl⟩
            go_wp2_with fail
            clear b0 b1 b2 b3 b4 b5 b6
            go_loopw [3, 7] (fun vt j wq => ∃ (m : Nat) (T2 : ByteArray), m ≤ x.ed.length ∧ j = .int .i64 m ∧ vt = .string T2 ∧ T2.data.toList = textT (preL G k ++ [hdL k x] ++ x.cx.map pinL ++ (x.ed.take m).map edgL) ∧ KM w (.slice (some ⟨ga, oa, none⟩) G.length cap) x (.slice av x.cx.length cv) (.slice ae x.ed.length ce) wa.heap.size wq) (fun _ j _ => x.ed.length - (intOf j).toNat)
            case atStart => exact ⟨0, T2, Nat.zero_le _, rfl, rfl, by rw [HT4.out]; simp, HKM.out⟩
            case round =>
              clear HKM HT4
              obtain ⟨m, T2, hm, rfl, rfl, hT2, hkm⟩ := hrel
              have HT2 := hide3 hT2
              have HKM := hide3 hkm
              obtain ⟨_, ⟨⟨b0, b1, b2, b3, b4, b5⟩, b6⟩, _, _⟩ := hkm
              clear hT2
              by_cases hml : m < x.ed.length
              · obtain ⟨gp, op, rfl, hpi⟩ := edges_cell2 HKM.out.2.2.2 hml
                have hT2z : T2.size ≤ 1048576 := by
                  rw [← Sc.list_size, HT2.out]
                  exact HS1.out _ ((x.ed.drop m).map edgL) (by
                    unfold listL
                    rw [map_split edgL x.ed m]
                    simp only [List.append_assoc, List.cons_append, List.nil_append])
                have HSN : Hid ((x.ed.take (m + 1)).map edgL = (x.ed.take m).map edgL ++ [edgL x.ed[m]]) := map_snoc _ hml
                have hpz := HNE.out _ (List.getElem_mem hml)
                have HO : Hid (KM w (.slice (some ⟨ga, oa, none⟩) G.length cap) x (.slice av x.cx.length cv) (.slice (some ⟨gp, op, none⟩) x.ed.length ce) wa.heap.size wr ∧ EgIn wr gp (op + m * 2) x.ed[m]) := ⟨HKM.out, hpi⟩
                have HK : Hid (KeepP fun W => KM w (.slice (some ⟨ga, oa, none⟩) G.length cap) x (.slice av x.cx.length cv) (.slice (some ⟨gp, op, none⟩) x.ed.length ce) wa.heap.size W ∧ EgIn W gp (op + m * 2) x.ed[m]) := HKP.out.and (keepEg2 _ _ _)
                clear HKM hpi
                generalize x.ed[m] = p at *
                have HT3 : Hid ((T2 ++ ⟨#[116, 111, 32]⟩ ++ p.lb ++ ⟨#[32]⟩ ++ (⟨(Lib.itoa p.to).toArray⟩ : ByteArray) ++ ⟨#[10]⟩).data.toList = textT (preL G k ++ [hdL k x] ++ x.cx.map pinL ++ (x.ed.take (m + 1)).map edgL)) := by
                  unfold Hid
                  rw [HSN.out, ← List.append_assoc, textT_app, ← HT2.out, cat_line (x := wTo) rfl]
                  simp [textT, edgL, wTo]
                have hvz : (⟨(Lib.itoa p.to).toArray⟩ : ByteArray).size ≤ 11 := by
                  have := itoa_len hpz.2.1 hpz.2.2
                  show (Lib.itoa p.to).toArray.size ≤ 11
                  rw [List.size_toArray]
                  omega
                have HC : Hid (∀ W, Calls Tryd.prog 34 #[.int .i64 p.to] W fun e w' => e = .returned (.string ⟨(Lib.itoa p.to).toArray⟩) ∧ Below W.heap.size W w') := fun W => Number_any _ hpz.2.1 hpz.2.2 W
                generalize (⟨(Lib.itoa p.to).toArray⟩ : ByteArray) = pt at *
                have z1 : (⟨#[32]⟩ : ByteArray).size = 1 := rfl
                have z2 : (⟨#[10]⟩ : ByteArray).size = 1 := rfl
                have z3 : (⟨#[116, 111, 32]⟩ : ByteArray).size = 3 := rfl
                have hpn := hpz.1
                have e1 := fun W : World => run_string_add_sum (P := Tryd.prog) (w := W) T2 ⟨#[116, 111, 32]⟩ (by omega)
                have e2 := fun W : World => run_string_add_sum (P := Tryd.prog) (w := W) (T2 ++ ⟨#[116, 111, 32]⟩) p.lb (by rw [catZ]; omega)
                have e3 := fun W : World => run_string_add_sum (P := Tryd.prog) (w := W) (T2 ++ ⟨#[116, 111, 32]⟩ ++ p.lb) ⟨#[32]⟩ (by rw [catZ, catZ]; omega)
                have e4 := fun W : World => run_string_add_sum (P := Tryd.prog) (w := W) (T2 ++ ⟨#[116, 111, 32]⟩ ++ p.lb ++ ⟨#[32]⟩) pt (by rw [catZ, catZ, catZ]; omega)
                have e5 := fun W : World => run_string_add_sum (P := Tryd.prog) (w := W) (T2 ++ ⟨#[116, 111, 32]⟩ ++ p.lb ++ ⟨#[32]⟩ ++ pt) ⟨#[10]⟩ (by rw [catZ, catZ, catZ, catZ]; omega)
                clear z1 z2 z3 hpn hpz hvz hT2z HT2 HSN
                go_wp2_with fail
                clear b0 b1 b2 b3 b4 b5 b6
                refine wp_region_keep HK.out (by kernel_rfl) (by kernel_rfl) (by first | exact HO.out | exact HK.out.drew HO.out) ?_
                intro C hin hout
                have HIN := hide3 hin
                have HOUT := hide3 hout
                clear hin hout HO
                repeat
                  (with_reducible refine wpQuiet_step (fun K hK => ?_)
                   go_simp
                   first
                     | (refine hK _ ?_; clear hK K)
                     | (apply Exists.intro; refine ⟨fun w1 hC => ?_, hK _ ?_⟩; (focus ((first | (go_at_call 34; with_reducible exact callC HIN.out HOUT.out HK.out HC.out w1 hC) | (exact rfl) | (obtain ⟨⟨⟨hb1, hg1⟩, ⟨⟨b0, b1, b2, b3, b4, b5⟩, b6⟩, hp1, hq1⟩, ⟨⟨p0, p1⟩, p4⟩⟩ := HOUT.out w1 hC; clear hC; go_simp; first | done | exact rfl)); done)); clear hK K))
                refine wpQuiet_nil ?_
                intro wn hC
                have HO := hide3 (HOUT.out _ hC)
                clear hC HIN HOUT C
                obtain ⟨⟨⟨hb1, hg1⟩, ⟨⟨b0, b1, b2, b3, b4, b5⟩, b6⟩, hp1, hq1⟩, ⟨⟨p0, p1⟩, p4⟩⟩ := HO.out
                go_wp2
                exact ⟨⟨m + 1, _, by omega, by go_num, rfl, HT3.out, HO.out.1⟩, by simp [intOf]; omega⟩
              · have hme : m = x.ed.length := by omega
                have HT4 : Hid (T2.data.toList = textT (preL G k ++ [hdL k x] ++ x.cx.map pinL ++ x.ed.map edgL)) := by
                  unfold Hid
                  rw [HT2.out, hme, List.take_length]
                subst hme
                clear HT2
                have HR : Hid (T2.data.toList = textT (preL G (k + 1))) := by
                  unfold Hid
                  rw [HT4.out, HPS.out]
                  unfold listL
                  simp
                clear HT4 HPS HS1
                go_wp2
                exact ⟨⟨k + 1, T2, by omega, by go_num, rfl, HR.out, HKM.out.1⟩, by simp [intOf]; omega⟩
    · obtain rfl : k = G.length := by omega
      have HR := hide3 (HEND.out T HT.out)
      clear HCS HEND HSHORT
      go_wp2
      go_ret
      exact ⟨ret_str HR.out, HB.out.1⟩

theorem rPrintG_any {G : List Nd} {v : Value} {w : World} (h : NodesAt w v G) (hz : ∀ n ∈ G, NdZ n) :
    Calls Tryd.prog 7 #[.agg #[v]] w fun e w' => e = .returned (.tuple #[.string (prT G), .int .i64 (prE G)]) ∧ Below w.heap.size w w' := by
  have HM : Hid (∀ W, Below w.heap.size w W → Calls Tryd.prog 9 #[.agg #[v]] W fun e w' => e = .returned (.bool (mayG G)) ∧ Below W.heap.size W w') := fun W hb => rMayG_any (h.below hb) hz
  have HX : Hid (mayG G = true → ∀ W, Below w.heap.size w W → Calls Tryd.prog 16 #[.agg #[v]] W fun e w' => e = .returned (.string (textG G)) ∧ Below W.heap.size W w') := fun hm W hb => by
    have hn := h.below hb
    obtain ⟨ad, cap, rfl, _⟩ := h
    exact rTextG_walk hn hm
  obtain ⟨ad, cap, rfl, kk⟩ := h
  clear kk hz
  have HB0 : Hid (Below w.heap.size w (w.alloc (.cells #[.slice ad G.length cap] 24)) ∧ BxG (w.alloc (.cells #[.slice ad G.length cap] 24)) w.heap.size (.slice ad G.length cap)) := ⟨boxB _ _, BxG.new rfl _⟩
  unfold prT prE
  cases hm : mayG G
  · rw [hm] at HM
    clear HX
    go_enter Tryd.func7, Tryd.ntmps7
    go_wp2_with (go_at_call 9; refine (HM.out _ HB0.out.1).mono ?_; rintro e w1 ⟨rfl, ok⟩; have HB1 := hide3 (below_then HB0.out.1 ok); clear ok)
    go_ret2
    exact ⟨by simp, HB1.out⟩
  · rw [hm] at HM
    have HY := hide3 (HX.out hm)
    clear HX hm
    go_enter Tryd.func7, Tryd.ntmps7
    go_wp2_with (first
      | (go_at_call 9; refine (HM.out _ HB0.out.1).mono ?_; rintro e w1 ⟨rfl, ok⟩; have HB1 := hide3 (below_then HB0.out.1 ok); obtain ⟨y0, y1⟩ := keepBxG _ _ _ _ HB0.out.2 ok; clear ok)
      | (go_at_call 16; refine (HY.out _ HB1.out).mono ?_; rintro e w2 ⟨rfl, ok⟩; have HB2 := hide3 (below_then HB1.out ok); clear ok))
    go_ret2
    exact ⟨by simp, HB2.out⟩
end Go.Proofs.YtikplmckjcceaaaDoor
