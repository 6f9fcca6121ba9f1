/- The document's Print of a range. -/
import Derived.Test.YtipibibhkmhihaaGreatDoorWr1
import Derived.Test.YtipibibhkmhihaaGreatDoorRf2
namespace Go.Proofs.YtipibibhkmhihaaGreatDoor
open Go.RowKit
set_option maxRecDepth 100000

/-- Spans' texts, with bars between. -/
def joinT (l : Rg) : ByteArray := ⟨(Lib.join (l.map fun p => (spT p).data.toList) [32, 124, 124, 32]).toArray⟩
theorem jmore {l : List (List UInt8)} (h : l ≠ []) (x sep : List UInt8) : Lib.join (l ++ [x]) sep = Lib.join l sep ++ sep ++ x := by
  cases l with
  | nil => exact absurd rfl h
  | cons y l =>
    rw [List.cons_append, Lib.join_cons, Lib.join_cons]
    simp [Lib.joinTail]
theorem joinT_zero {A : Rg} (h : 0 < A.length) : joinT (A.take (0 + 1)) = spT A[0] := by
  unfold joinT
  rw [List.take_succ_eq_append_getElem h]
  simp only [List.take_zero, List.nil_append, List.map_cons, List.map_nil]
  rw [Lib.join_one, list_of_bytes]
theorem joinT_more {A : Rg} {k : Nat} (h : k < A.length) (h0 : k ≠ 0) : joinT (A.take (k + 1)) = (joinT (A.take k) ++ ⟨#[32, 124, 124, 32]⟩) ++ spT A[k] := by
  have hne : (A.take k).map (fun p => (spT p).data.toList) ≠ [] := by
    intro e
    have := congrArg List.length e
    rw [List.length_map, List.length_take, List.length_nil] at this
    omega
  refine same_list ?_
  simp only [cat_list]
  unfold joinT
  rw [List.take_succ_eq_append_getElem h, List.map_append]
  simp only [List.map_cons, List.map_nil]
  rw [jmore hne]
theorem joinT_size {A : Rg} (hl : A.length ≤ 64) (k : Nat) : (joinT (A.take k)).size ≤ 10000 := by
  unfold joinT
  rw [bytes_size]
  exact join_fits (by rw [List.length_take]; omega)
theorem printR_join {A : Rg} (h : A ≠ []) : printR A = joinT A := by
  cases A with
  | nil => exact absurd rfl h
  | cons _ _ => rfl

theorem triple_eq {lo hi : Int} (h1 : okR lo) (h2 : okR hi) : (atA lo = atA hi ∧ atB lo = atB hi ∧ atC lo = atC hi) ↔ lo = hi := by
  obtain ⟨m1, e1⟩ := may_at h1.has
  obtain ⟨m2, e2⟩ := may_at h2.has
  constructor
  · rintro ⟨a, b, c⟩
    rw [← e1, ← e2, a, b, c]
  · rintro rfl
    exact ⟨rfl, rfl, rfl⟩
theorem triple_zero {lo : Int} (h1 : okR lo) : (atA lo = 0 ∧ atB lo = 0 ∧ atC lo = 0) ↔ lo = 0 := by
  obtain ⟨m1, e1⟩ := may_at h1.has
  constructor
  · rintro ⟨a, b, c⟩
    rw [← e1, a, b, c]; exact rank_000
  · rintro rfl
    decide +kernel
theorem triple_last {hi : Int} (h1 : okR hi) : (atA hi = 999 ∧ atB hi = 999 ∧ atC hi = 999) ↔ hi = 999999999 := by
  obtain ⟨m1, e1⟩ := may_at h1.has
  constructor
  · rintro ⟨a, b, c⟩
    rw [← e1, a, b, c]; exact rank_999
  · rintro rfl
    decide +kernel
theorem spT_is {lo hi : Int} (h1 : okR lo) (h2 : okR hi) : spT (lo, hi) = if lo = hi then textV (atA lo) (atB lo) (atC lo) else if lo = 0 ∧ hi = 999999999 then ⟨#[42]⟩ else if lo = 0 then ⟨#[60, 61]⟩ ++ textV (atA hi) (atB hi) (atC hi) else
    if hi = 999999999 then ⟨#[62, 61]⟩ ++ textV (atA lo) (atB lo) (atC lo) else ((⟨#[62, 61]⟩ ++ textV (atA lo) (atB lo) (atC lo)) ++ ⟨#[32, 60, 61]⟩) ++ textV (atA hi) (atB hi) (atC hi) := by
  unfold spT spanT
  simp only [triple_eq h1 h2, triple_zero h1, triple_last h2]

theorem range_ok {A : Rg} {k M : Int} (h : RiseR k M A) (hk : 0 ≤ k) : ∀ p ∈ A, 0 ≤ p.1 ∧ p.1 ≤ p.2 ∧ p.2 ≤ M := by
  induction A generalizing k with
  | nil => intro p hp; cases hp
  | cons q A ih =>
    obtain ⟨q1, q2, q3, q4⟩ := rise_head h
    intro p hp
    rcases List.mem_cons.1 hp with rfl | hp
    · exact ⟨by omega, q2, q3⟩
    · exact ih q4 (by omega) p hp

set_option maxHeartbeats 12800000 in
theorem rPrint_walk (A : Rg) (hA : RangeR A) (h0 : A ≠ []) (g o cap : Nat) (w : World) (hlen : A.length ≤ 64) (hg : g < w.heap.size) (hl : ∀ i (h : i < A.length), SpAt w g (o + i * 6) (spR A[i]))
    (HMay : Hid (Calls Tryz.prog 19 #[.slice (some ⟨g, o, none⟩) A.length cap] w fun e w' => e = .returned (.bool true) ∧ Below w.heap.size w w')) :
    Calls Tryz.prog 18 #[.slice (some ⟨g, o, none⟩) A.length cap] w fun e w' => e = .returned (.string (printR A)) ∧ Below w.heap.size w w' := by
  have HL : Hid (∀ w1, Below w.heap.size w w1 → ∀ i (h : i < A.length), SpIn w1 g (o + i * 6) (spR A[i])) := fun w1 hb i hi => ⟨(hl i hi).below hb hg, Nat.lt_of_lt_of_le hg hb.size⟩
  have HPJ := hide3 (printR_join h0)
  have HRO : Hid (∀ p ∈ A, 0 ≤ p.1 ∧ p.1 ≤ p.2 ∧ p.2 ≤ 999999999) := range_ok hA (Int.le_refl 0)
  have hl0 : ((A.length : Int) == 0) = false := by
    rw [beq_eq_false_iff_ne]
    have := List.length_pos_iff.2 h0
    omega
  have hgd := guardV
  clear hl hA
  go_enter Tryz.func18, Tryz.ntmps18
  go_wp2_with (go_at_call 19; refine HMay.out.mono ?_; rintro e w1 ⟨rfl, ok1⟩; have HO1 := hide3 ok1; clear ok1)
  go_loopw [3, 4] (fun out i wr => ∃ k : Nat, k ≤ A.length ∧ i = .int .i64 k ∧ out = .string (joinT (A.take k)) ∧ Below w.heap.size w wr) (fun _ i _ => A.length - (intOf i).toNat)
  case atStart => exact ⟨0, Nat.zero_le _, rfl, by rw [List.take_zero]; rfl, HO1.out⟩
  case round =>
    obtain ⟨k, hk, rfl, rfl, hb⟩ := hrel
    have HB := hide3 hb
    by_cases hlt : k < A.length
    · have hs := HL.out wr hb k hlt
      obtain ⟨ok1, ok2, ok3⟩ := HRO.out _ (List.getElem_mem hlt)
      have hyz := joinT_size hlen k
      have HN0 : Hid (k = 0 → joinT (A.take (k + 1)) = joinT (A.take k) ++ spT A[k]) := by
        intro e
        subst e
        rw [joinT_zero hlt]
        exact (empty_cat _).symm
      have HN1 : Hid (k ≠ 0 → joinT (A.take (k + 1)) = (joinT (A.take k) ++ ⟨#[32, 124, 124, 32]⟩) ++ spT A[k]) := joinT_more hlt
      have HO : Hid (Below w.heap.size w wr ∧ SpIn wr g (o + k * 6) (spR A[k])) := ⟨hb, hs⟩
      have HK : Hid (KeepP fun w1 => Below w.heap.size w w1 ∧ SpIn w1 g (o + k * 6) (spR A[k])) := (keepBelow w).and (keepSp _ _ _)
      clear hb
      generalize A[k] = p at *
      obtain ⟨lo, hi⟩ := p
      simp only at ok1 ok2 ok3
      have h1 : okR lo := ⟨ok1, by omega⟩
      have h2 : okR hi := ⟨by omega, ok3⟩
      have hsp := spT_is h1 h2
      obtain ⟨m1, q1⟩ := may_at h1.has
      obtain ⟨m2, q2⟩ := may_at h2.has
      have zL := text_size (atA lo) (atB lo) (atC lo)
      have zH := text_size (atA hi) (atB hi) (atC hi)
      have e1 := eqlV (atA lo) (atB lo) (atC lo) (atA hi) (atB hi) (atC hi)
      have HPL : Hid (∀ w1, Calls Tryz.prog 39 #[.agg #[.int .i64 (atA lo), .int .i64 (atB lo), .int .i64 (atC lo)]] w1 fun e w' => e = .returned (.string (textV (atA lo) (atB lo) (atC lo))) ∧ Below w1.heap.size w1 w') := rPrint_any _ _ _
      have HPH : Hid (∀ w1, Calls Tryz.prog 39 #[.agg #[.int .i64 (atA hi), .int .i64 (atB hi), .int .i64 (atC hi)]] w1 fun e w' => e = .returned (.string (textV (atA hi) (atB hi) (atC hi))) ∧ Below w1.heap.size w1 w') := rPrint_any _ _ _
      have HRL : Hid (∀ w1, Calls Tryz.prog 40 #[.agg #[.int .i64 (atA lo), .int .i64 (atB lo), .int .i64 (atC lo)]] w1 fun e w' => e = .returned (.int .i64 lo) ∧ Below w1.heap.size w1 w') := fun w1 => by have := rrank_any (atA lo) (atB lo) (atC lo) w1; rw [q1] at this; exact this
      have HRH : Hid (∀ w1, Calls Tryz.prog 40 #[.agg #[.int .i64 (atA hi), .int .i64 (atB hi), .int .i64 (atC hi)]] w1 fun e w' => e = .returned (.int .i64 hi) ∧ Below w1.heap.size w1 w') := fun w1 => by have := rrank_any (atA hi) (atB hi) (atC hi) w1; rw [q2] at this; exact this
      simp only [triple_eq h1 h2] at e1
      simp only [spR] at HO HK hs
      clear m1 m2 q1 q2 h1 h2
      generalize textV (atA lo) (atB lo) (atC lo) = TL at *
      generalize textV (atA hi) (atB hi) (atC hi) = TH at *
      generalize joinT (A.take k) = y at *
      generalize spT (lo, hi) = S at *
      generalize atA lo = a at *
      generalize atB lo = b at *
      generalize atC lo = c at *
      generalize atA hi = x at *
      generalize atB hi = y' at *
      generalize atC hi = z at *
      obtain ⟨⟨p0, p1, p2, p3, p4, p5⟩, p6⟩ := hs
      simp only at p0 p1 p2 p3 p4 p5
      have z1 : (⟨#[32, 124, 124, 32]⟩ : ByteArray).size = 4 := rfl
      have z2 : (⟨#[60, 61]⟩ : ByteArray).size = 2 := rfl
      have z3 : (⟨#[62, 61]⟩ : ByteArray).size = 2 := rfl
      have z4 : (⟨#[42]⟩ : ByteArray).size = 1 := rfl
      have z5 : (⟨#[32]⟩ : ByteArray).size = 1 := rfl
      have t1 : True := trivial
      have t2 : True := trivial
      have t3 : True := trivial
      have t4 : True := trivial
      have t5 : True := trivial
      by_cases c1 : lo = hi
      · rw [decide_eq_true c1] at e1
        rw [if_pos c1] at hsp
        clear c1
        by_cases hk0 : k = 0
        · have HX : Hid (y ++ TL = joinT (A.take (k + 1))) := by
            unfold Hid
            rw [HN0.out hk0, hsp]
          have hkk : ¬ (0 : Int) < (k : Int) := by omega
          clear hsp hk0 HN0 HN1
          go_wp2_with (first | (have _h := t1; go_at_call 39; refine (HPL.out _).mono ?_; rintro e wz ⟨rfl, ok⟩; have HO9 := hide3 (HK.out _ _ HO.out ok); clear ok HO t1 p0 p1 p2 p3 p4 p5 p6; have HO := HO9; clear HO9; obtain ⟨_, ⟨p0, p1, p2, p3, p4, p5⟩, p6⟩ := HO.out) | (have _h := t2; go_at_call 39; refine (HPH.out _).mono ?_; rintro e wz ⟨rfl, ok⟩; have HO9 := hide3 (HK.out _ _ HO.out ok); clear ok HO t2 p0 p1 p2 p3 p4 p5 p6; have HO := HO9; clear HO9; obtain ⟨_, ⟨p0, p1, p2, p3, p4, p5⟩, p6⟩ := HO.out) | (have _h := t3; go_at_call 40; refine (HRL.out _).mono ?_; rintro e wz ⟨rfl, ok⟩; have HO9 := hide3 (HK.out _ _ HO.out ok); clear ok HO t3 p0 p1 p2 p3 p4 p5 p6; have HO := HO9; clear HO9; obtain ⟨_, ⟨p0, p1, p2, p3, p4, p5⟩, p6⟩ := HO.out) | (have _h := t4; go_at_call 40; refine (HRH.out _).mono ?_; rintro e wz ⟨rfl, ok⟩; have HO9 := hide3 (HK.out _ _ HO.out ok); clear ok HO t4 p0 p1 p2 p3 p4 p5 p6; have HO := HO9; clear HO9; obtain ⟨_, ⟨p0, p1, p2, p3, p4, p5⟩, p6⟩ := HO.out))
          refine wp_region_keep HK.out (by kernel_rfl) (by kernel_rfl) (by first | exact HO.out | exact HK.out.drew HO.out) ?_
          intro C hin hout
          have HIN := hide3 hin
          have HOUT := hide3 hout
          clear hin hout HO
          repeat
            (with_reducible refine wpQuiet_step (fun K hK => ?_)
             go_simp
             first
               | (refine hK _ ?_; clear hK K)
               | (apply Exists.intro; refine ⟨fun w1 hC => ?_, hK _ ?_⟩; (focus ((first | (exact rfl) | (obtain ⟨hb1, ⟨p0, p1, p2, p3, p4, p5⟩, p6⟩ := HOUT.out w1 hC; clear hC; go_simp; first | done | exact rfl)); done)); clear hK K))
          refine wpQuiet_nil ?_
          intro wn hC
          have HO := hide3 (HOUT.out _ hC)
          clear hC HIN HOUT C
          obtain ⟨hb1, ⟨p0, p1, p2, p3, p4, p5⟩, p6⟩ := HO.out
          go_wp2_with (have _h := t5; go_at_call 39; refine (HPL.out _).mono ?_; rintro e wz ⟨rfl, ok⟩; have HO9 := hide3 (HK.out _ _ HO.out ok); clear ok HO t5 p0 p1 p2 p3 p4 p5 p6; have HO := HO9; clear HO9; obtain ⟨_, ⟨p0, p1, p2, p3, p4, p5⟩, p6⟩ := HO.out)
          exact ⟨⟨k + 1, by omega, by go_num, by rw [HX.out], HO.out.1⟩, by simp [intOf]; omega⟩
        · have HX : Hid ((y ++ ⟨#[32, 124, 124, 32]⟩) ++ TL = joinT (A.take (k + 1))) := by
            unfold Hid
            rw [HN1.out hk0, hsp]
          have hkk : (0 : Int) < (k : Int) := by omega
          clear hsp hk0 HN0 HN1
          go_wp2_with (first | (have _h := t1; go_at_call 39; refine (HPL.out _).mono ?_; rintro e wz ⟨rfl, ok⟩; have HO9 := hide3 (HK.out _ _ HO.out ok); clear ok HO t1 p0 p1 p2 p3 p4 p5 p6; have HO := HO9; clear HO9; obtain ⟨_, ⟨p0, p1, p2, p3, p4, p5⟩, p6⟩ := HO.out) | (have _h := t2; go_at_call 39; refine (HPH.out _).mono ?_; rintro e wz ⟨rfl, ok⟩; have HO9 := hide3 (HK.out _ _ HO.out ok); clear ok HO t2 p0 p1 p2 p3 p4 p5 p6; have HO := HO9; clear HO9; obtain ⟨_, ⟨p0, p1, p2, p3, p4, p5⟩, p6⟩ := HO.out) | (have _h := t3; go_at_call 40; refine (HRL.out _).mono ?_; rintro e wz ⟨rfl, ok⟩; have HO9 := hide3 (HK.out _ _ HO.out ok); clear ok HO t3 p0 p1 p2 p3 p4 p5 p6; have HO := HO9; clear HO9; obtain ⟨_, ⟨p0, p1, p2, p3, p4, p5⟩, p6⟩ := HO.out) | (have _h := t4; go_at_call 40; refine (HRH.out _).mono ?_; rintro e wz ⟨rfl, ok⟩; have HO9 := hide3 (HK.out _ _ HO.out ok); clear ok HO t4 p0 p1 p2 p3 p4 p5 p6; have HO := HO9; clear HO9; obtain ⟨_, ⟨p0, p1, p2, p3, p4, p5⟩, p6⟩ := HO.out))
          refine wp_region_keep HK.out (by kernel_rfl) (by kernel_rfl) (by first | exact HO.out | exact HK.out.drew HO.out) ?_
          intro C hin hout
          have HIN := hide3 hin
          have HOUT := hide3 hout
          clear hin hout HO
          repeat
            (with_reducible refine wpQuiet_step (fun K hK => ?_)
             go_simp
             first
               | (refine hK _ ?_; clear hK K)
               | (apply Exists.intro; refine ⟨fun w1 hC => ?_, hK _ ?_⟩; (focus ((first | (exact rfl) | (obtain ⟨hb1, ⟨p0, p1, p2, p3, p4, p5⟩, p6⟩ := HOUT.out w1 hC; clear hC; go_simp; first | done | exact rfl)); done)); clear hK K))
          refine wpQuiet_nil ?_
          intro wn hC
          have HO := hide3 (HOUT.out _ hC)
          clear hC HIN HOUT C
          obtain ⟨hb1, ⟨p0, p1, p2, p3, p4, p5⟩, p6⟩ := HO.out
          go_wp2_with (have _h := t5; go_at_call 39; refine (HPL.out _).mono ?_; rintro e wz ⟨rfl, ok⟩; have HO9 := hide3 (HK.out _ _ HO.out ok); clear ok HO t5 p0 p1 p2 p3 p4 p5 p6; have HO := HO9; clear HO9; obtain ⟨_, ⟨p0, p1, p2, p3, p4, p5⟩, p6⟩ := HO.out)
          exact ⟨⟨k + 1, by omega, by go_num, by rw [HX.out], HO.out.1⟩, by simp [intOf]; omega⟩
      · rw [decide_eq_false c1] at e1
        rw [if_neg c1] at hsp
        clear c1
        by_cases c2 : lo = 0
        · have f1 : (lo == 0) = true := by rw [beq_iff_eq]; exact c2
          by_cases c3 : hi = 999999999
          · have f2 : (hi == 999999999) = true := by rw [beq_iff_eq]; exact c3
            rw [if_pos ⟨c2, c3⟩] at hsp
            clear c2 c3
            by_cases hk0 : k = 0
            · have HX : Hid (y ++ ⟨#[42]⟩ = joinT (A.take (k + 1))) := by
                unfold Hid
                rw [HN0.out hk0, hsp]
              have hkk : ¬ (0 : Int) < (k : Int) := by omega
              clear hsp hk0 HN0 HN1 t5
              go_wp2_with (first | (have _h := t1; go_at_call 39; refine (HPL.out _).mono ?_; rintro e wz ⟨rfl, ok⟩; have HO9 := hide3 (HK.out _ _ HO.out ok); clear ok HO t1 p0 p1 p2 p3 p4 p5 p6; have HO := HO9; clear HO9; obtain ⟨_, ⟨p0, p1, p2, p3, p4, p5⟩, p6⟩ := HO.out) | (have _h := t2; go_at_call 39; refine (HPH.out _).mono ?_; rintro e wz ⟨rfl, ok⟩; have HO9 := hide3 (HK.out _ _ HO.out ok); clear ok HO t2 p0 p1 p2 p3 p4 p5 p6; have HO := HO9; clear HO9; obtain ⟨_, ⟨p0, p1, p2, p3, p4, p5⟩, p6⟩ := HO.out) | (have _h := t3; go_at_call 40; refine (HRL.out _).mono ?_; rintro e wz ⟨rfl, ok⟩; have HO9 := hide3 (HK.out _ _ HO.out ok); clear ok HO t3 p0 p1 p2 p3 p4 p5 p6; have HO := HO9; clear HO9; obtain ⟨_, ⟨p0, p1, p2, p3, p4, p5⟩, p6⟩ := HO.out) | (have _h := t4; go_at_call 40; refine (HRH.out _).mono ?_; rintro e wz ⟨rfl, ok⟩; have HO9 := hide3 (HK.out _ _ HO.out ok); clear ok HO t4 p0 p1 p2 p3 p4 p5 p6; have HO := HO9; clear HO9; obtain ⟨_, ⟨p0, p1, p2, p3, p4, p5⟩, p6⟩ := HO.out))
              refine wp_region_keep HK.out (by kernel_rfl) (by kernel_rfl) (by first | exact HO.out | exact HK.out.drew HO.out) ?_
              intro C hin hout
              have HIN := hide3 hin
              have HOUT := hide3 hout
              clear hin hout HO
              repeat
                (with_reducible refine wpQuiet_step (fun K hK => ?_)
                 go_simp
                 first
                   | (refine hK _ ?_; clear hK K)
                   | (apply Exists.intro; refine ⟨fun w1 hC => ?_, hK _ ?_⟩; (focus ((first | (exact rfl) | (obtain ⟨hb1, ⟨p0, p1, p2, p3, p4, p5⟩, p6⟩ := HOUT.out w1 hC; clear hC; go_simp; first | done | exact rfl)); done)); clear hK K))
              refine wpQuiet_nil ?_
              intro wn hC
              have HO := hide3 (HOUT.out _ hC)
              clear hC HIN HOUT C
              obtain ⟨hb1, ⟨p0, p1, p2, p3, p4, p5⟩, p6⟩ := HO.out
              go_wp2
              exact ⟨⟨k + 1, by omega, by go_num, by rw [HX.out], HO.out.1⟩, by simp [intOf]; omega⟩
            · have HX : Hid ((y ++ ⟨#[32, 124, 124, 32]⟩) ++ ⟨#[42]⟩ = joinT (A.take (k + 1))) := by
                unfold Hid
                rw [HN1.out hk0, hsp]
              have hkk : (0 : Int) < (k : Int) := by omega
              clear hsp hk0 HN0 HN1 t5
              go_wp2_with (first | (have _h := t1; go_at_call 39; refine (HPL.out _).mono ?_; rintro e wz ⟨rfl, ok⟩; have HO9 := hide3 (HK.out _ _ HO.out ok); clear ok HO t1 p0 p1 p2 p3 p4 p5 p6; have HO := HO9; clear HO9; obtain ⟨_, ⟨p0, p1, p2, p3, p4, p5⟩, p6⟩ := HO.out) | (have _h := t2; go_at_call 39; refine (HPH.out _).mono ?_; rintro e wz ⟨rfl, ok⟩; have HO9 := hide3 (HK.out _ _ HO.out ok); clear ok HO t2 p0 p1 p2 p3 p4 p5 p6; have HO := HO9; clear HO9; obtain ⟨_, ⟨p0, p1, p2, p3, p4, p5⟩, p6⟩ := HO.out) | (have _h := t3; go_at_call 40; refine (HRL.out _).mono ?_; rintro e wz ⟨rfl, ok⟩; have HO9 := hide3 (HK.out _ _ HO.out ok); clear ok HO t3 p0 p1 p2 p3 p4 p5 p6; have HO := HO9; clear HO9; obtain ⟨_, ⟨p0, p1, p2, p3, p4, p5⟩, p6⟩ := HO.out) | (have _h := t4; go_at_call 40; refine (HRH.out _).mono ?_; rintro e wz ⟨rfl, ok⟩; have HO9 := hide3 (HK.out _ _ HO.out ok); clear ok HO t4 p0 p1 p2 p3 p4 p5 p6; have HO := HO9; clear HO9; obtain ⟨_, ⟨p0, p1, p2, p3, p4, p5⟩, p6⟩ := HO.out))
              refine wp_region_keep HK.out (by kernel_rfl) (by kernel_rfl) (by first | exact HO.out | exact HK.out.drew HO.out) ?_
              intro C hin hout
              have HIN := hide3 hin
              have HOUT := hide3 hout
              clear hin hout HO
              repeat
                (with_reducible refine wpQuiet_step (fun K hK => ?_)
                 go_simp
                 first
                   | (refine hK _ ?_; clear hK K)
                   | (apply Exists.intro; refine ⟨fun w1 hC => ?_, hK _ ?_⟩; (focus ((first | (exact rfl) | (obtain ⟨hb1, ⟨p0, p1, p2, p3, p4, p5⟩, p6⟩ := HOUT.out w1 hC; clear hC; go_simp; first | done | exact rfl)); done)); clear hK K))
              refine wpQuiet_nil ?_
              intro wn hC
              have HO := hide3 (HOUT.out _ hC)
              clear hC HIN HOUT C
              obtain ⟨hb1, ⟨p0, p1, p2, p3, p4, p5⟩, p6⟩ := HO.out
              go_wp2
              exact ⟨⟨k + 1, by omega, by go_num, by rw [HX.out], HO.out.1⟩, by simp [intOf]; omega⟩
          · have f2 : (hi == 999999999) = false := by rw [beq_eq_false_iff_ne]; exact c3
            rw [if_neg (fun h => c3 h.2), if_pos c2] at hsp
            clear c2 c3
            by_cases hk0 : k = 0
            · have HX : Hid (y ++ (⟨#[60, 61]⟩ ++ TH) = joinT (A.take (k + 1))) := by
                unfold Hid
                rw [HN0.out hk0, hsp]
              have hkk : ¬ (0 : Int) < (k : Int) := by omega
              clear hsp hk0 HN0 HN1 t5
              go_wp2_with (first | (have _h := t1; go_at_call 39; refine (HPL.out _).mono ?_; rintro e wz ⟨rfl, ok⟩; have HO9 := hide3 (HK.out _ _ HO.out ok); clear ok HO t1 p0 p1 p2 p3 p4 p5 p6; have HO := HO9; clear HO9; obtain ⟨_, ⟨p0, p1, p2, p3, p4, p5⟩, p6⟩ := HO.out) | (have _h := t2; go_at_call 39; refine (HPH.out _).mono ?_; rintro e wz ⟨rfl, ok⟩; have HO9 := hide3 (HK.out _ _ HO.out ok); clear ok HO t2 p0 p1 p2 p3 p4 p5 p6; have HO := HO9; clear HO9; obtain ⟨_, ⟨p0, p1, p2, p3, p4, p5⟩, p6⟩ := HO.out) | (have _h := t3; go_at_call 40; refine (HRL.out _).mono ?_; rintro e wz ⟨rfl, ok⟩; have HO9 := hide3 (HK.out _ _ HO.out ok); clear ok HO t3 p0 p1 p2 p3 p4 p5 p6; have HO := HO9; clear HO9; obtain ⟨_, ⟨p0, p1, p2, p3, p4, p5⟩, p6⟩ := HO.out) | (have _h := t4; go_at_call 40; refine (HRH.out _).mono ?_; rintro e wz ⟨rfl, ok⟩; have HO9 := hide3 (HK.out _ _ HO.out ok); clear ok HO t4 p0 p1 p2 p3 p4 p5 p6; have HO := HO9; clear HO9; obtain ⟨_, ⟨p0, p1, p2, p3, p4, p5⟩, p6⟩ := HO.out))
              refine wp_region_keep HK.out (by kernel_rfl) (by kernel_rfl) (by first | exact HO.out | exact HK.out.drew HO.out) ?_
              intro C hin hout
              have HIN := hide3 hin
              have HOUT := hide3 hout
              clear hin hout HO
              repeat
                (with_reducible refine wpQuiet_step (fun K hK => ?_)
                 go_simp
                 first
                   | (refine hK _ ?_; clear hK K)
                   | (apply Exists.intro; refine ⟨fun w1 hC => ?_, hK _ ?_⟩; (focus ((first | (exact rfl) | (obtain ⟨hb1, ⟨p0, p1, p2, p3, p4, p5⟩, p6⟩ := HOUT.out w1 hC; clear hC; go_simp; first | done | exact rfl)); done)); clear hK K))
              refine wpQuiet_nil ?_
              intro wn hC
              have HO := hide3 (HOUT.out _ hC)
              clear hC HIN HOUT C
              obtain ⟨hb1, ⟨p0, p1, p2, p3, p4, p5⟩, p6⟩ := HO.out
              go_wp2
              exact ⟨⟨k + 1, by omega, by go_num, by rw [HX.out], HO.out.1⟩, by simp [intOf]; omega⟩
            · have HX : Hid ((y ++ ⟨#[32, 124, 124, 32]⟩) ++ (⟨#[60, 61]⟩ ++ TH) = joinT (A.take (k + 1))) := by
                unfold Hid
                rw [HN1.out hk0, hsp]
              have hkk : (0 : Int) < (k : Int) := by omega
              clear hsp hk0 HN0 HN1 t5
              go_wp2_with (first | (have _h := t1; go_at_call 39; refine (HPL.out _).mono ?_; rintro e wz ⟨rfl, ok⟩; have HO9 := hide3 (HK.out _ _ HO.out ok); clear ok HO t1 p0 p1 p2 p3 p4 p5 p6; have HO := HO9; clear HO9; obtain ⟨_, ⟨p0, p1, p2, p3, p4, p5⟩, p6⟩ := HO.out) | (have _h := t2; go_at_call 39; refine (HPH.out _).mono ?_; rintro e wz ⟨rfl, ok⟩; have HO9 := hide3 (HK.out _ _ HO.out ok); clear ok HO t2 p0 p1 p2 p3 p4 p5 p6; have HO := HO9; clear HO9; obtain ⟨_, ⟨p0, p1, p2, p3, p4, p5⟩, p6⟩ := HO.out) | (have _h := t3; go_at_call 40; refine (HRL.out _).mono ?_; rintro e wz ⟨rfl, ok⟩; have HO9 := hide3 (HK.out _ _ HO.out ok); clear ok HO t3 p0 p1 p2 p3 p4 p5 p6; have HO := HO9; clear HO9; obtain ⟨_, ⟨p0, p1, p2, p3, p4, p5⟩, p6⟩ := HO.out) | (have _h := t4; go_at_call 40; refine (HRH.out _).mono ?_; rintro e wz ⟨rfl, ok⟩; have HO9 := hide3 (HK.out _ _ HO.out ok); clear ok HO t4 p0 p1 p2 p3 p4 p5 p6; have HO := HO9; clear HO9; obtain ⟨_, ⟨p0, p1, p2, p3, p4, p5⟩, p6⟩ := HO.out))
              refine wp_region_keep HK.out (by kernel_rfl) (by kernel_rfl) (by first | exact HO.out | exact HK.out.drew HO.out) ?_
              intro C hin hout
              have HIN := hide3 hin
              have HOUT := hide3 hout
              clear hin hout HO
              repeat
                (with_reducible refine wpQuiet_step (fun K hK => ?_)
                 go_simp
                 first
                   | (refine hK _ ?_; clear hK K)
                   | (apply Exists.intro; refine ⟨fun w1 hC => ?_, hK _ ?_⟩; (focus ((first | (exact rfl) | (obtain ⟨hb1, ⟨p0, p1, p2, p3, p4, p5⟩, p6⟩ := HOUT.out w1 hC; clear hC; go_simp; first | done | exact rfl)); done)); clear hK K))
              refine wpQuiet_nil ?_
              intro wn hC
              have HO := hide3 (HOUT.out _ hC)
              clear hC HIN HOUT C
              obtain ⟨hb1, ⟨p0, p1, p2, p3, p4, p5⟩, p6⟩ := HO.out
              go_wp2
              exact ⟨⟨k + 1, by omega, by go_num, by rw [HX.out], HO.out.1⟩, by simp [intOf]; omega⟩
        · have f1 : (lo == 0) = false := by rw [beq_eq_false_iff_ne]; exact c2
          by_cases c3 : hi = 999999999
          · have f2 : (hi == 999999999) = true := by rw [beq_iff_eq]; exact c3
            rw [if_neg (fun h => c2 h.1), if_neg c2, if_pos c3] at hsp
            clear c2 c3
            by_cases hk0 : k = 0
            · have HX : Hid (y ++ (⟨#[62, 61]⟩ ++ TL) = joinT (A.take (k + 1))) := by
                unfold Hid
                rw [HN0.out hk0, hsp]
              have hkk : ¬ (0 : Int) < (k : Int) := by omega
              clear hsp hk0 HN0 HN1 t5
              go_wp2_with (first | (have _h := t1; go_at_call 39; refine (HPL.out _).mono ?_; rintro e wz ⟨rfl, ok⟩; have HO9 := hide3 (HK.out _ _ HO.out ok); clear ok HO t1 p0 p1 p2 p3 p4 p5 p6; have HO := HO9; clear HO9; obtain ⟨_, ⟨p0, p1, p2, p3, p4, p5⟩, p6⟩ := HO.out) | (have _h := t2; go_at_call 39; refine (HPH.out _).mono ?_; rintro e wz ⟨rfl, ok⟩; have HO9 := hide3 (HK.out _ _ HO.out ok); clear ok HO t2 p0 p1 p2 p3 p4 p5 p6; have HO := HO9; clear HO9; obtain ⟨_, ⟨p0, p1, p2, p3, p4, p5⟩, p6⟩ := HO.out) | (have _h := t3; go_at_call 40; refine (HRL.out _).mono ?_; rintro e wz ⟨rfl, ok⟩; have HO9 := hide3 (HK.out _ _ HO.out ok); clear ok HO t3 p0 p1 p2 p3 p4 p5 p6; have HO := HO9; clear HO9; obtain ⟨_, ⟨p0, p1, p2, p3, p4, p5⟩, p6⟩ := HO.out) | (have _h := t4; go_at_call 40; refine (HRH.out _).mono ?_; rintro e wz ⟨rfl, ok⟩; have HO9 := hide3 (HK.out _ _ HO.out ok); clear ok HO t4 p0 p1 p2 p3 p4 p5 p6; have HO := HO9; clear HO9; obtain ⟨_, ⟨p0, p1, p2, p3, p4, p5⟩, p6⟩ := HO.out))
              refine wp_region_keep HK.out (by kernel_rfl) (by kernel_rfl) (by first | exact HO.out | exact HK.out.drew HO.out) ?_
              intro C hin hout
              have HIN := hide3 hin
              have HOUT := hide3 hout
              clear hin hout HO
              repeat
                (with_reducible refine wpQuiet_step (fun K hK => ?_)
                 go_simp
                 first
                   | (refine hK _ ?_; clear hK K)
                   | (apply Exists.intro; refine ⟨fun w1 hC => ?_, hK _ ?_⟩; (focus ((first | (exact rfl) | (obtain ⟨hb1, ⟨p0, p1, p2, p3, p4, p5⟩, p6⟩ := HOUT.out w1 hC; clear hC; go_simp; first | done | exact rfl)); done)); clear hK K))
              refine wpQuiet_nil ?_
              intro wn hC
              have HO := hide3 (HOUT.out _ hC)
              clear hC HIN HOUT C
              obtain ⟨hb1, ⟨p0, p1, p2, p3, p4, p5⟩, p6⟩ := HO.out
              go_wp2
              exact ⟨⟨k + 1, by omega, by go_num, by rw [HX.out], HO.out.1⟩, by simp [intOf]; omega⟩
            · have HX : Hid ((y ++ ⟨#[32, 124, 124, 32]⟩) ++ (⟨#[62, 61]⟩ ++ TL) = joinT (A.take (k + 1))) := by
                unfold Hid
                rw [HN1.out hk0, hsp]
              have hkk : (0 : Int) < (k : Int) := by omega
              clear hsp hk0 HN0 HN1 t5
              go_wp2_with (first | (have _h := t1; go_at_call 39; refine (HPL.out _).mono ?_; rintro e wz ⟨rfl, ok⟩; have HO9 := hide3 (HK.out _ _ HO.out ok); clear ok HO t1 p0 p1 p2 p3 p4 p5 p6; have HO := HO9; clear HO9; obtain ⟨_, ⟨p0, p1, p2, p3, p4, p5⟩, p6⟩ := HO.out) | (have _h := t2; go_at_call 39; refine (HPH.out _).mono ?_; rintro e wz ⟨rfl, ok⟩; have HO9 := hide3 (HK.out _ _ HO.out ok); clear ok HO t2 p0 p1 p2 p3 p4 p5 p6; have HO := HO9; clear HO9; obtain ⟨_, ⟨p0, p1, p2, p3, p4, p5⟩, p6⟩ := HO.out) | (have _h := t3; go_at_call 40; refine (HRL.out _).mono ?_; rintro e wz ⟨rfl, ok⟩; have HO9 := hide3 (HK.out _ _ HO.out ok); clear ok HO t3 p0 p1 p2 p3 p4 p5 p6; have HO := HO9; clear HO9; obtain ⟨_, ⟨p0, p1, p2, p3, p4, p5⟩, p6⟩ := HO.out) | (have _h := t4; go_at_call 40; refine (HRH.out _).mono ?_; rintro e wz ⟨rfl, ok⟩; have HO9 := hide3 (HK.out _ _ HO.out ok); clear ok HO t4 p0 p1 p2 p3 p4 p5 p6; have HO := HO9; clear HO9; obtain ⟨_, ⟨p0, p1, p2, p3, p4, p5⟩, p6⟩ := HO.out))
              refine wp_region_keep HK.out (by kernel_rfl) (by kernel_rfl) (by first | exact HO.out | exact HK.out.drew HO.out) ?_
              intro C hin hout
              have HIN := hide3 hin
              have HOUT := hide3 hout
              clear hin hout HO
              repeat
                (with_reducible refine wpQuiet_step (fun K hK => ?_)
                 go_simp
                 first
                   | (refine hK _ ?_; clear hK K)
                   | (apply Exists.intro; refine ⟨fun w1 hC => ?_, hK _ ?_⟩; (focus ((first | (exact rfl) | (obtain ⟨hb1, ⟨p0, p1, p2, p3, p4, p5⟩, p6⟩ := HOUT.out w1 hC; clear hC; go_simp; first | done | exact rfl)); done)); clear hK K))
              refine wpQuiet_nil ?_
              intro wn hC
              have HO := hide3 (HOUT.out _ hC)
              clear hC HIN HOUT C
              obtain ⟨hb1, ⟨p0, p1, p2, p3, p4, p5⟩, p6⟩ := HO.out
              go_wp2
              exact ⟨⟨k + 1, by omega, by go_num, by rw [HX.out], HO.out.1⟩, by simp [intOf]; omega⟩
          · have f2 : (hi == 999999999) = false := by rw [beq_eq_false_iff_ne]; exact c3
            rw [if_neg (fun h => c2 h.1), if_neg c2, if_neg c3] at hsp
            clear c2 c3
            by_cases hk0 : k = 0
            · have HX : Hid (((y ++ (⟨#[62, 61]⟩ ++ TL)) ++ ⟨#[32]⟩) ++ (⟨#[60, 61]⟩ ++ TH) = joinT (A.take (k + 1))) := by
                unfold Hid
                rw [HN0.out hk0, hsp]
                refine same_list ?_
                simp only [cat_list]
                simp
              have hkk : ¬ (0 : Int) < (k : Int) := by omega
              clear hsp hk0 HN0 HN1 t5
              go_wp2_with (first | (have _h := t1; go_at_call 39; refine (HPL.out _).mono ?_; rintro e wz ⟨rfl, ok⟩; have HO9 := hide3 (HK.out _ _ HO.out ok); clear ok HO t1 p0 p1 p2 p3 p4 p5 p6; have HO := HO9; clear HO9; obtain ⟨_, ⟨p0, p1, p2, p3, p4, p5⟩, p6⟩ := HO.out) | (have _h := t2; go_at_call 39; refine (HPH.out _).mono ?_; rintro e wz ⟨rfl, ok⟩; have HO9 := hide3 (HK.out _ _ HO.out ok); clear ok HO t2 p0 p1 p2 p3 p4 p5 p6; have HO := HO9; clear HO9; obtain ⟨_, ⟨p0, p1, p2, p3, p4, p5⟩, p6⟩ := HO.out) | (have _h := t3; go_at_call 40; refine (HRL.out _).mono ?_; rintro e wz ⟨rfl, ok⟩; have HO9 := hide3 (HK.out _ _ HO.out ok); clear ok HO t3 p0 p1 p2 p3 p4 p5 p6; have HO := HO9; clear HO9; obtain ⟨_, ⟨p0, p1, p2, p3, p4, p5⟩, p6⟩ := HO.out) | (have _h := t4; go_at_call 40; refine (HRH.out _).mono ?_; rintro e wz ⟨rfl, ok⟩; have HO9 := hide3 (HK.out _ _ HO.out ok); clear ok HO t4 p0 p1 p2 p3 p4 p5 p6; have HO := HO9; clear HO9; obtain ⟨_, ⟨p0, p1, p2, p3, p4, p5⟩, p6⟩ := HO.out))
              refine wp_region_keep HK.out (by kernel_rfl) (by kernel_rfl) (by first | exact HO.out | exact HK.out.drew HO.out) ?_
              intro C hin hout
              have HIN := hide3 hin
              have HOUT := hide3 hout
              clear hin hout HO
              repeat
                (with_reducible refine wpQuiet_step (fun K hK => ?_)
                 go_simp
                 first
                   | (refine hK _ ?_; clear hK K)
                   | (apply Exists.intro; refine ⟨fun w1 hC => ?_, hK _ ?_⟩; (focus ((first | (exact rfl) | (obtain ⟨hb1, ⟨p0, p1, p2, p3, p4, p5⟩, p6⟩ := HOUT.out w1 hC; clear hC; go_simp; first | done | exact rfl)); done)); clear hK K))
              refine wpQuiet_nil ?_
              intro wn hC
              have HO := hide3 (HOUT.out _ hC)
              clear hC HIN HOUT C
              obtain ⟨hb1, ⟨p0, p1, p2, p3, p4, p5⟩, p6⟩ := HO.out
              go_wp2
              exact ⟨⟨k + 1, by omega, by go_num, by rw [HX.out], HO.out.1⟩, by simp [intOf]; omega⟩
            · have HX : Hid ((((y ++ ⟨#[32, 124, 124, 32]⟩) ++ (⟨#[62, 61]⟩ ++ TL)) ++ ⟨#[32]⟩) ++ (⟨#[60, 61]⟩ ++ TH) = joinT (A.take (k + 1))) := by
                unfold Hid
                rw [HN1.out hk0, hsp]
                refine same_list ?_
                simp only [cat_list]
                simp
              have hkk : (0 : Int) < (k : Int) := by omega
              clear hsp hk0 HN0 HN1 t5
              go_wp2_with (first | (have _h := t1; go_at_call 39; refine (HPL.out _).mono ?_; rintro e wz ⟨rfl, ok⟩; have HO9 := hide3 (HK.out _ _ HO.out ok); clear ok HO t1 p0 p1 p2 p3 p4 p5 p6; have HO := HO9; clear HO9; obtain ⟨_, ⟨p0, p1, p2, p3, p4, p5⟩, p6⟩ := HO.out) | (have _h := t2; go_at_call 39; refine (HPH.out _).mono ?_; rintro e wz ⟨rfl, ok⟩; have HO9 := hide3 (HK.out _ _ HO.out ok); clear ok HO t2 p0 p1 p2 p3 p4 p5 p6; have HO := HO9; clear HO9; obtain ⟨_, ⟨p0, p1, p2, p3, p4, p5⟩, p6⟩ := HO.out) | (have _h := t3; go_at_call 40; refine (HRL.out _).mono ?_; rintro e wz ⟨rfl, ok⟩; have HO9 := hide3 (HK.out _ _ HO.out ok); clear ok HO t3 p0 p1 p2 p3 p4 p5 p6; have HO := HO9; clear HO9; obtain ⟨_, ⟨p0, p1, p2, p3, p4, p5⟩, p6⟩ := HO.out) | (have _h := t4; go_at_call 40; refine (HRH.out _).mono ?_; rintro e wz ⟨rfl, ok⟩; have HO9 := hide3 (HK.out _ _ HO.out ok); clear ok HO t4 p0 p1 p2 p3 p4 p5 p6; have HO := HO9; clear HO9; obtain ⟨_, ⟨p0, p1, p2, p3, p4, p5⟩, p6⟩ := HO.out))
              refine wp_region_keep HK.out (by kernel_rfl) (by kernel_rfl) (by first | exact HO.out | exact HK.out.drew HO.out) ?_
              intro C hin hout
              have HIN := hide3 hin
              have HOUT := hide3 hout
              clear hin hout HO
              repeat
                (with_reducible refine wpQuiet_step (fun K hK => ?_)
                 go_simp
                 first
                   | (refine hK _ ?_; clear hK K)
                   | (apply Exists.intro; refine ⟨fun w1 hC => ?_, hK _ ?_⟩; (focus ((first | (exact rfl) | (obtain ⟨hb1, ⟨p0, p1, p2, p3, p4, p5⟩, p6⟩ := HOUT.out w1 hC; clear hC; go_simp; first | done | exact rfl)); done)); clear hK K))
              refine wpQuiet_nil ?_
              intro wn hC
              have HO := hide3 (HOUT.out _ hC)
              clear hC HIN HOUT C
              obtain ⟨hb1, ⟨p0, p1, p2, p3, p4, p5⟩, p6⟩ := HO.out
              go_wp2
              exact ⟨⟨k + 1, by omega, by go_num, by rw [HX.out], HO.out.1⟩, by simp [intOf]; omega⟩
    · have hke : k = A.length := by omega
      subst hke
      have HX : Hid (joinT (A.take A.length) = printR A) := by unfold Hid; rw [List.take_length, HPJ.out]
      clear hb
      go_wp2
      go_ret
      exact ⟨by rw [HX.out]; rfl, HB.out⟩
end Go.Proofs.YtipibibhkmhihaaGreatDoor
