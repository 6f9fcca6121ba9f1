/- Wr2, Rk5, laid in one text. -/
import Derived.Test.YtjpmlagofcgheaaGreatDoorMg19
namespace Go.Proofs.YtjpmlagofcgheaaGreatDoor
open Go.RowKit
set_option maxRecDepth 100000

/-- Spans' texts, with bars between. -/
def joinT (l : Rg) : ByteArray := ⟨(Lib.join (l.map fun p => (spT p).data.toList) [32, 124, 124, 32]).toArray⟩
theorem jmore {l : List (List UInt8)} (h : l ≠ []) (x sep : List UInt8) : Lib.join (l ++ [x]) sep = Lib.join l sep ++ sep ++ x := by
  cases l with
  | nil => exact absurd rfl h
  | cons y l =>
    rw [List.cons_append, Lib.join_cons, Lib.join_cons]
    simp [Lib.joinTail]
theorem joinT_zero {A : Rg} (h : 0 < A.length) : joinT (A.take (0 + 1)) = spT A[0] := by
  unfold joinT
  rw [List.take_succ_eq_append_getElem h]
  simp only [List.take_zero, List.nil_append, List.map_cons, List.map_nil]
  rw [Lib.join_one, list_of_bytes]
theorem joinT_more {A : Rg} {k : Nat} (h : k < A.length) (h0 : k ≠ 0) : joinT (A.take (k + 1)) = (joinT (A.take k) ++ ⟨#[32, 124, 124, 32]⟩) ++ spT A[k] := by
  have hne : (A.take k).map (fun p => (spT p).data.toList) ≠ [] := by
    intro e
    have := congrArg List.length e
    rw [List.length_map, List.length_take, List.length_nil] at this
    omega
  refine same_list ?_
  simp only [cat_list]
  unfold joinT
  rw [List.take_succ_eq_append_getElem h, List.map_append]
  simp only [List.map_cons, List.map_nil]
  rw [jmore hne]
theorem joinT_size {A : Rg} (hl : A.length ≤ 64) (k : Nat) : (joinT (A.take k)).size ≤ 10000 := by
  unfold joinT
  rw [bytes_size]
  exact join_fits (by rw [List.length_take]; omega)
theorem printR_join {A : Rg} (h : A ≠ []) : printR A = joinT A := by
  cases A with
  | nil => exact absurd rfl h
  | cons _ _ => rfl

theorem triple_eq {lo hi : Int} (h1 : okR lo) (h2 : okR hi) : (atA lo = atA hi ∧ atB lo = atB hi ∧ atC lo = atC hi) ↔ lo = hi := by
  obtain ⟨m1, e1⟩ := may_at h1.has
  obtain ⟨m2, e2⟩ := may_at h2.has
  constructor
  · rintro ⟨a, b, c⟩
    rw [← e1, ← e2, a, b, c]
  · rintro rfl
    exact ⟨rfl, rfl, rfl⟩
theorem triple_zero {lo : Int} (h1 : okR lo) : (atA lo = 0 ∧ atB lo = 0 ∧ atC lo = 0) ↔ lo = 0 := by
  obtain ⟨m1, e1⟩ := may_at h1.has
  constructor
  · rintro ⟨a, b, c⟩
    rw [← e1, a, b, c]; exact rank_000
  · rintro rfl
    decide +kernel
theorem triple_last {hi : Int} (h1 : okR hi) : (atA hi = 999 ∧ atB hi = 999 ∧ atC hi = 999) ↔ hi = 999999999 := by
  obtain ⟨m1, e1⟩ := may_at h1.has
  constructor
  · rintro ⟨a, b, c⟩
    rw [← e1, a, b, c]; exact rank_999
  · rintro rfl
    decide +kernel
theorem spT_is {lo hi : Int} (h1 : okR lo) (h2 : okR hi) : spT (lo, hi) = if lo = hi then textV (atA lo) (atB lo) (atC lo) else if lo = 0 ∧ hi = 999999999 then ⟨#[42]⟩ else if lo = 0 then ⟨#[60, 61]⟩ ++ textV (atA hi) (atB hi) (atC hi) else
    if hi = 999999999 then ⟨#[62, 61]⟩ ++ textV (atA lo) (atB lo) (atC lo) else ((⟨#[62, 61]⟩ ++ textV (atA lo) (atB lo) (atC lo)) ++ ⟨#[32, 60, 61]⟩) ++ textV (atA hi) (atB hi) (atC hi) := by
  unfold spT spanT
  simp only [triple_eq h1 h2, triple_zero h1, triple_last h2]

theorem range_ok {A : Rg} {k M : Int} (h : RiseR k M A) (hk : 0 ≤ k) : ∀ p ∈ A, 0 ≤ p.1 ∧ p.1 ≤ p.2 ∧ p.2 ≤ M := by
  induction A generalizing k with
  | nil => intro p hp; cases hp
  | cons q A ih =>
    obtain ⟨q1, q2, q3, q4⟩ := rise_head h
    intro p hp
    rcases List.mem_cons.1 hp with rfl | hp
    · exact ⟨by omega, q2, q3⟩
    · exact ih q4 (by omega) p hp

set_option maxHeartbeats 12800000 in
theorem rPrint_walk (A : Rg) (hA : RangeR A) (h0 : A ≠ []) (g o cap : Nat) (w : World) (hlen : A.length ≤ 64) (hg : g < w.heap.size) (hl : ∀ i (h : i < A.length), SpAt w g (o + i * 6) (spR A[i]))
    (HMay : Hid (Calls Tryz.prog 62 #[.slice (some ⟨g, o, none⟩) A.length cap] w fun e w' => e = .returned (.bool true) ∧ Below w.heap.size w w')) :
    Calls Tryz.prog 132 #[.slice (some ⟨g, o, none⟩) A.length cap] w fun e w' => e = .returned (.string (printR A)) ∧ Below w.heap.size w w' := by
  have HL : Hid (∀ w1, Below w.heap.size w w1 → ∀ i (h : i < A.length), SpIn w1 g (o + i * 6) (spR A[i])) := fun w1 hb i hi => ⟨(hl i hi).below hb hg, Nat.lt_of_lt_of_le hg hb.size⟩
  have HPJ := hide3 (printR_join h0)
  have HRO : Hid (∀ p ∈ A, 0 ≤ p.1 ∧ p.1 ≤ p.2 ∧ p.2 ≤ 999999999) := range_ok hA (Int.le_refl 0)
  have hl0 : ((A.length : Int) == 0) = false := by
    rw [beq_eq_false_iff_ne]
    have := List.length_pos_iff.2 h0
    omega
  have hgd := guardV
  clear hl hA
  go_enter Tryz.func132, Tryz.ntmps132
  go_wp2_with (go_at_call 62; refine HMay.out.mono ?_; rintro e w1 ⟨rfl, ok1⟩; have HO1 := hide3 ok1; clear ok1)
  go_loopw [3, 4] (fun out i wr => ∃ k : Nat, k ≤ A.length ∧ i = .int .i64 k ∧ out = .string (joinT (A.take k)) ∧ Below w.heap.size w wr) (fun _ i _ => A.length - (intOf i).toNat)
  case atStart => exact ⟨0, Nat.zero_le _, rfl, by rw [List.take_zero]; rfl, HO1.out⟩
  case round =>
    obtain ⟨k, hk, rfl, rfl, hb⟩ := hrel
    have HB := hide3 hb
    by_cases hlt : k < A.length
    · have hs := HL.out wr hb k hlt
      obtain ⟨ok1, ok2, ok3⟩ := HRO.out _ (List.getElem_mem hlt)
      have hyz := joinT_size hlen k
      have HN0 : Hid (k = 0 → joinT (A.take (k + 1)) = joinT (A.take k) ++ spT A[k]) := by
        intro e
        subst e
        rw [joinT_zero hlt]
        exact (empty_cat _).symm
      have HN1 : Hid (k ≠ 0 → joinT (A.take (k + 1)) = (joinT (A.take k) ++ ⟨#[32, 124, 124, 32]⟩) ++ spT A[k]) := joinT_more hlt
      have HO : Hid (Below w.heap.size w wr ∧ SpIn wr g (o + k * 6) (spR A[k])) := ⟨hb, hs⟩
      have HK : Hid (KeepP fun w1 => Below w.heap.size w w1 ∧ SpIn w1 g (o + k * 6) (spR A[k])) := (keepBelow w).and (keepSp _ _ _)
      clear hb
      generalize A[k] = p at *
      obtain ⟨lo, hi⟩ := p
      simp only at ok1 ok2 ok3
      have h1 : okR lo := ⟨ok1, by omega⟩
      have h2 : okR hi := ⟨by omega, ok3⟩
      have hsp := spT_is h1 h2
      obtain ⟨m1, q1⟩ := may_at h1.has
      obtain ⟨m2, q2⟩ := may_at h2.has
      have zL := text_size (atA lo) (atB lo) (atC lo)
      have zH := text_size (atA hi) (atB hi) (atC hi)
      have e1 := eqlV (atA lo) (atB lo) (atC lo) (atA hi) (atB hi) (atC hi)
      have HPL : Hid (∀ w1, Calls Tryz.prog 99 #[.agg #[.int .i64 (atA lo), .int .i64 (atB lo), .int .i64 (atC lo)]] w1 fun e w' => e = .returned (.string (textV (atA lo) (atB lo) (atC lo))) ∧ Below w1.heap.size w1 w') := rPrint_any _ _ _
      have HPH : Hid (∀ w1, Calls Tryz.prog 99 #[.agg #[.int .i64 (atA hi), .int .i64 (atB hi), .int .i64 (atC hi)]] w1 fun e w' => e = .returned (.string (textV (atA hi) (atB hi) (atC hi))) ∧ Below w1.heap.size w1 w') := rPrint_any _ _ _
      have HRL : Hid (∀ w1, Calls Tryz.prog 65 #[.agg #[.int .i64 (atA lo), .int .i64 (atB lo), .int .i64 (atC lo)]] w1 fun e w' => e = .returned (.int .i64 lo) ∧ Below w1.heap.size w1 w') := fun w1 => by have := rrank_any (atA lo) (atB lo) (atC lo) w1; rw [q1] at this; exact this
      have HRH : Hid (∀ w1, Calls Tryz.prog 65 #[.agg #[.int .i64 (atA hi), .int .i64 (atB hi), .int .i64 (atC hi)]] w1 fun e w' => e = .returned (.int .i64 hi) ∧ Below w1.heap.size w1 w') := fun w1 => by have := rrank_any (atA hi) (atB hi) (atC hi) w1; rw [q2] at this; exact this
      simp only [triple_eq h1 h2] at e1
      simp only [spR] at HO HK hs
      clear m1 m2 q1 q2 h1 h2
      generalize textV (atA lo) (atB lo) (atC lo) = TL at *
      generalize textV (atA hi) (atB hi) (atC hi) = TH at *
      generalize joinT (A.take k) = y at *
      generalize spT (lo, hi) = S at *
      generalize atA lo = a at *
      generalize atB lo = b at *
      generalize atC lo = c at *
      generalize atA hi = x at *
      generalize atB hi = y' at *
      generalize atC hi = z at *
      obtain ⟨⟨p0, p1, p2, p3, p4, p5⟩, p6⟩ := hs
      simp only at p0 p1 p2 p3 p4 p5
      have z1 : (⟨#[32, 124, 124, 32]⟩ : ByteArray).size = 4 := rfl
      have z2 : (⟨#[60, 61]⟩ : ByteArray).size = 2 := rfl
      have z3 : (⟨#[62, 61]⟩ : ByteArray).size = 2 := rfl
      have z4 : (⟨#[42]⟩ : ByteArray).size = 1 := rfl
      have z5 : (⟨#[32]⟩ : ByteArray).size = 1 := rfl
      have t1 : True := trivial
      have t2 : True := trivial
      have t3 : True := trivial
      have t4 : True := trivial
      have t5 : True := trivial
      by_cases c1 : lo = hi
      · rw [decide_eq_true c1] at e1
        rw [if_pos c1] at hsp
        clear c1
        by_cases hk0 : k = 0
        · have HX : Hid (y ++ TL = joinT (A.take (k + 1))) := by
            unfold Hid
            rw [HN0.out hk0, hsp]
          have hkk : ¬ (0 : Int) < (k : Int) := by omega
          clear hsp hk0 HN0 HN1
          go_wp2_with (first | (have _h := t1; go_at_call 99; refine (HPL.out _).mono ?_; rintro e wz ⟨rfl, ok⟩; have HO9 := hide3 (HK.out _ _ HO.out ok); clear ok HO t1 p0 p1 p2 p3 p4 p5 p6; have HO := HO9; clear HO9; obtain ⟨_, ⟨p0, p1, p2, p3, p4, p5⟩, p6⟩ := HO.out) | (have _h := t2; go_at_call 99; refine (HPH.out _).mono ?_; rintro e wz ⟨rfl, ok⟩; have HO9 := hide3 (HK.out _ _ HO.out ok); clear ok HO t2 p0 p1 p2 p3 p4 p5 p6; have HO := HO9; clear HO9; obtain ⟨_, ⟨p0, p1, p2, p3, p4, p5⟩, p6⟩ := HO.out) | (have _h := t3; go_at_call 65; refine (HRL.out _).mono ?_; rintro e wz ⟨rfl, ok⟩; have HO9 := hide3 (HK.out _ _ HO.out ok); clear ok HO t3 p0 p1 p2 p3 p4 p5 p6; have HO := HO9; clear HO9; obtain ⟨_, ⟨p0, p1, p2, p3, p4, p5⟩, p6⟩ := HO.out) | (have _h := t4; go_at_call 65; refine (HRH.out _).mono ?_; rintro e wz ⟨rfl, ok⟩; have HO9 := hide3 (HK.out _ _ HO.out ok); clear ok HO t4 p0 p1 p2 p3 p4 p5 p6; have HO := HO9; clear HO9; obtain ⟨_, ⟨p0, p1, p2, p3, p4, p5⟩, p6⟩ := HO.out))
          refine wp_region_keep HK.out (by kernel_rfl) (by kernel_rfl) (by first | exact HO.out | exact HK.out.drew HO.out) ?_
          intro C hin hout
          have HIN := hide3 hin
          have HOUT := hide3 hout
          clear hin hout HO
          repeat
            (with_reducible refine wpQuiet_step (fun K hK => ?_)
             go_simp
             first
               | (refine hK _ ?_; clear hK K)
               | (apply Exists.intro; refine ⟨fun w1 hC => ?_, hK _ ?_⟩; (focus ((first | (exact rfl) | (obtain ⟨hb1, ⟨p0, p1, p2, p3, p4, p5⟩, p6⟩ := HOUT.out w1 hC; clear hC; go_simp; first | done | exact rfl)); done)); clear hK K))
          refine wpQuiet_nil ?_
          intro wn hC
          have HO := hide3 (HOUT.out _ hC)
          clear hC HIN HOUT C
          obtain ⟨hb1, ⟨p0, p1, p2, p3, p4, p5⟩, p6⟩ := HO.out
          go_wp2_with (have _h := t5; go_at_call 99; refine (HPL.out _).mono ?_; rintro e wz ⟨rfl, ok⟩; have HO9 := hide3 (HK.out _ _ HO.out ok); clear ok HO t5 p0 p1 p2 p3 p4 p5 p6; have HO := HO9; clear HO9; obtain ⟨_, ⟨p0, p1, p2, p3, p4, p5⟩, p6⟩ := HO.out)
          exact ⟨⟨k + 1, by omega, by go_num, by rw [HX.out], HO.out.1⟩, by simp [intOf]; omega⟩
        · have HX : Hid ((y ++ ⟨#[32, 124, 124, 32]⟩) ++ TL = joinT (A.take (k + 1))) := by
            unfold Hid
            rw [HN1.out hk0, hsp]
          have hkk : (0 : Int) < (k : Int) := by omega
          clear hsp hk0 HN0 HN1
          go_wp2_with (first | (have _h := t1; go_at_call 99; refine (HPL.out _).mono ?_; rintro e wz ⟨rfl, ok⟩; have HO9 := hide3 (HK.out _ _ HO.out ok); clear ok HO t1 p0 p1 p2 p3 p4 p5 p6; have HO := HO9; clear HO9; obtain ⟨_, ⟨p0, p1, p2, p3, p4, p5⟩, p6⟩ := HO.out) | (have _h := t2; go_at_call 99; refine (HPH.out _).mono ?_; rintro e wz ⟨rfl, ok⟩; have HO9 := hide3 (HK.out _ _ HO.out ok); clear ok HO t2 p0 p1 p2 p3 p4 p5 p6; have HO := HO9; clear HO9; obtain ⟨_, ⟨p0, p1, p2, p3, p4, p5⟩, p6⟩ := HO.out) | (have _h := t3; go_at_call 65; refine (HRL.out _).mono ?_; rintro e wz ⟨rfl, ok⟩; have HO9 := hide3 (HK.out _ _ HO.out ok); clear ok HO t3 p0 p1 p2 p3 p4 p5 p6; have HO := HO9; clear HO9; obtain ⟨_, ⟨p0, p1, p2, p3, p4, p5⟩, p6⟩ := HO.out) | (have _h := t4; go_at_call 65; refine (HRH.out _).mono ?_; rintro e wz ⟨rfl, ok⟩; have HO9 := hide3 (HK.out _ _ HO.out ok); clear ok HO t4 p0 p1 p2 p3 p4 p5 p6; have HO := HO9; clear HO9; obtain ⟨_, ⟨p0, p1, p2, p3, p4, p5⟩, p6⟩ := HO.out))
          refine wp_region_keep HK.out (by kernel_rfl) (by kernel_rfl) (by first | exact HO.out | exact HK.out.drew HO.out) ?_
          intro C hin hout
          have HIN := hide3 hin
          have HOUT := hide3 hout
          clear hin hout HO
          repeat
            (with_reducible refine wpQuiet_step (fun K hK => ?_)
             go_simp
             first
               | (refine hK _ ?_; clear hK K)
               | (apply Exists.intro; refine ⟨fun w1 hC => ?_, hK _ ?_⟩; (focus ((first | (exact rfl) | (obtain ⟨hb1, ⟨p0, p1, p2, p3, p4, p5⟩, p6⟩ := HOUT.out w1 hC; clear hC; go_simp; first | done | exact rfl)); done)); clear hK K))
          refine wpQuiet_nil ?_
          intro wn hC
          have HO := hide3 (HOUT.out _ hC)
          clear hC HIN HOUT C
          obtain ⟨hb1, ⟨p0, p1, p2, p3, p4, p5⟩, p6⟩ := HO.out
          go_wp2_with (have _h := t5; go_at_call 99; refine (HPL.out _).mono ?_; rintro e wz ⟨rfl, ok⟩; have HO9 := hide3 (HK.out _ _ HO.out ok); clear ok HO t5 p0 p1 p2 p3 p4 p5 p6; have HO := HO9; clear HO9; obtain ⟨_, ⟨p0, p1, p2, p3, p4, p5⟩, p6⟩ := HO.out)
          exact ⟨⟨k + 1, by omega, by go_num, by rw [HX.out], HO.out.1⟩, by simp [intOf]; omega⟩
      · rw [decide_eq_false c1] at e1
        rw [if_neg c1] at hsp
        clear c1
        by_cases c2 : lo = 0
        · have f1 : (lo == 0) = true := by rw [beq_iff_eq]; exact c2
          by_cases c3 : hi = 999999999
          · have f2 : (hi == 999999999) = true := by rw [beq_iff_eq]; exact c3
            rw [if_pos ⟨c2, c3⟩] at hsp
            clear c2 c3
            by_cases hk0 : k = 0
            · have HX : Hid (y ++ ⟨#[42]⟩ = joinT (A.take (k + 1))) := by
                unfold Hid
                rw [HN0.out hk0, hsp]
              have hkk : ¬ (0 : Int) < (k : Int) := by omega
              clear hsp hk0 HN0 HN1 t5
              go_wp2_with (first | (have _h := t1; go_at_call 99; refine (HPL.out _).mono ?_; rintro e wz ⟨rfl, ok⟩; have HO9 := hide3 (HK.out _ _ HO.out ok); clear ok HO t1 p0 p1 p2 p3 p4 p5 p6; have HO := HO9; clear HO9; obtain ⟨_, ⟨p0, p1, p2, p3, p4, p5⟩, p6⟩ := HO.out) | (have _h := t2; go_at_call 99; refine (HPH.out _).mono ?_; rintro e wz ⟨rfl, ok⟩; have HO9 := hide3 (HK.out _ _ HO.out ok); clear ok HO t2 p0 p1 p2 p3 p4 p5 p6; have HO := HO9; clear HO9; obtain ⟨_, ⟨p0, p1, p2, p3, p4, p5⟩, p6⟩ := HO.out) | (have _h := t3; go_at_call 65; refine (HRL.out _).mono ?_; rintro e wz ⟨rfl, ok⟩; have HO9 := hide3 (HK.out _ _ HO.out ok); clear ok HO t3 p0 p1 p2 p3 p4 p5 p6; have HO := HO9; clear HO9; obtain ⟨_, ⟨p0, p1, p2, p3, p4, p5⟩, p6⟩ := HO.out) | (have _h := t4; go_at_call 65; refine (HRH.out _).mono ?_; rintro e wz ⟨rfl, ok⟩; have HO9 := hide3 (HK.out _ _ HO.out ok); clear ok HO t4 p0 p1 p2 p3 p4 p5 p6; have HO := HO9; clear HO9; obtain ⟨_, ⟨p0, p1, p2, p3, p4, p5⟩, p6⟩ := HO.out))
              refine wp_region_keep HK.out (by kernel_rfl) (by kernel_rfl) (by first | exact HO.out | exact HK.out.drew HO.out) ?_
              intro C hin hout
              have HIN := hide3 hin
              have HOUT := hide3 hout
              clear hin hout HO
              repeat
                (with_reducible refine wpQuiet_step (fun K hK => ?_)
                 go_simp
                 first
                   | (refine hK _ ?_; clear hK K)
                   | (apply Exists.intro; refine ⟨fun w1 hC => ?_, hK _ ?_⟩; (focus ((first | (exact rfl) | (obtain ⟨hb1, ⟨p0, p1, p2, p3, p4, p5⟩, p6⟩ := HOUT.out w1 hC; clear hC; go_simp; first | done | exact rfl)); done)); clear hK K))
              refine wpQuiet_nil ?_
              intro wn hC
              have HO := hide3 (HOUT.out _ hC)
              clear hC HIN HOUT C
              obtain ⟨hb1, ⟨p0, p1, p2, p3, p4, p5⟩, p6⟩ := HO.out
              go_wp2
              exact ⟨⟨k + 1, by omega, by go_num, by rw [HX.out], HO.out.1⟩, by simp [intOf]; omega⟩
            · have HX : Hid ((y ++ ⟨#[32, 124, 124, 32]⟩) ++ ⟨#[42]⟩ = joinT (A.take (k + 1))) := by
                unfold Hid
                rw [HN1.out hk0, hsp]
              have hkk : (0 : Int) < (k : Int) := by omega
              clear hsp hk0 HN0 HN1 t5
              go_wp2_with (first | (have _h := t1; go_at_call 99; refine (HPL.out _).mono ?_; rintro e wz ⟨rfl, ok⟩; have HO9 := hide3 (HK.out _ _ HO.out ok); clear ok HO t1 p0 p1 p2 p3 p4 p5 p6; have HO := HO9; clear HO9; obtain ⟨_, ⟨p0, p1, p2, p3, p4, p5⟩, p6⟩ := HO.out) | (have _h := t2; go_at_call 99; refine (HPH.out _).mono ?_; rintro e wz ⟨rfl, ok⟩; have HO9 := hide3 (HK.out _ _ HO.out ok); clear ok HO t2 p0 p1 p2 p3 p4 p5 p6; have HO := HO9; clear HO9; obtain ⟨_, ⟨p0, p1, p2, p3, p4, p5⟩, p6⟩ := HO.out) | (have _h := t3; go_at_call 65; refine (HRL.out _).mono ?_; rintro e wz ⟨rfl, ok⟩; have HO9 := hide3 (HK.out _ _ HO.out ok); clear ok HO t3 p0 p1 p2 p3 p4 p5 p6; have HO := HO9; clear HO9; obtain ⟨_, ⟨p0, p1, p2, p3, p4, p5⟩, p6⟩ := HO.out) | (have _h := t4; go_at_call 65; refine (HRH.out _).mono ?_; rintro e wz ⟨rfl, ok⟩; have HO9 := hide3 (HK.out _ _ HO.out ok); clear ok HO t4 p0 p1 p2 p3 p4 p5 p6; have HO := HO9; clear HO9; obtain ⟨_, ⟨p0, p1, p2, p3, p4, p5⟩, p6⟩ := HO.out))
              refine wp_region_keep HK.out (by kernel_rfl) (by kernel_rfl) (by first | exact HO.out | exact HK.out.drew HO.out) ?_
              intro C hin hout
              have HIN := hide3 hin
              have HOUT := hide3 hout
              clear hin hout HO
              repeat
                (with_reducible refine wpQuiet_step (fun K hK => ?_)
                 go_simp
                 first
                   | (refine hK _ ?_; clear hK K)
                   | (apply Exists.intro; refine ⟨fun w1 hC => ?_, hK _ ?_⟩; (focus ((first | (exact rfl) | (obtain ⟨hb1, ⟨p0, p1, p2, p3, p4, p5⟩, p6⟩ := HOUT.out w1 hC; clear hC; go_simp; first | done | exact rfl)); done)); clear hK K))
              refine wpQuiet_nil ?_
              intro wn hC
              have HO := hide3 (HOUT.out _ hC)
              clear hC HIN HOUT C
              obtain ⟨hb1, ⟨p0, p1, p2, p3, p4, p5⟩, p6⟩ := HO.out
              go_wp2
              exact ⟨⟨k + 1, by omega, by go_num, by rw [HX.out], HO.out.1⟩, by simp [intOf]; omega⟩
          · have f2 : (hi == 999999999) = false := by rw [beq_eq_false_iff_ne]; exact c3
            rw [if_neg (fun h => c3 h.2), if_pos c2] at hsp
            clear c2 c3
            by_cases hk0 : k = 0
            · have HX : Hid (y ++ (⟨#[60, 61]⟩ ++ TH) = joinT (A.take (k + 1))) := by
                unfold Hid
                rw [HN0.out hk0, hsp]
              have hkk : ¬ (0 : Int) < (k : Int) := by omega
              clear hsp hk0 HN0 HN1 t5
              go_wp2_with (first | (have _h := t1; go_at_call 99; refine (HPL.out _).mono ?_; rintro e wz ⟨rfl, ok⟩; have HO9 := hide3 (HK.out _ _ HO.out ok); clear ok HO t1 p0 p1 p2 p3 p4 p5 p6; have HO := HO9; clear HO9; obtain ⟨_, ⟨p0, p1, p2, p3, p4, p5⟩, p6⟩ := HO.out) | (have _h := t2; go_at_call 99; refine (HPH.out _).mono ?_; rintro e wz ⟨rfl, ok⟩; have HO9 := hide3 (HK.out _ _ HO.out ok); clear ok HO t2 p0 p1 p2 p3 p4 p5 p6; have HO := HO9; clear HO9; obtain ⟨_, ⟨p0, p1, p2, p3, p4, p5⟩, p6⟩ := HO.out) | (have _h := t3; go_at_call 65; refine (HRL.out _).mono ?_; rintro e wz ⟨rfl, ok⟩; have HO9 := hide3 (HK.out _ _ HO.out ok); clear ok HO t3 p0 p1 p2 p3 p4 p5 p6; have HO := HO9; clear HO9; obtain ⟨_, ⟨p0, p1, p2, p3, p4, p5⟩, p6⟩ := HO.out) | (have _h := t4; go_at_call 65; refine (HRH.out _).mono ?_; rintro e wz ⟨rfl, ok⟩; have HO9 := hide3 (HK.out _ _ HO.out ok); clear ok HO t4 p0 p1 p2 p3 p4 p5 p6; have HO := HO9; clear HO9; obtain ⟨_, ⟨p0, p1, p2, p3, p4, p5⟩, p6⟩ := HO.out))
              refine wp_region_keep HK.out (by kernel_rfl) (by kernel_rfl) (by first | exact HO.out | exact HK.out.drew HO.out) ?_
              intro C hin hout
              have HIN := hide3 hin
              have HOUT := hide3 hout
              clear hin hout HO
              repeat
                (with_reducible refine wpQuiet_step (fun K hK => ?_)
                 go_simp
                 first
                   | (refine hK _ ?_; clear hK K)
                   | (apply Exists.intro; refine ⟨fun w1 hC => ?_, hK _ ?_⟩; (focus ((first | (exact rfl) | (obtain ⟨hb1, ⟨p0, p1, p2, p3, p4, p5⟩, p6⟩ := HOUT.out w1 hC; clear hC; go_simp; first | done | exact rfl)); done)); clear hK K))
              refine wpQuiet_nil ?_
              intro wn hC
              have HO := hide3 (HOUT.out _ hC)
              clear hC HIN HOUT C
              obtain ⟨hb1, ⟨p0, p1, p2, p3, p4, p5⟩, p6⟩ := HO.out
              go_wp2
              exact ⟨⟨k + 1, by omega, by go_num, by rw [HX.out], HO.out.1⟩, by simp [intOf]; omega⟩
            · have HX : Hid ((y ++ ⟨#[32, 124, 124, 32]⟩) ++ (⟨#[60, 61]⟩ ++ TH) = joinT (A.take (k + 1))) := by
                unfold Hid
                rw [HN1.out hk0, hsp]
              have hkk : (0 : Int) < (k : Int) := by omega
              clear hsp hk0 HN0 HN1 t5
              go_wp2_with (first | (have _h := t1; go_at_call 99; refine (HPL.out _).mono ?_; rintro e wz ⟨rfl, ok⟩; have HO9 := hide3 (HK.out _ _ HO.out ok); clear ok HO t1 p0 p1 p2 p3 p4 p5 p6; have HO := HO9; clear HO9; obtain ⟨_, ⟨p0, p1, p2, p3, p4, p5⟩, p6⟩ := HO.out) | (have _h := t2; go_at_call 99; refine (HPH.out _).mono ?_; rintro e wz ⟨rfl, ok⟩; have HO9 := hide3 (HK.out _ _ HO.out ok); clear ok HO t2 p0 p1 p2 p3 p4 p5 p6; have HO := HO9; clear HO9; obtain ⟨_, ⟨p0, p1, p2, p3, p4, p5⟩, p6⟩ := HO.out) | (have _h := t3; go_at_call 65; refine (HRL.out _).mono ?_; rintro e wz ⟨rfl, ok⟩; have HO9 := hide3 (HK.out _ _ HO.out ok); clear ok HO t3 p0 p1 p2 p3 p4 p5 p6; have HO := HO9; clear HO9; obtain ⟨_, ⟨p0, p1, p2, p3, p4, p5⟩, p6⟩ := HO.out) | (have _h := t4; go_at_call 65; refine (HRH.out _).mono ?_; rintro e wz ⟨rfl, ok⟩; have HO9 := hide3 (HK.out _ _ HO.out ok); clear ok HO t4 p0 p1 p2 p3 p4 p5 p6; have HO := HO9; clear HO9; obtain ⟨_, ⟨p0, p1, p2, p3, p4, p5⟩, p6⟩ := HO.out))
              refine wp_region_keep HK.out (by kernel_rfl) (by kernel_rfl) (by first | exact HO.out | exact HK.out.drew HO.out) ?_
              intro C hin hout
              have HIN := hide3 hin
              have HOUT := hide3 hout
              clear hin hout HO
              repeat
                (with_reducible refine wpQuiet_step (fun K hK => ?_)
                 go_simp
                 first
                   | (refine hK _ ?_; clear hK K)
                   | (apply Exists.intro; refine ⟨fun w1 hC => ?_, hK _ ?_⟩; (focus ((first | (exact rfl) | (obtain ⟨hb1, ⟨p0, p1, p2, p3, p4, p5⟩, p6⟩ := HOUT.out w1 hC; clear hC; go_simp; first | done | exact rfl)); done)); clear hK K))
              refine wpQuiet_nil ?_
              intro wn hC
              have HO := hide3 (HOUT.out _ hC)
              clear hC HIN HOUT C
              obtain ⟨hb1, ⟨p0, p1, p2, p3, p4, p5⟩, p6⟩ := HO.out
              go_wp2
              exact ⟨⟨k + 1, by omega, by go_num, by rw [HX.out], HO.out.1⟩, by simp [intOf]; omega⟩
        · have f1 : (lo == 0) = false := by rw [beq_eq_false_iff_ne]; exact c2
          by_cases c3 : hi = 999999999
          · have f2 : (hi == 999999999) = true := by rw [beq_iff_eq]; exact c3
            rw [if_neg (fun h => c2 h.1), if_neg c2, if_pos c3] at hsp
            clear c2 c3
            by_cases hk0 : k = 0
            · have HX : Hid (y ++ (⟨#[62, 61]⟩ ++ TL) = joinT (A.take (k + 1))) := by
                unfold Hid
                rw [HN0.out hk0, hsp]
              have hkk : ¬ (0 : Int) < (k : Int) := by omega
              clear hsp hk0 HN0 HN1 t5
              go_wp2_with (first | (have _h := t1; go_at_call 99; refine (HPL.out _).mono ?_; rintro e wz ⟨rfl, ok⟩; have HO9 := hide3 (HK.out _ _ HO.out ok); clear ok HO t1 p0 p1 p2 p3 p4 p5 p6; have HO := HO9; clear HO9; obtain ⟨_, ⟨p0, p1, p2, p3, p4, p5⟩, p6⟩ := HO.out) | (have _h := t2; go_at_call 99; refine (HPH.out _).mono ?_; rintro e wz ⟨rfl, ok⟩; have HO9 := hide3 (HK.out _ _ HO.out ok); clear ok HO t2 p0 p1 p2 p3 p4 p5 p6; have HO := HO9; clear HO9; obtain ⟨_, ⟨p0, p1, p2, p3, p4, p5⟩, p6⟩ := HO.out) | (have _h := t3; go_at_call 65; refine (HRL.out _).mono ?_; rintro e wz ⟨rfl, ok⟩; have HO9 := hide3 (HK.out _ _ HO.out ok); clear ok HO t3 p0 p1 p2 p3 p4 p5 p6; have HO := HO9; clear HO9; obtain ⟨_, ⟨p0, p1, p2, p3, p4, p5⟩, p6⟩ := HO.out) | (have _h := t4; go_at_call 65; refine (HRH.out _).mono ?_; rintro e wz ⟨rfl, ok⟩; have HO9 := hide3 (HK.out _ _ HO.out ok); clear ok HO t4 p0 p1 p2 p3 p4 p5 p6; have HO := HO9; clear HO9; obtain ⟨_, ⟨p0, p1, p2, p3, p4, p5⟩, p6⟩ := HO.out))
              refine wp_region_keep HK.out (by kernel_rfl) (by kernel_rfl) (by first | exact HO.out | exact HK.out.drew HO.out) ?_
              intro C hin hout
              have HIN := hide3 hin
              have HOUT := hide3 hout
              clear hin hout HO
              repeat
                (with_reducible refine wpQuiet_step (fun K hK => ?_)
                 go_simp
                 first
                   | (refine hK _ ?_; clear hK K)
                   | (apply Exists.intro; refine ⟨fun w1 hC => ?_, hK _ ?_⟩; (focus ((first | (exact rfl) | (obtain ⟨hb1, ⟨p0, p1, p2, p3, p4, p5⟩, p6⟩ := HOUT.out w1 hC; clear hC; go_simp; first | done | exact rfl)); done)); clear hK K))
              refine wpQuiet_nil ?_
              intro wn hC
              have HO := hide3 (HOUT.out _ hC)
              clear hC HIN HOUT C
              obtain ⟨hb1, ⟨p0, p1, p2, p3, p4, p5⟩, p6⟩ := HO.out
              go_wp2
              exact ⟨⟨k + 1, by omega, by go_num, by rw [HX.out], HO.out.1⟩, by simp [intOf]; omega⟩
            · have HX : Hid ((y ++ ⟨#[32, 124, 124, 32]⟩) ++ (⟨#[62, 61]⟩ ++ TL) = joinT (A.take (k + 1))) := by
                unfold Hid
                rw [HN1.out hk0, hsp]
              have hkk : (0 : Int) < (k : Int) := by omega
              clear hsp hk0 HN0 HN1 t5
              go_wp2_with (first | (have _h := t1; go_at_call 99; refine (HPL.out _).mono ?_; rintro e wz ⟨rfl, ok⟩; have HO9 := hide3 (HK.out _ _ HO.out ok); clear ok HO t1 p0 p1 p2 p3 p4 p5 p6; have HO := HO9; clear HO9; obtain ⟨_, ⟨p0, p1, p2, p3, p4, p5⟩, p6⟩ := HO.out) | (have _h := t2; go_at_call 99; refine (HPH.out _).mono ?_; rintro e wz ⟨rfl, ok⟩; have HO9 := hide3 (HK.out _ _ HO.out ok); clear ok HO t2 p0 p1 p2 p3 p4 p5 p6; have HO := HO9; clear HO9; obtain ⟨_, ⟨p0, p1, p2, p3, p4, p5⟩, p6⟩ := HO.out) | (have _h := t3; go_at_call 65; refine (HRL.out _).mono ?_; rintro e wz ⟨rfl, ok⟩; have HO9 := hide3 (HK.out _ _ HO.out ok); clear ok HO t3 p0 p1 p2 p3 p4 p5 p6; have HO := HO9; clear HO9; obtain ⟨_, ⟨p0, p1, p2, p3, p4, p5⟩, p6⟩ := HO.out) | (have _h := t4; go_at_call 65; refine (HRH.out _).mono ?_; rintro e wz ⟨rfl, ok⟩; have HO9 := hide3 (HK.out _ _ HO.out ok); clear ok HO t4 p0 p1 p2 p3 p4 p5 p6; have HO := HO9; clear HO9; obtain ⟨_, ⟨p0, p1, p2, p3, p4, p5⟩, p6⟩ := HO.out))
              refine wp_region_keep HK.out (by kernel_rfl) (by kernel_rfl) (by first | exact HO.out | exact HK.out.drew HO.out) ?_
              intro C hin hout
              have HIN := hide3 hin
              have HOUT := hide3 hout
              clear hin hout HO
              repeat
                (with_reducible refine wpQuiet_step (fun K hK => ?_)
                 go_simp
                 first
                   | (refine hK _ ?_; clear hK K)
                   | (apply Exists.intro; refine ⟨fun w1 hC => ?_, hK _ ?_⟩; (focus ((first | (exact rfl) | (obtain ⟨hb1, ⟨p0, p1, p2, p3, p4, p5⟩, p6⟩ := HOUT.out w1 hC; clear hC; go_simp; first | done | exact rfl)); done)); clear hK K))
              refine wpQuiet_nil ?_
              intro wn hC
              have HO := hide3 (HOUT.out _ hC)
              clear hC HIN HOUT C
              obtain ⟨hb1, ⟨p0, p1, p2, p3, p4, p5⟩, p6⟩ := HO.out
              go_wp2
              exact ⟨⟨k + 1, by omega, by go_num, by rw [HX.out], HO.out.1⟩, by simp [intOf]; omega⟩
          · have f2 : (hi == 999999999) = false := by rw [beq_eq_false_iff_ne]; exact c3
            rw [if_neg (fun h => c2 h.1), if_neg c2, if_neg c3] at hsp
            clear c2 c3
            by_cases hk0 : k = 0
            · have HX : Hid (((y ++ (⟨#[62, 61]⟩ ++ TL)) ++ ⟨#[32]⟩) ++ (⟨#[60, 61]⟩ ++ TH) = joinT (A.take (k + 1))) := by
                unfold Hid
                rw [HN0.out hk0, hsp]
                refine same_list ?_
                simp only [cat_list]
                simp
              have hkk : ¬ (0 : Int) < (k : Int) := by omega
              clear hsp hk0 HN0 HN1 t5
              go_wp2_with (first | (have _h := t1; go_at_call 99; refine (HPL.out _).mono ?_; rintro e wz ⟨rfl, ok⟩; have HO9 := hide3 (HK.out _ _ HO.out ok); clear ok HO t1 p0 p1 p2 p3 p4 p5 p6; have HO := HO9; clear HO9; obtain ⟨_, ⟨p0, p1, p2, p3, p4, p5⟩, p6⟩ := HO.out) | (have _h := t2; go_at_call 99; refine (HPH.out _).mono ?_; rintro e wz ⟨rfl, ok⟩; have HO9 := hide3 (HK.out _ _ HO.out ok); clear ok HO t2 p0 p1 p2 p3 p4 p5 p6; have HO := HO9; clear HO9; obtain ⟨_, ⟨p0, p1, p2, p3, p4, p5⟩, p6⟩ := HO.out) | (have _h := t3; go_at_call 65; refine (HRL.out _).mono ?_; rintro e wz ⟨rfl, ok⟩; have HO9 := hide3 (HK.out _ _ HO.out ok); clear ok HO t3 p0 p1 p2 p3 p4 p5 p6; have HO := HO9; clear HO9; obtain ⟨_, ⟨p0, p1, p2, p3, p4, p5⟩, p6⟩ := HO.out) | (have _h := t4; go_at_call 65; refine (HRH.out _).mono ?_; rintro e wz ⟨rfl, ok⟩; have HO9 := hide3 (HK.out _ _ HO.out ok); clear ok HO t4 p0 p1 p2 p3 p4 p5 p6; have HO := HO9; clear HO9; obtain ⟨_, ⟨p0, p1, p2, p3, p4, p5⟩, p6⟩ := HO.out))
              refine wp_region_keep HK.out (by kernel_rfl) (by kernel_rfl) (by first | exact HO.out | exact HK.out.drew HO.out) ?_
              intro C hin hout
              have HIN := hide3 hin
              have HOUT := hide3 hout
              clear hin hout HO
              repeat
                (with_reducible refine wpQuiet_step (fun K hK => ?_)
                 go_simp
                 first
                   | (refine hK _ ?_; clear hK K)
                   | (apply Exists.intro; refine ⟨fun w1 hC => ?_, hK _ ?_⟩; (focus ((first | (exact rfl) | (obtain ⟨hb1, ⟨p0, p1, p2, p3, p4, p5⟩, p6⟩ := HOUT.out w1 hC; clear hC; go_simp; first | done | exact rfl)); done)); clear hK K))
              refine wpQuiet_nil ?_
              intro wn hC
              have HO := hide3 (HOUT.out _ hC)
              clear hC HIN HOUT C
              obtain ⟨hb1, ⟨p0, p1, p2, p3, p4, p5⟩, p6⟩ := HO.out
              go_wp2
              exact ⟨⟨k + 1, by omega, by go_num, by rw [HX.out], HO.out.1⟩, by simp [intOf]; omega⟩
            · have HX : Hid ((((y ++ ⟨#[32, 124, 124, 32]⟩) ++ (⟨#[62, 61]⟩ ++ TL)) ++ ⟨#[32]⟩) ++ (⟨#[60, 61]⟩ ++ TH) = joinT (A.take (k + 1))) := by
                unfold Hid
                rw [HN1.out hk0, hsp]
                refine same_list ?_
                simp only [cat_list]
                simp
              have hkk : (0 : Int) < (k : Int) := by omega
              clear hsp hk0 HN0 HN1 t5
              go_wp2_with (first | (have _h := t1; go_at_call 99; refine (HPL.out _).mono ?_; rintro e wz ⟨rfl, ok⟩; have HO9 := hide3 (HK.out _ _ HO.out ok); clear ok HO t1 p0 p1 p2 p3 p4 p5 p6; have HO := HO9; clear HO9; obtain ⟨_, ⟨p0, p1, p2, p3, p4, p5⟩, p6⟩ := HO.out) | (have _h := t2; go_at_call 99; refine (HPH.out _).mono ?_; rintro e wz ⟨rfl, ok⟩; have HO9 := hide3 (HK.out _ _ HO.out ok); clear ok HO t2 p0 p1 p2 p3 p4 p5 p6; have HO := HO9; clear HO9; obtain ⟨_, ⟨p0, p1, p2, p3, p4, p5⟩, p6⟩ := HO.out) | (have _h := t3; go_at_call 65; refine (HRL.out _).mono ?_; rintro e wz ⟨rfl, ok⟩; have HO9 := hide3 (HK.out _ _ HO.out ok); clear ok HO t3 p0 p1 p2 p3 p4 p5 p6; have HO := HO9; clear HO9; obtain ⟨_, ⟨p0, p1, p2, p3, p4, p5⟩, p6⟩ := HO.out) | (have _h := t4; go_at_call 65; refine (HRH.out _).mono ?_; rintro e wz ⟨rfl, ok⟩; have HO9 := hide3 (HK.out _ _ HO.out ok); clear ok HO t4 p0 p1 p2 p3 p4 p5 p6; have HO := HO9; clear HO9; obtain ⟨_, ⟨p0, p1, p2, p3, p4, p5⟩, p6⟩ := HO.out))
              refine wp_region_keep HK.out (by kernel_rfl) (by kernel_rfl) (by first | exact HO.out | exact HK.out.drew HO.out) ?_
              intro C hin hout
              have HIN := hide3 hin
              have HOUT := hide3 hout
              clear hin hout HO
              repeat
                (with_reducible refine wpQuiet_step (fun K hK => ?_)
                 go_simp
                 first
                   | (refine hK _ ?_; clear hK K)
                   | (apply Exists.intro; refine ⟨fun w1 hC => ?_, hK _ ?_⟩; (focus ((first | (exact rfl) | (obtain ⟨hb1, ⟨p0, p1, p2, p3, p4, p5⟩, p6⟩ := HOUT.out w1 hC; clear hC; go_simp; first | done | exact rfl)); done)); clear hK K))
              refine wpQuiet_nil ?_
              intro wn hC
              have HO := hide3 (HOUT.out _ hC)
              clear hC HIN HOUT C
              obtain ⟨hb1, ⟨p0, p1, p2, p3, p4, p5⟩, p6⟩ := HO.out
              go_wp2
              exact ⟨⟨k + 1, by omega, by go_num, by rw [HX.out], HO.out.1⟩, by simp [intOf]; omega⟩
    · have hke : k = A.length := by omega
      subst hke
      have HX : Hid (joinT (A.take A.length) = printR A) := by unfold Hid; rw [List.take_length, HPJ.out]
      clear hb
      go_wp2
      go_ret
      exact ⟨by rw [HX.out]; rfl, HB.out⟩
end Go.Proofs.YtjpmlagofcgheaaGreatDoor
namespace Go.Proofs.YtjpmlagofcgheaaGreatDoor
open Go.RowKit
set_option maxRecDepth 100000

theorem rPrint_sp {L : List Sp} {u : Value} {w : World} (h : rangeB L = true) (hu : SpansC w u L) : Calls Tryz.prog 132 #[u] w fun e w' => e = .returned (.string (prS L)) ∧ Below w.heap.size w w' := by
  have hmay := rMayL_any hu.1
  unfold rangeB at h
  rw [Bool.and_eq_true, decide_eq_true_eq] at h
  rw [h.2] at hmay
  obtain ⟨A, rfl, hA, hl⟩ := may_iff.1 h.2
  have hne : A ≠ [] := by rintro rfl; simp at h
  unfold prS
  rw [pl_sp hA]
  obtain ⟨ad, cap, rfl, hc, hs⟩ := hu.rg
  rcases hs with rfl | ⟨g, o, rfl, hg, hs⟩
  · exact absurd rfl hne
  · exact rPrint_walk A hA hne g o cap w hl hg hs hmay

theorem catL (a b : ByteArray) : (a ++ b).data.toList = a.data.toList ++ b.data.toList := by simp

theorem catZ (a b : ByteArray) : (a ++ b).size = a.size + b.size := by simp

set_option maxHeartbeats 3200000 in
theorem rLines_dep {v : Value} {L : List Dp} {x : ByteArray} {w : World} (hd : DepsAt w v L) (hm : mayD L = true) (hx : x.size ≤ 16) :
    Calls Tryz.prog 100 #[.string x, v] w fun e w' => ∃ T : ByteArray, e = .returned (.string T) ∧ T.data.toList = listT x L ∧ Below w.heap.size w w' := by
  have HD : Hid (∀ w', Below w.heap.size w w' → DepsAt w' v L) := fun w' hb => hd.below hb
  have HAll : Hid (∀ d ∈ L, d.nm.size ≤ 16 ∧ rangeB d.rg = true) := by
    have := hm
    unfold mayD at this
    rw [Bool.and_eq_true] at this
    exact rise_all this.2
  have HLN := hide3 (list_len hx hm)
  have h16 := (short_may hm).1
  obtain ⟨ad, cap, rfl⟩ := hd.sl
  clear hd hm
  go_enter Tryz.func100, Tryz.ntmps100
  go_wp2_with fail
  go_loopw [5, 6] (fun vt i wr => ∃ (k : Nat) (T : ByteArray), k ≤ L.length ∧ i = .int .i64 k ∧ vt = .string T ∧ T.data.toList = listT x (L.take k) ∧ Below w.heap.size w wr) (fun _ i _ => L.length - (intOf i).toNat)
  case atStart => exact ⟨0, ⟨#[]⟩, Nat.zero_le _, rfl, rfl, rfl, Below.refl _ _⟩
  case round =>
    obtain ⟨k, T, hk, rfl, rfl, hT, hb⟩ := hrel
    have HT := hide3 hT
    have HB := hide3 hb
    by_cases hlt : k < L.length
    · obtain ⟨ad', cap', e, _, hcs⟩ := HD.out wr hb
      cases e
      obtain ⟨g, o, rfl, hg, hcs⟩ : ∃ g o, ad = some ⟨g, o, none⟩ ∧ g < wr.heap.size ∧ ∀ i (h : i < L.length), ∃ u, DpIn wr g (o + i * 2) L[i] u := by
        rcases hcs with h | h
        · rw [h] at hlt; simp at hlt
        · exact h
      obtain ⟨u, hu⟩ := hcs k hlt
      obtain ⟨hn16, hrb⟩ := HAll.out _ (List.getElem_mem hlt)
      have hpz := prS_size hrb
      have HSN := hide3 (listT_snoc (x := x) hlt)
      have hTz : T.size ≤ 80000 := by rw [← list_size, hT]; exact HLN.out k
      have HO : Hid (Below w.heap.size w wr ∧ DpIn wr g (o + k * 2) L[k] u) := ⟨hb, hu⟩
      have HK : Hid (KeepP fun w1 => Below w.heap.size w w1 ∧ DpIn w1 g (o + k * 2) L[k] u) := (keepBelow w).and (keepDp _ _ _ _)
      have HC : Hid (∀ w1, (Below w.heap.size w w1 ∧ DpIn w1 g (o + k * 2) L[k] u) → Calls Tryz.prog 132 #[u] w1 fun e w' => e = .returned (.string (prS L[k].rg)) ∧ Below w1.heap.size w1 w') := fun w1 h => rPrint_sp hrb h.2.2.2.1.1
      obtain ⟨au, cu, rfl⟩ := hu.2.2.1.1.1.sl
      clear hcs hu hb hT hrb
      generalize prS L[k].rg = rt at *
      generalize L[k] = d at *
      have z1 : (⟨#[32]⟩ : ByteArray).size = 1 := rfl
      have z2 : (⟨#[10]⟩ : ByteArray).size = 1 := rfl
      have e1 := fun W : World => run_string_add_sum (P := Tryz.prog) (w := W) T x (by omega)
      have e2 := fun W : World => run_string_add_sum (P := Tryz.prog) (w := W) (T ++ x) ⟨#[32]⟩ (by rw [catZ]; omega)
      have e3 := fun W : World => run_string_add_sum (P := Tryz.prog) (w := W) (T ++ x ++ ⟨#[32]⟩) d.nm (by rw [catZ, catZ]; omega)
      have e4 := fun W : World => run_string_add_sum (P := Tryz.prog) (w := W) (T ++ x ++ ⟨#[32]⟩ ++ d.nm) ⟨#[32]⟩ (by rw [catZ, catZ, catZ]; omega)
      have e5 := fun W : World => run_string_add_sum (P := Tryz.prog) (w := W) (T ++ x ++ ⟨#[32]⟩ ++ d.nm ++ ⟨#[32]⟩) rt (by rw [catZ, catZ, catZ, catZ]; omega)
      have e6 := fun W : World => run_string_add_sum (P := Tryz.prog) (w := W) (T ++ x ++ ⟨#[32]⟩ ++ d.nm ++ ⟨#[32]⟩ ++ rt) ⟨#[10]⟩ (by rw [catZ, catZ, catZ, catZ, catZ]; omega)
      clear z1 z2
      go_wp2_with fail
      refine wp_region_keep HK.out (by kernel_rfl) (by kernel_rfl) (by first | exact HO.out | exact HK.out.drew HO.out) ?_
      intro C hin hout
      have HIN := hide3 hin
      have HOUT := hide3 hout
      clear hin hout HO
      repeat
        (with_reducible refine wpQuiet_step (fun K hK => ?_)
         go_simp
         first
           | (refine hK _ ?_; clear hK K)
           | (apply Exists.intro; refine ⟨fun w1 hC => ?_, hK _ ?_⟩; (focus ((first | (go_at_call 132; with_reducible exact callC' HIN.out HOUT.out HK.out HC.out w1 hC) | (exact rfl) | (obtain ⟨hb1, ⟨p0, p1, ph, p3⟩⟩ := HOUT.out w1 hC; clear hC; go_simp; first | done | exact rfl)); done)); clear hK K))
      refine wpQuiet_nil ?_
      intro wn hC
      have HO := hide3 (HOUT.out _ hC)
      clear hC HIN HOUT C
      obtain ⟨hb1, ⟨p0, p1, ph, p3⟩⟩ := HO.out
      go_wp2
      refine ⟨⟨k + 1, _, by omega, by go_num, rfl, ?_, HO.out.1⟩, by simp [intOf]; omega⟩
      rw [HSN.out, ← HT.out]
      unfold lineB
      simp
    · obtain rfl : k = L.length := by omega
      rw [List.take_length] at HT
      clear hb hT
      go_wp2
      go_ret
      exact ⟨T, rfl, HT.out, HB.out⟩

theorem rLines_is {v : Value} {L : List Dp} {x : ByteArray} {w : World} (hd : DepsAt w v L) (hm : mayD L = true) (hx : x.size ≤ 16) :
    Calls Tryz.prog 100 #[.string x, v] w fun e w' => e = .returned (.string ⟨(listT x L).toArray⟩) ∧ Below w.heap.size w w' := by
  refine (rLines_dep hd hm hx).mono ?_
  rintro e w' ⟨T, rfl, hT, hb⟩
  refine ⟨?_, hb⟩
  rw [← hT]

theorem arr_size (l : Sc.Bs) : (⟨l.toArray⟩ : ByteArray).size = l.length := by show l.toArray.size = _; simp
end Go.Proofs.YtjpmlagofcgheaaGreatDoor
