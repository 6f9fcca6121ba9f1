/- The document's May, has and In of any list. -/
import Derived.Test.YtkmgfemhfibikaaGreatDoorRf1
namespace Go.Proofs.YtkmgfemhfibikaaGreatDoor
open Go.RowKit
set_option maxRecDepth 100000

theorem rMay_nil (ad : Option Addr) (cap : Nat) (w : World) :
    Calls Tryz.prog 33 #[.slice ad 0 cap] w fun e w' => e = .returned (.bool true) ∧ Below w.heap.size w w' := by
  go_enter Tryz.func33, Tryz.ntmps33
  go_wp2_with fail
  go_loop [3] (fun i => i = .int .i64 0) (fun _ => 0)
  case atStart => rfl
  case round =>
    subst hrel
    go_wp2
    go_ret
    exact ⟨rfl, Below.refl _ _⟩

theorem rMay_many (ad : Option Addr) (n cap : Nat) (w : World) (h : 64 < n) :
    Calls Tryz.prog 33 #[.slice ad n cap] w fun e w' => e = .returned (.bool false) ∧ Below w.heap.size w w' := by
  have h1 : (64 : Int) < (n : Int) := by omega
  go_enter Tryz.func33, Tryz.ntmps33
  go_wp2
  go_ret
  exact ⟨rfl, Below.refl _ _⟩

theorem rMayL_any {w : World} {v : Value} {L : List Sp} (h : SpansAt w v L) :
    Calls Tryz.prog 33 #[v] w fun e w' => e = .returned (.bool (mayL L)) ∧ Below w.heap.size w w' := by
  obtain ⟨ad, cap, rfl, hl⟩ := h
  by_cases h64 : L.length ≤ 64
  · rcases hl with rfl | ⟨g, o, rfl, hg, hs⟩
    · exact rMay_nil ad cap w
    · exact rMay_walk L g o cap w h64 hg hs
  · have : mayL L = false := by unfold mayL; rw [decide_eq_false h64]; rfl
    rw [this]
    exact rMay_many ad _ cap w (by omega)

/-- A place is in one of some spans, by their ranks. -/
def hasN (n : Int) (s : Sp) : Bool := decide (rankV s.a s.b s.c ≤ n) && decide (n ≤ rankV s.x s.y s.z)

set_option maxHeartbeats 3200000 in
theorem has_walk (L : List Sp) (g o cap : Nat) (n : Int) (w : World) (hlen : L.length ≤ 1000000000000) (hg : g < w.heap.size) (hl : ∀ i (h : i < L.length), SpAt w g (o + i * 6) L[i]) :
    Calls Tryz.prog 51 #[.slice (some ⟨g, o, none⟩) L.length cap, .int .i64 n] w fun e w' => e = .returned (.bool (L.any (hasN n))) ∧ Below w.heap.size w w' := by
  have HL : Hid (∀ w1, Below w.heap.size w w1 → ∀ i (h : i < L.length), SpIn w1 g (o + i * 6) L[i]) := fun w1 hb i hi => ⟨(hl i hi).below hb hg, Nat.lt_of_lt_of_le hg hb.size⟩
  clear hl
  go_enter Tryz.func51, Tryz.ntmps51
  go_wp2_with fail
  go_loopw [5] (fun i wr => ∃ k : Nat, k ≤ L.length ∧ i = .int .i64 k ∧ Below w.heap.size w wr ∧ (L.take k).any (hasN n) = false) (fun i _ => L.length - (intOf i).toNat)
  case atStart => exact ⟨0, Nat.zero_le _, rfl, Below.refl _ _, rfl⟩
  case round =>
    obtain ⟨k, hk, rfl, hb, hno⟩ := hrel
    have HN := hide3 hno
    have HB := hide3 hb
    clear hno
    by_cases hlt : k < L.length
    · have hs := HL.out wr hb k hlt
      have HS : Hid ((L.take (k + 1)).any (hasN n) = hasN n L[k]) := by
        unfold Hid
        rw [List.take_succ_eq_append_getElem hlt, List.any_append, HN.out]; simp
      have HS2 : Hid (hasN n L[k] = true → L.any (hasN n) = true) := fun h => List.any_eq_true.2 ⟨L[k], List.getElem_mem hlt, h⟩
      have HKs : Hid (KeepP fun w1 => Below w.heap.size w w1 ∧ SpIn w1 g (o + k * 6) L[k]) := (keepBelow w).and (keepSp _ _ _)
      have HOs : Hid (Below w.heap.size w wr ∧ SpIn wr g (o + k * 6) L[k]) := ⟨hb, hs⟩
      generalize L[k] = s at *
      obtain ⟨a, b, c, x, y, z⟩ := s
      have HR1 : Hid (∀ w1, Calls Tryz.prog 47 #[.agg #[.int .i64 a, .int .i64 b, .int .i64 c]] w1 fun e w' => e = .returned (.int .i64 (rankV a b c)) ∧ Below w1.heap.size w1 w') := rrank_any a b c
      have HR2 : Hid (∀ w1, Calls Tryz.prog 47 #[.agg #[.int .i64 x, .int .i64 y, .int .i64 z]] w1 fun e w' => e = .returned (.int .i64 (rankV x y z)) ∧ Below w1.heap.size w1 w') := rrank_any x y z
      have HH : Hid (hasN n ⟨a, b, c, x, y, z⟩ = (decide (rankV a b c ≤ n) && decide (n ≤ rankV x y z))) := rfl
      obtain ⟨⟨p0, p1, p2, p3, p4, p5⟩, p6⟩ := hs
      simp only at p0 p1 p2 p3 p4 p5
      clear hb
      generalize rankV a b c = r1 at *
      generalize rankV x y z = r2 at *
      by_cases h1 : r1 ≤ n
      · by_cases h2 : n ≤ r2
        · have HT : Hid (L.any (hasN n) = true) := HS2.out (by rw [HH.out]; simp [h1, h2])
          go_wp2_with (first
            | (have _h := HOs; go_at_call 47; refine (HR1.out _).mono ?_; rintro e w1 ⟨rfl, ok⟩; have HO1 := hide3 (HKs.out _ _ HOs.out ok); clear ok HOs p0 p1 p2 p3 p4 p5 p6; obtain ⟨_, ⟨p0, p1, p2, p3, p4, p5⟩, p6⟩ := HO1.out)
            | (have _h := HO1; go_at_call 47; refine (HR2.out _).mono ?_; rintro e w2 ⟨rfl, ok⟩; have HO2 := hide3 (HKs.out _ _ HO1.out ok); clear ok HO1 p0 p1 p2 p3 p4 p5 p6))
          go_ret
          exact ⟨ret_bool HT.out.symm, HO2.out.1⟩
        · have HT : Hid ((L.take (k + 1)).any (hasN n) = false) := by unfold Hid; rw [HS.out, HH.out]; simp [h1, h2]
          go_wp2_with (first
            | (have _h := HOs; go_at_call 47; refine (HR1.out _).mono ?_; rintro e w1 ⟨rfl, ok⟩; have HO1 := hide3 (HKs.out _ _ HOs.out ok); clear ok HOs p0 p1 p2 p3 p4 p5 p6; obtain ⟨_, ⟨p0, p1, p2, p3, p4, p5⟩, p6⟩ := HO1.out)
            | (have _h := HO1; go_at_call 47; refine (HR2.out _).mono ?_; rintro e w2 ⟨rfl, ok⟩; have HO2 := hide3 (HKs.out _ _ HO1.out ok); clear ok HO1 p0 p1 p2 p3 p4 p5 p6))
          exact ⟨⟨k + 1, by omega, by go_num, HO2.out.1, HT.out⟩, by simp [intOf]; omega⟩
      · have HT : Hid ((L.take (k + 1)).any (hasN n) = false) := by unfold Hid; rw [HS.out, HH.out]; simp [h1]
        go_wp2_with (first
          | (have _h := HOs; go_at_call 47; refine (HR1.out _).mono ?_; rintro e w1 ⟨rfl, ok⟩; have HO1 := hide3 (HKs.out _ _ HOs.out ok); clear ok HOs p0 p1 p2 p3 p4 p5 p6))
        exact ⟨⟨k + 1, by omega, by go_num, HO1.out.1, HT.out⟩, by simp [intOf]; omega⟩
    · have hke : k = L.length := by omega
      subst hke
      have HF : Hid (L.any (hasN n) = false) := by have := HN.out; rw [List.take_length] at this; exact this
      clear hb
      go_wp2
      go_ret
      exact ⟨ret_bool HF.out.symm, HB.out⟩

theorem has_nil (ad : Option Addr) (cap : Nat) (n : Int) (w : World) :
    Calls Tryz.prog 51 #[.slice ad 0 cap, .int .i64 n] w fun e w' => e = .returned (.bool false) ∧ Below w.heap.size w w' := by
  go_enter Tryz.func51, Tryz.ntmps51
  go_wp2_with fail
  go_loop [5] (fun i => i = .int .i64 0) (fun _ => 0)
  case atStart => rfl
  case round =>
    subst hrel
    go_wp2
    go_ret
    exact ⟨rfl, Below.refl _ _⟩

theorem has_any {w : World} {v : Value} {L : List Sp} (h : SpansAt w v L) (hlen : L.length ≤ 1000000000000) (n : Int) :
    Calls Tryz.prog 51 #[v, .int .i64 n] w fun e w' => e = .returned (.bool (L.any (hasN n))) ∧ Below w.heap.size w w' := by
  obtain ⟨ad, cap, rfl, hl⟩ := h
  rcases hl with rfl | ⟨g, o, rfl, hg, hs⟩
  · exact has_nil ad cap n w
  · exact has_walk L g o cap n w hlen hg hs

theorem hasN_in {L : List Sp} {p q r : Int} (hm : mayL L = true) (hv : mayV p q r = true) : L.any (hasN (rankV p q r)) = L.any (hasS p q r) := by
  obtain ⟨A, rfl, hA, hlen⟩ := may_iff.1 hm
  have ho : ∀ x ∈ A, okP2 x := fun x hx => by have := RiseR.mem hA hx; unfold okP2 okR; omega
  clear hm hA hlen
  induction A with
  | nil => rfl
  | cons x A ih =>
    rw [List.map_cons, List.any_cons, List.any_cons, ih fun y hy => ho y (List.mem_cons_of_mem _ hy)]
    have hx := ho x List.mem_cons_self
    congr 1
    rw [Bool.eq_iff_iff, has_rg hx hv]
    obtain ⟨_, e1⟩ := may_at hx.1.has
    obtain ⟨_, e2⟩ := may_at hx.2.1.has
    unfold hasN spR
    simp only
    rw [Bool.and_eq_true, decide_eq_true_eq, decide_eq_true_eq, e1, e2]

end Go.Proofs.YtkmgfemhfibikaaGreatDoor
