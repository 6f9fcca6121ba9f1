/- May and In of package span, of any list. -/
import Derived.Test.YtkmgfemhfibikaaGreatDoorSp2
namespace Go.Proofs.YtkmgfemhfibikaaGreatDoor
open Go.RowKit
set_option maxRecDepth 100000

theorem sMay_nil (ad : Option Addr) (cap : Nat) (w : World) :
    Calls Tryz.prog 32 #[.slice ad 0 cap] w fun e w' => e = .returned (.bool true) ∧ Below w.heap.size w w' := by
  go_enter Tryz.func32, Tryz.ntmps32
  go_wp2_with fail
  go_loop [10] (fun i => i = .int .i64 0) (fun _ => 0)
  case atStart => rfl
  case round =>
    subst hrel
    go_wp2
    go_ret
    exact ⟨rfl, Below.refl _ _⟩

theorem sMay_many (ad : Option Addr) (n cap : Nat) (w : World) (h : 64 < n) :
    Calls Tryz.prog 32 #[.slice ad n cap] w fun e w' => e = .returned (.bool false) ∧ Below w.heap.size w w' := by
  have h1 : (64 : Int) < (n : Int) := by omega
  go_enter Tryz.func32, Tryz.ntmps32
  go_wp2
  go_ret
  exact ⟨rfl, Below.refl _ _⟩

theorem sMay_any {w : World} {v : Value} {L : List Sp} (h : SpansAt w v L) :
    Calls Tryz.prog 32 #[v] w fun e w' => e = .returned (.bool (mayL L)) ∧ Below w.heap.size w w' := by
  obtain ⟨ad, cap, rfl, hl⟩ := h
  by_cases h64 : L.length ≤ 64
  · rcases hl with rfl | ⟨g, o, rfl, hg, hs⟩
    · exact sMay_nil ad cap w
    · exact sMay_walk L g o cap w h64 hg hs
  · have : mayL L = false := by unfold mayL; rw [decide_eq_false h64]; rfl
    rw [this]
    exact sMay_many ad _ cap w (by omega)

theorem keepSpans (v : Value) (L : List Sp) : KeepP fun w1 => SpansAt w1 v L := fun _ _ h hb => h.below hb

/-- A version is in one of some spans. -/
def hasS (a b c : Int) (s : Sp) : Bool := decide (cmpV s.a s.b s.c a b c ≤ 0) && decide (cmpV a b c s.x s.y s.z ≤ 0)
def inL (L : List Sp) (a b c : Int) : Bool := mayL L && mayV a b c && L.any (hasS a b c)

set_option maxHeartbeats 3200000 in
theorem sIn_walk (L : List Sp) (g o cap : Nat) (p q r : Int) (w : World) (hlen : L.length ≤ 64) (hg : g < w.heap.size) (hl : ∀ i (h : i < L.length), SpAt w g (o + i * 6) L[i])
    (HMay : Hid (∀ w1, Below w.heap.size w w1 → Calls Tryz.prog 32 #[.slice (some ⟨g, o, none⟩) L.length cap] w1 fun e w' => e = .returned (.bool true) ∧ Below w1.heap.size w1 w')) (hv : mayV p q r = true) :
    Calls Tryz.prog 21 #[.slice (some ⟨g, o, none⟩) L.length cap, .agg #[.int .i64 p, .int .i64 q, .int .i64 r]] w fun e w' => e = .returned (.bool (L.any (hasS p q r))) ∧ Below w.heap.size w w' := by
  have HL : Hid (∀ w1, Below w.heap.size w w1 → ∀ i (h : i < L.length), SpAt w1 g (o + i * 6) L[i]) := fun w1 hb i hi => (hl i hi).below hb hg
  have HV : Hid (∀ w1, Calls Tryz.prog 37 #[.agg #[.int .i64 p, .int .i64 q, .int .i64 r]] w1 fun e w' => e = .returned (.bool true) ∧ Below w1.heap.size w1 w') := by have := May_any p q r; rw [hv] at this; exact this
  have HO : Hid (Below w.heap.size w (w.alloc (.cells #[.int .i64 p, .int .i64 q, .int .i64 r] 35)) ∧ BxAt (w.alloc (.cells #[.int .i64 p, .int .i64 q, .int .i64 r] 35)) ⟨w.heap.size, .int .i64 p, .int .i64 q, .int .i64 r⟩) := ⟨boxB _ _, (((OKs.nil w).box rfl _ _ _).one)⟩
  have HK : Hid (KeepP fun w1 => Below w.heap.size w w1 ∧ BxAt w1 ⟨w.heap.size, .int .i64 p, .int .i64 q, .int .i64 r⟩) := (keepBelow w).and (keepV3 _)
  clear hl hv
  go_enter Tryz.func21, Tryz.ntmps21
  go_wp2_with (first
    | (go_at_call 32; refine (HMay.out _ HO.out.1).mono ?_; rintro e w1 ⟨rfl, hb⟩; have HO1 := hide3 (HK.out _ _ HO.out hb); clear HO hb; obtain ⟨_, v0, v1, v2, v3⟩ := HO1.out)
    | (go_at_call 37; refine (HV.out _).mono ?_; rintro e w2 ⟨rfl, hb⟩; have HO2 := hide3 (HK.out _ _ HO1.out hb); clear HO1 hb))
  go_loopw [17] (fun i wr => ∃ k : Nat, k ≤ L.length ∧ i = .int .i64 k ∧ (Below w.heap.size w wr ∧ BxAt wr ⟨w.heap.size, .int .i64 p, .int .i64 q, .int .i64 r⟩) ∧ (L.take k).any (hasS p q r) = false) (fun i _ => L.length - (intOf i).toNat)
  case atStart => exact ⟨0, Nat.zero_le _, rfl, HO2.out, rfl⟩
  case round =>
    obtain ⟨k, hk, rfl, hb, hno⟩ := hrel
    have HN := hide3 hno
    clear hno
    by_cases hlt : k < L.length
    · have hs := HL.out wr hb.1 k hlt
      have HS : Hid ((L.take (k + 1)).any (hasS p q r) = hasS p q r L[k]) := by
        unfold Hid
        rw [List.take_succ_eq_append_getElem hlt, List.any_append, HN.out]; simp
      have HS2 : Hid (hasS p q r L[k] = true → L.any (hasS p q r) = true) := fun h => List.any_eq_true.2 ⟨L[k], List.getElem_mem hlt, h⟩
      generalize L[k] = s at *
      obtain ⟨a, b, c, x, y, z⟩ := s
      have HC : Hid (∀ w1, Calls Tryz.prog 34 #[.agg #[.int .i64 a, .int .i64 b, .int .i64 c], .agg #[.int .i64 p, .int .i64 q, .int .i64 r]] w1 fun e w' => e = .returned (.int .i64 (cmpV a b c p q r)) ∧ Below w1.heap.size w1 w') := Compare_any _ _ _ _ _ _
      have HD : Hid (∀ w1, Calls Tryz.prog 34 #[.agg #[.int .i64 p, .int .i64 q, .int .i64 r], .agg #[.int .i64 x, .int .i64 y, .int .i64 z]] w1 fun e w' => e = .returned (.int .i64 (cmpV p q r x y z)) ∧ Below w1.heap.size w1 w') := Compare_any _ _ _ _ _ _
      have HH : Hid (hasS p q r ⟨a, b, c, x, y, z⟩ = (decide (cmpV a b c p q r ≤ 0) && decide (cmpV p q r x y z ≤ 0))) := rfl
      have HR : Hid ((Below w.heap.size w (wr.alloc (.cells #[.int .i64 a, .int .i64 b, .int .i64 c, .int .i64 x, .int .i64 y, .int .i64 z] 37)) ∧ BxAt (wr.alloc (.cells #[.int .i64 a, .int .i64 b, .int .i64 c, .int .i64 x, .int .i64 y, .int .i64 z] 37)) ⟨w.heap.size, .int .i64 p, .int .i64 q, .int .i64 r⟩) ∧ Bx6 (wr.alloc (.cells #[.int .i64 a, .int .i64 b, .int .i64 c, .int .i64 x, .int .i64 y, .int .i64 z] 37)) wr.heap.size a b c x y z) := ⟨HK.out _ _ hb (boxB _ _), Bx6.new rfl _ _ _ _ _ _⟩
      have HQ : Hid (KeepP fun w1 => (Below w.heap.size w w1 ∧ BxAt w1 ⟨w.heap.size, .int .i64 p, .int .i64 q, .int .i64 r⟩) ∧ Bx6 w1 wr.heap.size a b c x y z) := HK.out.and (keep6 _ _ _ _ _ _ _)
      obtain ⟨c0, c1, c2, c3, c4, c5⟩ := hs
      simp only at c0 c1 c2 c3 c4 c5
      obtain ⟨_, v0, v1, v2, v3⟩ := HR.out.1
      clear hb
      have t1 : True := trivial
      by_cases h1 : cmpV a b c p q r ≤ 0
      · by_cases h2 : cmpV p q r x y z ≤ 0
        · have HF : Hid (L.any (hasS p q r) = true) := HS2.out (by rw [HH.out]; simp [h1, h2])
          generalize cmpV a b c p q r = m at *
          generalize cmpV p q r x y z = n at *
          go_wp2_with (first
            | (have _t := t1; go_at_call 34; refine (liftK HQ.out HC.out _ HR.out).mono ?_; rintro e w1 ⟨rfl, ok⟩; have HR1 := hide3 ok; clear ok t1 HR; obtain ⟨⟨_, i0, i1, i2, i3⟩, k0, k1, k2, k3, k4, k5, k6⟩ := HR1.out)
            | (go_at_call 34; refine (liftK HQ.out HD.out _ HR1.out).mono ?_; rintro e w2 ⟨rfl, ok⟩; have HR2 := hide3 ok; clear ok HR1))
          go_ret
          exact ⟨ret_bool HF.out.symm, HR2.out.1.1⟩
        · have HF : Hid ((L.take (k + 1)).any (hasS p q r) = false) := by unfold Hid; rw [HS.out, HH.out]; simp [h2]
          generalize cmpV a b c p q r = m at *
          generalize cmpV p q r x y z = n at *
          go_wp2_with (first
            | (have _t := t1; go_at_call 34; refine (liftK HQ.out HC.out _ HR.out).mono ?_; rintro e w1 ⟨rfl, ok⟩; have HR1 := hide3 ok; clear ok t1 HR; obtain ⟨⟨_, i0, i1, i2, i3⟩, k0, k1, k2, k3, k4, k5, k6⟩ := HR1.out)
            | (go_at_call 34; refine (liftK HQ.out HD.out _ HR1.out).mono ?_; rintro e w2 ⟨rfl, ok⟩; have HR2 := hide3 ok; clear ok HR1))
          exact ⟨⟨k + 1, by omega, by go_num, HR2.out.1, HF.out⟩, by simp [intOf]; omega⟩
      · have HF : Hid ((L.take (k + 1)).any (hasS p q r) = false) := by unfold Hid; rw [HS.out, HH.out]; simp [h1]
        generalize cmpV a b c p q r = m at *
        go_wp2_with (go_at_call 34; refine (liftK HQ.out HC.out _ HR.out).mono ?_; rintro e w1 ⟨rfl, ok⟩; have HR1 := hide3 ok; clear ok t1 HR; obtain ⟨⟨_, i0, i1, i2, i3⟩, k0, k1, k2, k3, k4, k5, k6⟩ := HR1.out)
        exact ⟨⟨k + 1, by omega, by go_num, HR1.out.1, HF.out⟩, by simp [intOf]; omega⟩
    · have hke : k = L.length := by omega
      subst hke
      have HF : Hid (L.any (hasS p q r) = false) := by have := HN.out; rw [List.take_length] at this; exact this
      have HB := hide3 hb.1
      clear hb
      go_wp2
      go_ret
      exact ⟨ret_bool HF.out.symm, HB.out⟩

set_option maxHeartbeats 800000 in
theorem sIn_no1 (v : Value) (p q r : Int) (w : World) (h : ∀ w1, Below w.heap.size w w1 → Calls Tryz.prog 32 #[v] w1 fun e w' => e = .returned (.bool false) ∧ Below w1.heap.size w1 w') :
    Calls Tryz.prog 21 #[v, .agg #[.int .i64 p, .int .i64 q, .int .i64 r]] w fun e w' => e = .returned (.bool false) ∧ Below w.heap.size w w' := by
  have HM : Hid (∀ w1, Below w.heap.size w w1 → Calls Tryz.prog 32 #[v] w1 fun e w' => e = .returned (.bool false) ∧ Below w1.heap.size w1 w') := h
  clear h
  go_enter Tryz.func21, Tryz.ntmps21
  go_wp2_with (go_at_call 32; refine (HM.out _ (boxB _ _)).mono ?_; rintro e w1 ⟨rfl, hb⟩)
  go_ret
  exact ⟨rfl, below_then (boxB _ _) hb⟩

set_option maxHeartbeats 800000 in
theorem sIn_no2 (v : Value) (p q r : Int) (w : World) (h : ∀ w1, Below w.heap.size w w1 → Calls Tryz.prog 32 #[v] w1 fun e w' => e = .returned (.bool true) ∧ Below w1.heap.size w1 w') (hv : mayV p q r = false) :
    Calls Tryz.prog 21 #[v, .agg #[.int .i64 p, .int .i64 q, .int .i64 r]] w fun e w' => e = .returned (.bool false) ∧ Below w.heap.size w w' := by
  have HM : Hid (∀ w1, Below w.heap.size w w1 → Calls Tryz.prog 32 #[v] w1 fun e w' => e = .returned (.bool true) ∧ Below w1.heap.size w1 w') := h
  have HV : Hid (∀ w1, Calls Tryz.prog 37 #[.agg #[.int .i64 p, .int .i64 q, .int .i64 r]] w1 fun e w' => e = .returned (.bool false) ∧ Below w1.heap.size w1 w') := by have := May_any p q r; rw [hv] at this; exact this
  have HO : Hid (BxAt (w.alloc (.cells #[.int .i64 p, .int .i64 q, .int .i64 r] 35)) ⟨w.heap.size, .int .i64 p, .int .i64 q, .int .i64 r⟩) := (((OKs.nil w).box rfl _ _ _).one)
  clear h hv
  go_enter Tryz.func21, Tryz.ntmps21
  go_wp2_with (first
    | (go_at_call 32; refine (HM.out _ (boxB _ _)).mono ?_; rintro e w1 ⟨rfl, hb⟩; obtain ⟨v0, v1, v2, v3⟩ := HO.out.below hb)
    | (go_at_call 37; refine (HV.out _).mono ?_; rintro e w2 ⟨rfl, hb2⟩))
  go_ret
  exact ⟨rfl, below_then (below_then (boxB _ _) hb) hb2⟩

set_option maxHeartbeats 800000 in
theorem sIn_nil (ad : Option Addr) (cap : Nat) (p q r : Int) (w : World) (hv : mayV p q r = true) :
    Calls Tryz.prog 21 #[.slice ad 0 cap, .agg #[.int .i64 p, .int .i64 q, .int .i64 r]] w fun e w' => e = .returned (.bool false) ∧ Below w.heap.size w w' := by
  have HM : Hid (∀ w1, Calls Tryz.prog 32 #[.slice ad 0 cap] w1 fun e w' => e = .returned (.bool true) ∧ Below w1.heap.size w1 w') := sMay_nil ad cap
  have HV : Hid (∀ w1, Calls Tryz.prog 37 #[.agg #[.int .i64 p, .int .i64 q, .int .i64 r]] w1 fun e w' => e = .returned (.bool true) ∧ Below w1.heap.size w1 w') := by have := May_any p q r; rw [hv] at this; exact this
  have HO : Hid (BxAt (w.alloc (.cells #[.int .i64 p, .int .i64 q, .int .i64 r] 35)) ⟨w.heap.size, .int .i64 p, .int .i64 q, .int .i64 r⟩) := (((OKs.nil w).box rfl _ _ _).one)
  clear hv
  go_enter Tryz.func21, Tryz.ntmps21
  go_wp2_with (first
    | (go_at_call 32; refine (HM.out _).mono ?_; rintro e w1 ⟨rfl, hb⟩; obtain ⟨v0, v1, v2, v3⟩ := HO.out.below hb)
    | (go_at_call 37; refine (HV.out _).mono ?_; rintro e w2 ⟨rfl, hb2⟩))
  have HB := hide3 (below_then (below_then (boxB _ _) hb) hb2)
  go_loop [17] (fun i => i = .int .i64 0) (fun _ => 0)
  case atStart => rfl
  case round =>
    subst hrel
    go_wp2
    go_ret
    exact ⟨rfl, HB.out⟩

theorem sIn_any {w : World} {v : Value} {L : List Sp} (h : SpansAt w v L) (p q r : Int) :
    Calls Tryz.prog 21 #[v, .agg #[.int .i64 p, .int .i64 q, .int .i64 r]] w fun e w' => e = .returned (.bool (inL L p q r)) ∧ Below w.heap.size w w' := by
  have hM : ∀ w1, Below w.heap.size w w1 → Calls Tryz.prog 32 #[v] w1 fun e w' => e = .returned (.bool (mayL L)) ∧ Below w1.heap.size w1 w' := fun w1 hb => sMay_any (h.below hb)
  unfold inL
  cases hm : mayL L
  · rw [hm] at hM
    exact sIn_no1 v p q r w hM
  · rw [hm] at hM
    cases hv : mayV p q r
    · exact sIn_no2 v p q r w hM hv
    · obtain ⟨ad, cap, rfl, hl⟩ := h
      rcases hl with rfl | ⟨g, o, rfl, hg, hs⟩
      · exact sIn_nil ad cap p q r w hv
      · have h64 : L.length ≤ 64 := by unfold mayL at hm; simp at hm; exact hm.1
        exact sIn_walk L g o cap p q r w h64 hg hs hM hv
end Go.Proofs.YtkmgfemhfibikaaGreatDoor
