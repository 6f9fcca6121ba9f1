/- Sp2, Sp3, Pure1, Cut1, Cut2, laid in one text. -/
import Derived.Deep.RegionHeld3
import Derived.Deep.RegionWith
import Derived.Deep.QuietTactic
import Derived.BigQuiet
import Derived.WalkKit
import Derived.Maps.AppendAt
import Derived.Deep.AppendLies
import Derived.Test.YtjpmlagofcgheaaGreatDoorMg01
namespace Go.Proofs.YtjpmlagofcgheaaGreatDoor
open Go.RowKit
set_option maxRecDepth 100000

/-- A span: six numbers. -/
structure Sp where
  a : Int
  b : Int
  c : Int
  x : Int
  y : Int
  z : Int

/-- It lies at a place in memory. -/
def SpAt (w : World) (g o : Nat) (s : Sp) : Prop := w.cell? ⟨g, o, none⟩ = some (.int .i64 s.a) ∧ w.cell? ⟨g, o + 1, none⟩ = some (.int .i64 s.b) ∧ w.cell? ⟨g, o + 1 + 1, none⟩ = some (.int .i64 s.c) ∧
  w.cell? ⟨g, o + 1 + 1 + 1, none⟩ = some (.int .i64 s.x) ∧ w.cell? ⟨g, o + 1 + 1 + 1 + 1, none⟩ = some (.int .i64 s.y) ∧ w.cell? ⟨g, o + 1 + 1 + 1 + 1 + 1, none⟩ = some (.int .i64 s.z)

/-- A list of spans lies there. -/
def SpansAt (w : World) (v : Value) (L : List Sp) : Prop := ∃ ad cap, v = .slice ad L.length cap ∧ (L = [] ∨ ∃ g o, ad = some ⟨g, o, none⟩ ∧ g < w.heap.size ∧ ∀ i (h : i < L.length), SpAt w g (o + i * 6) L[i])

/-- What May asks of the span at a place in a list. -/
def okAt (L : List Sp) (i : Nat) : Bool := match L[i]? with
  | none => true
  | some s => maySp s.a s.b s.c s.x s.y s.z && (match i with
    | 0 => true
    | j + 1 => match L[j]? with
      | none => true
      | some p => apartV p.x p.y p.z s.a s.b s.c)
/-- A list of spans may be. -/
def mayL (L : List Sp) : Bool := decide (L.length ≤ 64) && (List.range L.length).all (okAt L)

theorem SpAt.below {w w' : World} {g o B : Nat} {s : Sp} (h : SpAt w g o s) (hb : Below B w w') (hg : g < B) : SpAt w' g o s := by
  obtain ⟨h0, h1, h2, h3, h4, h5⟩ := h
  have q : ∀ i, w'.cell? ⟨g, i, none⟩ = w.cell? ⟨g, i, none⟩ := fun i => hb.cell (p := ⟨g, i, none⟩) hg
  exact ⟨by rw [q]; exact h0, by rw [q]; exact h1, by rw [q]; exact h2, by rw [q]; exact h3, by rw [q]; exact h4, by rw [q]; exact h5⟩

/-- The same, in a block that is there. -/
def SpIn (w : World) (g o : Nat) (s : Sp) : Prop := SpAt w g o s ∧ g < w.heap.size
theorem keepSp (g o : Nat) (s : Sp) : KeepP fun w1 => SpIn w1 g o s := fun _ _ h hb => ⟨h.1.below hb h.2, Nat.lt_of_lt_of_le h.2 hb.size⟩

theorem SpansAt.below {w w' : World} {v : Value} {L : List Sp} (h : SpansAt w v L) (hb : Below w.heap.size w w') : SpansAt w' v L := by
  obtain ⟨ad, cap, hv, hl⟩ := h
  refine ⟨ad, cap, hv, hl.imp id ?_⟩
  rintro ⟨g, o, ha, hg, hs⟩
  exact ⟨g, o, ha, Nat.lt_of_lt_of_le hg hb.size, fun i hi => (hs i hi).below hb hg⟩

/-- The same, at a list's first place. -/
theorem SpAt.first {w : World} {g o : Nat} {s : Sp} (h : SpAt w g (o + 0 * 6) s) : w.cell? ⟨g, o, none⟩ = some (.int .i64 s.a) ∧ w.cell? ⟨g, o + 1, none⟩ = some (.int .i64 s.b) ∧ w.cell? ⟨g, o + 2, none⟩ = some (.int .i64 s.c) ∧
  w.cell? ⟨g, o + 3, none⟩ = some (.int .i64 s.x) ∧ w.cell? ⟨g, o + 4, none⟩ = some (.int .i64 s.y) ∧ w.cell? ⟨g, o + 5, none⟩ = some (.int .i64 s.z) := by
  simp only [Nat.zero_mul, Nat.add_zero] at h
  exact h

theorem wrap_small {n : Int} (h0 : 0 ≤ n) (h1 : n ≤ 1000000000000) : IntKind.i64.wrap n = n := by
  go_arith

theorem may_no {L : List Sp} (ht : mayL L = (List.range L.length).all (okAt L)) {k : Nat} (hk : k < L.length) (h : okAt L k = false) : mayL L = false := by
  rw [ht, Bool.eq_false_iff]
  intro ha
  rw [List.all_eq_true] at ha
  have := ha k (List.mem_range.2 hk)
  rw [h] at this; cases this
theorem may_yes {L : List Sp} (ht : mayL L = (List.range L.length).all (okAt L)) (h : ∀ j, j < L.length → okAt L j = true) : mayL L = true := by
  rw [ht, List.all_eq_true]
  exact fun k hk => h k (List.mem_range.1 hk)

set_option maxHeartbeats 3200000 in
theorem sMay_walk (L : List Sp) (g o cap : Nat) (w : World) (hlen : L.length ≤ 64) (hg : g < w.heap.size) (hl : ∀ i (h : i < L.length), SpAt w g (o + i * 6) L[i]) :
    Calls Tryz.prog 78 #[.slice (some ⟨g, o, none⟩) L.length cap] w fun e w' => e = .returned (.bool (mayL L)) ∧ Below w.heap.size w w' := by
  have HL : Hid (∀ w1, Below w.heap.size w w1 → ∀ i (h : i < L.length), SpAt w1 g (o + i * 6) L[i]) := fun w1 hb i hi => (hl i hi).below hb hg
  clear hl
  have HT : Hid (mayL L = (List.range L.length).all (okAt L)) := by unfold Hid mayL; simp [hlen]
  have h64 : decide ((64 : Int) < (L.length : Int)) = false := decide_eq_false (by omega)
  go_enter Tryz.func78, Tryz.ntmps78
  go_wp2_with fail
  go_loopw [10] (fun i wr => ∃ k : Nat, k ≤ L.length ∧ i = .int .i64 k ∧ Below w.heap.size w wr ∧ ∀ j, j < k → okAt L j = true) (fun i _ => L.length - (intOf i).toNat)
  case atStart => exact ⟨0, Nat.zero_le _, rfl, Below.refl _ _, fun j hj => by omega⟩
  case round =>
    obtain ⟨k, hk, rfl, hb, hok⟩ := hrel
    by_cases hlt : k < L.length
    · have hs := HL.out wr hb k hlt
      have HOK := hide3 hok
      have HB := hide3 hb
      have HS : Hid (L[k]? = some L[k]) := List.getElem?_eq_getElem hlt
      generalize L[k] = s at *
      obtain ⟨a, b, c, x, y, z⟩ := s
      have HM : Hid (∀ w1, Calls Tryz.prog 112 #[.agg #[.int .i64 a, .int .i64 b, .int .i64 c, .int .i64 x, .int .i64 y, .int .i64 z]] w1 fun e w' => e = .returned (.bool (maySp a b c x y z)) ∧ Below w1.heap.size w1 w') := maySpan_any a b c x y z
      clear hok
      cases k with
      | zero =>
        have HO : Hid (Below w.heap.size w (wr.alloc (.cells #[.int .i64 a, .int .i64 b, .int .i64 c, .int .i64 x, .int .i64 y, .int .i64 z] 80)) ∧ Bx6 (wr.alloc (.cells #[.int .i64 a, .int .i64 b, .int .i64 c, .int .i64 x, .int .i64 y, .int .i64 z] 80)) wr.heap.size a b c x y z) := ⟨below_then hb (boxB _ _), Bx6.new rfl _ _ _ _ _ _⟩
        have HK : Hid (KeepP fun w1 => Below w.heap.size w w1 ∧ Bx6 w1 wr.heap.size a b c x y z) := (keepBelow w).and (keep6 _ _ _ _ _ _ _)
        obtain ⟨c0, c1, c2, c3, c4, c5⟩ := hs.first
        simp only at c0 c1 c2 c3 c4 c5
        clear hs hb
        cases hm : maySp a b c x y z
        · have HF : Hid (mayL L = false) := may_no HT.out hlt (by unfold okAt; rw [HS.out]; simp [hm])
          rw [hm] at HM
          go_wp2_with fail
          refine wp_region_keep HK.out (by kernel_rfl) (by kernel_rfl) (by first | exact HO.out | exact HK.out.drew HO.out) ?_
          intro C hin hout
          have HIN := hide3 hin
          have HOUT := hide3 hout
          clear hin hout HO
          repeat
            (with_reducible refine wpQuiet_step (fun K hK => ?_)
             go_simp
             first
               | (refine hK _ ?_; clear hK K)
               | (apply Exists.intro; refine ⟨fun w1 hC => ?_, hK _ ?_⟩; (focus ((first | (go_at_call 112; with_reducible exact callC HIN.out HOUT.out HK.out HM.out w1 hC) | (exact rfl) | (obtain ⟨hb1, k0, k1, k2, k3, k4, k5, k6⟩ := HOUT.out w1 hC; clear hC; go_simp; first | done | exact rfl)); done)); clear hK K))
          refine wpQuiet_nil ?_
          intro wn hC
          have HO := hide3 (HOUT.out _ hC)
          clear hC HIN HOUT C
          obtain ⟨hb1, k0, k1, k2, k3, k4, k5, k6⟩ := HO.out
          go_wp2
          go_ret
          exact ⟨ret_bool HF.out.symm, HO.out.1⟩
        · have HF : Hid (okAt L 0 = true) := by unfold Hid okAt; rw [HS.out]; simp [hm]
          rw [hm] at HM
          go_wp2_with fail
          refine wp_region_keep HK.out (by kernel_rfl) (by kernel_rfl) (by first | exact HO.out | exact HK.out.drew HO.out) ?_
          intro C hin hout
          have HIN := hide3 hin
          have HOUT := hide3 hout
          clear hin hout HO
          repeat
            (with_reducible refine wpQuiet_step (fun K hK => ?_)
             go_simp
             first
               | (refine hK _ ?_; clear hK K)
               | (apply Exists.intro; refine ⟨fun w1 hC => ?_, hK _ ?_⟩; (focus ((first | (go_at_call 112; with_reducible exact callC HIN.out HOUT.out HK.out HM.out w1 hC) | (exact rfl) | (obtain ⟨hb1, k0, k1, k2, k3, k4, k5, k6⟩ := HOUT.out w1 hC; clear hC; go_simp; first | done | exact rfl)); done)); clear hK K))
          refine wpQuiet_nil ?_
          intro wn hC
          have HO := hide3 (HOUT.out _ hC)
          clear hC HIN HOUT C
          obtain ⟨hb1, k0, k1, k2, k3, k4, k5, k6⟩ := HO.out
          go_wp2
          exact ⟨⟨1, by omega, rfl, HO.out.1, fun j hj => by rw [show j = 0 by omega]; exact HF.out⟩, by simp [intOf]; omega⟩
      | succ j =>
        have hp := HL.out wr hb j (by omega)
        have HP : Hid (L[j]? = some (L[j]'(by omega))) := List.getElem?_eq_getElem (by omega)
        generalize L[j]'(by omega) = p at *
        obtain ⟨p, q, r, u, v, t⟩ := p
        have HO : Hid (Below w.heap.size w (wr.alloc (.cells #[.int .i64 a, .int .i64 b, .int .i64 c, .int .i64 x, .int .i64 y, .int .i64 z] 80)) ∧ Bx6 (wr.alloc (.cells #[.int .i64 a, .int .i64 b, .int .i64 c, .int .i64 x, .int .i64 y, .int .i64 z] 80)) wr.heap.size a b c x y z ∧ SpIn (wr.alloc (.cells #[.int .i64 a, .int .i64 b, .int .i64 c, .int .i64 x, .int .i64 y, .int .i64 z] 80)) g (o + j * 6) ⟨p, q, r, u, v, t⟩) := ⟨below_then hb (boxB _ _), Bx6.new rfl _ _ _ _ _ _, keepSp _ _ _ _ _ ⟨hp, Nat.lt_of_lt_of_le hg hb.size⟩ (boxB _ _)⟩
        have HK : Hid (KeepP fun w1 => Below w.heap.size w w1 ∧ Bx6 w1 wr.heap.size a b c x y z ∧ SpIn w1 g (o + j * 6) ⟨p, q, r, u, v, t⟩) := (keepBelow w).and ((keep6 _ _ _ _ _ _ _).and (keepSp _ _ _))
        have HA : Hid (∀ w1, Calls Tryz.prog 113 #[.agg #[.int .i64 p, .int .i64 q, .int .i64 r, .int .i64 u, .int .i64 v, .int .i64 t], .agg #[.int .i64 a, .int .i64 b, .int .i64 c, .int .i64 x, .int .i64 y, .int .i64 z]] w1 fun e w' => e = .returned (.bool (apartV u v t a b c)) ∧ Below w1.heap.size w1 w') := apart_any p q r u v t a b c x y z
        obtain ⟨c0, c1, c2, c3, c4, c5⟩ := hs
        simp only at c0 c1 c2 c3 c4 c5
        have hj2 : (j : Int) < (L.length : Int) := by omega
        have hwj : IntKind.i64.wrap (j : Int) = (j : Int) := wrap_small (by omega) (by omega)
        clear hb hp
        cases hm : maySp a b c x y z
        · have HF : Hid (mayL L = false) := may_no HT.out hlt (by unfold okAt; rw [HS.out]; simp [hm])
          rw [hm] at HM
          go_wp2_with fail
          refine wp_region_keep HK.out (by kernel_rfl) (by kernel_rfl) (by first | exact HO.out | exact HK.out.drew HO.out) ?_
          intro C hin hout
          have HIN := hide3 hin
          have HOUT := hide3 hout
          clear hin hout HO
          repeat
            (with_reducible refine wpQuiet_step (fun K hK => ?_)
             go_simp
             first
               | (refine hK _ ?_; clear hK K)
               | (apply Exists.intro; refine ⟨fun w1 hC => ?_, hK _ ?_⟩; (focus ((first | (go_at_call 112; with_reducible exact callC HIN.out HOUT.out HK.out HM.out w1 hC) | (exact rfl) | (obtain ⟨hb1, ⟨k0, k1, k2, k3, k4, k5, k6⟩, ⟨p0, p1, p2, p3, p4, p5⟩, p6⟩ := HOUT.out w1 hC; clear hC; go_simp; first | done | exact rfl)); done)); clear hK K))
          refine wpQuiet_nil ?_
          intro wn hC
          have HO := hide3 (HOUT.out _ hC)
          clear hC HIN HOUT C
          obtain ⟨hb1, ⟨k0, k1, k2, k3, k4, k5, k6⟩, ⟨p0, p1, p2, p3, p4, p5⟩, p6⟩ := HO.out
          go_wp2
          go_ret
          exact ⟨ret_bool HF.out.symm, HO.out.1⟩
        · rw [hm] at HM
          cases ha : apartV u v t a b c
          · have HF : Hid (mayL L = false) := may_no HT.out hlt (by unfold okAt; rw [HS.out]; simp only; rw [HP.out]; simp [ha])
            rw [ha] at HA
            go_wp2_with fail
            refine wp_region_keep HK.out (by kernel_rfl) (by kernel_rfl) (by first | exact HO.out | exact HK.out.drew HO.out) ?_
            intro C hin hout
            have HIN := hide3 hin
            have HOUT := hide3 hout
            clear hin hout HO
            repeat
              (with_reducible refine wpQuiet_step (fun K hK => ?_)
               go_simp
               first
                 | (refine hK _ ?_; clear hK K)
                 | (apply Exists.intro; refine ⟨fun w1 hC => ?_, hK _ ?_⟩; (focus ((first | (go_at_call 112; with_reducible exact callC HIN.out HOUT.out HK.out HM.out w1 hC) | (go_at_call 113; with_reducible exact callC HIN.out HOUT.out HK.out HA.out w1 hC) | (exact rfl) | (obtain ⟨hb1, ⟨k0, k1, k2, k3, k4, k5, k6⟩, ⟨p0, p1, p2, p3, p4, p5⟩, p6⟩ := HOUT.out w1 hC; clear hC; go_simp; first | done | exact rfl)); done)); clear hK K))
            refine wpQuiet_nil ?_
            intro wn hC
            have HO := hide3 (HOUT.out _ hC)
            clear hC HIN HOUT C
            obtain ⟨hb1, ⟨k0, k1, k2, k3, k4, k5, k6⟩, ⟨p0, p1, p2, p3, p4, p5⟩, p6⟩ := HO.out
            go_wp2
            go_ret
            exact ⟨ret_bool HF.out.symm, HO.out.1⟩
          · have HF : Hid (okAt L (j + 1) = true) := by unfold Hid okAt; rw [HS.out]; simp only; rw [HP.out]; simp [ha, hm]
            rw [ha] at HA
            go_wp2_with fail
            refine wp_region_keep HK.out (by kernel_rfl) (by kernel_rfl) (by first | exact HO.out | exact HK.out.drew HO.out) ?_
            intro C hin hout
            have HIN := hide3 hin
            have HOUT := hide3 hout
            clear hin hout HO
            repeat
              (with_reducible refine wpQuiet_step (fun K hK => ?_)
               go_simp
               first
                 | (refine hK _ ?_; clear hK K)
                 | (apply Exists.intro; refine ⟨fun w1 hC => ?_, hK _ ?_⟩; (focus ((first | (go_at_call 112; with_reducible exact callC HIN.out HOUT.out HK.out HM.out w1 hC) | (go_at_call 113; with_reducible exact callC HIN.out HOUT.out HK.out HA.out w1 hC) | (exact rfl) | (obtain ⟨hb1, ⟨k0, k1, k2, k3, k4, k5, k6⟩, ⟨p0, p1, p2, p3, p4, p5⟩, p6⟩ := HOUT.out w1 hC; clear hC; go_simp; first | done | exact rfl)); done)); clear hK K))
            refine wpQuiet_nil ?_
            intro wn hC
            have HO := hide3 (HOUT.out _ hC)
            clear hC HIN HOUT C
            obtain ⟨hb1, ⟨k0, k1, k2, k3, k4, k5, k6⟩, ⟨p0, p1, p2, p3, p4, p5⟩, p6⟩ := HO.out
            go_wp2
            refine ⟨⟨j + 1 + 1, by omega, by go_num, HO.out.1, fun i hi => ?_⟩, by simp [intOf]; omega⟩
            rcases Nat.lt_or_ge i (j + 1) with h | h
            · exact HOK.out i h
            · rw [show i = j + 1 by omega]; exact HF.out
    · have hke : k = L.length := by omega
      subst hke
      have HF : Hid (mayL L = true) := may_yes HT.out hok
      have HB := hide3 hb
      clear hok hb
      go_wp2
      go_ret
      exact ⟨ret_bool HF.out.symm, HB.out⟩
end Go.Proofs.YtjpmlagofcgheaaGreatDoor
namespace Go.Proofs.YtjpmlagofcgheaaGreatDoor
open Go.RowKit
set_option maxRecDepth 100000

theorem sMay_nil (ad : Option Addr) (cap : Nat) (w : World) :
    Calls Tryz.prog 78 #[.slice ad 0 cap] w fun e w' => e = .returned (.bool true) ∧ Below w.heap.size w w' := by
  go_enter Tryz.func78, Tryz.ntmps78
  go_wp2_with fail
  go_loop [10] (fun i => i = .int .i64 0) (fun _ => 0)
  case atStart => rfl
  case round =>
    subst hrel
    go_wp2
    go_ret
    exact ⟨rfl, Below.refl _ _⟩

theorem sMay_many (ad : Option Addr) (n cap : Nat) (w : World) (h : 64 < n) :
    Calls Tryz.prog 78 #[.slice ad n cap] w fun e w' => e = .returned (.bool false) ∧ Below w.heap.size w w' := by
  have h1 : (64 : Int) < (n : Int) := by omega
  go_enter Tryz.func78, Tryz.ntmps78
  go_wp2
  go_ret
  exact ⟨rfl, Below.refl _ _⟩

theorem sMay_any {w : World} {v : Value} {L : List Sp} (h : SpansAt w v L) :
    Calls Tryz.prog 78 #[v] w fun e w' => e = .returned (.bool (mayL L)) ∧ Below w.heap.size w w' := by
  obtain ⟨ad, cap, rfl, hl⟩ := h
  by_cases h64 : L.length ≤ 64
  · rcases hl with rfl | ⟨g, o, rfl, hg, hs⟩
    · exact sMay_nil ad cap w
    · exact sMay_walk L g o cap w h64 hg hs
  · have : mayL L = false := by unfold mayL; rw [decide_eq_false h64]; rfl
    rw [this]
    exact sMay_many ad _ cap w (by omega)

theorem keepSpans (v : Value) (L : List Sp) : KeepP fun w1 => SpansAt w1 v L := fun _ _ h hb => h.below hb

/-- A version is in one of some spans. -/
def hasS (a b c : Int) (s : Sp) : Bool := decide (cmpV s.a s.b s.c a b c ≤ 0) && decide (cmpV a b c s.x s.y s.z ≤ 0)
def inL (L : List Sp) (a b c : Int) : Bool := mayL L && mayV a b c && L.any (hasS a b c)

set_option maxHeartbeats 3200000 in
theorem sIn_walk (L : List Sp) (g o cap : Nat) (p q r : Int) (w : World) (hlen : L.length ≤ 64) (hg : g < w.heap.size) (hl : ∀ i (h : i < L.length), SpAt w g (o + i * 6) L[i])
    (HMay : Hid (∀ w1, Below w.heap.size w w1 → Calls Tryz.prog 78 #[.slice (some ⟨g, o, none⟩) L.length cap] w1 fun e w' => e = .returned (.bool true) ∧ Below w1.heap.size w1 w')) (hv : mayV p q r = true) :
    Calls Tryz.prog 42 #[.slice (some ⟨g, o, none⟩) L.length cap, .agg #[.int .i64 p, .int .i64 q, .int .i64 r]] w fun e w' => e = .returned (.bool (L.any (hasS p q r))) ∧ Below w.heap.size w w' := by
  have HL : Hid (∀ w1, Below w.heap.size w w1 → ∀ i (h : i < L.length), SpAt w1 g (o + i * 6) L[i]) := fun w1 hb i hi => (hl i hi).below hb hg
  have HV : Hid (∀ w1, Calls Tryz.prog 79 #[.agg #[.int .i64 p, .int .i64 q, .int .i64 r]] w1 fun e w' => e = .returned (.bool true) ∧ Below w1.heap.size w1 w') := by have := May_any p q r; rw [hv] at this; exact this
  have HO : Hid (Below w.heap.size w (w.alloc (.cells #[.int .i64 p, .int .i64 q, .int .i64 r] 31)) ∧ BxAt (w.alloc (.cells #[.int .i64 p, .int .i64 q, .int .i64 r] 31)) ⟨w.heap.size, .int .i64 p, .int .i64 q, .int .i64 r⟩) := ⟨boxB _ _, (((OKs.nil w).box rfl _ _ _).one)⟩
  have HK : Hid (KeepP fun w1 => Below w.heap.size w w1 ∧ BxAt w1 ⟨w.heap.size, .int .i64 p, .int .i64 q, .int .i64 r⟩) := (keepBelow w).and (keepV3 _)
  clear hl hv
  go_enter Tryz.func42, Tryz.ntmps42
  go_wp2_with (first
    | (go_at_call 78; refine (HMay.out _ HO.out.1).mono ?_; rintro e w1 ⟨rfl, hb⟩; have HO1 := hide3 (HK.out _ _ HO.out hb); clear HO hb; obtain ⟨_, v0, v1, v2, v3⟩ := HO1.out)
    | (go_at_call 79; refine (HV.out _).mono ?_; rintro e w2 ⟨rfl, hb⟩; have HO2 := hide3 (HK.out _ _ HO1.out hb); clear HO1 hb))
  go_loopw [17] (fun i wr => ∃ k : Nat, k ≤ L.length ∧ i = .int .i64 k ∧ (Below w.heap.size w wr ∧ BxAt wr ⟨w.heap.size, .int .i64 p, .int .i64 q, .int .i64 r⟩) ∧ (L.take k).any (hasS p q r) = false) (fun i _ => L.length - (intOf i).toNat)
  case atStart => exact ⟨0, Nat.zero_le _, rfl, HO2.out, rfl⟩
  case round =>
    obtain ⟨k, hk, rfl, hb, hno⟩ := hrel
    have HN := hide3 hno
    clear hno
    by_cases hlt : k < L.length
    · have hs := HL.out wr hb.1 k hlt
      have HS : Hid ((L.take (k + 1)).any (hasS p q r) = hasS p q r L[k]) := by
        unfold Hid
        rw [List.take_succ_eq_append_getElem hlt, List.any_append, HN.out]; simp
      have HS2 : Hid (hasS p q r L[k] = true → L.any (hasS p q r) = true) := fun h => List.any_eq_true.2 ⟨L[k], List.getElem_mem hlt, h⟩
      generalize L[k] = s at *
      obtain ⟨a, b, c, x, y, z⟩ := s
      have HC : Hid (∀ w1, Calls Tryz.prog 77 #[.agg #[.int .i64 a, .int .i64 b, .int .i64 c], .agg #[.int .i64 p, .int .i64 q, .int .i64 r]] w1 fun e w' => e = .returned (.int .i64 (cmpV a b c p q r)) ∧ Below w1.heap.size w1 w') := Compare_any _ _ _ _ _ _
      have HD : Hid (∀ w1, Calls Tryz.prog 77 #[.agg #[.int .i64 p, .int .i64 q, .int .i64 r], .agg #[.int .i64 x, .int .i64 y, .int .i64 z]] w1 fun e w' => e = .returned (.int .i64 (cmpV p q r x y z)) ∧ Below w1.heap.size w1 w') := Compare_any _ _ _ _ _ _
      have HH : Hid (hasS p q r ⟨a, b, c, x, y, z⟩ = (decide (cmpV a b c p q r ≤ 0) && decide (cmpV p q r x y z ≤ 0))) := rfl
      have HR : Hid ((Below w.heap.size w (wr.alloc (.cells #[.int .i64 a, .int .i64 b, .int .i64 c, .int .i64 x, .int .i64 y, .int .i64 z] 80)) ∧ BxAt (wr.alloc (.cells #[.int .i64 a, .int .i64 b, .int .i64 c, .int .i64 x, .int .i64 y, .int .i64 z] 80)) ⟨w.heap.size, .int .i64 p, .int .i64 q, .int .i64 r⟩) ∧ Bx6 (wr.alloc (.cells #[.int .i64 a, .int .i64 b, .int .i64 c, .int .i64 x, .int .i64 y, .int .i64 z] 80)) wr.heap.size a b c x y z) := ⟨HK.out _ _ hb (boxB _ _), Bx6.new rfl _ _ _ _ _ _⟩
      have HQ : Hid (KeepP fun w1 => (Below w.heap.size w w1 ∧ BxAt w1 ⟨w.heap.size, .int .i64 p, .int .i64 q, .int .i64 r⟩) ∧ Bx6 w1 wr.heap.size a b c x y z) := HK.out.and (keep6 _ _ _ _ _ _ _)
      obtain ⟨c0, c1, c2, c3, c4, c5⟩ := hs
      simp only at c0 c1 c2 c3 c4 c5
      obtain ⟨_, v0, v1, v2, v3⟩ := HR.out.1
      clear hb
      have t1 : True := trivial
      by_cases h1 : cmpV a b c p q r ≤ 0
      · by_cases h2 : cmpV p q r x y z ≤ 0
        · have HF : Hid (L.any (hasS p q r) = true) := HS2.out (by rw [HH.out]; simp [h1, h2])
          generalize cmpV a b c p q r = m at *
          generalize cmpV p q r x y z = n at *
          go_wp2_with (first
            | (have _t := t1; go_at_call 77; refine (liftK HQ.out HC.out _ HR.out).mono ?_; rintro e w1 ⟨rfl, ok⟩; have HR1 := hide3 ok; clear ok t1 HR; obtain ⟨⟨_, i0, i1, i2, i3⟩, k0, k1, k2, k3, k4, k5, k6⟩ := HR1.out)
            | (go_at_call 77; refine (liftK HQ.out HD.out _ HR1.out).mono ?_; rintro e w2 ⟨rfl, ok⟩; have HR2 := hide3 ok; clear ok HR1))
          go_ret
          exact ⟨ret_bool HF.out.symm, HR2.out.1.1⟩
        · have HF : Hid ((L.take (k + 1)).any (hasS p q r) = false) := by unfold Hid; rw [HS.out, HH.out]; simp [h2]
          generalize cmpV a b c p q r = m at *
          generalize cmpV p q r x y z = n at *
          go_wp2_with (first
            | (have _t := t1; go_at_call 77; refine (liftK HQ.out HC.out _ HR.out).mono ?_; rintro e w1 ⟨rfl, ok⟩; have HR1 := hide3 ok; clear ok t1 HR; obtain ⟨⟨_, i0, i1, i2, i3⟩, k0, k1, k2, k3, k4, k5, k6⟩ := HR1.out)
            | (go_at_call 77; refine (liftK HQ.out HD.out _ HR1.out).mono ?_; rintro e w2 ⟨rfl, ok⟩; have HR2 := hide3 ok; clear ok HR1))
          exact ⟨⟨k + 1, by omega, by go_num, HR2.out.1, HF.out⟩, by simp [intOf]; omega⟩
      · have HF : Hid ((L.take (k + 1)).any (hasS p q r) = false) := by unfold Hid; rw [HS.out, HH.out]; simp [h1]
        generalize cmpV a b c p q r = m at *
        go_wp2_with (go_at_call 77; refine (liftK HQ.out HC.out _ HR.out).mono ?_; rintro e w1 ⟨rfl, ok⟩; have HR1 := hide3 ok; clear ok t1 HR; obtain ⟨⟨_, i0, i1, i2, i3⟩, k0, k1, k2, k3, k4, k5, k6⟩ := HR1.out)
        exact ⟨⟨k + 1, by omega, by go_num, HR1.out.1, HF.out⟩, by simp [intOf]; omega⟩
    · have hke : k = L.length := by omega
      subst hke
      have HF : Hid (L.any (hasS p q r) = false) := by have := HN.out; rw [List.take_length] at this; exact this
      have HB := hide3 hb.1
      clear hb
      go_wp2
      go_ret
      exact ⟨ret_bool HF.out.symm, HB.out⟩

set_option maxHeartbeats 800000 in
theorem sIn_no1 (v : Value) (p q r : Int) (w : World) (h : ∀ w1, Below w.heap.size w w1 → Calls Tryz.prog 78 #[v] w1 fun e w' => e = .returned (.bool false) ∧ Below w1.heap.size w1 w') :
    Calls Tryz.prog 42 #[v, .agg #[.int .i64 p, .int .i64 q, .int .i64 r]] w fun e w' => e = .returned (.bool false) ∧ Below w.heap.size w w' := by
  have HM : Hid (∀ w1, Below w.heap.size w w1 → Calls Tryz.prog 78 #[v] w1 fun e w' => e = .returned (.bool false) ∧ Below w1.heap.size w1 w') := h
  clear h
  go_enter Tryz.func42, Tryz.ntmps42
  go_wp2_with (go_at_call 78; refine (HM.out _ (boxB _ _)).mono ?_; rintro e w1 ⟨rfl, hb⟩)
  go_ret
  exact ⟨rfl, below_then (boxB _ _) hb⟩

set_option maxHeartbeats 800000 in
theorem sIn_no2 (v : Value) (p q r : Int) (w : World) (h : ∀ w1, Below w.heap.size w w1 → Calls Tryz.prog 78 #[v] w1 fun e w' => e = .returned (.bool true) ∧ Below w1.heap.size w1 w') (hv : mayV p q r = false) :
    Calls Tryz.prog 42 #[v, .agg #[.int .i64 p, .int .i64 q, .int .i64 r]] w fun e w' => e = .returned (.bool false) ∧ Below w.heap.size w w' := by
  have HM : Hid (∀ w1, Below w.heap.size w w1 → Calls Tryz.prog 78 #[v] w1 fun e w' => e = .returned (.bool true) ∧ Below w1.heap.size w1 w') := h
  have HV : Hid (∀ w1, Calls Tryz.prog 79 #[.agg #[.int .i64 p, .int .i64 q, .int .i64 r]] w1 fun e w' => e = .returned (.bool false) ∧ Below w1.heap.size w1 w') := by have := May_any p q r; rw [hv] at this; exact this
  have HO : Hid (BxAt (w.alloc (.cells #[.int .i64 p, .int .i64 q, .int .i64 r] 31)) ⟨w.heap.size, .int .i64 p, .int .i64 q, .int .i64 r⟩) := (((OKs.nil w).box rfl _ _ _).one)
  clear h hv
  go_enter Tryz.func42, Tryz.ntmps42
  go_wp2_with (first
    | (go_at_call 78; refine (HM.out _ (boxB _ _)).mono ?_; rintro e w1 ⟨rfl, hb⟩; obtain ⟨v0, v1, v2, v3⟩ := HO.out.below hb)
    | (go_at_call 79; refine (HV.out _).mono ?_; rintro e w2 ⟨rfl, hb2⟩))
  go_ret
  exact ⟨rfl, below_then (below_then (boxB _ _) hb) hb2⟩

set_option maxHeartbeats 800000 in
theorem sIn_nil (ad : Option Addr) (cap : Nat) (p q r : Int) (w : World) (hv : mayV p q r = true) :
    Calls Tryz.prog 42 #[.slice ad 0 cap, .agg #[.int .i64 p, .int .i64 q, .int .i64 r]] w fun e w' => e = .returned (.bool false) ∧ Below w.heap.size w w' := by
  have HM : Hid (∀ w1, Calls Tryz.prog 78 #[.slice ad 0 cap] w1 fun e w' => e = .returned (.bool true) ∧ Below w1.heap.size w1 w') := sMay_nil ad cap
  have HV : Hid (∀ w1, Calls Tryz.prog 79 #[.agg #[.int .i64 p, .int .i64 q, .int .i64 r]] w1 fun e w' => e = .returned (.bool true) ∧ Below w1.heap.size w1 w') := by have := May_any p q r; rw [hv] at this; exact this
  have HO : Hid (BxAt (w.alloc (.cells #[.int .i64 p, .int .i64 q, .int .i64 r] 31)) ⟨w.heap.size, .int .i64 p, .int .i64 q, .int .i64 r⟩) := (((OKs.nil w).box rfl _ _ _).one)
  clear hv
  go_enter Tryz.func42, Tryz.ntmps42
  go_wp2_with (first
    | (go_at_call 78; refine (HM.out _).mono ?_; rintro e w1 ⟨rfl, hb⟩; obtain ⟨v0, v1, v2, v3⟩ := HO.out.below hb)
    | (go_at_call 79; refine (HV.out _).mono ?_; rintro e w2 ⟨rfl, hb2⟩))
  have HB := hide3 (below_then (below_then (boxB _ _) hb) hb2)
  go_loop [17] (fun i => i = .int .i64 0) (fun _ => 0)
  case atStart => rfl
  case round =>
    subst hrel
    go_wp2
    go_ret
    exact ⟨rfl, HB.out⟩

theorem sIn_any {w : World} {v : Value} {L : List Sp} (h : SpansAt w v L) (p q r : Int) :
    Calls Tryz.prog 42 #[v, .agg #[.int .i64 p, .int .i64 q, .int .i64 r]] w fun e w' => e = .returned (.bool (inL L p q r)) ∧ Below w.heap.size w w' := by
  have hM : ∀ w1, Below w.heap.size w w1 → Calls Tryz.prog 78 #[v] w1 fun e w' => e = .returned (.bool (mayL L)) ∧ Below w1.heap.size w1 w' := fun w1 hb => sMay_any (h.below hb)
  unfold inL
  cases hm : mayL L
  · rw [hm] at hM
    exact sIn_no1 v p q r w hM
  · rw [hm] at hM
    cases hv : mayV p q r
    · exact sIn_no2 v p q r w hM hv
    · obtain ⟨ad, cap, rfl, hl⟩ := h
      rcases hl with rfl | ⟨g, o, rfl, hg, hs⟩
      · exact sIn_nil ad cap p q r w hv
      · have h64 : L.length ≤ 64 := by unfold mayL at hm; simp at hm; exact hm.1
        exact sIn_walk L g o cap p q r w h64 hg hs hM hv
end Go.Proofs.YtjpmlagofcgheaaGreatDoor
namespace Go.Proofs.YtjpmlagofcgheaaGreatDoor

abbrev Rg := List (Int × Int)

def InR : Rg → Int → Prop
  | [], _ => False
  | (g, h) :: B, n => (g ≤ n ∧ n ≤ h) ∨ InR B n

/-- The spans rise from k on, up to M at most, and do not touch. -/
def RiseR (k M : Int) : Rg → Prop
  | [] => True
  | (g, h) :: B => k ≤ g ∧ g ≤ h ∧ h ≤ M ∧ RiseR (h + 2) M B

theorem RiseR.weak {M j k : Int} : ∀ {B : Rg}, RiseR k M B → j ≤ k → RiseR j M B
  | [], _, _ => trivial
  | (_, _) :: _, h, hj => ⟨Int.le_trans hj h.1, h.2⟩

theorem RiseR.top {M N k : Int} : ∀ {B : Rg} {k : Int}, RiseR k M B → M ≤ N → RiseR k N B
  | [], _, _, _ => trivial
  | (_, _) :: _, _, h, hm => ⟨h.1, h.2.1, Int.le_trans h.2.2.1 hm, RiseR.top (k := k) h.2.2.2 hm⟩

theorem RiseR.bounds {M : Int} {n : Int} : ∀ {B : Rg} {k : Int}, RiseR k M B → InR B n → k ≤ n ∧ n ≤ M
  | [], _, _, hi => hi.elim
  | (g, h) :: B, k, hr, hi => by
    obtain ⟨h1, h2, h3, h4⟩ := hr
    rcases hi with ⟨i1, i2⟩ | hi
    · omega
    · have := RiseR.bounds h4 hi; omega

theorem InR.append {n : Int} : ∀ {A B : Rg}, InR (A ++ B) n ↔ InR A n ∨ InR B n
  | [], B => by simp [InR]
  | (g, h) :: A, B => by simp only [List.cons_append, InR]; rw [InR.append (A := A), or_assoc]

theorem RiseR.append {m M : Int} : ∀ {X Y : Rg} {k : Int}, RiseR k m X → RiseR (m + 2) M Y → m ≤ M → k ≤ m + 2 → RiseR k M (X ++ Y)
  | [], Y, k, _, hy, _, hk => hy.weak hk
  | (g, h) :: X, Y, k, hx, hy, hm, hk => by
    obtain ⟨h1, h2, h3, h4⟩ := hx
    exact ⟨h1, h2, by omega, RiseR.append h4 hy hm (by omega)⟩

/-- What is left of one span. -/
def cutS (lo hi : Int) : Rg → Rg
  | [] => [(lo, hi)]
  | (g, h) :: B => if hi < g then [(lo, hi)] else (if lo < g then [(lo, g - 1)] else []) ++ (if hi ≤ h then [] else cutS (h + 1) hi B)

/-- The spans that are not left behind. -/
def dropR (lo : Int) (B : Rg) : Rg := B.dropWhile fun p => decide (p.2 < lo)

/-- What is left of some spans. -/
def cutR : Rg → Rg → Rg
  | [], _ => []
  | (lo, hi) :: A, B => cutS lo hi (dropR lo B) ++ cutR A (dropR lo B)

theorem cutS_in {M n : Int} : ∀ {B : Rg} {lo hi k : Int}, RiseR k M B → (∀ p ∈ B, lo ≤ p.2) → lo ≤ hi → (InR (cutS lo hi B) n ↔ (lo ≤ n ∧ n ≤ hi) ∧ ¬ InR B n)
  | [], lo, hi, k, _, _, hl => by simp [cutS, InR]
  | (g, h) :: B, lo, hi, k, hr, hp, hl => by
    obtain ⟨h1, h2, h3, h4⟩ := hr
    have hB : ∀ x, InR B x → h + 2 ≤ x := fun x hx => (h4.bounds hx).1
    have hlh : lo ≤ h := hp _ List.mem_cons_self
    unfold cutS
    by_cases hg : hi < g
    · rw [if_pos hg]
      simp only [InR, or_false]
      constructor
      · intro hn
        refine ⟨hn, ?_⟩
        rintro (hx | hx)
        · omega
        · have := hB n hx; omega
      · exact fun hn => hn.1
    · rw [if_neg hg, InR.append]
      have ih : ¬ hi ≤ h → (InR (cutS (h + 1) hi B) n ↔ (h + 1 ≤ n ∧ n ≤ hi) ∧ ¬ InR B n) := fun hh =>
        cutS_in (k := h + 2) h4 (fun p hq => by
          have : ∀ {C : Rg} {j : Int}, RiseR j M C → p ∈ C → j ≤ p.2 := by
            intro C
            induction C with
            | nil => intro j _ hq; cases hq
            | cons q C ihc =>
              intro j hr hq
              obtain ⟨a, b⟩ := q
              obtain ⟨r1, r2, r3, r4⟩ := hr
              rcases List.mem_cons.1 hq with rfl | hq
              · show j ≤ b; omega
              · have := ihc r4 hq; omega
          have := this h4 hq; omega) (by omega)
      have hin : InR (if lo < g then [(lo, g - 1)] else []) n ↔ lo ≤ n ∧ n < g := by
        split
        · simp only [InR, or_false]; omega
        · simp only [InR, false_iff]; omega
      rw [hin]
      by_cases hh : hi ≤ h
      · rw [if_pos hh]
        simp only [InR, or_false]
        constructor
        · intro hn
          refine ⟨by omega, ?_⟩
          rintro (hx | hx)
          · omega
          · have := hB n hx; omega
        · rintro ⟨hn, hx⟩
          have : ¬ (g ≤ n ∧ n ≤ h) := fun hy => hx (Or.inl hy)
          omega
      · rw [if_neg hh, ih hh]
        simp only [InR]
        constructor
        · rintro (hn | ⟨hn, hx⟩)
          · refine ⟨by omega, ?_⟩
            rintro (hx | hx)
            · omega
            · have := hB n hx; omega
          · refine ⟨by omega, ?_⟩
            rintro (hy | hy)
            · omega
            · exact hx hy
        · rintro ⟨hn, hx⟩
          have h5 : ¬ (g ≤ n ∧ n ≤ h) := fun hy => hx (Or.inl hy)
          have h6 : ¬ InR B n := fun hy => hx (Or.inr hy)
          by_cases hb : n < g
          · exact Or.inl (by omega)
          · exact Or.inr ⟨by omega, h6⟩

theorem RiseR.mem {M : Int} {p : Int × Int} : ∀ {C : Rg} {j : Int}, RiseR j M C → p ∈ C → j ≤ p.1 ∧ p.1 ≤ p.2 ∧ p.2 ≤ M
  | [], _, _, hq => by cases hq
  | (a, b) :: C, j, hr, hq => by
    obtain ⟨r1, r2, r3, r4⟩ := hr
    rcases List.mem_cons.1 hq with rfl | hq
    · exact ⟨r1, r2, r3⟩
    · have := RiseR.mem r4 hq; omega

theorem cutS_rise {M : Int} : ∀ {B : Rg} {lo hi k : Int}, RiseR k M B → (∀ p ∈ B, lo ≤ p.2) → lo ≤ hi → RiseR lo hi (cutS lo hi B)
  | [], lo, hi, k, _, _, hl => ⟨Int.le_refl _, hl, Int.le_refl _, trivial⟩
  | (g, h) :: B, lo, hi, k, hr, hp, hl => by
    obtain ⟨h1, h2, h3, h4⟩ := hr
    have hlh : lo ≤ h := hp _ List.mem_cons_self
    unfold cutS
    by_cases hg : hi < g
    · rw [if_pos hg]; exact ⟨Int.le_refl _, hl, Int.le_refl _, trivial⟩
    · rw [if_neg hg]
      have hrest : RiseR (h + 1) hi (if hi ≤ h then [] else cutS (h + 1) hi B) := by
        split
        · trivial
        · exact cutS_rise (k := h + 2) h4 (fun p hq => by have := h4.mem hq; omega) (by omega)
      by_cases hlg : lo < g
      · rw [if_pos hlg]
        exact ⟨Int.le_refl _, by omega, by omega, hrest.weak (by omega)⟩
      · rw [if_neg hlg]
        exact hrest.weak (by omega)

theorem drop_in {n lo : Int} (hn : lo ≤ n) : ∀ {B : Rg}, InR (dropR lo B) n ↔ InR B n
  | [] => Iff.rfl
  | (g, h) :: B => by
    unfold dropR
    rw [List.dropWhile_cons]
    by_cases hh : h < lo
    · rw [if_pos (by simpa using hh)]
      show InR (dropR lo B) n ↔ _
      rw [drop_in hn]
      simp only [InR]
      constructor
      · exact Or.inr
      · rintro (hx | hx)
        · omega
        · exact hx
    · rw [if_neg (by simpa using hh)]

theorem drop_rise {lo M : Int} : ∀ {B : Rg} {k : Int}, RiseR k M B → RiseR k M (dropR lo B)
  | [], _, _ => trivial
  | (g, h) :: B, k, hr => by
    unfold dropR
    rw [List.dropWhile_cons]
    obtain ⟨h1, h2, h3, h4⟩ := hr
    by_cases hh : h < lo
    · rw [if_pos (by simpa using hh)]
      exact (drop_rise h4).weak (by omega)
    · rw [if_neg (by simpa using hh)]; exact ⟨h1, h2, h3, h4⟩

theorem drop_lo {lo M : Int} : ∀ {B : Rg} {k : Int}, RiseR k M B → ∀ p ∈ dropR lo B, lo ≤ p.2
  | [], _, _, p, hp => by simp [dropR] at hp
  | (g, h) :: B, k, hr, p, hp => by
    unfold dropR at hp
    rw [List.dropWhile_cons] at hp
    obtain ⟨h1, h2, h3, h4⟩ := hr
    by_cases hh : h < lo
    · rw [if_pos (by simpa using hh)] at hp
      exact drop_lo h4 p hp
    · rw [if_neg (by simpa using hh)] at hp
      rcases List.mem_cons.1 hp with rfl | hp
      · show lo ≤ h; omega
      · have := h4.mem hp; omega

theorem cutR_rise {M N : Int} : ∀ {A B : Rg} {k j : Int}, RiseR k M A → RiseR j N B → RiseR k M (cutR A B)
  | [], _, _, _, _, _ => trivial
  | (lo, hi) :: A, B, k, j, ha, hb => by
    obtain ⟨h1, h2, h3, h4⟩ := ha
    unfold cutR
    exact RiseR.weak (RiseR.append (cutS_rise (drop_rise hb) (drop_lo hb) h2) (cutR_rise h4 (drop_rise hb)) h3 (by omega)) h1

theorem cutR_in {M N n : Int} : ∀ {A B : Rg} {k j : Int}, RiseR k M A → RiseR j N B → (InR (cutR A B) n ↔ InR A n ∧ ¬ InR B n)
  | [], _, _, _, _, _ => by simp [cutR, InR]
  | (lo, hi) :: A, B, k, j, ha, hb => by
    obtain ⟨h1, h2, h3, h4⟩ := ha
    unfold cutR
    rw [InR.append, cutS_in (drop_rise hb) (drop_lo hb) h2, cutR_in h4 (drop_rise hb)]
    simp only [InR]
    by_cases hn : lo ≤ n
    · rw [drop_in hn]
      constructor
      · rintro (⟨x, y⟩ | ⟨x, y⟩)
        · exact ⟨Or.inl x, y⟩
        · exact ⟨Or.inr x, y⟩
      · rintro ⟨x | x, y⟩
        · exact Or.inl ⟨x, y⟩
        · exact Or.inr ⟨x, y⟩
    · constructor
      · rintro (⟨x, y⟩ | ⟨x, y⟩)
        · omega
        · have := h4.bounds x; omega
      · rintro ⟨x | x, y⟩
        · omega
        · have := h4.bounds x; omega

/-- A list is told by its members. -/
theorem rise_one {M N : Int} : ∀ {A B : Rg} {k j : Int}, RiseR k M A → RiseR j N B → (∀ n, InR A n ↔ InR B n) → A = B
  | [], [], _, _, _, _, _ => rfl
  | [], (g, h) :: B, _, _, _, hb, he => by
    have := (he g).2 (Or.inl ⟨Int.le_refl _, hb.2.1⟩)
    exact this.elim
  | (g, h) :: A, [], _, _, ha, _, he => by
    have := (he g).1 (Or.inl ⟨Int.le_refl _, ha.2.1⟩)
    exact this.elim
  | (g, h) :: A, (g', h') :: B, k, j, ha, hb, he => by
    obtain ⟨a1, a2, a3, a4⟩ := ha
    obtain ⟨b1, b2, b3, b4⟩ := hb
    have hA : ∀ x, InR A x → h + 2 ≤ x := fun x hx => (a4.bounds hx).1
    have hB : ∀ x, InR B x → h' + 2 ≤ x := fun x hx => (b4.bounds hx).1
    have e1 : g = g' := by
      have x1 := (he g).1 (Or.inl ⟨Int.le_refl _, a2⟩)
      have x2 := (he g').2 (Or.inl ⟨Int.le_refl _, b2⟩)
      rcases x1 with x1 | x1 <;> rcases x2 with x2 | x2
      · omega
      · have := hA _ x2; omega
      · have := hB _ x1; omega
      · have := hA _ x2; have := hB _ x1; omega
    subst e1
    have e2 : h = h' := by
      rcases Int.lt_trichotomy h h' with hh | hh | hh
      · have x := (he (h + 1)).2 (Or.inl ⟨by omega, by omega⟩)
        rcases x with x | x
        · omega
        · have := hA _ x; omega
      · exact hh
      · have x := (he (h' + 1)).1 (Or.inl ⟨by omega, by omega⟩)
        rcases x with x | x
        · omega
        · have := hB _ x; omega
    subst e2
    have e3 : A = B := rise_one a4 b4 fun n => by
      constructor
      · intro hn
        rcases (he n).1 (Or.inr hn) with x | x
        · have := hA _ hn; omega
        · exact x
      · intro hn
        rcases (he n).2 (Or.inr hn) with x | x
        · have := hB _ hn; omega
        · exact x
    rw [e3]

theorem tw_no {g h hi : Int} {B : Rg} (hh : hi ≤ h) : (((g, h) :: B).takeWhile fun p => decide (p.2 < hi)) = [] := by
  rw [List.takeWhile_cons]; simp [Int.not_lt.2 hh]
theorem tw_yes {g h hi : Int} {B : Rg} (hh : h < hi) : (((g, h) :: B).takeWhile fun p => decide (p.2 < hi)) = (g, h) :: B.takeWhile fun p => decide (p.2 < hi) := by
  rw [List.takeWhile_cons]; simp [hh]
theorem dw_no {g h lo : Int} {B : Rg} (hh : lo ≤ h) : dropR lo ((g, h) :: B) = (g, h) :: B := by
  unfold dropR; rw [List.dropWhile_cons]; simp [Int.not_lt.2 hh]
theorem dw_yes {g h lo : Int} {B : Rg} (hh : h < lo) : dropR lo ((g, h) :: B) = dropR lo B := by
  unfold dropR; rw [List.dropWhile_cons]; simp [hh]
theorem drop_len {lo : Int} {B : Rg} : (dropR lo B).length ≤ B.length := (List.dropWhile_sublist _).length_le

theorem cutS_len : ∀ {B : Rg} {lo hi : Int}, (cutS lo hi B).length ≤ 1 + (B.takeWhile fun p => decide (p.2 < hi)).length
  | [], lo, hi => by simp [cutS]
  | (g, h) :: B, lo, hi => by
    unfold cutS
    by_cases hg : hi < g
    · rw [if_pos hg]; simp
    · rw [if_neg hg, List.length_append]
      have hone : (if lo < g then [(lo, g - 1)] else ([] : Rg)).length ≤ 1 := by split <;> simp
      by_cases hh : hi ≤ h
      · rw [if_pos hh, tw_no hh]
        simp only [List.length_nil]; omega
      · rw [if_neg hh, tw_yes (by omega)]
        have := cutS_len (B := B) (lo := h + 1) (hi := hi)
        simp only [List.length_cons]
        omega

theorem drop_take {lo hi : Int} (h : hi ≤ lo) : ∀ {B : Rg}, (dropR lo B).length + (B.takeWhile fun p => decide (p.2 < hi)).length ≤ B.length
  | [] => by simp [dropR]
  | (a, b) :: B => by
    by_cases hb : b < hi
    · rw [dw_yes (by omega), tw_yes hb]
      have := drop_take h (B := B)
      simp only [List.length_cons]; omega
    · rw [tw_no (by omega)]
      have := drop_len (lo := lo) (B := (a, b) :: B)
      simpa using this

theorem cutR_len' {M : Int} : ∀ {A B : Rg} {lo hi k : Int}, RiseR k M ((lo, hi) :: A) → (cutR ((lo, hi) :: A) B).length ≤ A.length + 1 + (dropR lo B).length
  | [], B, lo, hi, k, _ => by
    unfold cutR
    rw [List.length_append]
    have h1 := cutS_len (B := dropR lo B) (lo := lo) (hi := hi)
    have h2 := (List.takeWhile_sublist (l := dropR lo B) fun p => decide (p.2 < hi)).length_le
    simp only [cutR, List.length_nil]
    omega
  | (lo2, hi2) :: A, B, lo, hi, k, hr => by
    obtain ⟨h1, h2, h3, h4⟩ := hr
    have ih := cutR_len' (A := A) (B := dropR lo B) (lo := lo2) (hi := hi2) h4
    have hl : hi ≤ lo2 := by have := h4.1; omega
    have h5 := drop_take hl (B := dropR lo B)
    have h6 := cutS_len (B := dropR lo B) (lo := lo) (hi := hi)
    rw [cutR, List.length_append]
    simp only [List.length_cons]
    omega

theorem cutR_len {M : Int} {A B : Rg} {k : Int} (h : RiseR k M A) : (cutR A B).length ≤ A.length + B.length := by
  cases A with
  | nil => simp [cutR]
  | cons p A =>
    obtain ⟨lo, hi⟩ := p
    have h1 := cutR_len' (B := B) h
    have h2 := drop_len (lo := lo) (B := B)
    simp only [List.length_cons]
    omega

/-- The range of all. -/
def allR : Rg := [(0, 999999999)]
def meetR (A B : Rg) : Rg := cutR A (cutR A B)
def joinR (A B : Rg) : Rg := cutR allR (cutR (cutR allR A) B)

/-- A range, however long. -/
def RangeR (A : Rg) : Prop := RiseR 0 999999999 A

theorem allR_ok : RangeR allR := ⟨by decide, by decide, by decide, trivial⟩
theorem allR_in {n : Int} : InR allR n ↔ 0 ≤ n ∧ n ≤ 999999999 := by simp [allR, InR]
theorem RangeR.cut {A B : Rg} (ha : RangeR A) (hb : RangeR B) : RangeR (cutR A B) := cutR_rise ha hb
theorem RangeR.meet {A B : Rg} (ha : RangeR A) (hb : RangeR B) : RangeR (meetR A B) := ha.cut (ha.cut hb)
theorem RangeR.join {A B : Rg} (ha : RangeR A) (hb : RangeR B) : RangeR (joinR A B) := allR_ok.cut ((allR_ok.cut ha).cut hb)
theorem RangeR.in {A : Rg} (ha : RangeR A) {n : Int} (h : InR A n) : 0 ≤ n ∧ n ≤ 999999999 := RiseR.bounds ha h

theorem cut_in {A B : Rg} (ha : RangeR A) (hb : RangeR B) {n : Int} : InR (cutR A B) n ↔ InR A n ∧ ¬ InR B n := cutR_in ha hb
theorem meet_in {A B : Rg} (ha : RangeR A) (hb : RangeR B) {n : Int} : InR (meetR A B) n ↔ InR A n ∧ InR B n := by
  unfold meetR
  rw [cut_in ha (ha.cut hb), cut_in ha hb]
  constructor
  · rintro ⟨x, y⟩
    exact ⟨x, Classical.byContradiction fun z => y ⟨x, z⟩⟩
  · rintro ⟨x, y⟩
    exact ⟨x, fun z => z.2 y⟩
theorem join_in {A B : Rg} (ha : RangeR A) (hb : RangeR B) {n : Int} : InR (joinR A B) n ↔ InR A n ∨ InR B n := by
  unfold joinR
  rw [cut_in allR_ok ((allR_ok.cut ha).cut hb), cut_in (allR_ok.cut ha) hb, cut_in allR_ok ha, allR_in]
  constructor
  · rintro ⟨x, y⟩
    refine Classical.byContradiction fun z => y ⟨⟨x, fun q => z (Or.inl q)⟩, fun q => z (Or.inr q)⟩
  · rintro (x | x)
    · exact ⟨ha.in x, fun z => z.1.2 x⟩
    · exact ⟨hb.in x, fun z => z.2 x⟩

theorem range_one {A B : Rg} (ha : RangeR A) (hb : RangeR B) (h : ∀ n, InR A n ↔ InR B n) : A = B := rise_one ha hb h
theorem range_none {A : Rg} (ha : RangeR A) (h : ∀ n, ¬ InR A n) : A = [] := range_one (B := []) ha trivial fun n => ⟨fun x => (h n x).elim, fun x => x.elim⟩

theorem join_len {A B : Rg} (ha : RangeR A) : (joinR A B).length ≤ A.length + B.length + 2 := by
  unfold joinR
  have h1 := cutR_len (B := A) allR_ok
  have h2 := cutR_len (B := B) (allR_ok.cut ha)
  have h3 := cutR_len (B := cutR (cutR allR A) B) allR_ok
  simp only [allR, List.length_cons, List.length_nil] at h1 h2 h3 ⊢
  omega
end Go.Proofs.YtjpmlagofcgheaaGreatDoor
namespace Go.Proofs.YtjpmlagofcgheaaGreatDoor
open Go.RowKit
set_option maxRecDepth 100000

/-- The span from one place to another. -/
def spR (p : Int × Int) : Sp := ⟨atA p.1, atB p.1, atC p.1, atA p.2, atB p.2, atC p.2⟩
/-- A place that is one. -/
def okR (n : Int) : Prop := 0 ≤ n ∧ n ≤ 999999999
def okP2 (p : Int × Int) : Prop := okR p.1 ∧ okR p.2 ∧ p.1 ≤ p.2

theorem okR.has {n : Int} (h : okR n) : hasV n = true := by unfold hasV; simp; unfold okR at h; omega

/-- How two places compare. -/
theorem cmp_at {r s : Int} (hr : okR r) (hs : okR s) : (cmpV (atA r) (atB r) (atC r) (atA s) (atB s) (atC s) < 0 ↔ r < s) ∧ (0 < cmpV (atA r) (atB r) (atC r) (atA s) (atB s) (atC s) ↔ s < r) := by
  obtain ⟨m1, e1⟩ := may_at hr.has
  obtain ⟨m2, e2⟩ := may_at hs.has
  have h1 := cmp_rank m1 m2
  have h2 := cmp_rank m2 m1
  rw [e1, e2] at h1
  rw [e1, e2] at h2
  refine ⟨h1, ?_⟩
  rw [← h2, cmp_neg (atA s)]
  omega

theorem Compare_at {r s : Int} (hr : okR r) (hs : okR s) : ∃ q : Int, (q < 0 ↔ r < s) ∧ (0 < q ↔ s < r) ∧ ∀ w1, Calls Tryz.prog 77 #[.agg #[.int .i64 (atA r), .int .i64 (atB r), .int .i64 (atC r)], .agg #[.int .i64 (atA s), .int .i64 (atB s), .int .i64 (atC s)]] w1 fun e w' => e = .returned (.int .i64 q) ∧ Below w1.heap.size w1 w' :=
  ⟨_, (cmp_at hr hs).1, (cmp_at hr hs).2, Compare_any _ _ _ _ _ _⟩

theorem Next_at {r : Int} (h0 : 0 ≤ r) (h1 : r < 999999999) : ∀ w1, Calls Tryz.prog 138 #[.agg #[.int .i64 (atA r), .int .i64 (atB r), .int .i64 (atC r)]] w1 fun e w' => e = .returned (.tuple #[.agg #[.int .i64 (atA (r + 1)), .int .i64 (atB (r + 1)), .int .i64 (atC (r + 1))], .bool true]) ∧ Below w1.heap.size w1 w' := by
  obtain ⟨m, e⟩ := may_at (n := r) (okR.has ⟨h0, by omega⟩)
  have := Next_any (atA r) (atB r) (atC r)
  obtain ⟨e1, e2, e3⟩ := on_at (k := 1) m
  rw [e1, e2, e3, next_is m, e, decide_eq_true h1] at this
  exact this

/-- A range lies in memory, by its places. -/
def SpansR (w : World) (v : Value) (L : Rg) : Prop := ∃ ad cap, v = .slice ad L.length cap ∧ L.length ≤ cap ∧ (L = [] ∨ ∃ g o, ad = some ⟨g, o, none⟩ ∧ g < w.heap.size ∧ ∀ i (h : i < L.length), SpAt w g (o + i * 6) (spR L[i]))

theorem SpansR.below {w w' : World} {v : Value} {L : Rg} (h : SpansR w v L) (hb : Below w.heap.size w w') : SpansR w' v L := by
  obtain ⟨ad, cap, hv, hc, hl⟩ := h
  refine ⟨ad, cap, hv, hc, hl.imp id ?_⟩
  rintro ⟨g, o, ha, hg, hs⟩
  exact ⟨g, o, ha, Nat.lt_of_lt_of_le hg hb.size, fun i hi => (hs i hi).below hb hg⟩

/-- The same, of a world that is as another one in its old blocks. -/
theorem SpansR.since {w w' : World} {v : Value} {L : Rg} {B : Nat} (h : SpansR w v L) (hB : w.heap.size ≤ B) (hb : Below B w w') : SpansR w' v L := h.below (hb.mono hB)

theorem SpansR.tail {w : World} {g o cap : Nat} {p : Int × Int} {B : Rg} (h : SpansR w (.slice (some ⟨g, o, none⟩) (p :: B).length cap) (p :: B)) : SpansR w (.slice (if cap = 1 then some ⟨g, o, none⟩ else some ⟨g, o + 6, none⟩) B.length (cap - 1)) B := by
  obtain ⟨ad, cap', hv, hc, hl⟩ := h
  cases hv
  rcases hl with hl | ⟨g', o', hq, hg, hs⟩
  · cases hl
  cases hq
  simp only [List.length_cons] at hc
  refine ⟨_, _, rfl, by omega, ?_⟩
  by_cases h1 : cap = 1
  · left
    exact List.eq_nil_of_length_eq_zero (by omega)
  · right
    refine ⟨g, o + 6, by rw [if_neg h1], hg, fun i hi => ?_⟩
    have := hs (i + 1) (by simp; omega)
    simp only [List.getElem_cons_succ] at this
    have e : o + (i + 1) * 6 = o + 6 + i * 6 := by omega
    rw [e] at this
    exact this

/-- A span's variable that may be written. -/
def Bx6F (w : World) (N : Nat) (a b c x y z : Int) : Prop := Bx6 w N a b c x y z ∧ w.frozen? ⟨N, 0, none⟩ = false ∧ w.frozen? ⟨N, 1, none⟩ = false ∧ w.frozen? ⟨N, 2, none⟩ = false

theorem Bx6F.new {w : World} {N : Nat} (hN : w.heap.size = N) (a b c x y z : Int) : Bx6F (w.alloc (.cells #[.int .i64 a, .int .i64 b, .int .i64 c, .int .i64 x, .int .i64 y, .int .i64 z] 80)) N a b c x y z := by
  refine ⟨Bx6.new hN _ _ _ _ _ _, ?_⟩
  subst hN
  refine ⟨?_, ?_, ?_⟩ <;> simp
theorem Bx6F.below {w w' : World} {N : Nat} {a b c x y z : Int} (h : Bx6F w N a b c x y z) (hb : Below w.heap.size w w') : Bx6F w' N a b c x y z := by
  obtain ⟨h0, h1, h2, h3⟩ := h
  have hl := h0.2.2.2.2.2.2
  exact ⟨h0.below hb, (hb.frozen (p := ⟨N, 0, none⟩) hl).trans h1, (hb.frozen (p := ⟨N, 1, none⟩) hl).trans h2, (hb.frozen (p := ⟨N, 2, none⟩) hl).trans h3⟩
theorem keep6F (N : Nat) (a b c x y z : Int) : KeepP fun w1 => Bx6F w1 N a b c x y z := fun _ _ h hb => h.below hb

theorem Bx6F.put {w : World} {N : Nat} {a b c x y z : Int} (h : Bx6F w N a b c x y z) (p q r : Int) : Bx6F (((w.setCell ⟨N, 0, none⟩ (.int .i64 p)).setCell ⟨N, 1, none⟩ (.int .i64 q)).setCell ⟨N, 2, none⟩ (.int .i64 r)) N p q r x y z := by
  obtain ⟨⟨h0, h1, h2, h3, h4, h5, h6⟩, f0, f1, f2⟩ := h
  have k1 : ∀ u, (w.setCell ⟨N, 0, none⟩ u).cell? ⟨N, 1, none⟩ = some (.int .i64 b) := fun u => (World.cell?_setCell_other _ _ _ _ (by simp)).trans h1
  have k2 : ∀ u v, ((w.setCell ⟨N, 0, none⟩ u).setCell ⟨N, 1, none⟩ v).cell? ⟨N, 2, none⟩ = some (.int .i64 c) := fun u v => (World.cell?_setCell_other _ _ _ _ (by simp)).trans ((World.cell?_setCell_other _ _ _ _ (by simp)).trans h2)
  have far : ∀ i, 2 < i → (((w.setCell ⟨N, 0, none⟩ (.int .i64 p)).setCell ⟨N, 1, none⟩ (.int .i64 q)).setCell ⟨N, 2, none⟩ (.int .i64 r)).cell? ⟨N, i, none⟩ = w.cell? ⟨N, i, none⟩ := fun i hi => by
    rw [World.cell?_setCell_other _ _ _ _ (fun e => by cases e; omega), World.cell?_setCell_other _ _ _ _ (fun e => by cases e; omega), World.cell?_setCell_other _ _ _ _ (fun e => by cases e; omega)]
  refine ⟨⟨?_, ?_, ?_, ?_, ?_, ?_, by simpa using h6⟩, ?_, ?_, ?_⟩
  · rw [World.cell?_setCell_other _ _ _ _ (by simp), World.cell?_setCell_other _ _ _ _ (by simp)]; exact World.cell?_setCell_same _ _ _ h0
  · rw [World.cell?_setCell_other _ _ _ _ (by simp)]; exact World.cell?_setCell_same _ _ _ (k1 _)
  · exact World.cell?_setCell_same _ _ _ (k2 _ _)
  · rw [far 3 (by omega)]; exact h3
  · rw [far 4 (by omega)]; exact h4
  · rw [far 5 (by omega)]; exact h5
  · rw [World.frozen?_setCell, World.frozen?_setCell, World.frozen?_setCell]; exact f0
  · rw [World.frozen?_setCell, World.frozen?_setCell, World.frozen?_setCell]; exact f1
  · rw [World.frozen?_setCell, World.frozen?_setCell, World.frozen?_setCell]; exact f2

/-- The cells of spans. -/
def spCells (L : List Sp) : List Value := L.flatMap fun s => [.int .i64 s.a, .int .i64 s.b, .int .i64 s.c, .int .i64 s.x, .int .i64 s.y, .int .i64 s.z]
theorem spCells_snoc (L : List Sp) (s : Sp) : spCells (L ++ [s]) = spCells L ++ [.int .i64 s.a, .int .i64 s.b, .int .i64 s.c, .int .i64 s.x, .int .i64 s.y, .int .i64 s.z] := by simp [spCells]
theorem spCells_length (L : List Sp) : (spCells L).length = L.length * 6 := by
  induction L with
  | nil => rfl
  | cons r L ih => unfold spCells at *; simp only [List.flatMap_cons, List.length_append, List.length_cons, List.length_nil, ih]; omega

/-- A row of spans of one's own. -/
def OwnS (w : World) (B : Nat) (v : Value) (L : List Sp) : Prop := w.ownsRow B 80 6 v L.length (spCells L)

theorem OwnS.nil (w : World) (B : Nat) : OwnS w B (.slice none 0 0) [] := ⟨rfl, Or.inl ⟨rfl, rfl⟩⟩

theorem OwnS.lt {w : World} {B : Nat} {v : Value} {L : List Sp} (h : OwnS w B v L) {g : Nat} (hg : v.ownBlock = some g) : g < w.heap.size ∧ B ≤ g := by
  rcases h.2 with ⟨rfl, _⟩ | ⟨g', cap, cur, rfl, hB, hgg, _⟩
  · cases hg
  · cases hg
    exact ⟨by rw [Array.getElem?_eq_some_iff] at hgg; exact hgg.1, hB⟩

theorem OwnS.of_block {w w' : World} {B : Nat} {v : Value} {L : List Sp} (h : OwnS w B v L) (hk : ∀ g, v.ownBlock = some g → w'.heap[g]? = w.heap[g]?) : OwnS w' B v L := by
  refine ⟨h.1, ?_⟩
  rcases h.2 with hn | ⟨g, cap, cur, rfl, hB, hgg, r⟩
  · exact Or.inl hn
  · exact Or.inr ⟨g, cap, cur, rfl, hB, (hk g rfl).trans hgg, r⟩

theorem OwnS.below {w w' : World} {B : Nat} {v : Value} {L : List Sp} (h : OwnS w B v L) (hb : Below w.heap.size w w') : OwnS w' B v L := h.of_block fun g hg => hb.block g (h.lt hg).1
theorem keepOwn (B : Nat) (v : Value) (L : List Sp) : KeepP fun w1 => OwnS w1 B v L := fun _ _ h hb => h.below hb

theorem OwnS.set {w : World} {B N : Nat} {v : Value} {L : List Sp} (h : OwnS w B v L) (hN : v.ownBlock ≠ some N) (i : Nat) (u : Value) : OwnS (w.setCell ⟨N, i, none⟩ u) B v L := h.of_block fun g hg => by
  have hne : N ≠ g := fun e => hN (by rw [e]; exact hg)
  exact Below.heap_setCell _ _ _ _ (Ne.symm hne)

/-- What a row's growing leaves of a span's variable. -/
theorem Bx6F.grown {w w' : World} {N : Nat} {a b c x y z : Int} {row : Option Nat} (h : Bx6F w N a b c x y z) (hg : w.grownBy w' row) (hN : row ≠ some N) : Bx6F w' N a b c x y z := by
  obtain ⟨⟨h0, h1, h2, h3, h4, h5, h6⟩, f0, f1, f2⟩ := h
  have hbl := hg.block N h6 (fun e => hN e.symm)
  have q : ∀ i, w'.cell? ⟨N, i, none⟩ = w.cell? ⟨N, i, none⟩ := fun i => World.cell?_of_block (w := w) hbl
  have r : ∀ i, w'.frozen? ⟨N, i, none⟩ = w.frozen? ⟨N, i, none⟩ := fun i => World.frozen?_of_block (w := w) hbl
  exact ⟨⟨by rw [q]; exact h0, by rw [q]; exact h1, by rw [q]; exact h2, by rw [q]; exact h3, by rw [q]; exact h4, by rw [q]; exact h5, Nat.lt_of_lt_of_le h6 hg.size⟩, by rw [r]; exact f0, by rw [r]; exact f1, by rw [r]; exact f2⟩
theorem Bx6.grown {w w' : World} {N : Nat} {a b c x y z : Int} {row : Option Nat} (h : Bx6 w N a b c x y z) (hg : w.grownBy w' row) (hN : row ≠ some N) : Bx6 w' N a b c x y z := by
  obtain ⟨h0, h1, h2, h3, h4, h5, h6⟩ := h
  have hbl := hg.block N h6 (fun e => hN e.symm)
  have q : ∀ i, w'.cell? ⟨N, i, none⟩ = w.cell? ⟨N, i, none⟩ := fun i => World.cell?_of_block (w := w) hbl
  exact ⟨by rw [q]; exact h0, by rw [q]; exact h1, by rw [q]; exact h2, by rw [q]; exact h3, by rw [q]; exact h4, by rw [q]; exact h5, Nat.lt_of_lt_of_le h6 hg.size⟩
end Go.Proofs.YtjpmlagofcgheaaGreatDoor
namespace Go.Proofs.YtjpmlagofcgheaaGreatDoor
open Go.RowKit
set_option maxRecDepth 100000

def sliceLen : Value → Nat
  | .slice _ n _ => n
  | _ => 0

theorem infoSpan : (Tryz.prog.info? 80).map (fun i => (i.zero, i.size, i.bytes)) = some (some (.agg #[.int .i64 0, .int .i64 0, .int .i64 0, .int .i64 0, .int .i64 0, .int .i64 0]), 6, 48) := by kernel_rfl

/-- The end of a list's first span lies there. -/
def Hi3 (w : World) (g o : Nat) (h : Int) : Prop := w.cell? ⟨g, o + 3, none⟩ = some (.int .i64 (atA h)) ∧ w.cell? ⟨g, o + 4, none⟩ = some (.int .i64 (atB h)) ∧ w.cell? ⟨g, o + 5, none⟩ = some (.int .i64 (atC h)) ∧ g < w.heap.size
theorem keepHi (g o : Nat) (h : Int) : KeepP fun w1 => Hi3 w1 g o h := fun _ _ hh hb =>
  ⟨(hb.cell (p := ⟨g, o + 3, none⟩) hh.2.2.2).trans hh.1, (hb.cell (p := ⟨g, o + 4, none⟩) hh.2.2.2).trans hh.2.1, (hb.cell (p := ⟨g, o + 5, none⟩) hh.2.2.2).trans hh.2.2.1, Nat.lt_of_lt_of_le hh.2.2.2 hb.size⟩
theorem Hi3.of {w : World} {g o : Nat} {p : Int × Int} (h : SpAt w g (o + 0 * 6) (spR p)) (hg : g < w.heap.size) : Hi3 w g o p.2 := by
  obtain ⟨_, _, _, h3, h4, h5⟩ := h.first
  exact ⟨h3, h4, h5, hg⟩

theorem size1 (w : World) (o : Obj) : (w.alloc o).heap.size = w.heap.size + 1 := by simp

/-- A span is put behind a row. -/
theorem wp_app {w wx : World} {uo : Value} {o1 : Rg} {N : Nat} {a b c x y z : Int} {ops : Array Oper} {rest : List Oper} {o : Oper} {f : Act} {Q : Exit → Act → World → Prop} (hgd : o.guard = none) (s t : Operand)
    (ho : o.op = .call { callee := .builtin .append, args := #[s, t], argTypes := #[39, 39] }) (hs : f.eval s = uo) (p : Int × Int)
    (hK : Below w.heap.size w wx ∧ Bx6F wx N a b c x y z ∧ OwnS wx w.heap.size uo (o1.map spR)) {M : Nat} (hM : wx.heap.size = M) (hx : f.eval t = .slice (some ⟨M, 0, none⟩) 1 1) (hne : uo.ownBlock ≠ some N) (hlen : o1.length + 1 ≤ 1000000000000)
    (h : ∀ v1 w1, (Below w.heap.size w w1 ∧ Bx6F w1 N a b c x y z ∧ OwnS w1 w.heap.size v1 ((o1 ++ [p]).map spR)) → v1.ownBlock ≠ some N → (∀ M i j k l m n, uo.ownBlock ≠ some M → Bx6 wx M i j k l m n → Bx6 w1 M i j k l m n) → wpList Tryz.prog ops Q rest (f.put o.dst v1) w1) :
    wpList Tryz.prog ops Q (o :: rest) f (wx.alloc (.cells #[.int .i64 (atA p.1), .int .i64 (atB p.1), .int .i64 (atC p.1), .int .i64 (atA p.2), .int .i64 (atB p.2), .int .i64 (atC p.2)] 80)) := by
  subst hM
  obtain ⟨i0, hi, hz0, hz1, hz2⟩ : ∃ i, Tryz.prog.info? 80 = some i ∧ i.zero = some (.agg #[.int .i64 0, .int .i64 0, .int .i64 0, .int .i64 0, .int .i64 0, .int .i64 0]) ∧ i.size = 6 ∧ i.bytes = 48 := by
    have := infoSpan
    cases hq : Tryz.prog.info? 80 with
    | none => rw [hq] at this; cases this
    | some i =>
      rw [hq] at this
      simp only [Option.map_some, Option.some.injEq, Prod.mk.injEq] at this
      exact ⟨i, rfl, this.1, this.2.1, this.2.2⟩
  have hob : OwnS (wx.alloc (.cells #[.int .i64 (atA p.1), .int .i64 (atB p.1), .int .i64 (atC p.1), .int .i64 (atA p.2), .int .i64 (atB p.2), .int .i64 (atC p.2)] 80)) w.heap.size uo (o1.map spR) := hK.2.2.below (boxB _ _)
  have hsz : (wx.alloc (.cells #[.int .i64 (atA p.1), .int .i64 (atB p.1), .int .i64 (atC p.1), .int .i64 (atA p.2), .int .i64 (atB p.2), .int .i64 (atC p.2)] 80)).heap.size = wx.heap.size + 1 := by simp
  have hwx := hK.1.size
  refine wpList_append_own_at _ hgd s t 39 ho w.heap.size 80 i0 _ 6 48 Tryz.underlying39 hi hz0 hz1 hz2 rfl (by decide) uo _ _ hs hob ⟨wx.heap.size, 0, none⟩ 1 1 [.int .i64 (atA p.1), .int .i64 (atB p.1), .int .i64 (atC p.1), .int .i64 (atA p.2), .int .i64 (atB p.2), .int .i64 (atC p.2)] hx rfl
    (World.news_of_block (cs := #[.int .i64 (atA p.1), .int .i64 (atB p.1), .int .i64 (atC p.1), .int .i64 (atA p.2), .int .i64 (atB p.2), .int .i64 (atC p.2)]) (t := 80) (fr := (0, 0)) (by show (wx.heap.push _)[wx.heap.size]? = _; rw [Array.getElem?_push, if_pos rfl])) (by simp [Value.oneCell']) (by unfold maxLen; rw [List.length_map]; omega) (by rw [List.length_map]; omega) (by omega) ?_
  intro v1 w1 hown1 hg1 _ hat
  have hbw : Below w.heap.size w w1 := (below_then hK.1 (boxB _ _)).grown hg1 (by omega) (fun k hk => (hK.2.2.lt hk).2)
  refine h v1 w1 ⟨hbw, (hK.2.1.below (boxB _ _)).grown hg1 hne, ?_⟩ ?_ ?_
  · unfold OwnS
    rw [List.map_append, List.map_singleton, spCells_snoc, List.length_append]
    exact hown1
  · rcases hat with e | e
    · rw [e]; exact hne
    · rw [e, hsz]
      intro e2
      have h6 := hK.2.1.1.2.2.2.2.2.2
      have := Option.some.inj e2
      omega
  · intro M i j k l m n hM hbx
    exact (hbx.below (boxB _ _)).grown hg1 hM

end Go.Proofs.YtjpmlagofcgheaaGreatDoor
