/- Lists of spans in memory; the walks of May and In of package span. -/
import Derived.Test.YtkmgfemhfibikaaGreatDoorSp1
import Derived.Deep.RegionHeld3
import Derived.Deep.RegionWith
import Derived.Deep.QuietTactic
import Derived.BigQuiet
namespace Go.Proofs.YtkmgfemhfibikaaGreatDoor
open Go.RowKit
set_option maxRecDepth 100000

/-- A span: six numbers. -/
structure Sp where
  a : Int
  b : Int
  c : Int
  x : Int
  y : Int
  z : Int

/-- It lies at a place in memory. -/
def SpAt (w : World) (g o : Nat) (s : Sp) : Prop := w.cell? ⟨g, o, none⟩ = some (.int .i64 s.a) ∧ w.cell? ⟨g, o + 1, none⟩ = some (.int .i64 s.b) ∧ w.cell? ⟨g, o + 1 + 1, none⟩ = some (.int .i64 s.c) ∧
  w.cell? ⟨g, o + 1 + 1 + 1, none⟩ = some (.int .i64 s.x) ∧ w.cell? ⟨g, o + 1 + 1 + 1 + 1, none⟩ = some (.int .i64 s.y) ∧ w.cell? ⟨g, o + 1 + 1 + 1 + 1 + 1, none⟩ = some (.int .i64 s.z)

/-- A list of spans lies there. -/
def SpansAt (w : World) (v : Value) (L : List Sp) : Prop := ∃ ad cap, v = .slice ad L.length cap ∧ (L = [] ∨ ∃ g o, ad = some ⟨g, o, none⟩ ∧ g < w.heap.size ∧ ∀ i (h : i < L.length), SpAt w g (o + i * 6) L[i])

/-- What May asks of the span at a place in a list. -/
def okAt (L : List Sp) (i : Nat) : Bool := match L[i]? with
  | none => true
  | some s => maySp s.a s.b s.c s.x s.y s.z && (match i with
    | 0 => true
    | j + 1 => match L[j]? with
      | none => true
      | some p => apartV p.x p.y p.z s.a s.b s.c)
/-- A list of spans may be. -/
def mayL (L : List Sp) : Bool := decide (L.length ≤ 64) && (List.range L.length).all (okAt L)

theorem SpAt.below {w w' : World} {g o B : Nat} {s : Sp} (h : SpAt w g o s) (hb : Below B w w') (hg : g < B) : SpAt w' g o s := by
  obtain ⟨h0, h1, h2, h3, h4, h5⟩ := h
  have q : ∀ i, w'.cell? ⟨g, i, none⟩ = w.cell? ⟨g, i, none⟩ := fun i => hb.cell (p := ⟨g, i, none⟩) hg
  exact ⟨by rw [q]; exact h0, by rw [q]; exact h1, by rw [q]; exact h2, by rw [q]; exact h3, by rw [q]; exact h4, by rw [q]; exact h5⟩

/-- The same, in a block that is there. -/
def SpIn (w : World) (g o : Nat) (s : Sp) : Prop := SpAt w g o s ∧ g < w.heap.size
theorem keepSp (g o : Nat) (s : Sp) : KeepP fun w1 => SpIn w1 g o s := fun _ _ h hb => ⟨h.1.below hb h.2, Nat.lt_of_lt_of_le h.2 hb.size⟩

theorem SpansAt.below {w w' : World} {v : Value} {L : List Sp} (h : SpansAt w v L) (hb : Below w.heap.size w w') : SpansAt w' v L := by
  obtain ⟨ad, cap, hv, hl⟩ := h
  refine ⟨ad, cap, hv, hl.imp id ?_⟩
  rintro ⟨g, o, ha, hg, hs⟩
  exact ⟨g, o, ha, Nat.lt_of_lt_of_le hg hb.size, fun i hi => (hs i hi).below hb hg⟩

/-- The same, at a list's first place. -/
theorem SpAt.first {w : World} {g o : Nat} {s : Sp} (h : SpAt w g (o + 0 * 6) s) : w.cell? ⟨g, o, none⟩ = some (.int .i64 s.a) ∧ w.cell? ⟨g, o + 1, none⟩ = some (.int .i64 s.b) ∧ w.cell? ⟨g, o + 2, none⟩ = some (.int .i64 s.c) ∧
  w.cell? ⟨g, o + 3, none⟩ = some (.int .i64 s.x) ∧ w.cell? ⟨g, o + 4, none⟩ = some (.int .i64 s.y) ∧ w.cell? ⟨g, o + 5, none⟩ = some (.int .i64 s.z) := by
  simp only [Nat.zero_mul, Nat.add_zero] at h
  exact h

theorem wrap_small {n : Int} (h0 : 0 ≤ n) (h1 : n ≤ 1000000000000) : IntKind.i64.wrap n = n := by
  go_arith

theorem may_no {L : List Sp} (ht : mayL L = (List.range L.length).all (okAt L)) {k : Nat} (hk : k < L.length) (h : okAt L k = false) : mayL L = false := by
  rw [ht, Bool.eq_false_iff]
  intro ha
  rw [List.all_eq_true] at ha
  have := ha k (List.mem_range.2 hk)
  rw [h] at this; cases this
theorem may_yes {L : List Sp} (ht : mayL L = (List.range L.length).all (okAt L)) (h : ∀ j, j < L.length → okAt L j = true) : mayL L = true := by
  rw [ht, List.all_eq_true]
  exact fun k hk => h k (List.mem_range.1 hk)

set_option maxHeartbeats 3200000 in
theorem sMay_walk (L : List Sp) (g o cap : Nat) (w : World) (hlen : L.length ≤ 64) (hg : g < w.heap.size) (hl : ∀ i (h : i < L.length), SpAt w g (o + i * 6) L[i]) :
    Calls Tryz.prog 32 #[.slice (some ⟨g, o, none⟩) L.length cap] w fun e w' => e = .returned (.bool (mayL L)) ∧ Below w.heap.size w w' := by
  have HL : Hid (∀ w1, Below w.heap.size w w1 → ∀ i (h : i < L.length), SpAt w1 g (o + i * 6) L[i]) := fun w1 hb i hi => (hl i hi).below hb hg
  clear hl
  have HT : Hid (mayL L = (List.range L.length).all (okAt L)) := by unfold Hid mayL; simp [hlen]
  have h64 : decide ((64 : Int) < (L.length : Int)) = false := decide_eq_false (by omega)
  go_enter Tryz.func32, Tryz.ntmps32
  go_wp2_with fail
  go_loopw [10] (fun i wr => ∃ k : Nat, k ≤ L.length ∧ i = .int .i64 k ∧ Below w.heap.size w wr ∧ ∀ j, j < k → okAt L j = true) (fun i _ => L.length - (intOf i).toNat)
  case atStart => exact ⟨0, Nat.zero_le _, rfl, Below.refl _ _, fun j hj => by omega⟩
  case round =>
    obtain ⟨k, hk, rfl, hb, hok⟩ := hrel
    by_cases hlt : k < L.length
    · have hs := HL.out wr hb k hlt
      have HOK := hide3 hok
      have HB := hide3 hb
      have HS : Hid (L[k]? = some L[k]) := List.getElem?_eq_getElem hlt
      generalize L[k] = s at *
      obtain ⟨a, b, c, x, y, z⟩ := s
      have HM : Hid (∀ w1, Calls Tryz.prog 52 #[.agg #[.int .i64 a, .int .i64 b, .int .i64 c, .int .i64 x, .int .i64 y, .int .i64 z]] w1 fun e w' => e = .returned (.bool (maySp a b c x y z)) ∧ Below w1.heap.size w1 w') := maySpan_any a b c x y z
      clear hok
      cases k with
      | zero =>
        have HO : Hid (Below w.heap.size w (wr.alloc (.cells #[.int .i64 a, .int .i64 b, .int .i64 c, .int .i64 x, .int .i64 y, .int .i64 z] 37)) ∧ Bx6 (wr.alloc (.cells #[.int .i64 a, .int .i64 b, .int .i64 c, .int .i64 x, .int .i64 y, .int .i64 z] 37)) wr.heap.size a b c x y z) := ⟨below_then hb (boxB _ _), Bx6.new rfl _ _ _ _ _ _⟩
        have HK : Hid (KeepP fun w1 => Below w.heap.size w w1 ∧ Bx6 w1 wr.heap.size a b c x y z) := (keepBelow w).and (keep6 _ _ _ _ _ _ _)
        obtain ⟨c0, c1, c2, c3, c4, c5⟩ := hs.first
        simp only at c0 c1 c2 c3 c4 c5
        clear hs hb
        cases hm : maySp a b c x y z
        · have HF : Hid (mayL L = false) := may_no HT.out hlt (by unfold okAt; rw [HS.out]; simp [hm])
          rw [hm] at HM
          go_wp2_with fail
          refine wp_region_keep HK.out (by kernel_rfl) (by kernel_rfl) (by first | exact HO.out | exact HK.out.drew HO.out) ?_
          intro C hin hout
          have HIN := hide3 hin
          have HOUT := hide3 hout
          clear hin hout HO
          repeat
            (with_reducible refine wpQuiet_step (fun K hK => ?_)
             go_simp
             first
               | (refine hK _ ?_; clear hK K)
               | (apply Exists.intro; refine ⟨fun w1 hC => ?_, hK _ ?_⟩; (focus ((first | (go_at_call 52; with_reducible exact callC HIN.out HOUT.out HK.out HM.out w1 hC) | (exact rfl) | (obtain ⟨hb1, k0, k1, k2, k3, k4, k5, k6⟩ := HOUT.out w1 hC; clear hC; go_simp; first | done | exact rfl)); done)); clear hK K))
          refine wpQuiet_nil ?_
          intro wn hC
          have HO := hide3 (HOUT.out _ hC)
          clear hC HIN HOUT C
          obtain ⟨hb1, k0, k1, k2, k3, k4, k5, k6⟩ := HO.out
          go_wp2
          go_ret
          exact ⟨ret_bool HF.out.symm, HO.out.1⟩
        · have HF : Hid (okAt L 0 = true) := by unfold Hid okAt; rw [HS.out]; simp [hm]
          rw [hm] at HM
          go_wp2_with fail
          refine wp_region_keep HK.out (by kernel_rfl) (by kernel_rfl) (by first | exact HO.out | exact HK.out.drew HO.out) ?_
          intro C hin hout
          have HIN := hide3 hin
          have HOUT := hide3 hout
          clear hin hout HO
          repeat
            (with_reducible refine wpQuiet_step (fun K hK => ?_)
             go_simp
             first
               | (refine hK _ ?_; clear hK K)
               | (apply Exists.intro; refine ⟨fun w1 hC => ?_, hK _ ?_⟩; (focus ((first | (go_at_call 52; with_reducible exact callC HIN.out HOUT.out HK.out HM.out w1 hC) | (exact rfl) | (obtain ⟨hb1, k0, k1, k2, k3, k4, k5, k6⟩ := HOUT.out w1 hC; clear hC; go_simp; first | done | exact rfl)); done)); clear hK K))
          refine wpQuiet_nil ?_
          intro wn hC
          have HO := hide3 (HOUT.out _ hC)
          clear hC HIN HOUT C
          obtain ⟨hb1, k0, k1, k2, k3, k4, k5, k6⟩ := HO.out
          go_wp2
          exact ⟨⟨1, by omega, rfl, HO.out.1, fun j hj => by rw [show j = 0 by omega]; exact HF.out⟩, by simp [intOf]; omega⟩
      | succ j =>
        have hp := HL.out wr hb j (by omega)
        have HP : Hid (L[j]? = some (L[j]'(by omega))) := List.getElem?_eq_getElem (by omega)
        generalize L[j]'(by omega) = p at *
        obtain ⟨p, q, r, u, v, t⟩ := p
        have HO : Hid (Below w.heap.size w (wr.alloc (.cells #[.int .i64 a, .int .i64 b, .int .i64 c, .int .i64 x, .int .i64 y, .int .i64 z] 37)) ∧ Bx6 (wr.alloc (.cells #[.int .i64 a, .int .i64 b, .int .i64 c, .int .i64 x, .int .i64 y, .int .i64 z] 37)) wr.heap.size a b c x y z ∧ SpIn (wr.alloc (.cells #[.int .i64 a, .int .i64 b, .int .i64 c, .int .i64 x, .int .i64 y, .int .i64 z] 37)) g (o + j * 6) ⟨p, q, r, u, v, t⟩) := ⟨below_then hb (boxB _ _), Bx6.new rfl _ _ _ _ _ _, keepSp _ _ _ _ _ ⟨hp, Nat.lt_of_lt_of_le hg hb.size⟩ (boxB _ _)⟩
        have HK : Hid (KeepP fun w1 => Below w.heap.size w w1 ∧ Bx6 w1 wr.heap.size a b c x y z ∧ SpIn w1 g (o + j * 6) ⟨p, q, r, u, v, t⟩) := (keepBelow w).and ((keep6 _ _ _ _ _ _ _).and (keepSp _ _ _))
        have HA : Hid (∀ w1, Calls Tryz.prog 53 #[.agg #[.int .i64 p, .int .i64 q, .int .i64 r, .int .i64 u, .int .i64 v, .int .i64 t], .agg #[.int .i64 a, .int .i64 b, .int .i64 c, .int .i64 x, .int .i64 y, .int .i64 z]] w1 fun e w' => e = .returned (.bool (apartV u v t a b c)) ∧ Below w1.heap.size w1 w') := apart_any p q r u v t a b c x y z
        obtain ⟨c0, c1, c2, c3, c4, c5⟩ := hs
        simp only at c0 c1 c2 c3 c4 c5
        have hj2 : (j : Int) < (L.length : Int) := by omega
        have hwj : IntKind.i64.wrap (j : Int) = (j : Int) := wrap_small (by omega) (by omega)
        clear hb hp
        cases hm : maySp a b c x y z
        · have HF : Hid (mayL L = false) := may_no HT.out hlt (by unfold okAt; rw [HS.out]; simp [hm])
          rw [hm] at HM
          go_wp2_with fail
          refine wp_region_keep HK.out (by kernel_rfl) (by kernel_rfl) (by first | exact HO.out | exact HK.out.drew HO.out) ?_
          intro C hin hout
          have HIN := hide3 hin
          have HOUT := hide3 hout
          clear hin hout HO
          repeat
            (with_reducible refine wpQuiet_step (fun K hK => ?_)
             go_simp
             first
               | (refine hK _ ?_; clear hK K)
               | (apply Exists.intro; refine ⟨fun w1 hC => ?_, hK _ ?_⟩; (focus ((first | (go_at_call 52; with_reducible exact callC HIN.out HOUT.out HK.out HM.out w1 hC) | (exact rfl) | (obtain ⟨hb1, ⟨k0, k1, k2, k3, k4, k5, k6⟩, ⟨p0, p1, p2, p3, p4, p5⟩, p6⟩ := HOUT.out w1 hC; clear hC; go_simp; first | done | exact rfl)); done)); clear hK K))
          refine wpQuiet_nil ?_
          intro wn hC
          have HO := hide3 (HOUT.out _ hC)
          clear hC HIN HOUT C
          obtain ⟨hb1, ⟨k0, k1, k2, k3, k4, k5, k6⟩, ⟨p0, p1, p2, p3, p4, p5⟩, p6⟩ := HO.out
          go_wp2
          go_ret
          exact ⟨ret_bool HF.out.symm, HO.out.1⟩
        · rw [hm] at HM
          cases ha : apartV u v t a b c
          · have HF : Hid (mayL L = false) := may_no HT.out hlt (by unfold okAt; rw [HS.out]; simp only; rw [HP.out]; simp [ha])
            rw [ha] at HA
            go_wp2_with fail
            refine wp_region_keep HK.out (by kernel_rfl) (by kernel_rfl) (by first | exact HO.out | exact HK.out.drew HO.out) ?_
            intro C hin hout
            have HIN := hide3 hin
            have HOUT := hide3 hout
            clear hin hout HO
            repeat
              (with_reducible refine wpQuiet_step (fun K hK => ?_)
               go_simp
               first
                 | (refine hK _ ?_; clear hK K)
                 | (apply Exists.intro; refine ⟨fun w1 hC => ?_, hK _ ?_⟩; (focus ((first | (go_at_call 52; with_reducible exact callC HIN.out HOUT.out HK.out HM.out w1 hC) | (go_at_call 53; with_reducible exact callC HIN.out HOUT.out HK.out HA.out w1 hC) | (exact rfl) | (obtain ⟨hb1, ⟨k0, k1, k2, k3, k4, k5, k6⟩, ⟨p0, p1, p2, p3, p4, p5⟩, p6⟩ := HOUT.out w1 hC; clear hC; go_simp; first | done | exact rfl)); done)); clear hK K))
            refine wpQuiet_nil ?_
            intro wn hC
            have HO := hide3 (HOUT.out _ hC)
            clear hC HIN HOUT C
            obtain ⟨hb1, ⟨k0, k1, k2, k3, k4, k5, k6⟩, ⟨p0, p1, p2, p3, p4, p5⟩, p6⟩ := HO.out
            go_wp2
            go_ret
            exact ⟨ret_bool HF.out.symm, HO.out.1⟩
          · have HF : Hid (okAt L (j + 1) = true) := by unfold Hid okAt; rw [HS.out]; simp only; rw [HP.out]; simp [ha, hm]
            rw [ha] at HA
            go_wp2_with fail
            refine wp_region_keep HK.out (by kernel_rfl) (by kernel_rfl) (by first | exact HO.out | exact HK.out.drew HO.out) ?_
            intro C hin hout
            have HIN := hide3 hin
            have HOUT := hide3 hout
            clear hin hout HO
            repeat
              (with_reducible refine wpQuiet_step (fun K hK => ?_)
               go_simp
               first
                 | (refine hK _ ?_; clear hK K)
                 | (apply Exists.intro; refine ⟨fun w1 hC => ?_, hK _ ?_⟩; (focus ((first | (go_at_call 52; with_reducible exact callC HIN.out HOUT.out HK.out HM.out w1 hC) | (go_at_call 53; with_reducible exact callC HIN.out HOUT.out HK.out HA.out w1 hC) | (exact rfl) | (obtain ⟨hb1, ⟨k0, k1, k2, k3, k4, k5, k6⟩, ⟨p0, p1, p2, p3, p4, p5⟩, p6⟩ := HOUT.out w1 hC; clear hC; go_simp; first | done | exact rfl)); done)); clear hK K))
            refine wpQuiet_nil ?_
            intro wn hC
            have HO := hide3 (HOUT.out _ hC)
            clear hC HIN HOUT C
            obtain ⟨hb1, ⟨k0, k1, k2, k3, k4, k5, k6⟩, ⟨p0, p1, p2, p3, p4, p5⟩, p6⟩ := HO.out
            go_wp2
            refine ⟨⟨j + 1 + 1, by omega, by go_num, HO.out.1, fun i hi => ?_⟩, by simp [intOf]; omega⟩
            rcases Nat.lt_or_ge i (j + 1) with h | h
            · exact HOK.out i h
            · rw [show i = j + 1 by omega]; exact HF.out
    · have hke : k = L.length := by omega
      subst hke
      have HF : Hid (mayL L = true) := may_yes HT.out hok
      have HB := hide3 hb
      clear hok hb
      go_wp2
      go_ret
      exact ⟨ret_bool HF.out.symm, HB.out⟩
end Go.Proofs.YtkmgfemhfibikaaGreatDoor
