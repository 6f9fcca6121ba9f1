/- same of the statements at two equal lists; the document's All; known. -/
import Derived.Test.YtkmgfemhfibikaaGreatDoorPr2
namespace Go.Proofs.YtkmgfemhfibikaaGreatDoor
open Go.RowKit
set_option maxRecDepth 100000

theorem eqInV (p q r : Int) (w : World) : (Op.equalIn 9999 35 (.agg #[.int .i64 p, .int .i64 q, .int .i64 r]) (.agg #[.int .i64 p, .int .i64 q, .int .i64 r])).run Tryz.prog w = .ok true w := by
  have u3 := Tryz.underlying3
  have a3 := Tryz.isAgg3
  have z3 := Tryz.sizeOf3
  rw [show (9999 : Nat) = 9998 + 1 from rfl, run_equalIn_agg w 9998 35 _ _ (by kernel_rfl) (by kernel_rfl)]
  simp only [Program.fieldsOf, Tryz.underlying35]
  go_simp

theorem neqSp (a b c x y z : Int) (w : World) : (binOp .neq 37 (.agg #[.int .i64 a, .int .i64 b, .int .i64 c, .int .i64 x, .int .i64 y, .int .i64 z]) (.agg #[.int .i64 a, .int .i64 b, .int .i64 c, .int .i64 x, .int .i64 y, .int .i64 z])).run Tryz.prog w = .ok (.bool false) w := by
  have av := Tryz.isAgg35
  have zv := Tryz.sizeOf35
  have h1 := eqInV a b c w
  have h2 := eqInV x y z w
  rw [run_neq_struct, show (10000 : Nat) = 9999 + 1 from rfl, run_equalIn_agg w 9999 37 _ _ (by kernel_rfl) (by kernel_rfl)]
  simp only [Program.fieldsOf, Tryz.underlying37]
  go_simp
theorem guardSp (op : BinOp) (x y : Operand) (xs ys : Array Value) (w : World) : (eqGuard op 37 x y (.agg xs) (.agg ys)).run Tryz.prog w = .ok () w := run_eqGuard_agg w op 37 x y xs ys (by kernel_rfl)

set_option maxHeartbeats 1600000 in
theorem same_walk (L : List Sp) (ga oa ca gb ob cb : Nat) (w : World) (hlen : L.length ≤ 1000000000000) (hga : ga < w.heap.size) (hgb : gb < w.heap.size) (hla : ∀ i (h : i < L.length), SpAt w ga (oa + i * 6) L[i]) (hlb : ∀ i (h : i < L.length), SpAt w gb (ob + i * 6) L[i]) :
    Calls Tryz.prog 7 #[.slice (some ⟨ga, oa, none⟩) L.length ca, .slice (some ⟨gb, ob, none⟩) L.length cb] w fun e w' => e = .returned (.bool true) ∧ Below w.heap.size w w' := by
  have HL : Hid (∀ w1, Below w.heap.size w w1 → ∀ i (h : i < L.length), SpIn w1 ga (oa + i * 6) L[i] ∧ SpIn w1 gb (ob + i * 6) L[i]) := fun w1 hb i hi => ⟨⟨(hla i hi).below hb hga, Nat.lt_of_lt_of_le hga hb.size⟩, ⟨(hlb i hi).below hb hgb, Nat.lt_of_lt_of_le hgb hb.size⟩⟩
  clear hla hlb
  go_enter Tryz.func7, Tryz.ntmps7
  go_wp2_with fail
  go_loopw [5] (fun i wr => ∃ k : Nat, k ≤ L.length ∧ i = .int .i64 k ∧ Below w.heap.size w wr) (fun i _ => L.length - (intOf i).toNat)
  case atStart => exact ⟨0, Nat.zero_le _, rfl, Below.refl _ _⟩
  case round =>
    obtain ⟨k, hk, rfl, hb⟩ := hrel
    have HB := hide3 hb
    by_cases hlt : k < L.length
    · have HO : Hid (Below w.heap.size w wr ∧ SpIn wr ga (oa + k * 6) L[k] ∧ SpIn wr gb (ob + k * 6) L[k]) := ⟨hb, HL.out wr hb k hlt⟩
      have HK : Hid (KeepP fun w1 => Below w.heap.size w w1 ∧ SpIn w1 ga (oa + k * 6) L[k] ∧ SpIn w1 gb (ob + k * 6) L[k]) := (keepBelow w).and ((keepSp _ _ _).and (keepSp _ _ _))
      generalize L[k] = s at *
      obtain ⟨a, b, c, x, y, z⟩ := s
      have he := neqSp a b c x y z
      have hgd := guardSp
      clear hb
      go_wp2_with fail
      refine wp_region_keep HK.out (by kernel_rfl) (by kernel_rfl) (by first | exact HO.out | exact HK.out.drew HO.out) ?_
      intro C hin hout
      have HIN := hide3 hin
      have HOUT := hide3 hout
      clear hin hout HO
      repeat
        (with_reducible refine wpQuiet_step (fun K hK => ?_)
         go_simp
         first
           | (refine hK _ ?_; clear hK K)
           | (apply Exists.intro; refine ⟨fun w1 hC => ?_, hK _ ?_⟩; (focus ((first | (exact rfl) | (obtain ⟨hb1, ⟨⟨p0, p1, p2, p3, p4, p5⟩, p6⟩, ⟨⟨q0, q1, q2, q3, q4, q5⟩, q6⟩⟩ := HOUT.out w1 hC; clear hC; go_simp; first | done | exact rfl)); done)); clear hK K))
      refine wpQuiet_nil ?_
      intro wn hC
      have HO := hide3 (HOUT.out _ hC)
      clear hC HIN HOUT C
      obtain ⟨hb1, ⟨⟨p0, p1, p2, p3, p4, p5⟩, p6⟩, ⟨⟨q0, q1, q2, q3, q4, q5⟩, q6⟩⟩ := HO.out
      go_wp2
      exact ⟨⟨k + 1, by omega, by go_num, HO.out.1⟩, by simp [intOf]; omega⟩
    · have hke : k = L.length := by omega
      subst hke
      clear hb
      go_wp2
      go_ret
      exact ⟨rfl, HB.out⟩

theorem same_nil (ad bd : Option Addr) (ca cb : Nat) (w : World) :
    Calls Tryz.prog 7 #[.slice ad 0 ca, .slice bd 0 cb] w fun e w' => e = .returned (.bool true) ∧ Below w.heap.size w w' := by
  go_enter Tryz.func7, Tryz.ntmps7
  go_wp2_with fail
  go_loop [5] (fun i => i = .int .i64 0) (fun _ => 0)
  case atStart => rfl
  case round =>
    subst hrel
    go_wp2
    go_ret
    exact ⟨rfl, Below.refl _ _⟩

theorem same_yes {L : List Sp} {va vb : Value} {w : World} (ha : SpansAt w va L) (hb : SpansAt w vb L) (hlen : L.length ≤ 1000000000000) :
    Calls Tryz.prog 7 #[va, vb] w fun e w' => e = .returned (.bool true) ∧ Below w.heap.size w w' := by
  obtain ⟨ad, ca, rfl, hl⟩ := ha
  obtain ⟨bd, cb, rfl, hm⟩ := hb
  rcases hl with rfl | ⟨ga, oa, rfl, hga, hla⟩
  · exact same_nil _ _ _ _ w
  · rcases hm with rfl | ⟨gb, ob, rfl, hgb, hlb⟩
    · exact same_nil _ _ _ _ w
    · exact same_walk L ga oa ca gb ob cb w hlen hga hgb hla hlb

theorem rat_any (n : Int) (w : World) :
    Calls Tryz.prog 42 #[.int .i64 n] w fun e w' => e = .returned (.agg #[.int .i64 (atA n), .int .i64 (atB n), .int .i64 (atC n)]) ∧ Below w.heap.size w w' := by
  have HA : Hid (∀ w1, Calls Tryz.prog 62 #[.int .i64 n] w1 fun e w' => e = .returned (.tuple #[.agg #[.int .i64 (atA n), .int .i64 (atB n), .int .i64 (atC n)], .bool (hasV n)]) ∧ Below w1.heap.size w1 w') := rAt_any n
  go_enter Tryz.func42, Tryz.ntmps42
  go_wp2_with (go_at_call 62; refine (HA.out _).mono ?_; rintro e w1 ⟨rfl, hb⟩; have HB := hide3 hb; obtain ⟨k0, k1, k2, k3, k4, k5, k6⟩ := boxAt (N := w.heap.size) rfl (below_then hb (boxB w1 (.cells #[.int .i64 (atA n), .int .i64 (atB n), .int .i64 (atC n)] 35))); clear hb)
  obtain ⟨s0, s1, s2⟩ := setV k0 k1 k2
  try simp only [Exit.inBlock, Exit.then]
  refine bodyPost_ret (by simp [results, Tryz.results42, s0, s1, s2, go_sem]; try rfl) rfl ?_
  exact ⟨rfl, below_setV (Nat.le_refl _) (below_then (below_then (boxB _ _) HB.out) (boxB _ _))⟩
end Go.Proofs.YtkmgfemhfibikaaGreatDoor
