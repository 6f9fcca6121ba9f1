/- The document's ends and wanted. -/
import Derived.Test.YtkmgfemhfibikaaGreatDoorFd2
import Derived.Test.YtkmgfemhfibikaaGreatDoorRf2
namespace Go.Proofs.YtkmgfemhfibikaaGreatDoor
open Go.RowKit
set_option maxRecDepth 100000

/-- A span's places. -/
def rkS (s : Sp) : Int × Int := (rankV s.a s.b s.c, rankV s.x s.y s.z)
theorem has_rk (L : List Sp) (n : Int) : L.any (hasN n) = hasQ (L.map rkS) n := by
  unfold hasQ
  rw [List.any_map]
  rfl
theorem okq_rk (L : List Sp) : OkQ (L.map rkS) := by
  intro q hq
  obtain ⟨s, _, rfl⟩ := List.mem_map.1 hq
  have h1 := rank_small s.a s.b s.c
  have h2 := rank_small s.x s.y s.z
  exact ⟨⟨h1.1, by show rankV s.a s.b s.c ≤ _; omega⟩, h2.1, by show rankV s.x s.y s.z ≤ _; omega⟩

theorem wanted_any (kind : UInt8) (x y : Bool) (w : World) :
    Calls Tryz.prog 50 #[.int .u8 (kind.toNat : Int), .bool x, .bool y] w fun e w' => e = .returned (.bool (wantK kind x y)) ∧ Below w.heap.size w w' := by
  by_cases h1 : kind = 109
  · subst h1
    have HW : Hid (wantK 109 x y = (x && y)) := by unfold Hid wantK; rw [if_pos rfl]
    cases x <;> cases y <;> (go_enter Tryz.func50, Tryz.ntmps50; go_wp2; go_ret; exact ⟨ret_bool HW.out.symm, Below.refl _ _⟩)
  · have e1 : ((kind.toNat : Int) == 109) = false := by rw [beq_eq_false_iff_ne]; intro e; exact h1 (UInt8.toNat_inj.1 (by show kind.toNat = 109; omega))
    by_cases h2 : kind = 106
    · subst h2
      have HW : Hid (wantK 106 x y = (x || y)) := by unfold Hid wantK; rw [if_neg (by decide), if_pos rfl]
      clear h1
      cases x <;> cases y <;> (go_enter Tryz.func50, Tryz.ntmps50; go_wp2; go_ret; exact ⟨ret_bool HW.out.symm, Below.refl _ _⟩)
    · have e2 : ((kind.toNat : Int) == 106) = false := by rw [beq_eq_false_iff_ne]; intro e; exact h2 (UInt8.toNat_inj.1 (by show kind.toNat = 106; omega))
      have HW : Hid (wantK kind x y = (x && !y)) := by unfold Hid wantK; rw [if_neg h1, if_neg h2]
      clear h1 h2
      cases x <;> cases y <;> (go_enter Tryz.func50, Tryz.ntmps50; go_wp2; go_ret; exact ⟨ret_bool HW.out.symm, Below.refl _ _⟩)

theorem ends_take (l : List Int) (Q : Rg) {k : Nat} (h : k < Q.length) : endsF l (Q.take (k + 1)) = insF (insF (endsF l (Q.take k)) Q[k].1) (Q[k].2 + 1) := by
  rw [List.take_succ_eq_append_getElem h, ends_append]
  rfl

set_option maxHeartbeats 3200000 in
theorem ends_walk (l : List Int) (L : List Sp) (g o cap : Nat) (vl : Value) (w : World) (hln : l.length + 2 * L.length ≤ 1000000) (hg : g < w.heap.size) (hl : ∀ i (h : i < L.length), SpAt w g (o + i * 6) L[i]) (hi : IntsAt w vl l) :
    Calls Tryz.prog 49 #[vl, .slice (some ⟨g, o, none⟩) L.length cap] w fun e w' => ∃ v, e = .returned v ∧ IntsAt w' v (endsF l (L.map rkS)) ∧ Below w.heap.size w w' := by
  have HL : Hid (∀ w1, Below w.heap.size w w1 → ∀ i (h : i < L.length), SpIn w1 g (o + i * 6) L[i]) := fun w1 hb i hi => ⟨(hl i hi).below hb hg, Nat.lt_of_lt_of_le hg hb.size⟩
  have HI := hide3 hi
  have HA : Hid (∀ w1 v1 l1 n, IntsAt w1 v1 l1 → l1.length ≤ 1000000 → Calls Tryz.prog 71 #[v1, .int .i64 n] w1 fun e w' => ∃ v', e = .returned v' ∧ IntsAt w' v' (insF l1 n) ∧ Below w1.heap.size w1 w') := fun w1 v1 l1 n h1 h2 => added_any h1 h2 n
  clear hl hi
  go_enter Tryz.func49, Tryz.ntmps49
  go_wp2
  go_loopw [0, 5] (fun v i wr => ∃ k : Nat, k ≤ L.length ∧ i = .int .i64 k ∧ IntsAt wr v (endsF l ((L.map rkS).take k)) ∧ Below w.heap.size w wr) (fun _ i _ => L.length - (intOf i).toNat)
  case atStart => exact ⟨0, Nat.zero_le _, rfl, HI.out, Below.refl _ _⟩
  case round =>
    obtain ⟨k, hk, rfl, hit, hb⟩ := hrel
    have HIT := hide3 hit
    have HB := hide3 hb
    clear hit
    by_cases hlt : k < L.length
    · have hs := HL.out wr hb k hlt
      have HNX : Hid (endsF l ((L.map rkS).take (k + 1)) = insF (insF (endsF l ((L.map rkS).take k)) (rkS L[k]).1) ((rkS L[k]).2 + 1)) := by
        have := ends_take l (L.map rkS) (k := k) (by rw [List.length_map]; exact hlt)
        rw [List.getElem_map] at this
        exact this
      have hz1 : (endsF l ((L.map rkS).take k)).length ≤ 999998 := by
        have := ends_len (Q := (L.map rkS).take k) (l := l)
        rw [List.length_take, List.length_map] at this
        omega
      have HZ2 : Hid (∀ n, (insF (endsF l ((L.map rkS).take k)) n).length ≤ 1000000) := fun n => by have := ins_len (n := n) (l := endsF l ((L.map rkS).take k)); omega
      have HO : Hid (Below w.heap.size w wr ∧ SpIn wr g (o + k * 6) L[k]) := ⟨hb, hs⟩
      have HK : Hid (KeepP fun w1 => Below w.heap.size w w1 ∧ SpIn w1 g (o + k * 6) L[k]) := (keepBelow w).and (keepSp _ _ _)
      clear hb
      generalize L[k] = s at *
      obtain ⟨a, b, c, x, y, z⟩ := s
      simp only [rkS] at HNX
      have HR1 : Hid (∀ w1, Calls Tryz.prog 47 #[.agg #[.int .i64 a, .int .i64 b, .int .i64 c]] w1 fun e w' => e = .returned (.int .i64 (rankV a b c)) ∧ Below w1.heap.size w1 w') := rrank_any a b c
      have HR2 : Hid (∀ w1, Calls Tryz.prog 47 #[.agg #[.int .i64 x, .int .i64 y, .int .i64 z]] w1 fun e w' => e = .returned (.int .i64 (rankV x y z)) ∧ Below w1.heap.size w1 w') := rrank_any x y z
      have hr2 := rank_small x y z
      obtain ⟨⟨p0, p1, p2, p3, p4, p5⟩, p6⟩ := hs
      simp only at p0 p1 p2 p3 p4 p5
      generalize rankV a b c = r1 at *
      generalize rankV x y z = r2 at *
      generalize endsF l ((L.map rkS).take k) = l1 at *
      have t1 : True := trivial
      have t2 : True := trivial
      have t3 : True := trivial
      go_wp2_with (first
        | (have _t := t1; go_at_call 47; refine (HR1.out _).mono ?_; rintro e w1 ⟨rfl, ok⟩; have HI1 := hide3 (HIT.out.below ok); have HO1 := hide3 (HK.out _ _ HO.out ok); clear ok t1 p0 p1 p2 p3 p4 p5 p6)
        | (have _t := t2; go_at_call 71; refine (HA.out _ _ l1 r1 HI1.out (by omega)).mono ?_; rintro e w2 ⟨v2, rfl, hi2, ok⟩; have HI2 := hide3 hi2; have HO2 := hide3 (HK.out _ _ HO1.out ok); clear ok hi2 t2; obtain ⟨_, ⟨p0, p1, p2, p3, p4, p5⟩, p6⟩ := HO2.out)
        | (have _t := t3; go_at_call 47; refine (HR2.out _).mono ?_; rintro e w3 ⟨rfl, ok⟩; have HI3 := hide3 (HI2.out.below ok); have HO3 := hide3 (HK.out _ _ HO2.out ok); clear ok t3)
        | (go_at_call 71; refine (HA.out _ _ (insF l1 r1) (r2 + 1) HI3.out (HZ2.out _)).mono ?_; rintro e w4 ⟨v4, rfl, hi4, ok⟩; have HI4 := hide3 hi4; have HO4 := hide3 (HK.out _ _ HO3.out ok); clear ok hi4))
      exact ⟨⟨k + 1, by omega, by go_num, by rw [HNX.out]; exact HI4.out, HO4.out.1⟩, by simp [intOf]; omega⟩
    · have hke : k = L.length := by omega
      subst hke
      have HX : Hid (endsF l ((L.map rkS).take L.length) = endsF l (L.map rkS)) := by unfold Hid; rw [List.take_of_length_le (by rw [List.length_map]; exact Nat.le_refl _)]
      clear hb
      go_wp2
      go_ret
      exact ⟨_, rfl, by rw [← HX.out]; exact HIT.out, HB.out⟩

theorem ends_nil (l : List Int) (ad : Option Addr) (cap : Nat) (vl : Value) (w : World) (hi : IntsAt w vl l) :
    Calls Tryz.prog 49 #[vl, .slice ad 0 cap] w fun e w' => ∃ v, e = .returned v ∧ IntsAt w' v l ∧ Below w.heap.size w w' := by
  have HI := hide3 hi
  clear hi
  go_enter Tryz.func49, Tryz.ntmps49
  go_wp2
  go_loop [0, 5] (fun v i => v = vl ∧ i = .int .i64 0) (fun _ _ => 0)
  case atStart => exact ⟨rfl, rfl⟩
  case round =>
    obtain ⟨rfl, rfl⟩ := hrel
    go_wp2
    go_ret
    exact ⟨_, rfl, HI.out, Below.refl _ _⟩

theorem ends_any {l : List Int} {L : List Sp} {vl va : Value} {w : World} (hln : l.length + 2 * L.length ≤ 1000000) (hi : IntsAt w vl l) (ha : SpansAt w va L) :
    Calls Tryz.prog 49 #[vl, va] w fun e w' => ∃ v, e = .returned v ∧ IntsAt w' v (endsF l (L.map rkS)) ∧ Below w.heap.size w w' := by
  obtain ⟨ad, cap, rfl, hl⟩ := ha
  rcases hl with rfl | ⟨g, o, rfl, hg, hs⟩
  · exact ends_nil l ad cap vl w hi
  · exact ends_walk l L g o cap vl w hln hg hs hi
end Go.Proofs.YtkmgfemhfibikaaGreatDoor
