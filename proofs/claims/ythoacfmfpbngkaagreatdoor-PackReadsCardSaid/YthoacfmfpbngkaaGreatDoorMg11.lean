/- Fd3, Fd4, Pure3, Ix1, laid in one text. -/
import Derived.Deep.RegionHeld3
import Derived.Lib.IndexMore
import Derived.Lib.CountLaws
import Derived.Test.YthoacfmfpbngkaaGreatDoorShelfD
import Derived.Laws.RangeAny
import Derived.WalkLawsBesides
import Derived.Test.YthoacfmfpbngkaaGreatDoorMg10
namespace Go.Proofs.YthoacfmfpbngkaaGreatDoor
open Go.RowKit
set_option maxRecDepth 100000

/-- A span's places. -/
def rkS (s : Sp) : Int × Int := (rankV s.a s.b s.c, rankV s.x s.y s.z)
theorem has_rk (L : List Sp) (n : Int) : L.any (hasN n) = hasQ (L.map rkS) n := by
  unfold hasQ
  rw [List.any_map]
  rfl
theorem okq_rk (L : List Sp) : OkQ (L.map rkS) := by
  intro q hq
  obtain ⟨s, _, rfl⟩ := List.mem_map.1 hq
  have h1 := rank_small s.a s.b s.c
  have h2 := rank_small s.x s.y s.z
  exact ⟨⟨h1.1, by show rankV s.a s.b s.c ≤ _; omega⟩, h2.1, by show rankV s.x s.y s.z ≤ _; omega⟩

theorem wanted_any (kind : UInt8) (x y : Bool) (w : World) :
    Calls Tryz.prog 94 #[.int .u8 (kind.toNat : Int), .bool x, .bool y] w fun e w' => e = .returned (.bool (wantK kind x y)) ∧ Below w.heap.size w w' := by
  by_cases h1 : kind = 109
  · subst h1
    have HW : Hid (wantK 109 x y = (x && y)) := by unfold Hid wantK; rw [if_pos rfl]
    cases x <;> cases y <;> (go_enter Tryz.func94, Tryz.ntmps94; go_wp2; go_ret; exact ⟨ret_bool HW.out.symm, Below.refl _ _⟩)
  · have e1 : ((kind.toNat : Int) == 109) = false := by rw [beq_eq_false_iff_ne]; intro e; exact h1 (UInt8.toNat_inj.1 (by show kind.toNat = 109; omega))
    by_cases h2 : kind = 106
    · subst h2
      have HW : Hid (wantK 106 x y = (x || y)) := by unfold Hid wantK; rw [if_neg (by decide), if_pos rfl]
      clear h1
      cases x <;> cases y <;> (go_enter Tryz.func94, Tryz.ntmps94; go_wp2; go_ret; exact ⟨ret_bool HW.out.symm, Below.refl _ _⟩)
    · have e2 : ((kind.toNat : Int) == 106) = false := by rw [beq_eq_false_iff_ne]; intro e; exact h2 (UInt8.toNat_inj.1 (by show kind.toNat = 106; omega))
      have HW : Hid (wantK kind x y = (x && !y)) := by unfold Hid wantK; rw [if_neg h1, if_neg h2]
      clear h1 h2
      cases x <;> cases y <;> (go_enter Tryz.func94, Tryz.ntmps94; go_wp2; go_ret; exact ⟨ret_bool HW.out.symm, Below.refl _ _⟩)

theorem ends_take (l : List Int) (Q : Rg) {k : Nat} (h : k < Q.length) : endsF l (Q.take (k + 1)) = insF (insF (endsF l (Q.take k)) Q[k].1) (Q[k].2 + 1) := by
  rw [List.take_succ_eq_append_getElem h, ends_append]
  rfl

set_option maxHeartbeats 3200000 in
theorem ends_walk (l : List Int) (L : List Sp) (g o cap : Nat) (vl : Value) (w : World) (hln : l.length + 2 * L.length ≤ 1000000) (hg : g < w.heap.size) (hl : ∀ i (h : i < L.length), SpAt w g (o + i * 6) L[i]) (hi : IntsAt w vl l) :
    Calls Tryz.prog 93 #[vl, .slice (some ⟨g, o, none⟩) L.length cap] w fun e w' => ∃ v, e = .returned v ∧ IntsAt w' v (endsF l (L.map rkS)) ∧ Below w.heap.size w w' := by
  have HL : Hid (∀ w1, Below w.heap.size w w1 → ∀ i (h : i < L.length), SpIn w1 g (o + i * 6) L[i]) := fun w1 hb i hi => ⟨(hl i hi).below hb hg, Nat.lt_of_lt_of_le hg hb.size⟩
  have HI := hide3 hi
  have HA : Hid (∀ w1 v1 l1 n, IntsAt w1 v1 l1 → l1.length ≤ 1000000 → Calls Tryz.prog 110 #[v1, .int .i64 n] w1 fun e w' => ∃ v', e = .returned v' ∧ IntsAt w' v' (insF l1 n) ∧ Below w1.heap.size w1 w') := fun w1 v1 l1 n h1 h2 => added_any h1 h2 n
  clear hl hi
  go_enter Tryz.func93, Tryz.ntmps93
  go_wp2
  go_loopw [0, 5] (fun v i wr => ∃ k : Nat, k ≤ L.length ∧ i = .int .i64 k ∧ IntsAt wr v (endsF l ((L.map rkS).take k)) ∧ Below w.heap.size w wr) (fun _ i _ => L.length - (intOf i).toNat)
  case atStart => exact ⟨0, Nat.zero_le _, rfl, HI.out, Below.refl _ _⟩
  case round =>
    obtain ⟨k, hk, rfl, hit, hb⟩ := hrel
    have HIT := hide3 hit
    have HB := hide3 hb
    clear hit
    by_cases hlt : k < L.length
    · have hs := HL.out wr hb k hlt
      have HNX : Hid (endsF l ((L.map rkS).take (k + 1)) = insF (insF (endsF l ((L.map rkS).take k)) (rkS L[k]).1) ((rkS L[k]).2 + 1)) := by
        have := ends_take l (L.map rkS) (k := k) (by rw [List.length_map]; exact hlt)
        rw [List.getElem_map] at this
        exact this
      have hz1 : (endsF l ((L.map rkS).take k)).length ≤ 999998 := by
        have := ends_len (Q := (L.map rkS).take k) (l := l)
        rw [List.length_take, List.length_map] at this
        omega
      have HZ2 : Hid (∀ n, (insF (endsF l ((L.map rkS).take k)) n).length ≤ 1000000) := fun n => by have := ins_len (n := n) (l := endsF l ((L.map rkS).take k)); omega
      have HO : Hid (Below w.heap.size w wr ∧ SpIn wr g (o + k * 6) L[k]) := ⟨hb, hs⟩
      have HK : Hid (KeepP fun w1 => Below w.heap.size w w1 ∧ SpIn w1 g (o + k * 6) L[k]) := (keepBelow w).and (keepSp _ _ _)
      clear hb
      generalize L[k] = s at *
      obtain ⟨a, b, c, x, y, z⟩ := s
      simp only [rkS] at HNX
      have HR1 : Hid (∀ w1, Calls Tryz.prog 75 #[.agg #[.int .i64 a, .int .i64 b, .int .i64 c]] w1 fun e w' => e = .returned (.int .i64 (rankV a b c)) ∧ Below w1.heap.size w1 w') := rrank_any a b c
      have HR2 : Hid (∀ w1, Calls Tryz.prog 75 #[.agg #[.int .i64 x, .int .i64 y, .int .i64 z]] w1 fun e w' => e = .returned (.int .i64 (rankV x y z)) ∧ Below w1.heap.size w1 w') := rrank_any x y z
      have hr2 := rank_small x y z
      obtain ⟨⟨p0, p1, p2, p3, p4, p5⟩, p6⟩ := hs
      simp only at p0 p1 p2 p3 p4 p5
      generalize rankV a b c = r1 at *
      generalize rankV x y z = r2 at *
      generalize endsF l ((L.map rkS).take k) = l1 at *
      have t1 : True := trivial
      have t2 : True := trivial
      have t3 : True := trivial
      go_wp2_with (first
        | (have _t := t1; go_at_call 75; refine (HR1.out _).mono ?_; rintro e w1 ⟨rfl, ok⟩; have HI1 := hide3 (HIT.out.below ok); have HO1 := hide3 (HK.out _ _ HO.out ok); clear ok t1 p0 p1 p2 p3 p4 p5 p6)
        | (have _t := t2; go_at_call 110; refine (HA.out _ _ l1 r1 HI1.out (by omega)).mono ?_; rintro e w2 ⟨v2, rfl, hi2, ok⟩; have HI2 := hide3 hi2; have HO2 := hide3 (HK.out _ _ HO1.out ok); clear ok hi2 t2; obtain ⟨_, ⟨p0, p1, p2, p3, p4, p5⟩, p6⟩ := HO2.out)
        | (have _t := t3; go_at_call 75; refine (HR2.out _).mono ?_; rintro e w3 ⟨rfl, ok⟩; have HI3 := hide3 (HI2.out.below ok); have HO3 := hide3 (HK.out _ _ HO2.out ok); clear ok t3)
        | (go_at_call 110; refine (HA.out _ _ (insF l1 r1) (r2 + 1) HI3.out (HZ2.out _)).mono ?_; rintro e w4 ⟨v4, rfl, hi4, ok⟩; have HI4 := hide3 hi4; have HO4 := hide3 (HK.out _ _ HO3.out ok); clear ok hi4))
      exact ⟨⟨k + 1, by omega, by go_num, by rw [HNX.out]; exact HI4.out, HO4.out.1⟩, by simp [intOf]; omega⟩
    · have hke : k = L.length := by omega
      subst hke
      have HX : Hid (endsF l ((L.map rkS).take L.length) = endsF l (L.map rkS)) := by unfold Hid; rw [List.take_of_length_le (by rw [List.length_map]; exact Nat.le_refl _)]
      clear hb
      go_wp2
      go_ret
      exact ⟨_, rfl, by rw [← HX.out]; exact HIT.out, HB.out⟩

theorem ends_nil (l : List Int) (ad : Option Addr) (cap : Nat) (vl : Value) (w : World) (hi : IntsAt w vl l) :
    Calls Tryz.prog 93 #[vl, .slice ad 0 cap] w fun e w' => ∃ v, e = .returned v ∧ IntsAt w' v l ∧ Below w.heap.size w w' := by
  have HI := hide3 hi
  clear hi
  go_enter Tryz.func93, Tryz.ntmps93
  go_wp2
  go_loop [0, 5] (fun v i => v = vl ∧ i = .int .i64 0) (fun _ _ => 0)
  case atStart => exact ⟨rfl, rfl⟩
  case round =>
    obtain ⟨rfl, rfl⟩ := hrel
    go_wp2
    go_ret
    exact ⟨_, rfl, HI.out, Below.refl _ _⟩

theorem ends_any {l : List Int} {L : List Sp} {vl va : Value} {w : World} (hln : l.length + 2 * L.length ≤ 1000000) (hi : IntsAt w vl l) (ha : SpansAt w va L) :
    Calls Tryz.prog 93 #[vl, va] w fun e w' => ∃ v, e = .returned v ∧ IntsAt w' v (endsF l (L.map rkS)) ∧ Below w.heap.size w w' := by
  obtain ⟨ad, cap, rfl, hl⟩ := ha
  rcases hl with rfl | ⟨g, o, rfl, hg, hs⟩
  · exact ends_nil l ad cap vl w hi
  · exact ends_walk l L g o cap vl w hln hg hs hi
end Go.Proofs.YthoacfmfpbngkaaGreatDoor
namespace Go.Proofs.YthoacfmfpbngkaaGreatDoor
open Go.RowKit
set_option maxRecDepth 100000

/-- Where the span under way began. -/
def fromV : Option Int → Int
  | none => -1
  | some f => f
theorem fold_in {P : Int → Bool} {x : Int} {r : List Int} (h : (decide (x ≤ 999999999) && P x) = true) (f : Option Int) : foldG P (x :: r) f = foldG P r (some (f.getD x)) := by
  cases f with
  | none =>
    show (if (decide (x ≤ 999999999) && P x) = true then foldG P r (some x) else foldG P r none) = foldG P r (some x)
    rw [if_pos h]
  | some f =>
    show (if (decide (x ≤ 999999999) && P x) = true then foldG P r (some f) else (f, x - 1) :: foldG P r none) = foldG P r (some f)
    rw [if_pos h]
theorem fold_out_none {P : Int → Bool} {x : Int} {r : List Int} (h : (decide (x ≤ 999999999) && P x) = false) : foldG P (x :: r) none = foldG P r none := by
  conv => lhs; unfold foldG; rw [if_neg (by rw [h]; simp)]
theorem fold_out_some {P : Int → Bool} {x : Int} {r : List Int} (h : (decide (x ≤ 999999999) && P x) = false) (f : Int) : foldG P (x :: r) (some f) = (f, x - 1) :: foldG P r none := by
  conv => lhs; unfold foldG; rw [if_neg (by rw [h]; simp)]

/-- A place that holds an int. -/
def CellI (w : World) (g i : Nat) (x : Int) : Prop := w.cell? ⟨g, i, none⟩ = some (.int .i64 x) ∧ g < w.heap.size
theorem keepCellI (g i : Nat) (x : Int) : KeepP fun w1 => CellI w1 g i x := fun _ _ h hb => ⟨(hb.cell (p := ⟨g, i, none⟩) h.2).trans h.1, Nat.lt_of_lt_of_le h.2 hb.size⟩
/-- What the loop keeps. -/
def KF (w : World) (B : Nat) (vo v2 : Value) (o1 : Rg) (l : List Int) (w1 : World) : Prop := Below w.heap.size w w1 ∧ OwnS w1 B vo (o1.map spR) ∧ IntsAt w1 v2 l
theorem keepKF (w : World) (B : Nat) (vo v2 : Value) (o1 : Rg) (l : List Int) : KeepP (KF w B vo v2 o1 l) := (keepBelow w).and ((keepOwn _ _ _).and (keepInts _ _))

/-- A span is put behind a row, in a region that draws its order. -/
theorem step_app2 {w wx : World} {uo v2 : Value} {o1 : Rg} {l : List Int} {ops : Array Oper} {o : Oper} {f : Act} {K : Act → World → Prop} {Q : Exit → Act → World → Prop} {E : Prop} (hgd : o.guard = none) (s t : Operand)
    (ho : o.op = .call { callee := .builtin .append, args := #[s, t], argTypes := #[58, 58] }) (hs : f.eval s = uo) (p : Int × Int)
    (hK : KF w w.heap.size uo v2 o1 l wx) (hv2 : ∀ g, uo.ownBlock = some g → v2.ownBlock ≠ some g) {ga ia : Nat} {xa : Int} (hca : CellI wx ga ia xa) (hga : v2.ownBlock = some ga) {M : Nat} (hM : wx.heap.size = M) (hx : f.eval t = .slice (some ⟨M, 0, none⟩) 1 1) (hlen : o1.length + 1 ≤ 1000000000)
    (h : ∀ v1 w1, KF w w.heap.size v1 v2 (o1 ++ [p]) l w1 → (∀ g, v1.ownBlock = some g → v2.ownBlock ≠ some g) → w1.cell? ⟨ga, ia, none⟩ = some (.int .i64 xa) → K (f.put o.dst v1) w1) :
    if Region.wanted o (yielded ops f.tmps) = true then Oper.wp Tryz.prog o f (wx.alloc (.cells #[.int .i64 (atA p.1), .int .i64 (atB p.1), .int .i64 (atC p.1), .int .i64 (atA p.2), .int .i64 (atB p.2), .int .i64 (atC p.2)] 90)) K Q else E := by
  have hw : Region.wanted o (yielded ops f.tmps) = true := by simp [Region.wanted, hgd]
  rw [if_pos hw]
  subst hM
  obtain ⟨i0, hi, hz0, hz1, hz2⟩ := info_parts3 infoSpan
  obtain ⟨k1, k2, k3⟩ := hK
  have hob : OwnS (wx.alloc (.cells #[.int .i64 (atA p.1), .int .i64 (atB p.1), .int .i64 (atC p.1), .int .i64 (atA p.2), .int .i64 (atB p.2), .int .i64 (atC p.2)] 90)) w.heap.size uo (o1.map spR) := k2.below (boxB _ _)
  have hsz : (wx.alloc (.cells #[.int .i64 (atA p.1), .int .i64 (atB p.1), .int .i64 (atC p.1), .int .i64 (atA p.2), .int .i64 (atB p.2), .int .i64 (atC p.2)] 90)).heap.size = wx.heap.size + 1 := by simp
  have hwx := k1.size
  obtain ⟨v1, w1, hr, hown1, hg1, _, hat⟩ := run_append_own_at (P := Tryz.prog) (wx.alloc (.cells #[.int .i64 (atA p.1), .int .i64 (atB p.1), .int .i64 (atC p.1), .int .i64 (atA p.2), .int .i64 (atB p.2), .int .i64 (atC p.2)] 90)) w.heap.size 58 o.type 90 i0 _ 6 48 Tryz.underlying58 hi hz0 hz1 hz2 rfl (by decide) uo _ _ hob ⟨wx.heap.size, 0, none⟩ 1 1 [.int .i64 (atA p.1), .int .i64 (atB p.1), .int .i64 (atC p.1), .int .i64 (atA p.2), .int .i64 (atB p.2), .int .i64 (atC p.2)] rfl
    (World.news_of_block (cs := #[.int .i64 (atA p.1), .int .i64 (atB p.1), .int .i64 (atC p.1), .int .i64 (atA p.2), .int .i64 (atB p.2), .int .i64 (atC p.2)]) (t := 90) (fr := (0, 0)) (by show (wx.heap.push _)[wx.heap.size]? = _; rw [Array.getElem?_push, if_pos rfl])) (by simp [Value.oneCell']) (by unfold maxLen; rw [List.length_map]; omega) (by rw [List.length_map]; omega) (by omega)
  unfold Oper.wp execOp
  simp only [ho, resolve, invoke, builtin, Sem.run_bind, Sem.run_pure, Result.andThen_ok, List.map_toArray, List.map_cons, List.map_nil, hs, hx, hr]
  have hbw : Below w.heap.size w w1 := (below_then k1 (boxB _ _)).grown hg1 (by omega) (fun k hk => (k2.lt hk).2)
  have far : ∀ i, ga < wx.heap.size → w1.cell? ⟨ga, i, none⟩ = wx.cell? ⟨ga, i, none⟩ := fun i hgl => by
    have hne : uo.ownBlock ≠ some ga := fun e => hv2 ga e hga
    have hbl := hg1.block ga (by omega) (fun e => hne e.symm)
    rw [World.cell?_of_block (w := wx.alloc _) hbl]
    exact (boxB wx (.cells #[.int .i64 (atA p.1), .int .i64 (atB p.1), .int .i64 (atC p.1), .int .i64 (atA p.2), .int .i64 (atB p.2), .int .i64 (atC p.2)] 90)).cell (p := ⟨ga, i, none⟩) hgl
  obtain ⟨g, off, cap, rfl, hc, hg, hcs⟩ := k3
  obtain rfl : g = ga := Option.some.inj hga
  refine h v1 w1 ⟨hbw, ?_, ⟨g, off, cap, rfl, hc, by have := hg1.size; omega, fun i hi => ?_⟩⟩ ?_ ((far ia hca.2).trans hca.1)
  · unfold OwnS
    rw [List.map_append, List.map_singleton, spCells_snoc, List.length_append]
    exact hown1
  · exact (far (off + i) hg).trans (hcs i hi)
  · intro q hq e
    have e' : g = q := Option.some.inj e
    rcases hat with h1 | h1
    · rw [h1] at hq; exact hv2 q hq e
    · rw [h1, hsz] at hq
      have := Option.some.inj hq
      omega

set_option maxHeartbeats 12800000 in
theorem Folded_walk (kind : UInt8) (La Lb : List Sp) (va vb : Value) (w : World) (hl : La.length + Lb.length ≤ 100000) (ha : SpansAt w va La) (hb : SpansAt w vb Lb) :
    Calls Tryz.prog 74 #[.int .u8 (kind.toNat : Int), va, vb] w fun e w' => ∃ v, e = .returned (.tuple #[v, .int .i64 (fullE (foldK kind (La.map rkS) (Lb.map rkS)).length)]) ∧ OwnS w' w.heap.size v ((fitR (foldK kind (La.map rkS) (Lb.map rkS))).map spR) ∧ Below w.heap.size w w' := by
  have HE1 : Hid (∀ w1 vl, Below w.heap.size w w1 → IntsAt w1 vl [0, 1000000000] → Calls Tryz.prog 93 #[vl, va] w1 fun e w' => ∃ v, e = .returned v ∧ IntsAt w' v (endsF [0, 1000000000] (La.map rkS)) ∧ Below w1.heap.size w1 w') := fun w1 vl h1 h2 => ends_any (by simp; omega) h2 (ha.below h1)
  have HE2 : Hid (∀ w1 vl, Below w.heap.size w w1 → IntsAt w1 vl (endsF [0, 1000000000] (La.map rkS)) → Calls Tryz.prog 93 #[vl, vb] w1 fun e w' => ∃ v, e = .returned v ∧ IntsAt w' v (placesF (La.map rkS) (Lb.map rkS)) ∧ Below w1.heap.size w1 w') := fun w1 vl h1 h2 => ends_any (by have := ends_len (Q := La.map rkS) (l := [0, 1000000000]); simp at this; omega) h2 (hb.below h1)
  have HHA : Hid (∀ n w1, Below w.heap.size w w1 → Calls Tryz.prog 95 #[va, .int .i64 n] w1 fun e w' => e = .returned (.bool (hasQ (La.map rkS) n)) ∧ Below w1.heap.size w1 w') := fun n w1 h1 => by have := has_any (ha.below h1) (by omega) n; rw [has_rk] at this; exact this
  have HHB : Hid (∀ n w1, Below w.heap.size w w1 → Calls Tryz.prog 95 #[vb, .int .i64 n] w1 fun e w' => e = .returned (.bool (hasQ (Lb.map rkS) n)) ∧ Below w1.heap.size w1 w') := fun n w1 h1 => by have := has_any (hb.below h1) (by omega) n; rw [has_rk] at this; exact this
  have HWA : Hid (∀ x y w1, Calls Tryz.prog 94 #[.int .u8 (kind.toNat : Int), .bool x, .bool y] w1 fun e w' => e = .returned (.bool (wantK kind x y)) ∧ Below w1.heap.size w1 w') := fun x y w1 => wanted_any kind x y w1
  have HAT : Hid (∀ n w1, Calls Tryz.prog 90 #[.int .i64 n] w1 fun e w' => e = .returned (.agg #[.int .i64 (atA n), .int .i64 (atB n), .int .i64 (atC n)]) ∧ Below w1.heap.size w1 w') := rat_any
  have hpl : (placesF (La.map rkS) (Lb.map rkS)).length ≤ 200002 := by
    have h1 := ends_len (Q := La.map rkS) (l := [0, 1000000000])
    have h2 := ends_len (Q := Lb.map rkS) (l := endsF [0, 1000000000] (La.map rkS))
    unfold placesF
    simp at h1 h2
    omega
  have hrng : ∀ x ∈ placesF (La.map rkS) (Lb.map rkS), 0 ≤ x ∧ x ≤ 1000000000 := by
    intro x hx
    unfold placesF at hx
    rw [ends_mem, ends_mem] at hx
    rcases hx with (hx | ⟨q, hq, h⟩) | ⟨q, hq, h⟩
    · simp at hx; omega
    · obtain ⟨q1, q2⟩ := okq_rk La q hq; rcases h with rfl | rfl <;> omega
    · obtain ⟨q1, q2⟩ := okq_rk Lb q hq; rcases h with rfl | rfl <;> omega
  have HRNG := hide3 hrng
  have HFK : Hid (foldK kind (La.map rkS) (Lb.map rkS) = foldG (fun n => wantK kind (hasQ (La.map rkS) n) (hasQ (Lb.map rkS) n)) (placesF (La.map rkS) (Lb.map rkS)) none) := rfl
  clear ha hb hrng hl
  generalize La.map rkS = Qa at *
  generalize Lb.map rkS = Qb at *
  generalize foldK kind Qa Qb = R at *
  generalize placesF Qa Qb = l at *
  go_enter Tryz.func74, Tryz.ntmps74
  have HI0 : Hid (IntsAt (w.alloc (.cells #[.int .i64 0, .int .i64 1000000000] 3)) (.slice (some ⟨w.heap.size, 0, none⟩) 2 2) [0, 1000000000]) := by
    refine ⟨w.heap.size, 0, 2, rfl, Nat.le_refl _, by simp, fun i hi => ?_⟩
    match i, hi with
    | 0, _ => simp
    | 1, _ => simp
  have t1 : True := trivial
  go_wp2_with (first
    | (have _t := t1; go_at_call 93; refine (HE1.out _ _ (boxB _ _) HI0.out).mono ?_; rintro e w1 ⟨v1, rfl, hi1, ok⟩; have HI1 := hide3 hi1; have HB1 : Hid (Below w.heap.size w w1) := below_then (boxB _ _) ok; clear ok hi1 t1 HE1)
    | (go_at_call 93; refine (HE2.out _ _ HB1.out HI1.out).mono ?_; rintro e w2 ⟨v2, rfl, hi2, ok⟩; have HI2 := hide3 hi2; have HB2 : Hid (Below w.heap.size w w2) := below_then HB1.out ok; clear ok hi2 HE2))
  go_loopw [9, 10, 11] (fun vo vf i wr => ∃ (k : Nat) (o1 : Rg) (f : Option Int), k ≤ l.length ∧ i = .int .i64 k ∧ vf = .int .i64 (fromV f) ∧ (∀ q, f = some q → 0 ≤ q ∧ q ≤ 999999999) ∧ o1.length ≤ k ∧ KF w w.heap.size vo v2 o1 l wr ∧ (∀ g, vo.ownBlock = some g → v2.ownBlock ≠ some g) ∧ R = o1 ++ foldG (fun n => wantK kind (hasQ Qa n) (hasQ Qb n)) (l.drop k) f) (fun _ _ i _ => l.length - (intOf i).toNat)
  case atStart => exact ⟨0, [], none, Nat.zero_le _, rfl, rfl, (fun q h => by cases h), Nat.le_refl _, ⟨HB2.out, OwnS.nil _ _, HI2.out⟩, (fun g h => by cases h), HFK.out⟩
  case round =>
    obtain ⟨k, o1, f, hk, rfl, rfl, hfr, hol, hkf, hne, hRR⟩ := hrel
    have HNE := hide3 hne
    have HRR := hide3 hRR
    have HKF := hide3 hkf
    clear hne hRR hkf HI2 HB2
    obtain ⟨g, o, cap, rfl, hcap, _, _⟩ := HKF.out.2.2
    by_cases hlt : k < l.length
    · have hd : l.drop k = l[k] :: l.drop (k + 1) := List.drop_eq_getElem_cons hlt
      have hxr := HRNG.out _ (List.getElem_mem hlt)
      have HO : Hid (KF w w.heap.size u9 (.slice (some ⟨g, o, none⟩) l.length cap) o1 l wr ∧ CellI wr g (o + k) l[k]) := by
        refine ⟨HKF.out, ?_⟩
        obtain ⟨g', o', cap', e, _, h2, h3⟩ := HKF.out.2.2
        cases e
        exact ⟨h3 k hlt, h2⟩
      have HK : Hid (KeepP fun w1 => KF w w.heap.size u9 (.slice (some ⟨g, o, none⟩) l.length cap) o1 l w1 ∧ CellI w1 g (o + k) l[k]) := (keepKF _ _ _ _ _ _).and (keepCellI _ _ _)
      rw [hd] at HRR
      clear hd HKF
      generalize l[k] = x at *
      have HC1 : Hid (∀ w1, (KF w w.heap.size u9 (.slice (some ⟨g, o, none⟩) l.length cap) o1 l w1 ∧ CellI w1 g (o + k) x) → Calls Tryz.prog 95 #[va, .int .i64 x] w1 fun e w' => e = .returned (.bool (hasQ Qa x)) ∧ Below w1.heap.size w1 w') := fun w1 h => HHA.out x w1 h.1.1
      have HC2 : Hid (∀ w1, (KF w w.heap.size u9 (.slice (some ⟨g, o, none⟩) l.length cap) o1 l w1 ∧ CellI w1 g (o + k) x) → Calls Tryz.prog 95 #[vb, .int .i64 x] w1 fun e w' => e = .returned (.bool (hasQ Qb x)) ∧ Below w1.heap.size w1 w') := fun w1 h => HHB.out x w1 h.1.1
      have HC3 : Hid (∀ w1, Calls Tryz.prog 94 #[.int .u8 (kind.toNat : Int), .bool (hasQ Qa x), .bool (hasQ Qb x)] w1 fun e w' => e = .returned (.bool (wantK kind (hasQ Qa x) (hasQ Qb x))) ∧ Below w1.heap.size w1 w') := fun w1 => HWA.out _ _ w1
      have HIN : Hid (∀ b, (decide (x ≤ 999999999) && wantK kind (hasQ Qa x) (hasQ Qb x)) = b → (decide (x ≤ 999999999) && (fun n => wantK kind (hasQ Qa n) (hasQ Qb n)) x) = b) := fun b h => h
      generalize hasQ Qa x = ha at *
      generalize hasQ Qb x = hb at *
      by_cases hx : x ≤ 999999999
      · have dx : decide (x ≤ 999999999) = true := decide_eq_true hx
        cases hwn : wantK kind ha hb
        · have hin := HIN.out false (by rw [hwn]; simp)
          rw [hwn] at HC3
          clear HIN hwn
          cases f with
          | none =>
            have f0 : fromV none = -1 := rfl
            have HST : Hid (R = o1 ++ foldG (fun n => wantK kind (hasQ Qa n) (hasQ Qb n)) (l.drop (k + 1)) none) := by unfold Hid; rw [HRR.out, fold_out_none hin]
            clear hin
            go_wp2_with fail
            refine wp_region_keep HK.out (by kernel_rfl) (by kernel_rfl) (by first | exact HO.out | exact HK.out.drew HO.out) ?_
            intro C hin hout
            have HIN := hide3 hin
            have HOUT := hide3 hout
            clear hin hout HO
            repeat
              (with_reducible refine wpQuiet_step (fun K hK => ?_)
               go_simp
               first
                 | (refine hK _ ?_; clear hK K)
                 | (apply Exists.intro; refine ⟨fun w1 hC => ?_, hK _ ?_⟩; (focus ((first | (go_at_call 95; with_reducible exact callC' HIN.out HOUT.out HK.out HC1.out w1 hC) | (go_at_call 95; with_reducible exact callC' HIN.out HOUT.out HK.out HC2.out w1 hC) | (go_at_call 94; with_reducible exact callC HIN.out HOUT.out HK.out HC3.out w1 hC) | (exact rfl) | (obtain ⟨⟨hb1, hb2, hb3⟩, ⟨p0, p1⟩⟩ := HOUT.out w1 hC; clear hC; go_simp; first | done | exact rfl)); done)); clear hK K))
            refine wpQuiet_nil ?_
            intro wn hC
            have HO := hide3 (HOUT.out _ hC)
            clear hC HIN HOUT C
            obtain ⟨⟨hb1, hb2, hb3⟩, ⟨p0, p1⟩⟩ := HO.out
            go_wp2
            exact ⟨⟨k + 1, o1, none, by omega, by go_num, rfl, (fun q e => by cases e), by omega, HO.out.1, HNE.out, HST.out⟩, by simp [intOf]; omega⟩
          | some f =>
            obtain ⟨hq0, hq1⟩ := hfr f rfl
            have f0 : fromV (some f) = f := rfl
            obtain ⟨y, hy⟩ : ∃ y, y = x - 1 := ⟨_, rfl⟩
            have HST : Hid (R = (o1 ++ [(f, y)]) ++ foldG (fun n => wantK kind (hasQ Qa n) (hasQ Qb n)) (l.drop (k + 1)) none) := by unfold Hid; rw [HRR.out, fold_out_some hin, hy]; simp
            have HLN : Hid (o1.length + 1 ≤ 1000000000) := by unfold Hid; omega
            have wx1 : IntKind.i64.wrap (x - 1) = y := by rw [IntKind.wrap_i64]; omega
            have hge : (0 : Int) ≤ f := hq0
            clear hy
            clear hin
            go_wp2_with fail
            refine wp_region_keep HK.out (by kernel_rfl) (by kernel_rfl) (by first | exact HO.out | exact HK.out.drew HO.out) ?_
            intro C hin hout
            have HIN := hide3 hin
            have HOUT := hide3 hout
            clear hin hout HO
            repeat
              (with_reducible refine wpQuiet_step (fun K hK => ?_)
               go_simp
               first
                 | (refine hK _ ?_; clear hK K)
                 | (apply Exists.intro; refine ⟨fun w1 hC => ?_, hK _ ?_⟩; (focus ((first | (go_at_call 95; with_reducible exact callC' HIN.out HOUT.out HK.out HC1.out w1 hC) | (go_at_call 95; with_reducible exact callC' HIN.out HOUT.out HK.out HC2.out w1 hC) | (go_at_call 94; with_reducible exact callC HIN.out HOUT.out HK.out HC3.out w1 hC) | (exact rfl) | (obtain ⟨⟨hb1, hb2, hb3⟩, ⟨p0, p1⟩⟩ := HOUT.out w1 hC; clear hC; go_simp; first | done | exact rfl)); done)); clear hK K))
            refine wpQuiet_nil ?_
            intro wn hC
            have HO := hide3 (HOUT.out _ hC)
            clear hC HIN HOUT C
            obtain ⟨⟨hb1, hb2, hb3⟩, ⟨p0, p1⟩⟩ := HO.out
            go_wp2_with fail
            have HOA := HO
            clear HO
            go_region_held3 (fun w' => w'.cell? ⟨g, o + k, none⟩ = some (.int .i64 x)) (go_keep)
              (first
                | (have _h := HOA; go_at_call 90; refine (HAT.out _ _).mono ?_; rintro e wz ⟨rfl, ok⟩; have HOB := hide3 (HK.out _ _ (HK.out.drew HOA.out) ok); clear ok HOA p0 p1; obtain ⟨_, ⟨p0, p1⟩⟩ := HOB.out)
                | (have _h := HOB; go_at_call 90; refine (HAT.out _ _).mono ?_; rintro e wz2 ⟨rfl, ok⟩; have HO := hide3 (HK.out _ _ HOB.out ok); clear ok HOB p0 p1; obtain ⟨_, ⟨p0, p1⟩⟩ := HO.out)
                | (refine step_app2 (w := w) (uo := u9) (v2 := .slice (some ⟨g, o, none⟩) l.length cap) (o1 := o1) (l := l) rfl (.tmp 60) (.tmp 70) rfl rfl (f, y) HO.out.1 HNE.out HO.out.2 rfl rfl rfl HLN.out ?_; intro v3 w3 ok3 ne3 p0; have HK3 := hide3 ok3; have HNE3 := hide3 ne3; clear ok3 ne3))
            all_goals go_wp2
            all_goals exact ⟨⟨k + 1, o1 ++ [(f, y)], none, by omega, by go_num, rfl, (fun q e => by cases e), by simp; omega, HK3.out, HNE3.out, HST.out⟩, by simp [intOf]; omega⟩
        · rw [hwn] at HC3
          have hin := HIN.out true (by rw [hwn, dx]; rfl)
          have HST : Hid (R = o1 ++ foldG (fun n => wantK kind (hasQ Qa n) (hasQ Qb n)) (l.drop (k + 1)) (some (f.getD x))) := by unfold Hid; rw [HRR.out, fold_in hin]
          clear hin HIN hwn
          cases f with
          | none =>
            have f0 : fromV none = -1 := rfl
            go_wp2_with fail
            refine wp_region_keep HK.out (by kernel_rfl) (by kernel_rfl) (by first | exact HO.out | exact HK.out.drew HO.out) ?_
            intro C hin hout
            have HIN := hide3 hin
            have HOUT := hide3 hout
            clear hin hout HO
            repeat
              (with_reducible refine wpQuiet_step (fun K hK => ?_)
               go_simp
               first
                 | (refine hK _ ?_; clear hK K)
                 | (apply Exists.intro; refine ⟨fun w1 hC => ?_, hK _ ?_⟩; (focus ((first | (go_at_call 95; with_reducible exact callC' HIN.out HOUT.out HK.out HC1.out w1 hC) | (go_at_call 95; with_reducible exact callC' HIN.out HOUT.out HK.out HC2.out w1 hC) | (go_at_call 94; with_reducible exact callC HIN.out HOUT.out HK.out HC3.out w1 hC) | (exact rfl) | (obtain ⟨⟨hb1, hb2, hb3⟩, ⟨p0, p1⟩⟩ := HOUT.out w1 hC; clear hC; go_simp; first | done | exact rfl)); done)); clear hK K))
            refine wpQuiet_nil ?_
            intro wn hC
            have HO := hide3 (HOUT.out _ hC)
            clear hC HIN HOUT C
            obtain ⟨⟨hb1, hb2, hb3⟩, ⟨p0, p1⟩⟩ := HO.out
            go_wp2
            exact ⟨⟨k + 1, o1, some x, by omega, by go_num, rfl, (fun q e => by cases e; exact ⟨hxr.1, hx⟩), by omega, HO.out.1, HNE.out, HST.out⟩, by simp [intOf]; omega⟩
          | some f =>
            obtain ⟨hq0, hq1⟩ := hfr f rfl
            have f0 : fromV (some f) = f := rfl
            have hq2 : ¬ f < 0 := by omega
            go_wp2_with fail
            refine wp_region_keep HK.out (by kernel_rfl) (by kernel_rfl) (by first | exact HO.out | exact HK.out.drew HO.out) ?_
            intro C hin hout
            have HIN := hide3 hin
            have HOUT := hide3 hout
            clear hin hout HO
            repeat
              (with_reducible refine wpQuiet_step (fun K hK => ?_)
               go_simp
               first
                 | (refine hK _ ?_; clear hK K)
                 | (apply Exists.intro; refine ⟨fun w1 hC => ?_, hK _ ?_⟩; (focus ((first | (go_at_call 95; with_reducible exact callC' HIN.out HOUT.out HK.out HC1.out w1 hC) | (go_at_call 95; with_reducible exact callC' HIN.out HOUT.out HK.out HC2.out w1 hC) | (go_at_call 94; with_reducible exact callC HIN.out HOUT.out HK.out HC3.out w1 hC) | (exact rfl) | (obtain ⟨⟨hb1, hb2, hb3⟩, ⟨p0, p1⟩⟩ := HOUT.out w1 hC; clear hC; go_simp; first | done | exact rfl)); done)); clear hK K))
            refine wpQuiet_nil ?_
            intro wn hC
            have HO := hide3 (HOUT.out _ hC)
            clear hC HIN HOUT C
            obtain ⟨⟨hb1, hb2, hb3⟩, ⟨p0, p1⟩⟩ := HO.out
            go_wp2
            exact ⟨⟨k + 1, o1, some f, by omega, by go_num, rfl, hfr, by omega, HO.out.1, HNE.out, HST.out⟩, by simp [intOf]; omega⟩
      · have dx : decide (x ≤ 999999999) = false := decide_eq_false hx
        have hin := HIN.out false (by rw [dx]; rfl)
        clear HIN
        cases f with
        | none =>
          have f0 : fromV none = -1 := rfl
          have HST : Hid (R = o1 ++ foldG (fun n => wantK kind (hasQ Qa n) (hasQ Qb n)) (l.drop (k + 1)) none) := by unfold Hid; rw [HRR.out, fold_out_none hin]
          clear hin
          go_wp2_with fail
          refine wp_region_keep HK.out (by kernel_rfl) (by kernel_rfl) (by first | exact HO.out | exact HK.out.drew HO.out) ?_
          intro C hin hout
          have HIN := hide3 hin
          have HOUT := hide3 hout
          clear hin hout HO
          repeat
            (with_reducible refine wpQuiet_step (fun K hK => ?_)
             go_simp
             first
               | (refine hK _ ?_; clear hK K)
               | (apply Exists.intro; refine ⟨fun w1 hC => ?_, hK _ ?_⟩; (focus ((first | (go_at_call 95; with_reducible exact callC' HIN.out HOUT.out HK.out HC1.out w1 hC) | (go_at_call 95; with_reducible exact callC' HIN.out HOUT.out HK.out HC2.out w1 hC) | (go_at_call 94; with_reducible exact callC HIN.out HOUT.out HK.out HC3.out w1 hC) | (exact rfl) | (obtain ⟨⟨hb1, hb2, hb3⟩, ⟨p0, p1⟩⟩ := HOUT.out w1 hC; clear hC; go_simp; first | done | exact rfl)); done)); clear hK K))
          refine wpQuiet_nil ?_
          intro wn hC
          have HO := hide3 (HOUT.out _ hC)
          clear hC HIN HOUT C
          obtain ⟨⟨hb1, hb2, hb3⟩, ⟨p0, p1⟩⟩ := HO.out
          go_wp2
          exact ⟨⟨k + 1, o1, none, by omega, by go_num, rfl, (fun q e => by cases e), by omega, HO.out.1, HNE.out, HST.out⟩, by simp [intOf]; omega⟩
        | some f =>
          obtain ⟨hq0, hq1⟩ := hfr f rfl
          have f0 : fromV (some f) = f := rfl
          obtain ⟨y, hy⟩ : ∃ y, y = x - 1 := ⟨_, rfl⟩
          have HST : Hid (R = (o1 ++ [(f, y)]) ++ foldG (fun n => wantK kind (hasQ Qa n) (hasQ Qb n)) (l.drop (k + 1)) none) := by unfold Hid; rw [HRR.out, fold_out_some hin, hy]; simp
          have HLN : Hid (o1.length + 1 ≤ 1000000000) := by unfold Hid; omega
          have wx1 : IntKind.i64.wrap (x - 1) = y := by rw [IntKind.wrap_i64]; omega
          have hge : (0 : Int) ≤ f := hq0
          clear hy
          clear hin
          go_wp2_with fail
          refine wp_region_keep HK.out (by kernel_rfl) (by kernel_rfl) (by first | exact HO.out | exact HK.out.drew HO.out) ?_
          intro C hin hout
          have HIN := hide3 hin
          have HOUT := hide3 hout
          clear hin hout HO
          repeat
            (with_reducible refine wpQuiet_step (fun K hK => ?_)
             go_simp
             first
               | (refine hK _ ?_; clear hK K)
               | (apply Exists.intro; refine ⟨fun w1 hC => ?_, hK _ ?_⟩; (focus ((first | (go_at_call 95; with_reducible exact callC' HIN.out HOUT.out HK.out HC1.out w1 hC) | (go_at_call 95; with_reducible exact callC' HIN.out HOUT.out HK.out HC2.out w1 hC) | (go_at_call 94; with_reducible exact callC HIN.out HOUT.out HK.out HC3.out w1 hC) | (exact rfl) | (obtain ⟨⟨hb1, hb2, hb3⟩, ⟨p0, p1⟩⟩ := HOUT.out w1 hC; clear hC; go_simp; first | done | exact rfl)); done)); clear hK K))
          refine wpQuiet_nil ?_
          intro wn hC
          have HO := hide3 (HOUT.out _ hC)
          clear hC HIN HOUT C
          obtain ⟨⟨hb1, hb2, hb3⟩, ⟨p0, p1⟩⟩ := HO.out
          go_wp2_with fail
          have HOA := HO
          clear HO
          go_region_held3 (fun w' => w'.cell? ⟨g, o + k, none⟩ = some (.int .i64 x)) (go_keep)
            (first
              | (have _h := HOA; go_at_call 90; refine (HAT.out _ _).mono ?_; rintro e wz ⟨rfl, ok⟩; have HOB := hide3 (HK.out _ _ (HK.out.drew HOA.out) ok); clear ok HOA p0 p1; obtain ⟨_, ⟨p0, p1⟩⟩ := HOB.out)
              | (have _h := HOB; go_at_call 90; refine (HAT.out _ _).mono ?_; rintro e wz2 ⟨rfl, ok⟩; have HO := hide3 (HK.out _ _ HOB.out ok); clear ok HOB p0 p1; obtain ⟨_, ⟨p0, p1⟩⟩ := HO.out)
              | (refine step_app2 (w := w) (uo := u9) (v2 := .slice (some ⟨g, o, none⟩) l.length cap) (o1 := o1) (l := l) rfl (.tmp 60) (.tmp 70) rfl rfl (f, y) HO.out.1 HNE.out HO.out.2 rfl rfl rfl HLN.out ?_; intro v3 w3 ok3 ne3 p0; have HK3 := hide3 ok3; have HNE3 := hide3 ne3; clear ok3 ne3))
          all_goals go_wp2
          all_goals exact ⟨⟨k + 1, o1 ++ [(f, y)], none, by omega, by go_num, rfl, (fun q e => by cases e), by simp; omega, HK3.out, HNE3.out, HST.out⟩, by simp [intOf]; omega⟩
    · have hke : k = l.length := by omega
      have HRE : Hid (R = o1) := by unfold Hid; rw [HRR.out, List.drop_of_length_le (by omega)]; simp [foldG]
      clear HRR
      obtain ⟨hb1, hown, _⟩ := HKF.out
      obtain ⟨ad, cap2, hv9, _, _⟩ := hown.sp
      rw [List.length_map] at hv9
      have HOW := hide3 hown
      have HBB := hide3 hb1
      clear hown hb1
      subst hv9
      by_cases h64 : o1.length ≤ 64
      · have e1 : fullE o1.length = 0 := by unfold fullE; rw [if_pos h64]
        have e2 : fitR o1 = o1 := by unfold fitR; rw [if_pos h64]
        have HE : Hid (fullE R.length = 0 ∧ fitR R = o1) := by rw [HRE.out]; exact ⟨e1, e2⟩
        clear e1 e2
        go_wp2
        go_ret2
        exact ⟨_, by rw [HE.out.1]; rfl, by rw [HE.out.2]; exact HOW.out, HBB.out⟩
      · have e1 : fullE o1.length = 26 := by unfold fullE; rw [if_neg h64]
        have e2 : fitR o1 = [] := by unfold fitR; rw [if_neg h64]
        have HE : Hid (fullE R.length = 26 ∧ fitR R = []) := by rw [HRE.out]; exact ⟨e1, e2⟩
        clear e1 e2
        go_wp2
        go_ret2
        exact ⟨.slice none 0 0, by rw [HE.out.1]; rfl, by rw [HE.out.2]; exact OwnS.nil _ _, HBB.out⟩
end Go.Proofs.YthoacfmfpbngkaaGreatDoor
namespace Go.Proofs.YthoacfmfpbngkaaGreatDoor
open Go.RowKit
set_option maxRecDepth 100000

theorem indexB_eq (s t : ByteArray) : Lib.indexB s t = Lib.index s.data.toList t.data.toList := rfl
theorem list_of_bytes (s : ByteArray) : (⟨s.data.toList.toArray⟩ : ByteArray) = s := (of_list rfl).symm

theorem occ_no {l : List UInt8} {c : UInt8} {tl : List UInt8} {j : Nat} (h : ∀ x, l[j]? = some x → x ≠ c) : Lib.occAt l (c :: tl) j = false := by
  unfold Lib.occAt
  cases hd : l.drop j with
  | nil => rfl
  | cons x r =>
    have hx : l[j]? = some x := by
      have := congrArg (fun q => q[0]?) hd
      simpa using this
    have := h x hx
    simp only [List.isPrefixOf_cons_cons, Bool.and_eq_false_imp, beq_iff_eq]
    intro e
    exact (this e.symm).elim

theorem pieces_one {s sep : ByteArray} {c : UInt8} {tl : List UInt8} (hsep : sep.data.toList = c :: tl) (h : ∀ x ∈ s.data.toList, x ≠ c) : piecesB s sep = [s] := by
  have hi : Lib.indexB s sep = -1 := by
    rw [indexB_eq, hsep]
    exact Lib.index_none fun j _ => occ_no fun x hx => h x (List.mem_of_getElem? hx)
  unfold piecesB
  exact Lib.splitB_miss _ _ _ _ hi

theorem pieces_more {s sep : ByteArray} {c : UInt8} {tl l r : List UInt8} (hsep : sep.data.toList = c :: tl) (hs : s.data.toList = l ++ (sep.data.toList ++ r)) (h : ∀ x ∈ l, x ≠ c) : piecesB s sep = ⟨l.toArray⟩ :: piecesB ⟨r.toArray⟩ sep := by
  have h1 : 1 ≤ sep.size := by rw [← list_size, hsep]; simp
  have hi : Lib.indexB s sep = (l.length : Int) := by
    rw [indexB_eq, hs]
    refine Lib.index_first (by simp) ?_ ?_
    · unfold Lib.occAt
      rw [List.drop_left]
      exact List.isPrefixOf_iff_prefix.2 (List.prefix_append _ _)
    · intro j hj
      rw [hsep]
      refine occ_no fun x hx => ?_
      rw [List.getElem?_append_left hj] at hx
      exact h x (List.mem_of_getElem? hx)
  have hr : s.extract (l.length + sep.size) s.size = ⟨r.toArray⟩ := by
    refine of_list ?_
    rw [Lib.extract_to_end, hs, ← list_size sep, List.drop_append, List.drop_of_length_le (by simp), List.nil_append, Nat.add_sub_cancel_left, List.drop_left]
  have hl : s.extract 0 (l.length + 0) = ⟨l.toArray⟩ := by
    refine of_list ?_
    rw [Lib.extract_from_zero, hs, Nat.add_zero, List.take_left]
  unfold piecesB
  rw [Lib.countB_hit s sep l.length h1 hi, Nat.add_comm 1, Lib.splitB_hit _ _ _ _ _ hi, hr, hl]

theorem meet_all {X : Rg} (hX : RangeR X) : meetR allR X = X := range_one (allR_ok.meet hX) hX fun n => by
  rw [meet_in allR_ok hX, allR_in]
  exact ⟨fun h => h.2, fun h => ⟨hX.in h, h⟩⟩
theorem join_none {X : Rg} (hX : RangeR X) : joinR [] X = X := range_one (RangeR.join (A := []) trivial hX) hX fun n => by
  rw [join_in (A := []) trivial hX]
  exact ⟨fun h => h.elim (fun x => x.elim) id, Or.inr⟩

/-- A version's text: it begins with a digit, and has digits and dots alone. -/
theorem text_first {a b c : Int} (h : mayV a b c = true) : ∃ d r, (textV a b c).data.toList = d :: r ∧ 48 ≤ d.toNat ∧ d.toNat ≤ 57 := by
  rw [text_list h]
  obtain ⟨a0, a1, _⟩ := may_all h
  rw [itoa_of a0]
  have hd := dec_digits a.toNat
  cases hq : Lib.decDigits a.toNat with
  | nil => exact (dec_ne _ hq).elim
  | cons d r => exact ⟨d, _, rfl, hd d (by rw [hq]; exact List.mem_cons_self)⟩
theorem text_bytes {a b c : Int} (h : mayV a b c = true) : ∀ x ∈ (textV a b c).data.toList, x.toNat = 46 ∨ (48 ≤ x.toNat ∧ x.toNat ≤ 57) := by
  rw [text_list h]
  obtain ⟨a0, a1, b0, b1, c0, c1⟩ := may_all h
  rw [itoa_of a0, itoa_of b0, itoa_of c0]
  intro x hx
  simp only [List.mem_append, List.mem_cons] at hx
  rcases hx with hx | rfl | hx | rfl | hx
  · exact Or.inr (dec_digits _ x hx)
  · exact Or.inl rfl
  · exact Or.inr (dec_digits _ x hx)
  · exact Or.inl rfl
  · exact Or.inr (dec_digits _ x hx)
theorem text_long {a b c : Int} (h : mayV a b c = true) : 2 ≤ (textV a b c).data.toList.length := by
  rw [text_list h]; simp; omega

theorem digit_in {d : UInt8} (h : 48 ≤ d.toNat ∧ d.toNat ≤ 57) : ([48, 49, 50, 51, 52, 53, 54, 55, 56, 57] : List UInt8).contains d = true := by
  have : d.toNat = 48 ∨ d.toNat = 49 ∨ d.toNat = 50 ∨ d.toNat = 51 ∨ d.toNat = 52 ∨ d.toNat = 53 ∨ d.toNat = 54 ∨ d.toNat = 55 ∨ d.toNat = 56 ∨ d.toNat = 57 := by omega
  have e : ∀ k : Nat, d.toNat = k → d = UInt8.ofNat k := fun k hk => by rw [← hk]; simp
  rcases this with h | h | h | h | h | h | h | h | h | h <;> (rw [e _ h]; decide)
theorem digit_out {d : UInt8} (h : ¬ (48 ≤ d.toNat ∧ d.toNat ≤ 57)) : ([48, 49, 50, 51, 52, 53, 54, 55, 56, 57] : List UInt8).contains d = false := by
  rw [Bool.eq_false_iff]
  intro hc
  simp only [List.contains_iff_mem, List.mem_cons, List.not_mem_nil, or_false] at hc
  apply h
  rcases hc with rfl | rfl | rfl | rfl | rfl | rfl | rfl | rfl | rfl | rfl <;> decide

theorem cat_list (x y : ByteArray) : (x ++ y).data.toList = x.data.toList ++ y.data.toList := by
  show (x ++ y).data.toList = _
  rw [ByteArray.data_append, Array.toList_append]

/-- A sign: no digit, blank or bar, ASCII. -/
def SignB (s : ByteArray) : Prop := ∀ x ∈ s.data.toList, x.toNat < 48 ∧ x.toNat ≠ 32 ∨ 57 < x.toNat ∧ x.toNat < 124 ∨ x.toNat = 126

theorem word_sign {sg : ByteArray} (hs : SignB sg) {a b c : Int} (h : mayV a b c = true) : wordR (sg ++ textV a b c) = signR sg.data.toList (rankV a b c) := by
  obtain ⟨d, r, hd, h1, h2⟩ := text_first h
  have hl := text_long h
  have hk : idxK (sg ++ textV a b c) = sg.size := by
    unfold idxK
    rw [cat_list, Lib.indexAny_hit (i := sg.data.toList.length) (x := d) ?_ ?_ (digit_in ⟨h1, h2⟩)]
    · rw [list_size]; omega
    · intro j x hj hx
      rw [List.getElem?_append_left hj] at hx
      have := hs x (List.mem_of_getElem? hx)
      exact digit_out (by omega)
    · rw [List.getElem?_append_right (Nat.le_refl _), hd]; simp
  have e1 : (sg ++ textV a b c).extract sg.size (sg ++ textV a b c).size = textV a b c := by
    have : ((sg ++ textV a b c).extract sg.size (sg ++ textV a b c).size).data.toList = (textV a b c).data.toList := by
      rw [Lib.extract_to_end, cat_list, ← list_size sg, List.drop_left]
    rw [of_list this, list_of_bytes]
  have e2 : ((sg ++ textV a b c).extract 0 sg.size).data.toList = sg.data.toList := by
    rw [Lib.extract_from_zero, cat_list, ← list_size sg, List.take_left]
  unfold wordR
  rw [if_neg, hk, e1, e2, if_pos (okP_of h).1]
  · unfold plP
    rw [(okP_of h).2.1, (okP_of h).2.2.1, (okP_of h).2.2.2]
  · rw [cat_list]
    intro e
    have := congrArg List.length e
    rw [List.length_append, List.length_singleton] at this
    omega

theorem alt_word {s : ByteArray} (h : ∀ x ∈ s.data.toList, x.toNat ≠ 32 ∧ x.toNat ≠ 124) (h0 : s.size ≠ 0) {X : Rg} (hX : wordR s = some X) : altR s = some X := by
  have p1 : piecesB s ⟨#[124, 124]⟩ = [s] := pieces_one (c := 124) (tl := [124]) rfl fun x hx e => (h x hx).2 (by rw [e]; rfl)
  have p2 : piecesB s ⟨#[32]⟩ = [s] := pieces_one (c := 32) (tl := []) rfl fun x hx e => (h x hx).1 (by rw [e]; rfl)
  have hw : wordsF allR false [s] = some (X, true) := by
    rw [wordsF, if_neg h0, hX]
    simp only [wordsF]
    rw [meet_all (word_rg hX)]
  unfold altR
  rw [p1]
  unfold altF
  rw [p2]
  have b : wordsB [s] = true := by unfold wordsB; rw [hw]
  have l : wordsL [s] = X := by unfold wordsL; rw [hw]
  rw [if_pos b, l, join_none (word_rg hX)]
  rfl

theorem sign_plain {sg : ByteArray} (hs : SignB sg) {a b c : Int} (h : mayV a b c = true) : ∀ x ∈ (sg ++ textV a b c).data.toList, x.toNat ≠ 32 ∧ x.toNat ≠ 124 ∧ x.toNat < 128 := by
  intro x hx
  rw [cat_list, List.mem_append] at hx
  rcases hx with hx | hx
  · have := hs x hx; omega
  · have := text_bytes h x hx; omega

theorem plain_of {s : ByteArray} (h : ∀ x ∈ s.data.toList, x.toNat ≠ 32 ∧ x.toNat ≠ 124 ∧ x.toNat < 128) : PlainT s := by
  have p1 : piecesB s ⟨#[124, 124]⟩ = [s] := pieces_one (c := 124) (tl := [124]) rfl fun x hx e => (h x hx).2.1 (by rw [e]; rfl)
  have p2 : piecesB s ⟨#[32]⟩ = [s] := pieces_one (c := 32) (tl := []) rfl fun x hx e => (h x hx).1 (by rw [e]; rfl)
  unfold PlainT
  rw [p1]
  intro a ha
  rw [List.mem_singleton] at ha
  subst ha
  rw [p2]
  intro p hp _
  rw [List.mem_singleton] at hp
  subst hp
  exact Or.inr fun j b hj => (h b (List.mem_of_getElem? hj)).2.2

theorem sign_len {s : List UInt8} {n : Int} {X : Rg} (h : signR s n = some X) : X.length ≤ 64 := by
  unfold signR at h
  repeat' split at h
  all_goals first | (cases h; done) | (injection h with h; subst h)
  · simp
  · have := cutR_len (B := [(n, 999999999)]) allR_ok; simp only [allR, List.length_cons, List.length_nil] at this ⊢; omega
  · simp
  · have := cutR_len (B := [(0, n)]) allR_ok; simp only [allR, List.length_cons, List.length_nil] at this ⊢; omega
  · simp
  · simp
  · simp

/-- Parse of a sign and a version's text. -/
theorem Parse_sign {sg : ByteArray} (hs : SignB sg) (hz : sg.size ≤ 10) {a b c : Int} (h : mayV a b c = true) {X : Rg} (hX : signR sg.data.toList (rankV a b c) = some X) (w : World) (he : Env w) (hf : FL w) :
    Calls Tryz.prog 62 #[.string (sg ++ textV a b c)] w fun e w' => ∃ v, e = .returned (.tuple #[v, .int .i64 0]) ∧ SpansR w' v X ∧ Below w.heap.size w w' := by
  have hx : X.length ≤ 64 := sign_len hX
  have hp := sign_plain hs h
  have ht := text_size a b c
  have h2 := text_long h
  rw [list_size] at h2
  have ha : altR (sg ++ textV a b c) = some X := alt_word (fun x hx => ⟨(hp x hx).1, (hp x hx).2.1⟩) (by rw [size_cat]; omega) (by rw [word_sign hs h]; exact hX)
  refine (sParse_any _ (by rw [size_cat]; omega) (plain_of hp) w he hf).mono ?_
  rintro e w' ⟨v, rfl, ho, hb⟩
  rw [ha] at ho ⊢
  refine ⟨v, ?_, ?_, hb⟩
  · have : parE (some X) = 0 := by show fullE X.length = 0; unfold fullE; rw [if_pos hx]
    rw [this]
  · have := ho.spans
    have e : parL (some X) = X := fit_of hx
    rw [e] at this; exact this
end Go.Proofs.YthoacfmfpbngkaaGreatDoor
namespace Go.Proofs.YthoacfmfpbngkaaGreatDoor
open Go.RowKit
set_option maxRecDepth 100000

theorem byte_no : ∀ (l : List UInt8) (c : UInt8), (∀ x ∈ l, x.toNat < 128) → 128 ≤ c.toNat → Lib.indexByte l c = -1
  | [], _, _, _ => rfl
  | b :: l, c, h, hc => by
    have hb := h b List.mem_cons_self
    have ih := byte_no l c (fun x hx => h x (List.mem_cons_of_mem _ hx)) hc
    unfold Lib.indexByte
    have : ¬ b = c := fun e => by subst e; omega
    simp [this, ih]

set_option maxHeartbeats 1600000 in
theorem IndexRune_2 (r : Int) (b0 c : UInt8) (w : World) (h0 : 0 ≤ r) (h1 : ¬ r < 128) (hr : (r == 65533) = false) (hv : Lib.validRune r = true) (he : Utf8.encode r = ⟨#[b0, c]⟩) (hc : 128 ≤ c.toNat) :
    Calls Tryz.prog 141 #[.string ⟨#[48, 49, 50, 51, 52, 53, 54, 55, 56, 57]⟩, .int .i32 r] w fun e w' => e = .returned (.int .i64 (-1)) ∧ Below w.heap.size w w' := by
  have HV : Hid (∀ w1, Calls Tryz.prog 158 #[.int .i32 r] w1 fun e w' => e = .returned (.bool true) ∧ w' = w1) := fun w1 => by have := Tryz.utf8_ValidRune r w1; rw [hv] at this; exact this
  have HB : Hid (∀ w1, Calls Tryz.prog 157 #[.string ((⟨#[48, 49, 50, 51, 52, 53, 54, 55, 56, 57]⟩ : ByteArray).extract 2 10), .int .u8 (c.toNat : Int)] w1 fun e w' => e = .returned (.int .i64 (-1)) ∧ Below w1.heap.size w1 w') := fun w1 => by
    refine (Tryz.strings_IndexByte ((⟨#[48, 49, 50, 51, 52, 53, 54, 55, 56, 57]⟩ : ByteArray).extract 2 10) (c.toNat : Int) w1).mono ?_
    rintro e w' ⟨rfl, hw⟩
    have hcc : ((c.toNat : Int)).toNat.toUInt8 = c := by simp
    rw [hcc, byte_no _ c (by decide) hc]
    exact ⟨rfl, by rw [hw]; exact Below.refl _ _⟩
  have hne : ((49 : Int) != (c.toNat : Int)) = true := by simp; omega
  have gA : ∀ h, (⟨#[48, 49, 50, 51, 52, 53, 54, 55, 56, 57]⟩ : ByteArray)[1]'h = 49 := fun _ => rfl
  have gB : ∀ h, (⟨#[b0, c]⟩ : ByteArray)[1]'h = c := fun _ => rfl
  have hwr : IntKind.i64.wrap 2 = 2 := by decide
  clear hc hv
  go_enter Tryz.func141, Tryz.ntmps141
  go_wp2_with (go_at_call 158; refine (HV.out _).mono ?_; rintro e w1 ⟨rfl, hw⟩; subst hw)
  go_step3
  go_wp2_with fail
  refine wp_loop_rounds 1 ?_
  rw [rounds_succ]
  go_wp2_with fail
  go_step3
  go_wp2_with fail
  have HO : Hid (Below w1.heap.size w1 w1) := Below.refl _ _
  have HK : Hid (KeepP fun w2 => Below w1.heap.size w1 w2) := keepBelow w1
  refine wp_region_keep HK.out (by kernel_rfl) (by kernel_rfl) (by first | exact HO.out | exact HK.out.drew HO.out) ?_
  intro C hin hout
  have HIN := hide3 hin
  have HOUT := hide3 hout
  clear hin hout HO
  repeat
    (with_reducible refine wpQuiet_step (fun K hK => ?_)
     go_simp
     first
       | (refine hK _ ?_; clear hK K)
       | (apply Exists.intro; refine ⟨fun w1 hC => ?_, hK _ ?_⟩; (focus ((first | (exact rfl) | (obtain hb1 := HOUT.out w1 hC; clear hC; go_simp; first | done | exact rfl)); done)); clear hK K))
  refine wpQuiet_nil ?_
  intro wn hC
  have HO := hide3 (HOUT.out _ hC)
  clear hC HIN HOUT C
  obtain hb1 := HO.out
  go_wp2_with fail
  clear hb1
  refine wp_region_keep HK.out (by kernel_rfl) (by kernel_rfl) (by first | exact HO.out | exact HK.out.drew HO.out) ?_
  intro C hin hout
  have HIN := hide3 hin
  have HOUT := hide3 hout
  clear hin hout HO
  repeat
    (with_reducible refine wpQuiet_step (fun K hK => ?_)
     go_simp
     first
       | (refine hK _ ?_; clear hK K)
       | (apply Exists.intro; refine ⟨fun w1 hC => ?_, hK _ ?_⟩; (focus ((first | (go_at_call 157; with_reducible exact callC HIN.out HOUT.out HK.out HB.out w1 hC) | (exact rfl) | (obtain hb1 := HOUT.out w1 hC; clear hC; go_simp; first | done | exact rfl)); done)); clear hK K))
  refine wpQuiet_nil ?_
  intro wm hC
  have HO := hide3 (HOUT.out _ hC)
  clear hC HIN HOUT C
  obtain hb1 := HO.out
  go_wp2
  rw [Exit.noGoto_ret]
  go_wp2
  rw [Exit.noGoto_ret]
  go_ret
  exact ⟨rfl, HO.out⟩

set_option maxHeartbeats 1600000 in
theorem IndexRune_3 (r : Int) (b0 b1 c : UInt8) (w : World) (h0 : 0 ≤ r) (h1 : ¬ r < 128) (hr : (r == 65533) = false) (hv : Lib.validRune r = true) (he : Utf8.encode r = ⟨#[b0, b1, c]⟩) (hc : 128 ≤ c.toNat) :
    Calls Tryz.prog 141 #[.string ⟨#[48, 49, 50, 51, 52, 53, 54, 55, 56, 57]⟩, .int .i32 r] w fun e w' => e = .returned (.int .i64 (-1)) ∧ Below w.heap.size w w' := by
  have HV : Hid (∀ w1, Calls Tryz.prog 158 #[.int .i32 r] w1 fun e w' => e = .returned (.bool true) ∧ w' = w1) := fun w1 => by have := Tryz.utf8_ValidRune r w1; rw [hv] at this; exact this
  have HB : Hid (∀ w1, Calls Tryz.prog 157 #[.string ((⟨#[48, 49, 50, 51, 52, 53, 54, 55, 56, 57]⟩ : ByteArray).extract 3 10), .int .u8 (c.toNat : Int)] w1 fun e w' => e = .returned (.int .i64 (-1)) ∧ Below w1.heap.size w1 w') := fun w1 => by
    refine (Tryz.strings_IndexByte ((⟨#[48, 49, 50, 51, 52, 53, 54, 55, 56, 57]⟩ : ByteArray).extract 3 10) (c.toNat : Int) w1).mono ?_
    rintro e w' ⟨rfl, hw⟩
    have hcc : ((c.toNat : Int)).toNat.toUInt8 = c := by simp
    rw [hcc, byte_no _ c (by decide) hc]
    exact ⟨rfl, by rw [hw]; exact Below.refl _ _⟩
  have hne : ((50 : Int) != (c.toNat : Int)) = true := by simp; omega
  have gA : ∀ h, (⟨#[48, 49, 50, 51, 52, 53, 54, 55, 56, 57]⟩ : ByteArray)[2]'h = 50 := fun _ => rfl
  have gB : ∀ h, (⟨#[b0, b1, c]⟩ : ByteArray)[2]'h = c := fun _ => rfl
  have hwr : IntKind.i64.wrap 3 = 3 := by decide
  clear hc hv
  go_enter Tryz.func141, Tryz.ntmps141
  go_wp2_with (go_at_call 158; refine (HV.out _).mono ?_; rintro e w1 ⟨rfl, hw⟩; subst hw)
  go_step3
  go_wp2_with fail
  refine wp_loop_rounds 1 ?_
  rw [rounds_succ]
  go_wp2_with fail
  go_step3
  go_wp2_with fail
  have HO : Hid (Below w1.heap.size w1 w1) := Below.refl _ _
  have HK : Hid (KeepP fun w2 => Below w1.heap.size w1 w2) := keepBelow w1
  refine wp_region_keep HK.out (by kernel_rfl) (by kernel_rfl) (by first | exact HO.out | exact HK.out.drew HO.out) ?_
  intro C hin hout
  have HIN := hide3 hin
  have HOUT := hide3 hout
  clear hin hout HO
  repeat
    (with_reducible refine wpQuiet_step (fun K hK => ?_)
     go_simp
     first
       | (refine hK _ ?_; clear hK K)
       | (apply Exists.intro; refine ⟨fun w1 hC => ?_, hK _ ?_⟩; (focus ((first | (exact rfl) | (obtain hb1 := HOUT.out w1 hC; clear hC; go_simp; first | done | exact rfl)); done)); clear hK K))
  refine wpQuiet_nil ?_
  intro wn hC
  have HO := hide3 (HOUT.out _ hC)
  clear hC HIN HOUT C
  obtain hb1 := HO.out
  go_wp2_with fail
  clear hb1
  refine wp_region_keep HK.out (by kernel_rfl) (by kernel_rfl) (by first | exact HO.out | exact HK.out.drew HO.out) ?_
  intro C hin hout
  have HIN := hide3 hin
  have HOUT := hide3 hout
  clear hin hout HO
  repeat
    (with_reducible refine wpQuiet_step (fun K hK => ?_)
     go_simp
     first
       | (refine hK _ ?_; clear hK K)
       | (apply Exists.intro; refine ⟨fun w1 hC => ?_, hK _ ?_⟩; (focus ((first | (go_at_call 157; with_reducible exact callC HIN.out HOUT.out HK.out HB.out w1 hC) | (exact rfl) | (obtain hb1 := HOUT.out w1 hC; clear hC; go_simp; first | done | exact rfl)); done)); clear hK K))
  refine wpQuiet_nil ?_
  intro wm hC
  have HO := hide3 (HOUT.out _ hC)
  clear hC HIN HOUT C
  obtain hb1 := HO.out
  go_wp2
  rw [Exit.noGoto_ret]
  go_wp2
  rw [Exit.noGoto_ret]
  go_ret
  exact ⟨rfl, HO.out⟩

set_option maxHeartbeats 1600000 in
theorem IndexRune_4 (r : Int) (b0 b1 b2 c : UInt8) (w : World) (h0 : 0 ≤ r) (h1 : ¬ r < 128) (hr : (r == 65533) = false) (hv : Lib.validRune r = true) (he : Utf8.encode r = ⟨#[b0, b1, b2, c]⟩) (hc : 128 ≤ c.toNat) :
    Calls Tryz.prog 141 #[.string ⟨#[48, 49, 50, 51, 52, 53, 54, 55, 56, 57]⟩, .int .i32 r] w fun e w' => e = .returned (.int .i64 (-1)) ∧ Below w.heap.size w w' := by
  have HV : Hid (∀ w1, Calls Tryz.prog 158 #[.int .i32 r] w1 fun e w' => e = .returned (.bool true) ∧ w' = w1) := fun w1 => by have := Tryz.utf8_ValidRune r w1; rw [hv] at this; exact this
  have HB : Hid (∀ w1, Calls Tryz.prog 157 #[.string ((⟨#[48, 49, 50, 51, 52, 53, 54, 55, 56, 57]⟩ : ByteArray).extract 4 10), .int .u8 (c.toNat : Int)] w1 fun e w' => e = .returned (.int .i64 (-1)) ∧ Below w1.heap.size w1 w') := fun w1 => by
    refine (Tryz.strings_IndexByte ((⟨#[48, 49, 50, 51, 52, 53, 54, 55, 56, 57]⟩ : ByteArray).extract 4 10) (c.toNat : Int) w1).mono ?_
    rintro e w' ⟨rfl, hw⟩
    have hcc : ((c.toNat : Int)).toNat.toUInt8 = c := by simp
    rw [hcc, byte_no _ c (by decide) hc]
    exact ⟨rfl, by rw [hw]; exact Below.refl _ _⟩
  have hne : ((51 : Int) != (c.toNat : Int)) = true := by simp; omega
  have gA : ∀ h, (⟨#[48, 49, 50, 51, 52, 53, 54, 55, 56, 57]⟩ : ByteArray)[3]'h = 51 := fun _ => rfl
  have gB : ∀ h, (⟨#[b0, b1, b2, c]⟩ : ByteArray)[3]'h = c := fun _ => rfl
  have hwr : IntKind.i64.wrap 4 = 4 := by decide
  clear hc hv
  go_enter Tryz.func141, Tryz.ntmps141
  go_wp2_with (go_at_call 158; refine (HV.out _).mono ?_; rintro e w1 ⟨rfl, hw⟩; subst hw)
  go_step3
  go_wp2_with fail
  refine wp_loop_rounds 1 ?_
  rw [rounds_succ]
  go_wp2_with fail
  go_step3
  go_wp2_with fail
  have HO : Hid (Below w1.heap.size w1 w1) := Below.refl _ _
  have HK : Hid (KeepP fun w2 => Below w1.heap.size w1 w2) := keepBelow w1
  refine wp_region_keep HK.out (by kernel_rfl) (by kernel_rfl) (by first | exact HO.out | exact HK.out.drew HO.out) ?_
  intro C hin hout
  have HIN := hide3 hin
  have HOUT := hide3 hout
  clear hin hout HO
  repeat
    (with_reducible refine wpQuiet_step (fun K hK => ?_)
     go_simp
     first
       | (refine hK _ ?_; clear hK K)
       | (apply Exists.intro; refine ⟨fun w1 hC => ?_, hK _ ?_⟩; (focus ((first | (exact rfl) | (obtain hb1 := HOUT.out w1 hC; clear hC; go_simp; first | done | exact rfl)); done)); clear hK K))
  refine wpQuiet_nil ?_
  intro wn hC
  have HO := hide3 (HOUT.out _ hC)
  clear hC HIN HOUT C
  obtain hb1 := HO.out
  go_wp2_with fail
  clear hb1
  refine wp_region_keep HK.out (by kernel_rfl) (by kernel_rfl) (by first | exact HO.out | exact HK.out.drew HO.out) ?_
  intro C hin hout
  have HIN := hide3 hin
  have HOUT := hide3 hout
  clear hin hout HO
  repeat
    (with_reducible refine wpQuiet_step (fun K hK => ?_)
     go_simp
     first
       | (refine hK _ ?_; clear hK K)
       | (apply Exists.intro; refine ⟨fun w1 hC => ?_, hK _ ?_⟩; (focus ((first | (go_at_call 157; with_reducible exact callC HIN.out HOUT.out HK.out HB.out w1 hC) | (exact rfl) | (obtain hb1 := HOUT.out w1 hC; clear hC; go_simp; first | done | exact rfl)); done)); clear hK K))
  refine wpQuiet_nil ?_
  intro wm hC
  have HO := hide3 (HOUT.out _ hC)
  clear hC HIN HOUT C
  obtain hb1 := HO.out
  go_wp2
  rw [Exit.noGoto_ret]
  go_wp2
  rw [Exit.noGoto_ret]
  go_ret
  exact ⟨rfl, HO.out⟩
end Go.Proofs.YthoacfmfpbngkaaGreatDoor
