/- The document's Folded. -/
import Derived.Test.YtkmgfemhfibikaaGreatDoorFd3
import Derived.Deep.RegionHeld3
namespace Go.Proofs.YtkmgfemhfibikaaGreatDoor
open Go.RowKit
set_option maxRecDepth 100000

/-- Where the span under way began. -/
def fromV : Option Int → Int
  | none => -1
  | some f => f
theorem fold_in {P : Int → Bool} {x : Int} {r : List Int} (h : (decide (x ≤ 999999999) && P x) = true) (f : Option Int) : foldG P (x :: r) f = foldG P r (some (f.getD x)) := by
  cases f with
  | none =>
    show (if (decide (x ≤ 999999999) && P x) = true then foldG P r (some x) else foldG P r none) = foldG P r (some x)
    rw [if_pos h]
  | some f =>
    show (if (decide (x ≤ 999999999) && P x) = true then foldG P r (some f) else (f, x - 1) :: foldG P r none) = foldG P r (some f)
    rw [if_pos h]
theorem fold_out_none {P : Int → Bool} {x : Int} {r : List Int} (h : (decide (x ≤ 999999999) && P x) = false) : foldG P (x :: r) none = foldG P r none := by
  conv => lhs; unfold foldG; rw [if_neg (by rw [h]; simp)]
theorem fold_out_some {P : Int → Bool} {x : Int} {r : List Int} (h : (decide (x ≤ 999999999) && P x) = false) (f : Int) : foldG P (x :: r) (some f) = (f, x - 1) :: foldG P r none := by
  conv => lhs; unfold foldG; rw [if_neg (by rw [h]; simp)]

/-- A place that holds an int. -/
def CellI (w : World) (g i : Nat) (x : Int) : Prop := w.cell? ⟨g, i, none⟩ = some (.int .i64 x) ∧ g < w.heap.size
theorem keepCellI (g i : Nat) (x : Int) : KeepP fun w1 => CellI w1 g i x := fun _ _ h hb => ⟨(hb.cell (p := ⟨g, i, none⟩) h.2).trans h.1, Nat.lt_of_lt_of_le h.2 hb.size⟩
/-- What the loop keeps. -/
def KF (w : World) (B : Nat) (vo v2 : Value) (o1 : Rg) (l : List Int) (w1 : World) : Prop := Below w.heap.size w w1 ∧ OwnS w1 B vo (o1.map spR) ∧ IntsAt w1 v2 l
theorem keepKF (w : World) (B : Nat) (vo v2 : Value) (o1 : Rg) (l : List Int) : KeepP (KF w B vo v2 o1 l) := (keepBelow w).and ((keepOwn _ _ _).and (keepInts _ _))

/-- A span is put behind a row, in a region that draws its order. -/
theorem step_app2 {w wx : World} {uo v2 : Value} {o1 : Rg} {l : List Int} {ops : Array Oper} {o : Oper} {f : Act} {K : Act → World → Prop} {Q : Exit → Act → World → Prop} {E : Prop} (hgd : o.guard = none) (s t : Operand)
    (ho : o.op = .call { callee := .builtin .append, args := #[s, t], argTypes := #[22, 22] }) (hs : f.eval s = uo) (p : Int × Int)
    (hK : KF w w.heap.size uo v2 o1 l wx) (hv2 : ∀ g, uo.ownBlock = some g → v2.ownBlock ≠ some g) {ga ia : Nat} {xa : Int} (hca : CellI wx ga ia xa) (hga : v2.ownBlock = some ga) {M : Nat} (hM : wx.heap.size = M) (hx : f.eval t = .slice (some ⟨M, 0, none⟩) 1 1) (hlen : o1.length + 1 ≤ 1000000000)
    (h : ∀ v1 w1, KF w w.heap.size v1 v2 (o1 ++ [p]) l w1 → (∀ g, v1.ownBlock = some g → v2.ownBlock ≠ some g) → w1.cell? ⟨ga, ia, none⟩ = some (.int .i64 xa) → K (f.put o.dst v1) w1) :
    if Region.wanted o (yielded ops f.tmps) = true then Oper.wp Tryz.prog o f (wx.alloc (.cells #[.int .i64 (atA p.1), .int .i64 (atB p.1), .int .i64 (atC p.1), .int .i64 (atA p.2), .int .i64 (atB p.2), .int .i64 (atC p.2)] 37)) K Q else E := by
  have hw : Region.wanted o (yielded ops f.tmps) = true := by simp [Region.wanted, hgd]
  rw [if_pos hw]
  subst hM
  obtain ⟨i0, hi, hz0, hz1, hz2⟩ := info_parts3 infoSpan
  obtain ⟨k1, k2, k3⟩ := hK
  have hob : OwnS (wx.alloc (.cells #[.int .i64 (atA p.1), .int .i64 (atB p.1), .int .i64 (atC p.1), .int .i64 (atA p.2), .int .i64 (atB p.2), .int .i64 (atC p.2)] 37)) w.heap.size uo (o1.map spR) := k2.below (boxB _ _)
  have hsz : (wx.alloc (.cells #[.int .i64 (atA p.1), .int .i64 (atB p.1), .int .i64 (atC p.1), .int .i64 (atA p.2), .int .i64 (atB p.2), .int .i64 (atC p.2)] 37)).heap.size = wx.heap.size + 1 := by simp
  have hwx := k1.size
  obtain ⟨v1, w1, hr, hown1, hg1, _, hat⟩ := run_append_own_at (P := Tryz.prog) (wx.alloc (.cells #[.int .i64 (atA p.1), .int .i64 (atB p.1), .int .i64 (atC p.1), .int .i64 (atA p.2), .int .i64 (atB p.2), .int .i64 (atC p.2)] 37)) w.heap.size 22 o.type 37 i0 _ 6 48 Tryz.underlying22 hi hz0 hz1 hz2 rfl (by decide) uo _ _ hob ⟨wx.heap.size, 0, none⟩ 1 1 [.int .i64 (atA p.1), .int .i64 (atB p.1), .int .i64 (atC p.1), .int .i64 (atA p.2), .int .i64 (atB p.2), .int .i64 (atC p.2)] rfl
    (World.news_of_block (cs := #[.int .i64 (atA p.1), .int .i64 (atB p.1), .int .i64 (atC p.1), .int .i64 (atA p.2), .int .i64 (atB p.2), .int .i64 (atC p.2)]) (t := 37) (fr := (0, 0)) (by show (wx.heap.push _)[wx.heap.size]? = _; rw [Array.getElem?_push, if_pos rfl])) (by simp [Value.oneCell']) (by unfold maxLen; rw [List.length_map]; omega) (by rw [List.length_map]; omega) (by omega)
  unfold Oper.wp execOp
  simp only [ho, resolve, invoke, builtin, Sem.run_bind, Sem.run_pure, Result.andThen_ok, List.map_toArray, List.map_cons, List.map_nil, hs, hx, hr]
  have hbw : Below w.heap.size w w1 := (below_then k1 (boxB _ _)).grown hg1 (by omega) (fun k hk => (k2.lt hk).2)
  have far : ∀ i, ga < wx.heap.size → w1.cell? ⟨ga, i, none⟩ = wx.cell? ⟨ga, i, none⟩ := fun i hgl => by
    have hne : uo.ownBlock ≠ some ga := fun e => hv2 ga e hga
    have hbl := hg1.block ga (by omega) (fun e => hne e.symm)
    rw [World.cell?_of_block (w := wx.alloc _) hbl]
    exact (boxB wx (.cells #[.int .i64 (atA p.1), .int .i64 (atB p.1), .int .i64 (atC p.1), .int .i64 (atA p.2), .int .i64 (atB p.2), .int .i64 (atC p.2)] 37)).cell (p := ⟨ga, i, none⟩) hgl
  obtain ⟨g, off, cap, rfl, hc, hg, hcs⟩ := k3
  obtain rfl : g = ga := Option.some.inj hga
  refine h v1 w1 ⟨hbw, ?_, ⟨g, off, cap, rfl, hc, by have := hg1.size; omega, fun i hi => ?_⟩⟩ ?_ ((far ia hca.2).trans hca.1)
  · unfold OwnS
    rw [List.map_append, List.map_singleton, spCells_snoc, List.length_append]
    exact hown1
  · exact (far (off + i) hg).trans (hcs i hi)
  · intro q hq e
    have e' : g = q := Option.some.inj e
    rcases hat with h1 | h1
    · rw [h1] at hq; exact hv2 q hq e
    · rw [h1, hsz] at hq
      have := Option.some.inj hq
      omega

set_option maxHeartbeats 12800000 in
theorem Folded_walk (kind : UInt8) (La Lb : List Sp) (va vb : Value) (w : World) (hl : La.length + Lb.length ≤ 100000) (ha : SpansAt w va La) (hb : SpansAt w vb Lb) :
    Calls Tryz.prog 31 #[.int .u8 (kind.toNat : Int), va, vb] w fun e w' => ∃ v, e = .returned (.tuple #[v, .int .i64 (fullE (foldK kind (La.map rkS) (Lb.map rkS)).length)]) ∧ OwnS w' w.heap.size v ((fitR (foldK kind (La.map rkS) (Lb.map rkS))).map spR) ∧ Below w.heap.size w w' := by
  have HE1 : Hid (∀ w1 vl, Below w.heap.size w w1 → IntsAt w1 vl [0, 1000000000] → Calls Tryz.prog 49 #[vl, va] w1 fun e w' => ∃ v, e = .returned v ∧ IntsAt w' v (endsF [0, 1000000000] (La.map rkS)) ∧ Below w1.heap.size w1 w') := fun w1 vl h1 h2 => ends_any (by simp; omega) h2 (ha.below h1)
  have HE2 : Hid (∀ w1 vl, Below w.heap.size w w1 → IntsAt w1 vl (endsF [0, 1000000000] (La.map rkS)) → Calls Tryz.prog 49 #[vl, vb] w1 fun e w' => ∃ v, e = .returned v ∧ IntsAt w' v (placesF (La.map rkS) (Lb.map rkS)) ∧ Below w1.heap.size w1 w') := fun w1 vl h1 h2 => ends_any (by have := ends_len (Q := La.map rkS) (l := [0, 1000000000]); simp at this; omega) h2 (hb.below h1)
  have HHA : Hid (∀ n w1, Below w.heap.size w w1 → Calls Tryz.prog 51 #[va, .int .i64 n] w1 fun e w' => e = .returned (.bool (hasQ (La.map rkS) n)) ∧ Below w1.heap.size w1 w') := fun n w1 h1 => by have := has_any (ha.below h1) (by omega) n; rw [has_rk] at this; exact this
  have HHB : Hid (∀ n w1, Below w.heap.size w w1 → Calls Tryz.prog 51 #[vb, .int .i64 n] w1 fun e w' => e = .returned (.bool (hasQ (Lb.map rkS) n)) ∧ Below w1.heap.size w1 w') := fun n w1 h1 => by have := has_any (hb.below h1) (by omega) n; rw [has_rk] at this; exact this
  have HWA : Hid (∀ x y w1, Calls Tryz.prog 50 #[.int .u8 (kind.toNat : Int), .bool x, .bool y] w1 fun e w' => e = .returned (.bool (wantK kind x y)) ∧ Below w1.heap.size w1 w') := fun x y w1 => wanted_any kind x y w1
  have HAT : Hid (∀ n w1, Calls Tryz.prog 42 #[.int .i64 n] w1 fun e w' => e = .returned (.agg #[.int .i64 (atA n), .int .i64 (atB n), .int .i64 (atC n)]) ∧ Below w1.heap.size w1 w') := rat_any
  have hpl : (placesF (La.map rkS) (Lb.map rkS)).length ≤ 200002 := by
    have h1 := ends_len (Q := La.map rkS) (l := [0, 1000000000])
    have h2 := ends_len (Q := Lb.map rkS) (l := endsF [0, 1000000000] (La.map rkS))
    unfold placesF
    simp at h1 h2
    omega
  have hrng : ∀ x ∈ placesF (La.map rkS) (Lb.map rkS), 0 ≤ x ∧ x ≤ 1000000000 := by
    intro x hx
    unfold placesF at hx
    rw [ends_mem, ends_mem] at hx
    rcases hx with (hx | ⟨q, hq, h⟩) | ⟨q, hq, h⟩
    · simp at hx; omega
    · obtain ⟨q1, q2⟩ := okq_rk La q hq; rcases h with rfl | rfl <;> omega
    · obtain ⟨q1, q2⟩ := okq_rk Lb q hq; rcases h with rfl | rfl <;> omega
  have HRNG := hide3 hrng
  have HFK : Hid (foldK kind (La.map rkS) (Lb.map rkS) = foldG (fun n => wantK kind (hasQ (La.map rkS) n) (hasQ (Lb.map rkS) n)) (placesF (La.map rkS) (Lb.map rkS)) none) := rfl
  clear ha hb hrng hl
  generalize La.map rkS = Qa at *
  generalize Lb.map rkS = Qb at *
  generalize foldK kind Qa Qb = R at *
  generalize placesF Qa Qb = l at *
  go_enter Tryz.func31, Tryz.ntmps31
  have HI0 : Hid (IntsAt (w.alloc (.cells #[.int .i64 0, .int .i64 1000000000] 3)) (.slice (some ⟨w.heap.size, 0, none⟩) 2 2) [0, 1000000000]) := by
    refine ⟨w.heap.size, 0, 2, rfl, Nat.le_refl _, by simp, fun i hi => ?_⟩
    match i, hi with
    | 0, _ => simp
    | 1, _ => simp
  have t1 : True := trivial
  go_wp2_with (first
    | (have _t := t1; go_at_call 49; refine (HE1.out _ _ (boxB _ _) HI0.out).mono ?_; rintro e w1 ⟨v1, rfl, hi1, ok⟩; have HI1 := hide3 hi1; have HB1 : Hid (Below w.heap.size w w1) := below_then (boxB _ _) ok; clear ok hi1 t1 HE1)
    | (go_at_call 49; refine (HE2.out _ _ HB1.out HI1.out).mono ?_; rintro e w2 ⟨v2, rfl, hi2, ok⟩; have HI2 := hide3 hi2; have HB2 : Hid (Below w.heap.size w w2) := below_then HB1.out ok; clear ok hi2 HE2))
  go_loopw [9, 10, 11] (fun vo vf i wr => ∃ (k : Nat) (o1 : Rg) (f : Option Int), k ≤ l.length ∧ i = .int .i64 k ∧ vf = .int .i64 (fromV f) ∧ (∀ q, f = some q → 0 ≤ q ∧ q ≤ 999999999) ∧ o1.length ≤ k ∧ KF w w.heap.size vo v2 o1 l wr ∧ (∀ g, vo.ownBlock = some g → v2.ownBlock ≠ some g) ∧ R = o1 ++ foldG (fun n => wantK kind (hasQ Qa n) (hasQ Qb n)) (l.drop k) f) (fun _ _ i _ => l.length - (intOf i).toNat)
  case atStart => exact ⟨0, [], none, Nat.zero_le _, rfl, rfl, (fun q h => by cases h), Nat.le_refl _, ⟨HB2.out, OwnS.nil _ _, HI2.out⟩, (fun g h => by cases h), HFK.out⟩
  case round =>
    obtain ⟨k, o1, f, hk, rfl, rfl, hfr, hol, hkf, hne, hRR⟩ := hrel
    have HNE := hide3 hne
    have HRR := hide3 hRR
    have HKF := hide3 hkf
    clear hne hRR hkf HI2 HB2
    obtain ⟨g, o, cap, rfl, hcap, _, _⟩ := HKF.out.2.2
    by_cases hlt : k < l.length
    · have hd : l.drop k = l[k] :: l.drop (k + 1) := List.drop_eq_getElem_cons hlt
      have hxr := HRNG.out _ (List.getElem_mem hlt)
      have HO : Hid (KF w w.heap.size u9 (.slice (some ⟨g, o, none⟩) l.length cap) o1 l wr ∧ CellI wr g (o + k) l[k]) := by
        refine ⟨HKF.out, ?_⟩
        obtain ⟨g', o', cap', e, _, h2, h3⟩ := HKF.out.2.2
        cases e
        exact ⟨h3 k hlt, h2⟩
      have HK : Hid (KeepP fun w1 => KF w w.heap.size u9 (.slice (some ⟨g, o, none⟩) l.length cap) o1 l w1 ∧ CellI w1 g (o + k) l[k]) := (keepKF _ _ _ _ _ _).and (keepCellI _ _ _)
      rw [hd] at HRR
      clear hd HKF
      generalize l[k] = x at *
      have HC1 : Hid (∀ w1, (KF w w.heap.size u9 (.slice (some ⟨g, o, none⟩) l.length cap) o1 l w1 ∧ CellI w1 g (o + k) x) → Calls Tryz.prog 51 #[va, .int .i64 x] w1 fun e w' => e = .returned (.bool (hasQ Qa x)) ∧ Below w1.heap.size w1 w') := fun w1 h => HHA.out x w1 h.1.1
      have HC2 : Hid (∀ w1, (KF w w.heap.size u9 (.slice (some ⟨g, o, none⟩) l.length cap) o1 l w1 ∧ CellI w1 g (o + k) x) → Calls Tryz.prog 51 #[vb, .int .i64 x] w1 fun e w' => e = .returned (.bool (hasQ Qb x)) ∧ Below w1.heap.size w1 w') := fun w1 h => HHB.out x w1 h.1.1
      have HC3 : Hid (∀ w1, Calls Tryz.prog 50 #[.int .u8 (kind.toNat : Int), .bool (hasQ Qa x), .bool (hasQ Qb x)] w1 fun e w' => e = .returned (.bool (wantK kind (hasQ Qa x) (hasQ Qb x))) ∧ Below w1.heap.size w1 w') := fun w1 => HWA.out _ _ w1
      have HIN : Hid (∀ b, (decide (x ≤ 999999999) && wantK kind (hasQ Qa x) (hasQ Qb x)) = b → (decide (x ≤ 999999999) && (fun n => wantK kind (hasQ Qa n) (hasQ Qb n)) x) = b) := fun b h => h
      generalize hasQ Qa x = ha at *
      generalize hasQ Qb x = hb at *
      by_cases hx : x ≤ 999999999
      · have dx : decide (x ≤ 999999999) = true := decide_eq_true hx
        cases hwn : wantK kind ha hb
        · have hin := HIN.out false (by rw [hwn]; simp)
          rw [hwn] at HC3
          clear HIN hwn
          cases f with
          | none =>
            have f0 : fromV none = -1 := rfl
            have HST : Hid (R = o1 ++ foldG (fun n => wantK kind (hasQ Qa n) (hasQ Qb n)) (l.drop (k + 1)) none) := by unfold Hid; rw [HRR.out, fold_out_none hin]
            clear hin
            go_wp2_with fail
            refine wp_region_keep HK.out (by kernel_rfl) (by kernel_rfl) (by first | exact HO.out | exact HK.out.drew HO.out) ?_
            intro C hin hout
            have HIN := hide3 hin
            have HOUT := hide3 hout
            clear hin hout HO
            repeat
              (with_reducible refine wpQuiet_step (fun K hK => ?_)
               go_simp
               first
                 | (refine hK _ ?_; clear hK K)
                 | (apply Exists.intro; refine ⟨fun w1 hC => ?_, hK _ ?_⟩; (focus ((first | (go_at_call 51; with_reducible exact callC' HIN.out HOUT.out HK.out HC1.out w1 hC) | (go_at_call 51; with_reducible exact callC' HIN.out HOUT.out HK.out HC2.out w1 hC) | (go_at_call 50; with_reducible exact callC HIN.out HOUT.out HK.out HC3.out w1 hC) | (exact rfl) | (obtain ⟨⟨hb1, hb2, hb3⟩, ⟨p0, p1⟩⟩ := HOUT.out w1 hC; clear hC; go_simp; first | done | exact rfl)); done)); clear hK K))
            refine wpQuiet_nil ?_
            intro wn hC
            have HO := hide3 (HOUT.out _ hC)
            clear hC HIN HOUT C
            obtain ⟨⟨hb1, hb2, hb3⟩, ⟨p0, p1⟩⟩ := HO.out
            go_wp2
            exact ⟨⟨k + 1, o1, none, by omega, by go_num, rfl, (fun q e => by cases e), by omega, HO.out.1, HNE.out, HST.out⟩, by simp [intOf]; omega⟩
          | some f =>
            obtain ⟨hq0, hq1⟩ := hfr f rfl
            have f0 : fromV (some f) = f := rfl
            obtain ⟨y, hy⟩ : ∃ y, y = x - 1 := ⟨_, rfl⟩
            have HST : Hid (R = (o1 ++ [(f, y)]) ++ foldG (fun n => wantK kind (hasQ Qa n) (hasQ Qb n)) (l.drop (k + 1)) none) := by unfold Hid; rw [HRR.out, fold_out_some hin, hy]; simp
            have HLN : Hid (o1.length + 1 ≤ 1000000000) := by unfold Hid; omega
            have wx1 : IntKind.i64.wrap (x - 1) = y := by rw [IntKind.wrap_i64]; omega
            have hge : (0 : Int) ≤ f := hq0
            clear hy
            clear hin
            go_wp2_with fail
            refine wp_region_keep HK.out (by kernel_rfl) (by kernel_rfl) (by first | exact HO.out | exact HK.out.drew HO.out) ?_
            intro C hin hout
            have HIN := hide3 hin
            have HOUT := hide3 hout
            clear hin hout HO
            repeat
              (with_reducible refine wpQuiet_step (fun K hK => ?_)
               go_simp
               first
                 | (refine hK _ ?_; clear hK K)
                 | (apply Exists.intro; refine ⟨fun w1 hC => ?_, hK _ ?_⟩; (focus ((first | (go_at_call 51; with_reducible exact callC' HIN.out HOUT.out HK.out HC1.out w1 hC) | (go_at_call 51; with_reducible exact callC' HIN.out HOUT.out HK.out HC2.out w1 hC) | (go_at_call 50; with_reducible exact callC HIN.out HOUT.out HK.out HC3.out w1 hC) | (exact rfl) | (obtain ⟨⟨hb1, hb2, hb3⟩, ⟨p0, p1⟩⟩ := HOUT.out w1 hC; clear hC; go_simp; first | done | exact rfl)); done)); clear hK K))
            refine wpQuiet_nil ?_
            intro wn hC
            have HO := hide3 (HOUT.out _ hC)
            clear hC HIN HOUT C
            obtain ⟨⟨hb1, hb2, hb3⟩, ⟨p0, p1⟩⟩ := HO.out
            go_wp2_with fail
            have HOA := HO
            clear HO
            go_region_held3 (fun w' => w'.cell? ⟨g, o + k, none⟩ = some (.int .i64 x)) (go_keep)
              (first
                | (have _h := HOA; go_at_call 42; refine (HAT.out _ _).mono ?_; rintro e wz ⟨rfl, ok⟩; have HOB := hide3 (HK.out _ _ (HK.out.drew HOA.out) ok); clear ok HOA p0 p1; obtain ⟨_, ⟨p0, p1⟩⟩ := HOB.out)
                | (have _h := HOB; go_at_call 42; refine (HAT.out _ _).mono ?_; rintro e wz2 ⟨rfl, ok⟩; have HO := hide3 (HK.out _ _ HOB.out ok); clear ok HOB p0 p1; obtain ⟨_, ⟨p0, p1⟩⟩ := HO.out)
                | (refine step_app2 (w := w) (uo := u9) (v2 := .slice (some ⟨g, o, none⟩) l.length cap) (o1 := o1) (l := l) rfl (.tmp 60) (.tmp 70) rfl rfl (f, y) HO.out.1 HNE.out HO.out.2 rfl rfl rfl HLN.out ?_; intro v3 w3 ok3 ne3 p0; have HK3 := hide3 ok3; have HNE3 := hide3 ne3; clear ok3 ne3))
            all_goals go_wp2
            all_goals exact ⟨⟨k + 1, o1 ++ [(f, y)], none, by omega, by go_num, rfl, (fun q e => by cases e), by simp; omega, HK3.out, HNE3.out, HST.out⟩, by simp [intOf]; omega⟩
        · rw [hwn] at HC3
          have hin := HIN.out true (by rw [hwn, dx]; rfl)
          have HST : Hid (R = o1 ++ foldG (fun n => wantK kind (hasQ Qa n) (hasQ Qb n)) (l.drop (k + 1)) (some (f.getD x))) := by unfold Hid; rw [HRR.out, fold_in hin]
          clear hin HIN hwn
          cases f with
          | none =>
            have f0 : fromV none = -1 := rfl
            go_wp2_with fail
            refine wp_region_keep HK.out (by kernel_rfl) (by kernel_rfl) (by first | exact HO.out | exact HK.out.drew HO.out) ?_
            intro C hin hout
            have HIN := hide3 hin
            have HOUT := hide3 hout
            clear hin hout HO
            repeat
              (with_reducible refine wpQuiet_step (fun K hK => ?_)
               go_simp
               first
                 | (refine hK _ ?_; clear hK K)
                 | (apply Exists.intro; refine ⟨fun w1 hC => ?_, hK _ ?_⟩; (focus ((first | (go_at_call 51; with_reducible exact callC' HIN.out HOUT.out HK.out HC1.out w1 hC) | (go_at_call 51; with_reducible exact callC' HIN.out HOUT.out HK.out HC2.out w1 hC) | (go_at_call 50; with_reducible exact callC HIN.out HOUT.out HK.out HC3.out w1 hC) | (exact rfl) | (obtain ⟨⟨hb1, hb2, hb3⟩, ⟨p0, p1⟩⟩ := HOUT.out w1 hC; clear hC; go_simp; first | done | exact rfl)); done)); clear hK K))
            refine wpQuiet_nil ?_
            intro wn hC
            have HO := hide3 (HOUT.out _ hC)
            clear hC HIN HOUT C
            obtain ⟨⟨hb1, hb2, hb3⟩, ⟨p0, p1⟩⟩ := HO.out
            go_wp2
            exact ⟨⟨k + 1, o1, some x, by omega, by go_num, rfl, (fun q e => by cases e; exact ⟨hxr.1, hx⟩), by omega, HO.out.1, HNE.out, HST.out⟩, by simp [intOf]; omega⟩
          | some f =>
            obtain ⟨hq0, hq1⟩ := hfr f rfl
            have f0 : fromV (some f) = f := rfl
            have hq2 : ¬ f < 0 := by omega
            go_wp2_with fail
            refine wp_region_keep HK.out (by kernel_rfl) (by kernel_rfl) (by first | exact HO.out | exact HK.out.drew HO.out) ?_
            intro C hin hout
            have HIN := hide3 hin
            have HOUT := hide3 hout
            clear hin hout HO
            repeat
              (with_reducible refine wpQuiet_step (fun K hK => ?_)
               go_simp
               first
                 | (refine hK _ ?_; clear hK K)
                 | (apply Exists.intro; refine ⟨fun w1 hC => ?_, hK _ ?_⟩; (focus ((first | (go_at_call 51; with_reducible exact callC' HIN.out HOUT.out HK.out HC1.out w1 hC) | (go_at_call 51; with_reducible exact callC' HIN.out HOUT.out HK.out HC2.out w1 hC) | (go_at_call 50; with_reducible exact callC HIN.out HOUT.out HK.out HC3.out w1 hC) | (exact rfl) | (obtain ⟨⟨hb1, hb2, hb3⟩, ⟨p0, p1⟩⟩ := HOUT.out w1 hC; clear hC; go_simp; first | done | exact rfl)); done)); clear hK K))
            refine wpQuiet_nil ?_
            intro wn hC
            have HO := hide3 (HOUT.out _ hC)
            clear hC HIN HOUT C
            obtain ⟨⟨hb1, hb2, hb3⟩, ⟨p0, p1⟩⟩ := HO.out
            go_wp2
            exact ⟨⟨k + 1, o1, some f, by omega, by go_num, rfl, hfr, by omega, HO.out.1, HNE.out, HST.out⟩, by simp [intOf]; omega⟩
      · have dx : decide (x ≤ 999999999) = false := decide_eq_false hx
        have hin := HIN.out false (by rw [dx]; rfl)
        clear HIN
        cases f with
        | none =>
          have f0 : fromV none = -1 := rfl
          have HST : Hid (R = o1 ++ foldG (fun n => wantK kind (hasQ Qa n) (hasQ Qb n)) (l.drop (k + 1)) none) := by unfold Hid; rw [HRR.out, fold_out_none hin]
          clear hin
          go_wp2_with fail
          refine wp_region_keep HK.out (by kernel_rfl) (by kernel_rfl) (by first | exact HO.out | exact HK.out.drew HO.out) ?_
          intro C hin hout
          have HIN := hide3 hin
          have HOUT := hide3 hout
          clear hin hout HO
          repeat
            (with_reducible refine wpQuiet_step (fun K hK => ?_)
             go_simp
             first
               | (refine hK _ ?_; clear hK K)
               | (apply Exists.intro; refine ⟨fun w1 hC => ?_, hK _ ?_⟩; (focus ((first | (go_at_call 51; with_reducible exact callC' HIN.out HOUT.out HK.out HC1.out w1 hC) | (go_at_call 51; with_reducible exact callC' HIN.out HOUT.out HK.out HC2.out w1 hC) | (go_at_call 50; with_reducible exact callC HIN.out HOUT.out HK.out HC3.out w1 hC) | (exact rfl) | (obtain ⟨⟨hb1, hb2, hb3⟩, ⟨p0, p1⟩⟩ := HOUT.out w1 hC; clear hC; go_simp; first | done | exact rfl)); done)); clear hK K))
          refine wpQuiet_nil ?_
          intro wn hC
          have HO := hide3 (HOUT.out _ hC)
          clear hC HIN HOUT C
          obtain ⟨⟨hb1, hb2, hb3⟩, ⟨p0, p1⟩⟩ := HO.out
          go_wp2
          exact ⟨⟨k + 1, o1, none, by omega, by go_num, rfl, (fun q e => by cases e), by omega, HO.out.1, HNE.out, HST.out⟩, by simp [intOf]; omega⟩
        | some f =>
          obtain ⟨hq0, hq1⟩ := hfr f rfl
          have f0 : fromV (some f) = f := rfl
          obtain ⟨y, hy⟩ : ∃ y, y = x - 1 := ⟨_, rfl⟩
          have HST : Hid (R = (o1 ++ [(f, y)]) ++ foldG (fun n => wantK kind (hasQ Qa n) (hasQ Qb n)) (l.drop (k + 1)) none) := by unfold Hid; rw [HRR.out, fold_out_some hin, hy]; simp
          have HLN : Hid (o1.length + 1 ≤ 1000000000) := by unfold Hid; omega
          have wx1 : IntKind.i64.wrap (x - 1) = y := by rw [IntKind.wrap_i64]; omega
          have hge : (0 : Int) ≤ f := hq0
          clear hy
          clear hin
          go_wp2_with fail
          refine wp_region_keep HK.out (by kernel_rfl) (by kernel_rfl) (by first | exact HO.out | exact HK.out.drew HO.out) ?_
          intro C hin hout
          have HIN := hide3 hin
          have HOUT := hide3 hout
          clear hin hout HO
          repeat
            (with_reducible refine wpQuiet_step (fun K hK => ?_)
             go_simp
             first
               | (refine hK _ ?_; clear hK K)
               | (apply Exists.intro; refine ⟨fun w1 hC => ?_, hK _ ?_⟩; (focus ((first | (go_at_call 51; with_reducible exact callC' HIN.out HOUT.out HK.out HC1.out w1 hC) | (go_at_call 51; with_reducible exact callC' HIN.out HOUT.out HK.out HC2.out w1 hC) | (go_at_call 50; with_reducible exact callC HIN.out HOUT.out HK.out HC3.out w1 hC) | (exact rfl) | (obtain ⟨⟨hb1, hb2, hb3⟩, ⟨p0, p1⟩⟩ := HOUT.out w1 hC; clear hC; go_simp; first | done | exact rfl)); done)); clear hK K))
          refine wpQuiet_nil ?_
          intro wn hC
          have HO := hide3 (HOUT.out _ hC)
          clear hC HIN HOUT C
          obtain ⟨⟨hb1, hb2, hb3⟩, ⟨p0, p1⟩⟩ := HO.out
          go_wp2_with fail
          have HOA := HO
          clear HO
          go_region_held3 (fun w' => w'.cell? ⟨g, o + k, none⟩ = some (.int .i64 x)) (go_keep)
            (first
              | (have _h := HOA; go_at_call 42; refine (HAT.out _ _).mono ?_; rintro e wz ⟨rfl, ok⟩; have HOB := hide3 (HK.out _ _ (HK.out.drew HOA.out) ok); clear ok HOA p0 p1; obtain ⟨_, ⟨p0, p1⟩⟩ := HOB.out)
              | (have _h := HOB; go_at_call 42; refine (HAT.out _ _).mono ?_; rintro e wz2 ⟨rfl, ok⟩; have HO := hide3 (HK.out _ _ HOB.out ok); clear ok HOB p0 p1; obtain ⟨_, ⟨p0, p1⟩⟩ := HO.out)
              | (refine step_app2 (w := w) (uo := u9) (v2 := .slice (some ⟨g, o, none⟩) l.length cap) (o1 := o1) (l := l) rfl (.tmp 60) (.tmp 70) rfl rfl (f, y) HO.out.1 HNE.out HO.out.2 rfl rfl rfl HLN.out ?_; intro v3 w3 ok3 ne3 p0; have HK3 := hide3 ok3; have HNE3 := hide3 ne3; clear ok3 ne3))
          all_goals go_wp2
          all_goals exact ⟨⟨k + 1, o1 ++ [(f, y)], none, by omega, by go_num, rfl, (fun q e => by cases e), by simp; omega, HK3.out, HNE3.out, HST.out⟩, by simp [intOf]; omega⟩
    · have hke : k = l.length := by omega
      have HRE : Hid (R = o1) := by unfold Hid; rw [HRR.out, List.drop_of_length_le (by omega)]; simp [foldG]
      clear HRR
      obtain ⟨hb1, hown, _⟩ := HKF.out
      obtain ⟨ad, cap2, hv9, _, _⟩ := hown.sp
      rw [List.length_map] at hv9
      have HOW := hide3 hown
      have HBB := hide3 hb1
      clear hown hb1
      subst hv9
      by_cases h64 : o1.length ≤ 64
      · have e1 : fullE o1.length = 0 := by unfold fullE; rw [if_pos h64]
        have e2 : fitR o1 = o1 := by unfold fitR; rw [if_pos h64]
        have HE : Hid (fullE R.length = 0 ∧ fitR R = o1) := by rw [HRE.out]; exact ⟨e1, e2⟩
        clear e1 e2
        go_wp2
        go_ret2
        exact ⟨_, by rw [HE.out.1]; rfl, by rw [HE.out.2]; exact HOW.out, HBB.out⟩
      · have e1 : fullE o1.length = 26 := by unfold fullE; rw [if_neg h64]
        have e2 : fitR o1 = [] := by unfold fitR; rw [if_neg h64]
        have HE : Hid (fullE R.length = 26 ∧ fitR R = []) := by rw [HRE.out]; exact ⟨e1, e2⟩
        clear e1 e2
        go_wp2
        go_ret2
        exact ⟨.slice none 0 0, by rw [HE.out.1]; rfl, by rw [HE.out.2]; exact OwnS.nil _ _, HBB.out⟩
end Go.Proofs.YtkmgfemhfibikaaGreatDoor
