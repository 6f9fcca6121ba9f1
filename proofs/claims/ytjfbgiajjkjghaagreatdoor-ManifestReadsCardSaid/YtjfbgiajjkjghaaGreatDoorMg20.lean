/- Fd4, Rp1, Rp2, laid in one text. -/
import Derived.Deep.RegionHeld3
import Derived.Test.YtjfbgiajjkjghaaGreatDoorMg19
namespace Go.Proofs.YtjfbgiajjkjghaaGreatDoor
open Go.RowKit
set_option maxRecDepth 100000

/-- Where the span under way began. -/
def fromV : Option Int → Int
  | none => -1
  | some f => f
theorem fold_in {P : Int → Bool} {x : Int} {r : List Int} (h : (decide (x ≤ 999999999) && P x) = true) (f : Option Int) : foldG P (x :: r) f = foldG P r (some (f.getD x)) := by
  cases f with
  | none =>
    show (if (decide (x ≤ 999999999) && P x) = true then foldG P r (some x) else foldG P r none) = foldG P r (some x)
    rw [if_pos h]
  | some f =>
    show (if (decide (x ≤ 999999999) && P x) = true then foldG P r (some f) else (f, x - 1) :: foldG P r none) = foldG P r (some f)
    rw [if_pos h]
theorem fold_out_none {P : Int → Bool} {x : Int} {r : List Int} (h : (decide (x ≤ 999999999) && P x) = false) : foldG P (x :: r) none = foldG P r none := by
  conv => lhs; unfold foldG; rw [if_neg (by rw [h]; simp)]
theorem fold_out_some {P : Int → Bool} {x : Int} {r : List Int} (h : (decide (x ≤ 999999999) && P x) = false) (f : Int) : foldG P (x :: r) (some f) = (f, x - 1) :: foldG P r none := by
  conv => lhs; unfold foldG; rw [if_neg (by rw [h]; simp)]

/-- A place that holds an int. -/
def CellI (w : World) (g i : Nat) (x : Int) : Prop := w.cell? ⟨g, i, none⟩ = some (.int .i64 x) ∧ g < w.heap.size
theorem keepCellI (g i : Nat) (x : Int) : KeepP fun w1 => CellI w1 g i x := fun _ _ h hb => ⟨(hb.cell (p := ⟨g, i, none⟩) h.2).trans h.1, Nat.lt_of_lt_of_le h.2 hb.size⟩
/-- What the loop keeps. -/
def KF (w : World) (B : Nat) (vo v2 : Value) (o1 : Rg) (l : List Int) (w1 : World) : Prop := Below w.heap.size w w1 ∧ OwnS w1 B vo (o1.map spR) ∧ IntsAt w1 v2 l
theorem keepKF (w : World) (B : Nat) (vo v2 : Value) (o1 : Rg) (l : List Int) : KeepP (KF w B vo v2 o1 l) := (keepBelow w).and ((keepOwn _ _ _).and (keepInts _ _))

/-- A span is put behind a row, in a region that draws its order. -/
theorem step_app2 {w wx : World} {uo v2 : Value} {o1 : Rg} {l : List Int} {ops : Array Oper} {o : Oper} {f : Act} {K : Act → World → Prop} {Q : Exit → Act → World → Prop} {E : Prop} (hgd : o.guard = none) (s t : Operand)
    (ho : o.op = .call { callee := .builtin .append, args := #[s, t], argTypes := #[34, 34] }) (hs : f.eval s = uo) (p : Int × Int)
    (hK : KF w w.heap.size uo v2 o1 l wx) (hv2 : ∀ g, uo.ownBlock = some g → v2.ownBlock ≠ some g) {ga ia : Nat} {xa : Int} (hca : CellI wx ga ia xa) (hga : v2.ownBlock = some ga) {M : Nat} (hM : wx.heap.size = M) (hx : f.eval t = .slice (some ⟨M, 0, none⟩) 1 1) (hlen : o1.length + 1 ≤ 1000000000)
    (h : ∀ v1 w1, KF w w.heap.size v1 v2 (o1 ++ [p]) l w1 → (∀ g, v1.ownBlock = some g → v2.ownBlock ≠ some g) → w1.cell? ⟨ga, ia, none⟩ = some (.int .i64 xa) → K (f.put o.dst v1) w1) :
    if Region.wanted o (yielded ops f.tmps) = true then Oper.wp Tryz.prog o f (wx.alloc (.cells #[.int .i64 (atA p.1), .int .i64 (atB p.1), .int .i64 (atC p.1), .int .i64 (atA p.2), .int .i64 (atB p.2), .int .i64 (atC p.2)] 40)) K Q else E := by
  have hw : Region.wanted o (yielded ops f.tmps) = true := by simp [Region.wanted, hgd]
  rw [if_pos hw]
  subst hM
  obtain ⟨i0, hi, hz0, hz1, hz2⟩ := info_parts3 infoSpan
  obtain ⟨k1, k2, k3⟩ := hK
  have hob : OwnS (wx.alloc (.cells #[.int .i64 (atA p.1), .int .i64 (atB p.1), .int .i64 (atC p.1), .int .i64 (atA p.2), .int .i64 (atB p.2), .int .i64 (atC p.2)] 40)) w.heap.size uo (o1.map spR) := k2.below (boxB _ _)
  have hsz : (wx.alloc (.cells #[.int .i64 (atA p.1), .int .i64 (atB p.1), .int .i64 (atC p.1), .int .i64 (atA p.2), .int .i64 (atB p.2), .int .i64 (atC p.2)] 40)).heap.size = wx.heap.size + 1 := by simp
  have hwx := k1.size
  obtain ⟨v1, w1, hr, hown1, hg1, _, hat⟩ := run_append_own_at (P := Tryz.prog) (wx.alloc (.cells #[.int .i64 (atA p.1), .int .i64 (atB p.1), .int .i64 (atC p.1), .int .i64 (atA p.2), .int .i64 (atB p.2), .int .i64 (atC p.2)] 40)) w.heap.size 34 o.type 40 i0 _ 6 48 Tryz.underlying34 hi hz0 hz1 hz2 rfl (by decide) uo _ _ hob ⟨wx.heap.size, 0, none⟩ 1 1 [.int .i64 (atA p.1), .int .i64 (atB p.1), .int .i64 (atC p.1), .int .i64 (atA p.2), .int .i64 (atB p.2), .int .i64 (atC p.2)] rfl
    (World.news_of_block (cs := #[.int .i64 (atA p.1), .int .i64 (atB p.1), .int .i64 (atC p.1), .int .i64 (atA p.2), .int .i64 (atB p.2), .int .i64 (atC p.2)]) (t := 40) (fr := (0, 0)) (by show (wx.heap.push _)[wx.heap.size]? = _; rw [Array.getElem?_push, if_pos rfl])) (by simp [Value.oneCell']) (by unfold maxLen; rw [List.length_map]; omega) (by rw [List.length_map]; omega) (by omega)
  unfold Oper.wp execOp
  simp only [ho, resolve, invoke, builtin, Sem.run_bind, Sem.run_pure, Result.andThen_ok, List.map_toArray, List.map_cons, List.map_nil, hs, hx, hr]
  have hbw : Below w.heap.size w w1 := (below_then k1 (boxB _ _)).grown hg1 (by omega) (fun k hk => (k2.lt hk).2)
  have far : ∀ i, ga < wx.heap.size → w1.cell? ⟨ga, i, none⟩ = wx.cell? ⟨ga, i, none⟩ := fun i hgl => by
    have hne : uo.ownBlock ≠ some ga := fun e => hv2 ga e hga
    have hbl := hg1.block ga (by omega) (fun e => hne e.symm)
    rw [World.cell?_of_block (w := wx.alloc _) hbl]
    exact (boxB wx (.cells #[.int .i64 (atA p.1), .int .i64 (atB p.1), .int .i64 (atC p.1), .int .i64 (atA p.2), .int .i64 (atB p.2), .int .i64 (atC p.2)] 40)).cell (p := ⟨ga, i, none⟩) hgl
  obtain ⟨g, off, cap, rfl, hc, hg, hcs⟩ := k3
  obtain rfl : g = ga := Option.some.inj hga
  refine h v1 w1 ⟨hbw, ?_, ⟨g, off, cap, rfl, hc, by have := hg1.size; omega, fun i hi => ?_⟩⟩ ?_ ((far ia hca.2).trans hca.1)
  · unfold OwnS
    rw [List.map_append, List.map_singleton, spCells_snoc, List.length_append]
    exact hown1
  · exact (far (off + i) hg).trans (hcs i hi)
  · intro q hq e
    have e' : g = q := Option.some.inj e
    rcases hat with h1 | h1
    · rw [h1] at hq; exact hv2 q hq e
    · rw [h1, hsz] at hq
      have := Option.some.inj hq
      omega

set_option maxHeartbeats 12800000 in
theorem Folded_walk (kind : UInt8) (La Lb : List Sp) (va vb : Value) (w : World) (hl : La.length + Lb.length ≤ 100000) (ha : SpansAt w va La) (hb : SpansAt w vb Lb) :
    Calls Tryz.prog 77 #[.int .u8 (kind.toNat : Int), va, vb] w fun e w' => ∃ v, e = .returned (.tuple #[v, .int .i64 (fullE (foldK kind (La.map rkS) (Lb.map rkS)).length)]) ∧ OwnS w' w.heap.size v ((fitR (foldK kind (La.map rkS) (Lb.map rkS))).map spR) ∧ Below w.heap.size w w' := by
  have HE1 : Hid (∀ w1 vl, Below w.heap.size w w1 → IntsAt w1 vl [0, 1000000000] → Calls Tryz.prog 93 #[vl, va] w1 fun e w' => ∃ v, e = .returned v ∧ IntsAt w' v (endsF [0, 1000000000] (La.map rkS)) ∧ Below w1.heap.size w1 w') := fun w1 vl h1 h2 => ends_any (by simp; omega) h2 (ha.below h1)
  have HE2 : Hid (∀ w1 vl, Below w.heap.size w w1 → IntsAt w1 vl (endsF [0, 1000000000] (La.map rkS)) → Calls Tryz.prog 93 #[vl, vb] w1 fun e w' => ∃ v, e = .returned v ∧ IntsAt w' v (placesF (La.map rkS) (Lb.map rkS)) ∧ Below w1.heap.size w1 w') := fun w1 vl h1 h2 => ends_any (by have := ends_len (Q := La.map rkS) (l := [0, 1000000000]); simp at this; omega) h2 (hb.below h1)
  have HHA : Hid (∀ n w1, Below w.heap.size w w1 → Calls Tryz.prog 95 #[va, .int .i64 n] w1 fun e w' => e = .returned (.bool (hasQ (La.map rkS) n)) ∧ Below w1.heap.size w1 w') := fun n w1 h1 => by have := has_any (ha.below h1) (by omega) n; rw [has_rk] at this; exact this
  have HHB : Hid (∀ n w1, Below w.heap.size w w1 → Calls Tryz.prog 95 #[vb, .int .i64 n] w1 fun e w' => e = .returned (.bool (hasQ (Lb.map rkS) n)) ∧ Below w1.heap.size w1 w') := fun n w1 h1 => by have := has_any (hb.below h1) (by omega) n; rw [has_rk] at this; exact this
  have HWA : Hid (∀ x y w1, Calls Tryz.prog 94 #[.int .u8 (kind.toNat : Int), .bool x, .bool y] w1 fun e w' => e = .returned (.bool (wantK kind x y)) ∧ Below w1.heap.size w1 w') := fun x y w1 => wanted_any kind x y w1
  have HAT : Hid (∀ n w1, Calls Tryz.prog 89 #[.int .i64 n] w1 fun e w' => e = .returned (.agg #[.int .i64 (atA n), .int .i64 (atB n), .int .i64 (atC n)]) ∧ Below w1.heap.size w1 w') := rat_any
  have hpl : (placesF (La.map rkS) (Lb.map rkS)).length ≤ 200002 := by
    have h1 := ends_len (Q := La.map rkS) (l := [0, 1000000000])
    have h2 := ends_len (Q := Lb.map rkS) (l := endsF [0, 1000000000] (La.map rkS))
    unfold placesF
    simp at h1 h2
    omega
  have hrng : ∀ x ∈ placesF (La.map rkS) (Lb.map rkS), 0 ≤ x ∧ x ≤ 1000000000 := by
    intro x hx
    unfold placesF at hx
    rw [ends_mem, ends_mem] at hx
    rcases hx with (hx | ⟨q, hq, h⟩) | ⟨q, hq, h⟩
    · simp at hx; omega
    · obtain ⟨q1, q2⟩ := okq_rk La q hq; rcases h with rfl | rfl <;> omega
    · obtain ⟨q1, q2⟩ := okq_rk Lb q hq; rcases h with rfl | rfl <;> omega
  have HRNG := hide3 hrng
  have HFK : Hid (foldK kind (La.map rkS) (Lb.map rkS) = foldG (fun n => wantK kind (hasQ (La.map rkS) n) (hasQ (Lb.map rkS) n)) (placesF (La.map rkS) (Lb.map rkS)) none) := rfl
  clear ha hb hrng hl
  generalize La.map rkS = Qa at *
  generalize Lb.map rkS = Qb at *
  generalize foldK kind Qa Qb = R at *
  generalize placesF Qa Qb = l at *
  go_enter Tryz.func77, Tryz.ntmps77
  have HI0 : Hid (IntsAt (w.alloc (.cells #[.int .i64 0, .int .i64 1000000000] 3)) (.slice (some ⟨w.heap.size, 0, none⟩) 2 2) [0, 1000000000]) := by
    refine ⟨w.heap.size, 0, 2, rfl, Nat.le_refl _, by simp, fun i hi => ?_⟩
    match i, hi with
    | 0, _ => simp
    | 1, _ => simp
  have t1 : True := trivial
  go_wp2_with (first
    | (have _t := t1; go_at_call 93; refine (HE1.out _ _ (boxB _ _) HI0.out).mono ?_; rintro e w1 ⟨v1, rfl, hi1, ok⟩; have HI1 := hide3 hi1; have HB1 : Hid (Below w.heap.size w w1) := below_then (boxB _ _) ok; clear ok hi1 t1 HE1)
    | (go_at_call 93; refine (HE2.out _ _ HB1.out HI1.out).mono ?_; rintro e w2 ⟨v2, rfl, hi2, ok⟩; have HI2 := hide3 hi2; have HB2 : Hid (Below w.heap.size w w2) := below_then HB1.out ok; clear ok hi2 HE2))
  go_loopw [9, 10, 11] (fun vo vf i wr => ∃ (k : Nat) (o1 : Rg) (f : Option Int), k ≤ l.length ∧ i = .int .i64 k ∧ vf = .int .i64 (fromV f) ∧ (∀ q, f = some q → 0 ≤ q ∧ q ≤ 999999999) ∧ o1.length ≤ k ∧ KF w w.heap.size vo v2 o1 l wr ∧ (∀ g, vo.ownBlock = some g → v2.ownBlock ≠ some g) ∧ R = o1 ++ foldG (fun n => wantK kind (hasQ Qa n) (hasQ Qb n)) (l.drop k) f) (fun _ _ i _ => l.length - (intOf i).toNat)
  case atStart => exact ⟨0, [], none, Nat.zero_le _, rfl, rfl, (fun q h => by cases h), Nat.le_refl _, ⟨HB2.out, OwnS.nil _ _, HI2.out⟩, (fun g h => by cases h), HFK.out⟩
  case round =>
    obtain ⟨k, o1, f, hk, rfl, rfl, hfr, hol, hkf, hne, hRR⟩ := hrel
    have HNE := hide3 hne
    have HRR := hide3 hRR
    have HKF := hide3 hkf
    clear hne hRR hkf HI2 HB2
    obtain ⟨g, o, cap, rfl, hcap, _, _⟩ := HKF.out.2.2
    by_cases hlt : k < l.length
    · have hd : l.drop k = l[k] :: l.drop (k + 1) := List.drop_eq_getElem_cons hlt
      have hxr := HRNG.out _ (List.getElem_mem hlt)
      have HO : Hid (KF w w.heap.size u9 (.slice (some ⟨g, o, none⟩) l.length cap) o1 l wr ∧ CellI wr g (o + k) l[k]) := by
        refine ⟨HKF.out, ?_⟩
        obtain ⟨g', o', cap', e, _, h2, h3⟩ := HKF.out.2.2
        cases e
        exact ⟨h3 k hlt, h2⟩
      have HK : Hid (KeepP fun w1 => KF w w.heap.size u9 (.slice (some ⟨g, o, none⟩) l.length cap) o1 l w1 ∧ CellI w1 g (o + k) l[k]) := (keepKF _ _ _ _ _ _).and (keepCellI _ _ _)
      rw [hd] at HRR
      clear hd HKF
      generalize l[k] = x at *
      have HC1 : Hid (∀ w1, (KF w w.heap.size u9 (.slice (some ⟨g, o, none⟩) l.length cap) o1 l w1 ∧ CellI w1 g (o + k) x) → Calls Tryz.prog 95 #[va, .int .i64 x] w1 fun e w' => e = .returned (.bool (hasQ Qa x)) ∧ Below w1.heap.size w1 w') := fun w1 h => HHA.out x w1 h.1.1
      have HC2 : Hid (∀ w1, (KF w w.heap.size u9 (.slice (some ⟨g, o, none⟩) l.length cap) o1 l w1 ∧ CellI w1 g (o + k) x) → Calls Tryz.prog 95 #[vb, .int .i64 x] w1 fun e w' => e = .returned (.bool (hasQ Qb x)) ∧ Below w1.heap.size w1 w') := fun w1 h => HHB.out x w1 h.1.1
      have HC3 : Hid (∀ w1, Calls Tryz.prog 94 #[.int .u8 (kind.toNat : Int), .bool (hasQ Qa x), .bool (hasQ Qb x)] w1 fun e w' => e = .returned (.bool (wantK kind (hasQ Qa x) (hasQ Qb x))) ∧ Below w1.heap.size w1 w') := fun w1 => HWA.out _ _ w1
      have HIN : Hid (∀ b, (decide (x ≤ 999999999) && wantK kind (hasQ Qa x) (hasQ Qb x)) = b → (decide (x ≤ 999999999) && (fun n => wantK kind (hasQ Qa n) (hasQ Qb n)) x) = b) := fun b h => h
      generalize hasQ Qa x = ha at *
      generalize hasQ Qb x = hb at *
      by_cases hx : x ≤ 999999999
      · have dx : decide (x ≤ 999999999) = true := decide_eq_true hx
        cases hwn : wantK kind ha hb
        · have hin := HIN.out false (by rw [hwn]; simp)
          rw [hwn] at HC3
          clear HIN hwn
          cases f with
          | none =>
            have f0 : fromV none = -1 := rfl
            have HST : Hid (R = o1 ++ foldG (fun n => wantK kind (hasQ Qa n) (hasQ Qb n)) (l.drop (k + 1)) none) := by unfold Hid; rw [HRR.out, fold_out_none hin]
            clear hin
            go_wp2_with fail
            refine wp_region_keep HK.out (by kernel_rfl) (by kernel_rfl) (by first | exact HO.out | exact HK.out.drew HO.out) ?_
            intro C hin hout
            have HIN := hide3 hin
            have HOUT := hide3 hout
            clear hin hout HO
            repeat
              (with_reducible refine wpQuiet_step (fun K hK => ?_)
               go_simp
               first
                 | (refine hK _ ?_; clear hK K)
                 | (apply Exists.intro; refine ⟨fun w1 hC => ?_, hK _ ?_⟩; (focus ((first | (go_at_call 95; with_reducible exact callC' HIN.out HOUT.out HK.out HC1.out w1 hC) | (go_at_call 95; with_reducible exact callC' HIN.out HOUT.out HK.out HC2.out w1 hC) | (go_at_call 94; with_reducible exact callC HIN.out HOUT.out HK.out HC3.out w1 hC) | (exact rfl) | (obtain ⟨⟨hb1, hb2, hb3⟩, ⟨p0, p1⟩⟩ := HOUT.out w1 hC; clear hC; go_simp; first | done | exact rfl)); done)); clear hK K))
            refine wpQuiet_nil ?_
            intro wn hC
            have HO := hide3 (HOUT.out _ hC)
            clear hC HIN HOUT C
            obtain ⟨⟨hb1, hb2, hb3⟩, ⟨p0, p1⟩⟩ := HO.out
            go_wp2
            exact ⟨⟨k + 1, o1, none, by omega, by go_num, rfl, (fun q e => by cases e), by omega, HO.out.1, HNE.out, HST.out⟩, by simp [intOf]; omega⟩
          | some f =>
            obtain ⟨hq0, hq1⟩ := hfr f rfl
            have f0 : fromV (some f) = f := rfl
            obtain ⟨y, hy⟩ : ∃ y, y = x - 1 := ⟨_, rfl⟩
            have HST : Hid (R = (o1 ++ [(f, y)]) ++ foldG (fun n => wantK kind (hasQ Qa n) (hasQ Qb n)) (l.drop (k + 1)) none) := by unfold Hid; rw [HRR.out, fold_out_some hin, hy]; simp
            have HLN : Hid (o1.length + 1 ≤ 1000000000) := by unfold Hid; omega
            have wx1 : IntKind.i64.wrap (x - 1) = y := by rw [IntKind.wrap_i64]; omega
            have hge : (0 : Int) ≤ f := hq0
            clear hy
            clear hin
            go_wp2_with fail
            refine wp_region_keep HK.out (by kernel_rfl) (by kernel_rfl) (by first | exact HO.out | exact HK.out.drew HO.out) ?_
            intro C hin hout
            have HIN := hide3 hin
            have HOUT := hide3 hout
            clear hin hout HO
            repeat
              (with_reducible refine wpQuiet_step (fun K hK => ?_)
               go_simp
               first
                 | (refine hK _ ?_; clear hK K)
                 | (apply Exists.intro; refine ⟨fun w1 hC => ?_, hK _ ?_⟩; (focus ((first | (go_at_call 95; with_reducible exact callC' HIN.out HOUT.out HK.out HC1.out w1 hC) | (go_at_call 95; with_reducible exact callC' HIN.out HOUT.out HK.out HC2.out w1 hC) | (go_at_call 94; with_reducible exact callC HIN.out HOUT.out HK.out HC3.out w1 hC) | (exact rfl) | (obtain ⟨⟨hb1, hb2, hb3⟩, ⟨p0, p1⟩⟩ := HOUT.out w1 hC; clear hC; go_simp; first | done | exact rfl)); done)); clear hK K))
            refine wpQuiet_nil ?_
            intro wn hC
            have HO := hide3 (HOUT.out _ hC)
            clear hC HIN HOUT C
            obtain ⟨⟨hb1, hb2, hb3⟩, ⟨p0, p1⟩⟩ := HO.out
            go_wp2_with fail
            have HOA := HO
            clear HO
            go_region_held3 (fun w' => w'.cell? ⟨g, o + k, none⟩ = some (.int .i64 x)) (go_keep)
              (first
                | (have _h := HOA; go_at_call 89; refine (HAT.out _ _).mono ?_; rintro e wz ⟨rfl, ok⟩; have HOB := hide3 (HK.out _ _ (HK.out.drew HOA.out) ok); clear ok HOA p0 p1; obtain ⟨_, ⟨p0, p1⟩⟩ := HOB.out)
                | (have _h := HOB; go_at_call 89; refine (HAT.out _ _).mono ?_; rintro e wz2 ⟨rfl, ok⟩; have HO := hide3 (HK.out _ _ HOB.out ok); clear ok HOB p0 p1; obtain ⟨_, ⟨p0, p1⟩⟩ := HO.out)
                | (refine step_app2 (w := w) (uo := u9) (v2 := .slice (some ⟨g, o, none⟩) l.length cap) (o1 := o1) (l := l) rfl (.tmp 60) (.tmp 70) rfl rfl (f, y) HO.out.1 HNE.out HO.out.2 rfl rfl rfl HLN.out ?_; intro v3 w3 ok3 ne3 p0; have HK3 := hide3 ok3; have HNE3 := hide3 ne3; clear ok3 ne3))
            all_goals go_wp2
            all_goals exact ⟨⟨k + 1, o1 ++ [(f, y)], none, by omega, by go_num, rfl, (fun q e => by cases e), by simp; omega, HK3.out, HNE3.out, HST.out⟩, by simp [intOf]; omega⟩
        · rw [hwn] at HC3
          have hin := HIN.out true (by rw [hwn, dx]; rfl)
          have HST : Hid (R = o1 ++ foldG (fun n => wantK kind (hasQ Qa n) (hasQ Qb n)) (l.drop (k + 1)) (some (f.getD x))) := by unfold Hid; rw [HRR.out, fold_in hin]
          clear hin HIN hwn
          cases f with
          | none =>
            have f0 : fromV none = -1 := rfl
            go_wp2_with fail
            refine wp_region_keep HK.out (by kernel_rfl) (by kernel_rfl) (by first | exact HO.out | exact HK.out.drew HO.out) ?_
            intro C hin hout
            have HIN := hide3 hin
            have HOUT := hide3 hout
            clear hin hout HO
            repeat
              (with_reducible refine wpQuiet_step (fun K hK => ?_)
               go_simp
               first
                 | (refine hK _ ?_; clear hK K)
                 | (apply Exists.intro; refine ⟨fun w1 hC => ?_, hK _ ?_⟩; (focus ((first | (go_at_call 95; with_reducible exact callC' HIN.out HOUT.out HK.out HC1.out w1 hC) | (go_at_call 95; with_reducible exact callC' HIN.out HOUT.out HK.out HC2.out w1 hC) | (go_at_call 94; with_reducible exact callC HIN.out HOUT.out HK.out HC3.out w1 hC) | (exact rfl) | (obtain ⟨⟨hb1, hb2, hb3⟩, ⟨p0, p1⟩⟩ := HOUT.out w1 hC; clear hC; go_simp; first | done | exact rfl)); done)); clear hK K))
            refine wpQuiet_nil ?_
            intro wn hC
            have HO := hide3 (HOUT.out _ hC)
            clear hC HIN HOUT C
            obtain ⟨⟨hb1, hb2, hb3⟩, ⟨p0, p1⟩⟩ := HO.out
            go_wp2
            exact ⟨⟨k + 1, o1, some x, by omega, by go_num, rfl, (fun q e => by cases e; exact ⟨hxr.1, hx⟩), by omega, HO.out.1, HNE.out, HST.out⟩, by simp [intOf]; omega⟩
          | some f =>
            obtain ⟨hq0, hq1⟩ := hfr f rfl
            have f0 : fromV (some f) = f := rfl
            have hq2 : ¬ f < 0 := by omega
            go_wp2_with fail
            refine wp_region_keep HK.out (by kernel_rfl) (by kernel_rfl) (by first | exact HO.out | exact HK.out.drew HO.out) ?_
            intro C hin hout
            have HIN := hide3 hin
            have HOUT := hide3 hout
            clear hin hout HO
            repeat
              (with_reducible refine wpQuiet_step (fun K hK => ?_)
               go_simp
               first
                 | (refine hK _ ?_; clear hK K)
                 | (apply Exists.intro; refine ⟨fun w1 hC => ?_, hK _ ?_⟩; (focus ((first | (go_at_call 95; with_reducible exact callC' HIN.out HOUT.out HK.out HC1.out w1 hC) | (go_at_call 95; with_reducible exact callC' HIN.out HOUT.out HK.out HC2.out w1 hC) | (go_at_call 94; with_reducible exact callC HIN.out HOUT.out HK.out HC3.out w1 hC) | (exact rfl) | (obtain ⟨⟨hb1, hb2, hb3⟩, ⟨p0, p1⟩⟩ := HOUT.out w1 hC; clear hC; go_simp; first | done | exact rfl)); done)); clear hK K))
            refine wpQuiet_nil ?_
            intro wn hC
            have HO := hide3 (HOUT.out _ hC)
            clear hC HIN HOUT C
            obtain ⟨⟨hb1, hb2, hb3⟩, ⟨p0, p1⟩⟩ := HO.out
            go_wp2
            exact ⟨⟨k + 1, o1, some f, by omega, by go_num, rfl, hfr, by omega, HO.out.1, HNE.out, HST.out⟩, by simp [intOf]; omega⟩
      · have dx : decide (x ≤ 999999999) = false := decide_eq_false hx
        have hin := HIN.out false (by rw [dx]; rfl)
        clear HIN
        cases f with
        | none =>
          have f0 : fromV none = -1 := rfl
          have HST : Hid (R = o1 ++ foldG (fun n => wantK kind (hasQ Qa n) (hasQ Qb n)) (l.drop (k + 1)) none) := by unfold Hid; rw [HRR.out, fold_out_none hin]
          clear hin
          go_wp2_with fail
          refine wp_region_keep HK.out (by kernel_rfl) (by kernel_rfl) (by first | exact HO.out | exact HK.out.drew HO.out) ?_
          intro C hin hout
          have HIN := hide3 hin
          have HOUT := hide3 hout
          clear hin hout HO
          repeat
            (with_reducible refine wpQuiet_step (fun K hK => ?_)
             go_simp
             first
               | (refine hK _ ?_; clear hK K)
               | (apply Exists.intro; refine ⟨fun w1 hC => ?_, hK _ ?_⟩; (focus ((first | (go_at_call 95; with_reducible exact callC' HIN.out HOUT.out HK.out HC1.out w1 hC) | (go_at_call 95; with_reducible exact callC' HIN.out HOUT.out HK.out HC2.out w1 hC) | (go_at_call 94; with_reducible exact callC HIN.out HOUT.out HK.out HC3.out w1 hC) | (exact rfl) | (obtain ⟨⟨hb1, hb2, hb3⟩, ⟨p0, p1⟩⟩ := HOUT.out w1 hC; clear hC; go_simp; first | done | exact rfl)); done)); clear hK K))
          refine wpQuiet_nil ?_
          intro wn hC
          have HO := hide3 (HOUT.out _ hC)
          clear hC HIN HOUT C
          obtain ⟨⟨hb1, hb2, hb3⟩, ⟨p0, p1⟩⟩ := HO.out
          go_wp2
          exact ⟨⟨k + 1, o1, none, by omega, by go_num, rfl, (fun q e => by cases e), by omega, HO.out.1, HNE.out, HST.out⟩, by simp [intOf]; omega⟩
        | some f =>
          obtain ⟨hq0, hq1⟩ := hfr f rfl
          have f0 : fromV (some f) = f := rfl
          obtain ⟨y, hy⟩ : ∃ y, y = x - 1 := ⟨_, rfl⟩
          have HST : Hid (R = (o1 ++ [(f, y)]) ++ foldG (fun n => wantK kind (hasQ Qa n) (hasQ Qb n)) (l.drop (k + 1)) none) := by unfold Hid; rw [HRR.out, fold_out_some hin, hy]; simp
          have HLN : Hid (o1.length + 1 ≤ 1000000000) := by unfold Hid; omega
          have wx1 : IntKind.i64.wrap (x - 1) = y := by rw [IntKind.wrap_i64]; omega
          have hge : (0 : Int) ≤ f := hq0
          clear hy
          clear hin
          go_wp2_with fail
          refine wp_region_keep HK.out (by kernel_rfl) (by kernel_rfl) (by first | exact HO.out | exact HK.out.drew HO.out) ?_
          intro C hin hout
          have HIN := hide3 hin
          have HOUT := hide3 hout
          clear hin hout HO
          repeat
            (with_reducible refine wpQuiet_step (fun K hK => ?_)
             go_simp
             first
               | (refine hK _ ?_; clear hK K)
               | (apply Exists.intro; refine ⟨fun w1 hC => ?_, hK _ ?_⟩; (focus ((first | (go_at_call 95; with_reducible exact callC' HIN.out HOUT.out HK.out HC1.out w1 hC) | (go_at_call 95; with_reducible exact callC' HIN.out HOUT.out HK.out HC2.out w1 hC) | (go_at_call 94; with_reducible exact callC HIN.out HOUT.out HK.out HC3.out w1 hC) | (exact rfl) | (obtain ⟨⟨hb1, hb2, hb3⟩, ⟨p0, p1⟩⟩ := HOUT.out w1 hC; clear hC; go_simp; first | done | exact rfl)); done)); clear hK K))
          refine wpQuiet_nil ?_
          intro wn hC
          have HO := hide3 (HOUT.out _ hC)
          clear hC HIN HOUT C
          obtain ⟨⟨hb1, hb2, hb3⟩, ⟨p0, p1⟩⟩ := HO.out
          go_wp2_with fail
          have HOA := HO
          clear HO
          go_region_held3 (fun w' => w'.cell? ⟨g, o + k, none⟩ = some (.int .i64 x)) (go_keep)
            (first
              | (have _h := HOA; go_at_call 89; refine (HAT.out _ _).mono ?_; rintro e wz ⟨rfl, ok⟩; have HOB := hide3 (HK.out _ _ (HK.out.drew HOA.out) ok); clear ok HOA p0 p1; obtain ⟨_, ⟨p0, p1⟩⟩ := HOB.out)
              | (have _h := HOB; go_at_call 89; refine (HAT.out _ _).mono ?_; rintro e wz2 ⟨rfl, ok⟩; have HO := hide3 (HK.out _ _ HOB.out ok); clear ok HOB p0 p1; obtain ⟨_, ⟨p0, p1⟩⟩ := HO.out)
              | (refine step_app2 (w := w) (uo := u9) (v2 := .slice (some ⟨g, o, none⟩) l.length cap) (o1 := o1) (l := l) rfl (.tmp 60) (.tmp 70) rfl rfl (f, y) HO.out.1 HNE.out HO.out.2 rfl rfl rfl HLN.out ?_; intro v3 w3 ok3 ne3 p0; have HK3 := hide3 ok3; have HNE3 := hide3 ne3; clear ok3 ne3))
          all_goals go_wp2
          all_goals exact ⟨⟨k + 1, o1 ++ [(f, y)], none, by omega, by go_num, rfl, (fun q e => by cases e), by simp; omega, HK3.out, HNE3.out, HST.out⟩, by simp [intOf]; omega⟩
    · have hke : k = l.length := by omega
      have HRE : Hid (R = o1) := by unfold Hid; rw [HRR.out, List.drop_of_length_le (by omega)]; simp [foldG]
      clear HRR
      obtain ⟨hb1, hown, _⟩ := HKF.out
      obtain ⟨ad, cap2, hv9, _, _⟩ := hown.sp
      rw [List.length_map] at hv9
      have HOW := hide3 hown
      have HBB := hide3 hb1
      clear hown hb1
      subst hv9
      by_cases h64 : o1.length ≤ 64
      · have e1 : fullE o1.length = 0 := by unfold fullE; rw [if_pos h64]
        have e2 : fitR o1 = o1 := by unfold fitR; rw [if_pos h64]
        have HE : Hid (fullE R.length = 0 ∧ fitR R = o1) := by rw [HRE.out]; exact ⟨e1, e2⟩
        clear e1 e2
        go_wp2
        go_ret2
        exact ⟨_, by rw [HE.out.1]; rfl, by rw [HE.out.2]; exact HOW.out, HBB.out⟩
      · have e1 : fullE o1.length = 26 := by unfold fullE; rw [if_neg h64]
        have e2 : fitR o1 = [] := by unfold fitR; rw [if_neg h64]
        have HE : Hid (fullE R.length = 26 ∧ fitR R = []) := by rw [HRE.out]; exact ⟨e1, e2⟩
        clear e1 e2
        go_wp2
        go_ret2
        exact ⟨.slice none 0 0, by rw [HE.out.1]; rfl, by rw [HE.out.2]; exact OwnS.nil _ _, HBB.out⟩
end Go.Proofs.YtjfbgiajjkjghaaGreatDoor
namespace Go.Proofs.YtjfbgiajjkjghaaGreatDoor
open Go.RowKit
set_option maxRecDepth 100000

abbrev Bt := List UInt8
def bt (l : Bt) : ByteArray := ⟨l.toArray⟩
theorem bt_list (l : Bt) : (bt l).data.toList = l := by simp [bt]
theorem bt_size (l : Bt) : (bt l).size = l.length := bytes_size l

/-- Pieces between a text, from what is under way on. -/
def segG (sep : Bt) : Nat → Bt → Bt → List Bt
  | 0, cur, l => [cur ++ l]
  | n + 1, cur, l => if sep.isPrefixOf l = true then cur :: segG sep n [] (l.drop sep.length) else match l with
    | [] => [cur]
    | b :: r => segG sep n (cur ++ [b]) r
def seg (sep cur l : Bt) : List Bt := segG sep l.length cur l

theorem seg_fuel {sep : Bt} (h0 : sep ≠ []) : ∀ (n m : Nat) (cur l : Bt), l.length ≤ n → l.length ≤ m → segG sep n cur l = segG sep m cur l := by
  have hp : sep.isPrefixOf [] = false := by cases sep <;> simp_all
  intro n
  induction n with
  | zero =>
    intro m cur l h1 h2
    obtain rfl : l = [] := List.eq_nil_of_length_eq_zero (by omega)
    cases m with
    | zero => rfl
    | succ m => simp [segG, hp]
  | succ n ih =>
    intro m cur l h1 h2
    cases m with
    | zero =>
      obtain rfl : l = [] := List.eq_nil_of_length_eq_zero (by omega)
      simp [segG, hp]
    | succ m =>
      have hs : 0 < sep.length := List.length_pos_iff.2 h0
      unfold segG
      by_cases h : sep.isPrefixOf l = true
      · rw [if_pos h, if_pos h]
        have hl : 0 < l.length := by
          have := (List.isPrefixOf_iff_prefix.1 h).length_le
          omega
        rw [ih m [] _ (by simp; omega) (by simp; omega)]
      · rw [if_neg h, if_neg h]
        cases l with
        | nil => rfl
        | cons b r => exact ih m _ r (by simp at h1; omega) (by simp at h2; omega)

theorem seg_hit {sep cur l : Bt} (h0 : sep ≠ []) (h : sep.isPrefixOf l = true) : seg sep cur l = cur :: seg sep [] (l.drop sep.length) := by
  have hs : 0 < sep.length := List.length_pos_iff.2 h0
  have hl := (List.isPrefixOf_iff_prefix.1 h).length_le
  unfold seg
  rw [seg_fuel h0 l.length (l.length - 1 + 1) cur l (Nat.le_refl _) (by omega)]
  conv => lhs; unfold segG; rw [if_pos h]
  rw [seg_fuel h0 (l.length - 1) (l.drop sep.length).length [] _ (by simp; omega) (Nat.le_refl _)]
theorem seg_go {sep cur : Bt} {b : UInt8} {r : Bt} (h : sep.isPrefixOf (b :: r) = false) : seg sep cur (b :: r) = seg sep (cur ++ [b]) r := by
  unfold seg
  rw [List.length_cons]
  conv => lhs; unfold segG; rw [if_neg (by rw [h]; simp)]
theorem seg_nil {sep cur : Bt} : seg sep cur [] = [cur] := by simp [seg, segG]
theorem pre_no {c b : UInt8} {sep r : Bt} (h : b ≠ c) : (c :: sep).isPrefixOf (b :: r) = false := by
  show ((c == b) && sep.isPrefixOf r) = false
  rw [beq_eq_false_iff_ne.2 (fun e => h e.symm)]
  rfl
theorem seg_one {c : UInt8} {sep cur : Bt} : ∀ {l : Bt}, (∀ x ∈ l, x ≠ c) → seg (c :: sep) cur l = [cur ++ l]
  | [], _ => by rw [seg_nil]; simp
  | b :: r, h => by
    rw [seg_go (pre_no (h b List.mem_cons_self)), seg_one fun x hx => h x (List.mem_cons_of_mem _ hx)]
    simp
theorem seg_more {c : UInt8} {sep r : Bt} : ∀ {l cur : Bt}, (∀ x ∈ l, x ≠ c) → seg (c :: sep) cur (l ++ ((c :: sep) ++ r)) = (cur ++ l) :: seg (c :: sep) [] r
  | [], cur, _ => by
    rw [List.nil_append, seg_hit (by simp) (List.isPrefixOf_iff_prefix.2 (List.prefix_append _ _)), List.drop_left]
    simp
  | b :: l, cur, h => by
    rw [List.cons_append, seg_go (pre_no (h b List.mem_cons_self)), seg_more fun x hx => h x (List.mem_cons_of_mem _ hx)]
    simp

/-- The library's pieces are these. -/
theorem pieces_seg {sep : Bt} (h0 : sep ≠ []) : ∀ (n : Nat) (cur l : Bt), l.length ≤ n → (∀ j, j < cur.length → Lib.occAt (cur ++ l) sep j = false) → piecesB (bt (cur ++ l)) (bt sep) = (seg sep cur l).map bt := by
  have hs : 0 < sep.length := List.length_pos_iff.2 h0
  have h1 : 1 ≤ (bt sep).size := by rw [bt_size]; exact hs
  have miss : ∀ t : Bt, (∀ j, j ≤ t.length → Lib.occAt t sep j = false) → piecesB (bt t) (bt sep) = [bt t] := by
    intro t ht
    unfold piecesB
    refine Lib.splitB_miss _ _ _ _ ?_
    rw [indexB_eq, bt_list, bt_list]
    rcases Lib.index_spec t sep with ⟨h2, _⟩ | ⟨i, h2, h3, h4, _⟩
    · exact h2
    · rw [ht i h3] at h4; cases h4
  intro n
  induction n with
  | zero =>
    intro cur l hl hno
    obtain rfl : l = [] := List.eq_nil_of_length_eq_zero (by omega)
    rw [seg_nil, List.append_nil] at *
    refine miss cur fun j hj => ?_
    rcases Nat.lt_or_ge j cur.length with h | h
    · exact hno j h
    · unfold Lib.occAt
      rw [List.drop_of_length_le h]
      cases sep <;> simp_all
  | succ n ih =>
    intro cur l hl hno
    by_cases h : sep.isPrefixOf l = true
    · obtain ⟨r, rfl⟩ := List.isPrefixOf_iff_prefix.1 h
      rw [seg_hit h0 h, List.drop_left, List.map_cons]
      have hr : r.length ≤ n := by simp at hl; omega
      rw [← ih [] r hr (fun j hj => by simp at hj), List.nil_append]
      have hi : Lib.index (cur ++ (sep ++ r)) sep = (cur.length : Int) := by
        have ho : Lib.occAt (cur ++ (sep ++ r)) sep cur.length = true := by
          unfold Lib.occAt
          rw [List.drop_left]
          exact h
        rcases Lib.index_spec (cur ++ (sep ++ r)) sep with ⟨_, h3⟩ | ⟨i, h2, h3, h4, h5⟩
        · rw [h3 cur.length (by simp)] at ho; cases ho
        · rw [h2]
          rcases Nat.lt_trichotomy i cur.length with h6 | h6 | h6
          · rw [hno i h6] at h4; cases h4
          · rw [h6]
          · have := h5 cur.length h6
            rw [ho] at this; cases this
      unfold piecesB
      have hib : Lib.indexB (bt (cur ++ (sep ++ r))) (bt sep) = (cur.length : Nat) := by rw [indexB_eq, bt_list, bt_list, hi]
      rw [Lib.countB_hit _ _ _ h1 hib, Nat.add_comm 1, Lib.splitB_hit _ _ _ _ _ hib]
      have e1 : (bt (cur ++ (sep ++ r))).extract 0 (cur.length + 0) = bt cur := of_list (by rw [Lib.extract_from_zero, Nat.add_zero, bt_list, List.take_left])
      have e2 : (bt (cur ++ (sep ++ r))).extract (cur.length + (bt sep).size) (bt (cur ++ (sep ++ r))).size = bt r := of_list (by rw [Lib.extract_to_end, bt_list, bt_size, ← List.drop_drop, List.drop_left, List.drop_left])
      rw [e1, e2]
    · cases l with
      | nil => exact ih cur [] (Nat.zero_le _) hno
      | cons b r =>
        have h' : sep.isPrefixOf (b :: r) = false := Bool.eq_false_iff.2 h
        rw [seg_go h', ← ih (cur ++ [b]) r (by simp at hl; omega)]
        · simp
        · intro j hj
          rw [List.append_assoc, List.singleton_append]
          rcases Nat.lt_or_ge j cur.length with h2 | h2
          · exact hno j h2
          · obtain rfl : j = cur.length := by simp at hj; omega
            unfold Lib.occAt
            rw [List.drop_left]
            exact h'

theorem pieces_of (sep : Bt) (h0 : sep ≠ []) (s : ByteArray) : piecesB s (bt sep) = (seg sep [] s.data.toList).map bt := by
  have := pieces_seg h0 s.data.toList.length [] s.data.toList (Nat.le_refl _) (fun j hj => by simp at hj)
  rw [List.nil_append] at this
  rw [← this]
  rfl

/-- The words of a text. -/
def wordsD (l : Bt) : List Bt := (seg [32] [] l).filter fun p => !p.isEmpty
theorem wordsF_skip : ∀ {ps : List Bt} {R : Rg} {f : Bool}, wordsF R f (ps.map bt) = wordsF R f ((ps.filter fun p => !p.isEmpty).map bt)
  | [], _, _ => rfl
  | p :: ps, R, f => by
    cases p with
    | nil =>
      have : (bt []).size = 0 := rfl
      rw [List.map_cons, wordsF, if_pos this, wordsF_skip]
      simp
    | cons b r =>
      have hn : ¬ (bt (b :: r)).size = 0 := by rw [bt_size]; simp
      rw [List.filter_cons_of_pos (by simp), List.map_cons, List.map_cons, wordsF, wordsF, if_neg hn, if_neg hn]
      cases wordR (bt (b :: r)) with
      | none => rfl
      | some X => exact wordsF_skip

/-- What the words from a range on have; none: one is none. -/
def meetsD : Rg → List Bt → Option Rg
  | R, [] => some R
  | R, p :: ps => match wordR (bt p) with
    | none => none
    | some X => meetsD (meetR R X) ps
theorem wordsF_meets : ∀ {ps : List Bt} {R : Rg} {f : Bool}, (∀ p ∈ ps, p ≠ []) → wordsF R f (ps.map bt) = (meetsD R ps).map fun X => (X, f || !ps.isEmpty)
  | [], _, _, _ => by simp [wordsF, meetsD]
  | p :: ps, R, f, h => by
    have hn : ¬ (bt p).size = 0 := by rw [bt_size]; have := h p List.mem_cons_self; cases p <;> simp_all
    rw [List.map_cons, wordsF, if_neg hn, meetsD]
    cases hw : wordR (bt p) with
    | none => rfl
    | some X =>
      show wordsF (meetR R X) true (ps.map bt) = _
      rw [wordsF_meets fun q hq => h q (List.mem_cons_of_mem _ hq)]
      simp

/-- All that alternatives have, one behind the other. -/
def altD : Rg → List Bt → Option Rg
  | acc, [] => some acc
  | acc, a :: l => match meetsD allR (wordsD a) with
    | none => none
    | some X => if wordsD a = [] then none else altD (acc ++ X) l

theorem in_append {A B : Rg} {n : Int} : InR (A ++ B) n ↔ InR A n ∨ InR B n := by
  rw [← has_in, ← has_in, ← has_in]
  unfold hasQ
  rw [List.any_append, Bool.or_eq_true]

theorem words_D (a : Bt) : wordsF allR false (piecesB (bt a) ⟨#[32]⟩) = (meetsD allR (wordsD a)).map fun X => (X, !(wordsD a).isEmpty) := by
  have := pieces_of [32] (by simp) (bt a)
  rw [show (⟨#[32]⟩ : ByteArray) = bt [32] from rfl, this, bt_list, wordsF_skip, wordsF_meets (fun p hp => by have := (List.mem_filter.1 hp).2; intro e; rw [e] at this; simp at this)]
  rfl

theorem meetsD_rg : ∀ {ps : List Bt} {R R' : Rg}, RangeR R → meetsD R ps = some R' → RangeR R'
  | [], _, _, h, e => by simp only [meetsD, Option.some.injEq] at e; rw [← e]; exact h
  | p :: ps, R, _, h, e => by
    unfold meetsD at e
    split at e
    · cases e
    · rename_i X hX
      exact meetsD_rg (h.meet (word_rg hX)) e

/-- The program's way and the document's come to the same. -/
theorem alt_D : ∀ {l : List Bt} {R acc : Rg}, RangeR R → (∀ n, InR R n ↔ InR acc n) → (altF R (l.map bt) = none ∧ altD acc l = none) ∨ ∃ R' C, altF R (l.map bt) = some R' ∧ altD acc l = some C ∧ RangeR R' ∧ ∀ n, InR R' n ↔ InR C n
  | [], R, acc, hR, h => Or.inr ⟨R, acc, rfl, rfl, hR, h⟩
  | a :: l, R, acc, hR, h => by
    rw [List.map_cons, altF_cons, altD]
    have hw := words_D a
    unfold wordsB wordsL
    rw [hw]
    cases hm : meetsD allR (wordsD a) with
    | none => exact Or.inl ⟨rfl, rfl⟩
    | some X =>
      simp only [Option.map_some]
      by_cases he : wordsD a = []
      · rw [he]; exact Or.inl ⟨rfl, rfl⟩
      · have hb : (!(wordsD a).isEmpty) = true := by cases h' : wordsD a <;> simp_all
        rw [if_pos hb, if_neg he]
        have hX := meetsD_rg allR_ok hm
        exact alt_D (hR.join hX) fun n => by rw [join_in hR hX, in_append, h]

theorem okq_append {A B : Rg} (ha : OkQ A) (hb : OkQ B) : OkQ (A ++ B) := fun q hq => (List.mem_append.1 hq).elim (ha q) (hb q)
theorem altD_ok : ∀ {l : List Bt} {acc C : Rg}, OkQ acc → altD acc l = some C → OkQ C
  | [], _, _, h, e => by simp only [altD, Option.some.injEq] at e; rw [← e]; exact h
  | a :: l, acc, C, h, e => by
    unfold altD at e
    split at e
    · cases e
    · rename_i X hX
      split at e
      · cases e
      · exact altD_ok (okq_append h (meetsD_rg allR_ok hX).okq) e

/-- What the document makes of the alternatives. -/
def docD (l : List Bt) : Option Rg := (altD [] l).map fun C => foldK 106 C []
theorem doc_alt (s : ByteArray) : altR s = docD (seg [124, 124] [] s.data.toList) := by
  unfold altR docD
  rw [show (⟨#[124, 124]⟩ : ByteArray) = bt [124, 124] from rfl, pieces_of [124, 124] (by simp) s]
  rcases alt_D (l := seg [124, 124] [] s.data.toList) (R := []) (acc := []) trivial (fun n => Iff.rfl) with ⟨h1, h2⟩ | ⟨R', C, h1, h2, h3, h4⟩
  · rw [h1, h2]; rfl
  · rw [h1, h2]
    show some R' = some (foldK 106 C [])
    have hC := altD_ok (fun q hq => by cases hq) h2
    obtain ⟨g1, g2⟩ := foldK_spec 106 hC (b := []) (fun q hq => by cases hq)
    congr 1
    refine range_one h3 g1 fun n => ?_
    rw [g2, h4, ← has_in]
    have : wantK 106 (hasQ C n) (hasQ [] n) = hasQ C n := by
      unfold wantK
      rw [if_neg (by decide), if_pos rfl]
      show (hasQ C n || false) = _
      simp
    rw [this]
    constructor
    · intro h
      refine ⟨?_, ?_, h⟩ <;>
      · obtain ⟨q, hq, hn⟩ := List.any_eq_true.1 h
        obtain ⟨⟨a, b⟩, c, d⟩ := hC q hq
        simp at hn
        omega
    · exact fun h => h.2.2

/-- One span at most. -/
theorem meet_one {A B : Rg} (hA : RangeR A) (hB : RangeR B) (la : A.length ≤ 1) (lb : B.length ≤ 1) : (meetR A B).length ≤ 1 := by
  match A, la with
  | [], _ => simp [meetR, cutR]
  | [(g, h)], _ =>
    match B, lb with
    | [], _ =>
      have : meetR [(g, h)] [] = [] := range_none (hA.meet hB) fun n => by rw [meet_in hA hB]; exact fun x => x.2.elim
      rw [this]; exact Nat.zero_le _
    | [(p, q)], _ =>
      obtain ⟨a1, a2, a3, _⟩ := hA
      obtain ⟨b1, b2, b3, _⟩ := hB
      have hA' : RangeR [(g, h)] := ⟨a1, a2, a3, trivial⟩
      have hB' : RangeR [(p, q)] := ⟨b1, b2, b3, trivial⟩
      by_cases hm : max g p ≤ min h q
      · have hC : RangeR [(max g p, min h q)] := ⟨by omega, hm, by omega, trivial⟩
        have : meetR [(g, h)] [(p, q)] = [(max g p, min h q)] := range_one (hA'.meet hB') hC fun n => by
          rw [meet_in hA' hB']
          simp only [InR, or_false]
          omega
        rw [this]; exact Nat.le_refl _
      · have : meetR [(g, h)] [(p, q)] = [] := range_none (hA'.meet hB') fun n => by
          rw [meet_in hA' hB']
          simp only [InR, or_false]
          omega
        rw [this]; exact Nat.zero_le _
end Go.Proofs.YtjfbgiajjkjghaaGreatDoor
namespace Go.Proofs.YtjfbgiajjkjghaaGreatDoor
open Go.RowKit
set_option maxRecDepth 100000

def signsD : List Bt := [[60, 61], [62, 61], [60], [62], [61], [94], [126]]
/-- The sign that a text begins with. -/
def sgD (l : Bt) : Bt := (signsD.find? fun g => g.isPrefixOf l).getD []
def fromR (lo hi : Int) : Rg := if lo > hi then [] else [(lo, hi)]
/-- What the document makes of a sign and a place. -/
def docS (sg : Bt) (n : Int) : Rg := if sg = [60, 61] then fromR 0 n else if sg = [62, 61] then fromR n 999999999 else if sg = [60] then fromR 0 (n - 1) else if sg = [62] then fromR (n + 1) 999999999 else
  if sg = [126] then fromR n (minorR n) else if sg = [94] then (if 0 < atA n then fromR n (majorR n) else if 0 < atB n then fromR n (minorR n) else fromR n n) else fromR n n
def docW (l : Bt) : Option Rg := if l = [42] then some allR else if okP (bt (l.drop (sgD l).length)) = true then some (docS (sgD l) (plP (bt (l.drop (sgD l).length)))) else none

/-- What may stand ahead. -/
def IsSg (g : Bt) : Prop := g = [] ∨ g = [60, 61] ∨ g = [62, 61] ∨ g = [60] ∨ g = [62] ∨ g = [61] ∨ g = [94] ∨ g = [126]
theorem sgD_is (l : Bt) : IsSg (sgD l) := by
  unfold sgD
  cases h : signsD.find? fun g => g.isPrefixOf l with
  | none => exact Or.inl rfl
  | some g =>
    have := List.mem_of_find?_eq_some h
    simp only [signsD, List.mem_cons, List.not_mem_nil, or_false] at this
    exact Or.inr this
theorem sgD_pre (l : Bt) : l = sgD l ++ l.drop (sgD l).length := by
  have : sgD l <+: l := by
    unfold sgD
    cases h : signsD.find? fun g => g.isPrefixOf l with
    | none => exact List.nil_prefix
    | some g =>
      have := List.find?_some (p := fun g : Bt => g.isPrefixOf l) h
      exact List.isPrefixOf_iff_prefix.1 this
  obtain ⟨r, hr⟩ := this
  have hd : l.drop (sgD l).length = r := by
    conv => lhs; arg 2; rw [← hr]
    exact List.drop_left
  rw [hd, hr]
theorem sg_B {g : Bt} (h : IsSg g) : SignB (bt g) := by
  unfold SignB
  rw [bt_list]
  rcases h with rfl | rfl | rfl | rfl | rfl | rfl | rfl | rfl <;> decide

theorem from_cut1 {n : Int} (h : okR n) : cutR allR [(n, 999999999)] = fromR 0 (n - 1) := by
  have h1 : RangeR [(n, 999999999)] := one_ok h okL h.2
  obtain ⟨a, b⟩ := h
  refine range_one (allR_ok.cut h1) ?_ fun k => ?_
  · unfold fromR
    split
    · trivial
    · exact ⟨by omega, by omega, by omega, trivial⟩
  · rw [cut_in allR_ok h1, allR_in]
    unfold fromR
    split
    · simp only [InR, or_false]
      constructor
      · omega
      · exact fun h => h.elim
    · simp only [InR, or_false]
      omega
theorem from_cut2 {n : Int} (h : okR n) : cutR allR [(0, n)] = fromR (n + 1) 999999999 := by
  have h1 : RangeR [(0, n)] := one_ok okF h h.1
  obtain ⟨a, b⟩ := h
  refine range_one (allR_ok.cut h1) ?_ fun k => ?_
  · unfold fromR
    split
    · trivial
    · exact ⟨by omega, by omega, by omega, trivial⟩
  · rw [cut_in allR_ok h1, allR_in]
    unfold fromR
    split
    · simp only [InR, or_false]
      constructor
      · omega
      · exact fun h => h.elim
    · simp only [InR, or_false]
      omega
theorem from_le {a b : Int} (h : a ≤ b) : fromR a b = [(a, b)] := by unfold fromR; rw [if_neg (by omega)]
theorem at_nn {n : Int} (h : okR n) : 0 ≤ atA n ∧ 0 ≤ atB n := by
  obtain ⟨a, b, _⟩ := at_of h
  obtain ⟨c, d⟩ := h
  rw [a, b]
  omega
theorem sign_doc {g : Bt} (hg : IsSg g) {n : Int} (h : okR n) : signR g n = some (docS g n) := by
  have hm := minor_ok h
  have ha := alike_ok h
  have hM := major_ok h
  obtain ⟨z1, z2⟩ := at_nn h
  have e0 := from_le (Int.le_refl n)
  have e1 := from_le h.1
  have e2 := from_le h.2
  have e3 := from_le hm.2
  have e4 := from_le hM.2
  have e5 := from_cut1 h
  have e6 := from_cut2 h
  rcases hg with rfl | rfl | rfl | rfl | rfl | rfl | rfl | rfl
  · simp [signR, docS, e0]
  · simp [signR, docS, e1]
  · simp [signR, docS, e2]
  · simp [signR, docS, e5]
  · simp [signR, docS, e6]
  · simp [signR, docS, e0]
  · have s94 : signR [94] n = some [(n, alikeR n)] := by simp [signR]
    have d94 : docS [94] n = (if 0 < atA n then fromR n (majorR n) else if 0 < atB n then fromR n (minorR n) else fromR n n) := by simp [docS]
    rw [s94, d94]
    unfold alikeR
    by_cases c1 : atA n = 0
    · by_cases c2 : atB n = 0
      · simp [c1, c2, e0]
      · have : 0 < atB n := by omega
        simp [c1, c2, this, e3]
    · have : 0 < atA n := by omega
      simp [c1, this, e4]
  · simp [signR, docS, e3]

theorem sgD_of {g : Bt} (hg : IsSg g) {d : UInt8} {r : Bt} (hd : 48 ≤ d.toNat ∧ d.toNat ≤ 57) : sgD (g ++ d :: r) = g := by
  have ne : ∀ x : UInt8, (x.toNat < 48 ∨ 57 < x.toNat) → (x == d) = false := fun x hx => by
    rw [beq_eq_false_iff_ne]
    rintro rfl
    omega
  have n60 := ne 60 (by decide)
  have n61 := ne 61 (by decide)
  have n62 := ne 62 (by decide)
  have n94 := ne 94 (by decide)
  have n126 := ne 126 (by decide)
  rcases hg with rfl | rfl | rfl | rfl | rfl | rfl | rfl | rfl <;> simp [sgD, signsD, List.find?, List.isPrefixOf, n60, n61, n62, n94, n126]

theorem sign_is {g : Bt} {n : Int} {R : Rg} (h : signR g n = some R) : IsSg g := by
  unfold signR at h
  unfold IsSg
  repeat' split at h
  all_goals first | (cases h; done) | skip
  · rename_i hh
    rcases hh with hh | hh
    · exact Or.inl hh
    · rw [hh]; simp
  all_goals simp_all

theorem word_doc (l : Bt) : wordR (bt l) = docW l := by
  unfold docW
  by_cases h42 : l = [42]
  · rw [if_pos h42]
    subst h42
    unfold wordR
    rw [if_pos (bt_list _)]
  · rw [if_neg h42]
    by_cases ho : okP (bt (l.drop (sgD l).length)) = true
    · rw [if_pos ho]
      obtain ⟨hm, ht⟩ := okP_text ho
      have hs := sgD_pre l
      have hg := sgD_is l
      obtain ⟨hp, _⟩ := plP_ok ho
      rw [← sign_doc hg hp]
      have hb : bt l = bt (sgD l) ++ bt (l.drop (sgD l).length) := by
        rw [← (show bt (sgD l ++ l.drop (sgD l).length) = bt (sgD l) ++ bt (l.drop (sgD l).length) from bytes_append _ _), ← hs]
      rw [hb]
      conv => lhs; rw [ht]
      rw [word_sign (sg_B hg) hm, bt_list]
      rfl
    · rw [if_neg ho]
      cases hw : wordR (bt l) with
      | none => rfl
      | some R =>
        exfalso
        unfold wordR at hw
        rw [if_neg (by rw [bt_list]; exact h42)] at hw
        split at hw
        · rename_i hk
          have hg := sign_is hw
          obtain ⟨hm, ht⟩ := okP_text hk
          obtain ⟨d, r, hd, hdd⟩ := text_first hm
          rw [← ht] at hd
          have e1 : ((bt l).extract 0 (idxK (bt l))).data.toList = l.take (idxK (bt l)) := by rw [Lib.extract_from_zero, bt_list]
          have e2 : ((bt l).extract (idxK (bt l)) (bt l).size).data.toList = l.drop (idxK (bt l)) := by rw [Lib.extract_to_end, bt_list]
          rw [e1] at hg
          rw [e2] at hd
          have hl : l = l.take (idxK (bt l)) ++ d :: r := by rw [← hd, List.take_append_drop]
          have hsg : sgD l = l.take (idxK (bt l)) := by
            conv => lhs; rw [hl]
            exact sgD_of hg hdd
          have hdr : l.drop (sgD l).length = l.drop (idxK (bt l)) := by
            rw [hsg, List.length_take, Nat.min_eq_left (by have := idxK_le (bt l); rw [bt_size] at this; exact this)]
          apply ho
          rw [hdr]
          rw [of_list e2] at hk
          exact hk
        · cases hw

theorem docS_one (g : Bt) (n : Int) : (docS g n).length ≤ 1 := by
  have : ∀ a b, (fromR a b).length ≤ 1 := fun a b => by unfold fromR; split <;> simp
  unfold docS
  repeat' split
  all_goals exact this _ _
theorem word_one {p : Bt} {X : Rg} (h : wordR (bt p) = some X) : X.length ≤ 1 := by
  rw [word_doc] at h
  unfold docW at h
  split at h
  · injection h with h; subst h; exact Nat.le_refl _
  · split at h
    · injection h with h; subst h; exact docS_one _ _
    · cases h
theorem meetsD_one : ∀ {ps : List Bt} {R R' : Rg}, RangeR R → R.length ≤ 1 → meetsD R ps = some R' → R'.length ≤ 1
  | [], _, _, _, h, e => by simp only [meetsD, Option.some.injEq] at e; rw [← e]; exact h
  | p :: ps, R, _, hr, h, e => by
    unfold meetsD at e
    split at e
    · cases e
    · rename_i X hX
      exact meetsD_one (hr.meet (word_rg hX)) (meet_one hr (word_rg hX) h (word_one hX)) e
end Go.Proofs.YtjfbgiajjkjghaaGreatDoor
