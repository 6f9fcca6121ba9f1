/- Wb5, laid in one text. -/
import Derived.Deep.CutRange
import Derived.Test.YtjpmlagofcgheaaGreatDoorMg24
namespace Go.Proofs.YtjpmlagofcgheaaGreatDoor
open Go.RowKit Go.Maps Go.WideMaps
set_option maxRecDepth 100000

def RctQ (w : World) (R : List CV) (r : Option (List Pn)) (e : Ending) (w' : World) : Prop := (r = none → e = .returned (.tuple #[.slice none 0 0, .bool false])) ∧ (∀ od, r = some od → ∃ v so, e = .returned (.tuple #[v, .bool true]) ∧ (so.Perm od ∧ SortedN so ∧ GoodC R od) ∧ OwnPn w' w.heap.size v so) ∧ Below w.heap.size w w'
def lenV : Value → Nat
  | .slice _ n _ => n
  | _ => 0
/-- A package's variable, and whether there is one. -/
def GotB (w : World) (N : Nat) (r : Option CV) : Prop := match r with
  | none => BxP w N ByteArray.empty 0 0 0 (.slice none 0 0) (.slice none 0 0) (.slice none 0 0)
  | some x => BxP w N x.pg.nm x.pg.a x.pg.b x.pg.c x.u1 x.u2 x.u3

set_option maxHeartbeats 25600000 in
theorem rctx_any {w0 w : World} (hb0 : Below w0.heap.size w0 w) {Ec : Nat} {R : List CV} (hr : RcAt w0 w Ec R) {O : List Dp} {x1 x2 x3 : Option Addr} {y1 y2 y3 z1 z2 z3 : Nat} {v4 : Value} (ho : DepsAt w v4 O) (hol0 : O.length ≤ 9223372036854775807) {E : List Pn} {ve : Value} (he : PinsAt w ve E) (hel : E.length ≤ 9223372036854775807) (hei : ∀ q ∈ E, I64 q.a ∧ I64 q.b ∧ I64 q.c) (p : Pn) :
    Calls Tryz.prog 26 #[.pointer (some ⟨Ec, 0, none⟩), .agg #[.slice x1 y1 z1, .slice x2 y2 z2, .slice x3 y3 z3, v4], ve, .agg #[.string p.nm, .int .i64 p.a, .int .i64 p.b, .int .i64 p.c]] w (RctQ w R (ctxC R O E p)) := by
  have HFU0 : Hid (∃ FU, FU = 3000 ∧ ctxC R O E p = ctxF R O E FU [p] []) := ⟨3000, rfl, rfl⟩
  obtain ⟨FU, hFU, hctx⟩ := HFU0.out
  rw [hctx]
  have hfu : 2999 < FU := by omega
  clear hFU hctx HFU0
  obtain ⟨ad, cap, rfl, hcap, _⟩ := ho.el
  obtain ⟨ae, ce, rfl, _, _⟩ := he.el
  have HSH : Hid (∀ x ∈ R, ShortL x.pg.p) := fun x hx => peers_short (hr.2.1 x hx).2
  have HPL : Hid ((peerN R).length ≤ 2048) := peerN_len hr.2.2.2 fun x hx => (HSH.out x hx).1
  have HPG : Hid (∀ y ∈ R, PgAt w0 y.pg y.u1 y.u2 y.u3) := fun y hy => (hr.2.1 y hy).1
  have HEI := hide3 hei
  have HBW : Hid (Below w.heap.size w ((w.alloc (.cells #[.slice x1 y1 z1, .slice x2 y2 z2, .slice x3 y3 z3, .slice ad O.length cap] 54)).alloc (.cells #[.string p.nm, .int .i64 p.a, .int .i64 p.b, .int .i64 p.c] 58))) := boxB2 _ _ _
  have HRC : Hid (RcAt w0 ((w.alloc (.cells #[.slice x1 y1 z1, .slice x2 y2 z2, .slice x3 y3 z3, .slice ad O.length cap] 54)).alloc (.cells #[.string p.nm, .int .i64 p.a, .int .i64 p.b, .int .i64 p.c] 58)) Ec R) := hr.below HBW.out
  have HDE : Hid (DepsAt ((w.alloc (.cells #[.slice x1 y1 z1, .slice x2 y2 z2, .slice x3 y3 z3, .slice ad O.length cap] 54)).alloc (.cells #[.string p.nm, .int .i64 p.a, .int .i64 p.b, .int .i64 p.c] 58)) (.slice ad O.length cap) O) := ho.below HBW.out
  have HPE : Hid (PinsAt ((w.alloc (.cells #[.slice x1 y1 z1, .slice x2 y2 z2, .slice x3 y3 z3, .slice ad O.length cap] 54)).alloc (.cells #[.string p.nm, .int .i64 p.a, .int .i64 p.b, .int .i64 p.c] 58)) (.slice ae E.length ce) E) := he.below HBW.out
  have HB00 : Hid (Below w0.heap.size w0 ((w.alloc (.cells #[.slice x1 y1 z1, .slice x2 y2 z2, .slice x3 y3 z3, .slice ad O.length cap] 54)).alloc (.cells #[.string p.nm, .int .i64 p.a, .int .i64 p.b, .int .i64 p.c] 58))) := hb0.trans (HBW.out.mono hb0.size)
  have m0 : ((w.alloc (.cells #[.slice x1 y1 z1, .slice x2 y2 z2, .slice x3 y3 z3, .slice ad O.length cap] 54)).alloc (.cells #[.string p.nm, .int .i64 p.a, .int .i64 p.b, .int .i64 p.c] 58)).cell? ⟨w.heap.size, 0, none⟩ = some (.slice x1 y1 z1) := by simp
  have m1 : ((w.alloc (.cells #[.slice x1 y1 z1, .slice x2 y2 z2, .slice x3 y3 z3, .slice ad O.length cap] 54)).alloc (.cells #[.string p.nm, .int .i64 p.a, .int .i64 p.b, .int .i64 p.c] 58)).cell? ⟨w.heap.size, 1, none⟩ = some (.slice x2 y2 z2) := by simp
  have m2 : ((w.alloc (.cells #[.slice x1 y1 z1, .slice x2 y2 z2, .slice x3 y3 z3, .slice ad O.length cap] 54)).alloc (.cells #[.string p.nm, .int .i64 p.a, .int .i64 p.b, .int .i64 p.c] 58)).cell? ⟨w.heap.size, 2, none⟩ = some (.slice x3 y3 z3) := by simp
  have m3 : ((w.alloc (.cells #[.slice x1 y1 z1, .slice x2 y2 z2, .slice x3 y3 z3, .slice ad O.length cap] 54)).alloc (.cells #[.string p.nm, .int .i64 p.a, .int .i64 p.b, .int .i64 p.c] 58)).cell? ⟨w.heap.size, 3, none⟩ = some (.slice ad O.length cap) := by simp
  have hmw : w.heap.size < ((w.alloc (.cells #[.slice x1 y1 z1, .slice x2 y2 z2, .slice x3 y3 z3, .slice ad O.length cap] 54)).alloc (.cells #[.string p.nm, .int .i64 p.a, .int .i64 p.b, .int .i64 p.c] 58)).heap.size := by simp; omega
  have k0 : ((w.alloc (.cells #[.slice x1 y1 z1, .slice x2 y2 z2, .slice x3 y3 z3, .slice ad O.length cap] 54)).alloc (.cells #[.string p.nm, .int .i64 p.a, .int .i64 p.b, .int .i64 p.c] 58)).cell? ⟨w.heap.size + 1, 0, none⟩ = some (.string p.nm) := (new_cell (by simp) rfl).1
  have k1 : ((w.alloc (.cells #[.slice x1 y1 z1, .slice x2 y2 z2, .slice x3 y3 z3, .slice ad O.length cap] 54)).alloc (.cells #[.string p.nm, .int .i64 p.a, .int .i64 p.b, .int .i64 p.c] 58)).cell? ⟨w.heap.size + 1, 1, none⟩ = some (.int .i64 p.a) := (new_cell (by simp) rfl).1
  have k2 : ((w.alloc (.cells #[.slice x1 y1 z1, .slice x2 y2 z2, .slice x3 y3 z3, .slice ad O.length cap] 54)).alloc (.cells #[.string p.nm, .int .i64 p.a, .int .i64 p.b, .int .i64 p.c] 58)).cell? ⟨w.heap.size + 1, 2, none⟩ = some (.int .i64 p.b) := (new_cell (by simp) rfl).1
  have k3 : ((w.alloc (.cells #[.slice x1 y1 z1, .slice x2 y2 z2, .slice x3 y3 z3, .slice ad O.length cap] 54)).alloc (.cells #[.string p.nm, .int .i64 p.a, .int .i64 p.b, .int .i64 p.c] 58)).cell? ⟨w.heap.size + 1, 3, none⟩ = some (.int .i64 p.c) := (new_cell (by simp) rfl).1
  have hWs : ((w.alloc (.cells #[.slice x1 y1 z1, .slice x2 y2 z2, .slice x3 y3 z3, .slice ad O.length cap] 54)).alloc (.cells #[.string p.nm, .int .i64 p.a, .int .i64 p.b, .int .i64 p.c] 58)).heap.size = w.heap.size + 1 + 1 := by simp
  have HFN : Hid (∀ w', ctxF R O E FU [p] [] = none → Below ((w.alloc (.cells #[.slice x1 y1 z1, .slice x2 y2 z2, .slice x3 y3 z3, .slice ad O.length cap] 54)).alloc (.cells #[.string p.nm, .int .i64 p.a, .int .i64 p.b, .int .i64 p.c] 58)).heap.size ((w.alloc (.cells #[.slice x1 y1 z1, .slice x2 y2 z2, .slice x3 y3 z3, .slice ad O.length cap] 54)).alloc (.cells #[.string p.nm, .int .i64 p.a, .int .i64 p.b, .int .i64 p.c] 58)) w' → RctQ w R (ctxF R O E FU [p] []) (.returned (.tuple #[.slice none 0 0, .bool false])) w') := fun w' h hb => ⟨fun _ => rfl, fun o h2 => (by rw [h] at h2; cases h2), below_then HBW.out hb⟩
  have HFS : Hid (∀ w' v od so, ctxF R O E FU [p] [] = some od → (so.Perm od ∧ SortedN so ∧ GoodC R od) → OwnPn w' ((w.alloc (.cells #[.slice x1 y1 z1, .slice x2 y2 z2, .slice x3 y3 z3, .slice ad O.length cap] 54)).alloc (.cells #[.string p.nm, .int .i64 p.a, .int .i64 p.b, .int .i64 p.c] 58)).heap.size v so → Below ((w.alloc (.cells #[.slice x1 y1 z1, .slice x2 y2 z2, .slice x3 y3 z3, .slice ad O.length cap] 54)).alloc (.cells #[.string p.nm, .int .i64 p.a, .int .i64 p.b, .int .i64 p.c] 58)).heap.size ((w.alloc (.cells #[.slice x1 y1 z1, .slice x2 y2 z2, .slice x3 y3 z3, .slice ad O.length cap] 54)).alloc (.cells #[.string p.nm, .int .i64 p.a, .int .i64 p.b, .int .i64 p.c] 58)) w' → RctQ w R (ctxF R O E FU [p] []) (.returned (.tuple #[v, .bool true])) w') := fun w' v od so h h1 h2 hb => ⟨fun h3 => (by rw [h] at h3; cases h3), fun o h3 => (by rw [h] at h3; cases h3; exact ⟨v, so, rfl, h1, own_base h2 HBW.out.size⟩), below_then HBW.out hb⟩
  generalize hHQ : RctQ w R (ctxF R O E FU [p] []) = HQ at *
  clear hHQ hr ho he hei hb0
  go_enter Tryz.func26, Tryz.ntmps26
  go_wp2_with fail
  clear k0 k1 k2 k3
  generalize ((w.alloc (.cells #[.slice x1 y1 z1, .slice x2 y2 z2, .slice x3 y3 z3, .slice ad O.length cap] 54)).alloc (.cells #[.string p.nm, .int .i64 p.a, .int .i64 p.b, .int .i64 p.c] 58)) = W at *
  have HW0 : Hid (OwnPn (W.alloc (.cells #[.string p.nm, .int .i64 p.a, .int .i64 p.b, .int .i64 p.c] 58)) W.heap.size (.slice (some ⟨W.heap.size, 0, none⟩) 1 1) [p]) := ⟨rfl, Or.inr ⟨W.heap.size, 1, _, rfl, Nat.le_refl _, (by
    show (W.heap.push _)[_]? = _
    rw [Array.getElem?_push, if_pos rfl]), Nat.le_refl _, by decide, rfl, rfl⟩⟩
  rw [← hWs]
  clear hWs
  go_loopw [10, 11] (fun vo vr wr => ∃ (t : Nat) (rs od so : List Pn), Below W.heap.size W wr ∧ OwnPn wr W.heap.size vo so ∧ OwnPn wr W.heap.size vr rs ∧ (so.Perm od ∧ SortedN so ∧ GoodC R od) ∧ rs.length + t = od.length + 1 ∧ ctxF R O E FU [p] [] = ctxF R O E (FU - t) rs od) (fun vo vr _ => lenV vr + 2 * (3000 - lenV vo))
  case atStart => exact ⟨0, [p], [], [], boxB _ _, OwnPn.nil _ _, HW0.out, ⟨List.Perm.refl _, List.Pairwise.nil, GoodC.nil R⟩, rfl, rfl⟩
  case round =>
    obtain ⟨t, rs, od, so, hbw, hos, hor, hso, ht, hct⟩ := hrel
    have HB := hide3 hbw
    have HOS := hide3 hos
    have HOR := hide3 hor
    have HSO := hide3 hso
    have HCE := hide3 hct
    obtain ⟨a1, c1', hv1⟩ := own_len hos
    obtain ⟨a2, c2', hv2⟩ := own_len hor
    subst hv1
    subst hv2
    have hodl : od.length ≤ 2048 := hso.2.2.len HPL.out
    have hsol : so.length = od.length := hso.1.length_eq
    have HSL := hide3 hsol
    clear hbw hos hor hso hct
    cases rs with
    | nil =>
      have HEND : Hid (ctxF R O E FU [p] [] = some od) := by
        unfold Hid
        rw [HCE.out, ctxF_nil]
      rw [List.length_nil]
      clear hsol ht
      go_wp2_with fail
      exact HFS.out _ _ _ _ HEND.out HSO.out HOS.out HB.out
    | cons x rs =>
      rw [List.length_cons] at ht ⊢
      obtain ⟨g, cap1, hgB, hgr, hv, hcap1, ⟨c0, c1, c2, c3⟩, _⟩ := pn_cells HOR.out 0 (by simp)
      injection hv with hq1 hq2 hq3
      subst hq1
      subst hq3
      clear hq2
      simp only [List.getElem_cons_zero, Nat.zero_mul, Nat.zero_add] at c0 c1 c2 c3
      have hlen0 : (0 : Int) < (rs.length : Int) + 1 := by omega
      obtain ⟨f, hf⟩ : ∃ f, FU - t = f + 1 := ⟨FU - t - 1, by omega⟩
      have hf2 : FU - (t + 1) = f := by omega
      rw [hf] at HCE
      clear hf hsol
      cases hcat : catC R x.nm x.a x.b x.c with
      | none =>
        have HNO : Hid (ctxF R O E FU [p] [] = none) := by
          unfold Hid
          rw [HCE.out, ctxF_none]
          unfold besC
          rw [hcat]
        have HGT : Hid (∀ W2, Below W.heap.size W W2 → Calls Tryz.prog 14 #[.pointer (some ⟨Ec, 0, none⟩), .string x.nm, .agg #[.int .i64 x.a, .int .i64 x.b, .int .i64 x.c]] W2 fun e w' => e = .returned (.tuple #[.agg #[.string ByteArray.empty, .int .i64 0, .int .i64 0, .int .i64 0, .slice none 0 0, .slice none 0 0, .slice none 0 0], .bool false]) ∧ Below W2.heap.size W2 w') := fun W2 hb => by
          have e := rget_any (HRC.out.below hb) x.nm x.a x.b x.c
          rw [gotV, hcat] at e
          exact e
        clear hcat hf2
        go_upto_region 4 with fail
        go_cut [12, 13] from 23 to 100 (fun s12 s13 wx => ∃ N, s12 = .pointer (some ⟨N, 0, none⟩) ∧ s13 = .bool false ∧ Below wr.heap.size wr wx ∧ BxP wx N ByteArray.empty 0 0 0 (.slice none 0 0) (.slice none 0 0) (.slice none 0 0))
        case first =>
          have HZF : Hid (∀ b, Below (wr.alloc (.cells #[.string ⟨#[]⟩, .int .i64 0, .int .i64 0, .int .i64 0, .slice none 0 0, .slice none 0 0, .slice none 0 0] 34)).drew.heap.size (wr.alloc (.cells #[.string ⟨#[]⟩, .int .i64 0, .int .i64 0, .int .i64 0, .slice none 0 0, .slice none 0 0, .slice none 0 0] 34)).drew b → BxPF b wr.heap.size ⟨#[]⟩ 0 0 0 (.slice none 0 0) (.slice none 0 0) (.slice none 0 0)) := fun b hb => keepBxPF _ _ _ _ _ _ _ _ _ _ (keepBxPF _ _ _ _ _ _ _ _ _ _ (BxPF.new rfl _ _ _ _ _ _ _) (Below.refl _ _).drew) hb
          have nb0 := World.new_ne wr ⟨g, 0, none⟩ c0
          have HGA : Hid (Calls Tryz.prog 14 #[.pointer (some ⟨Ec, 0, none⟩), .string x.nm, .agg #[.int .i64 x.a, .int .i64 x.b, .int .i64 x.c]] (wr.alloc (.cells #[.string ⟨#[]⟩, .int .i64 0, .int .i64 0, .int .i64 0, .slice none 0 0, .slice none 0 0, .slice none 0 0] 34)).drew fun e w' => e = .returned (.tuple #[.agg #[.string ByteArray.empty, .int .i64 0, .int .i64 0, .int .i64 0, .slice none 0 0, .slice none 0 0, .slice none 0 0], .bool false]) ∧ Below (wr.alloc (.cells #[.string ⟨#[]⟩, .int .i64 0, .int .i64 0, .int .i64 0, .slice none 0 0, .slice none 0 0, .slice none 0 0] 34)).drew.heap.size (wr.alloc (.cells #[.string ⟨#[]⟩, .int .i64 0, .int .i64 0, .int .i64 0, .slice none 0 0, .slice none 0 0, .slice none 0 0] 34)).drew w') := HGT.out _ (below_then HB.out (boxB _ _).drew)
          have HGB : Hid (Calls Tryz.prog 14 #[.pointer (some ⟨Ec, 0, none⟩), .string x.nm, .agg #[.int .i64 x.a, .int .i64 x.b, .int .i64 x.c]] wr.drew fun e w' => e = .returned (.tuple #[.agg #[.string ByteArray.empty, .int .i64 0, .int .i64 0, .int .i64 0, .slice none 0 0, .slice none 0 0, .slice none 0 0], .bool false]) ∧ Below wr.drew.heap.size wr.drew w') := HGT.out _ HB.out.drew
          clear HGT
          go_region_held3 (fun w' => w'.cell? ⟨g, 0, none⟩ = some (.string x.nm) ∧ w'.cell? ⟨g, 1, none⟩ = some (.int .i64 x.a) ∧ w'.cell? ⟨g, 2, none⟩ = some (.int .i64 x.b) ∧ w'.cell? ⟨g, 3, none⟩ = some (.int .i64 x.c)) (go_keep) (first
            | (go_at_call 14; refine HGA.out.mono ?_; rintro e w7 ⟨rfl, hb⟩; have HZ2 := hide3 (HZF.out _ hb); have hq : Below wr.heap.size wr w7 := below_then (boxB _ _).drew hb; have HB17 := hide3 hq; obtain ⟨⟨r0, r1, r2, r3, r4, r5, r6, r7⟩, hfz⟩ := HZ2.out; have f0 := hfz 0 (by decide); have f1 := hfz 1 (by decide); have f2 := hfz 2 (by decide); have f3 := hfz 3 (by decide); have f4 := hfz 4 (by decide); have f5 := hfz 5 (by decide); have f6 := hfz 6 (by decide); clear hfz; have c0 := (hq.cell (p := ⟨g, 0, none⟩) hgr).trans c0; have c1 := (hq.cell (p := ⟨g, 1, none⟩) hgr).trans c1; have c2 := (hq.cell (p := ⟨g, 2, none⟩) hgr).trans c2; have c3 := (hq.cell (p := ⟨g, 3, none⟩) hgr).trans c3; have w7l : wr.heap.size < w7.heap.size := r7; clear hb hq)
            | (go_at_call 14; with_reducible refine HGB.out.mono ?_; rintro e w7 ⟨rfl, hb⟩; have hq : Below wr.heap.size wr w7 := below_then (Below.refl _ _).drew hb; have HB17 := hide3 hq; have c0 := (hq.cell (p := ⟨g, 0, none⟩) hgr).trans c0; have c1 := (hq.cell (p := ⟨g, 1, none⟩) hgr).trans c1; have c2 := (hq.cell (p := ⟨g, 2, none⟩) hgr).trans c2; have c3 := (hq.cell (p := ⟨g, 3, none⟩) hgr).trans c3; have nb2 := World.new_ne w7 ⟨g, 0, none⟩ c0; clear hb hq))
          all_goals go_wp2_with fail
          all_goals go_meet
          all_goals first
            | (have _t := HZ2; have s7 := set7 r0 r1 r2 r3 r4 r5 r6 (.string ByteArray.empty) (.int .i64 0) (.int .i64 0) (.int .i64 0) (.slice none 0 0) (.slice none 0 0) (.slice none 0 0); exact ⟨wr.heap.size, rfl, rfl, below_set7 (Nat.le_refl _) HB17.out, s7.1, s7.2.1, s7.2.2.1, s7.2.2.2.1, s7.2.2.2.2.1, s7.2.2.2.2.2.1, s7.2.2.2.2.2.2, by simpa using r7⟩)
            | exact ⟨w7.heap.size, rfl, rfl, below_then HB17.out (boxB _ _), BxP.new rfl _ _ _ _ _ _ _⟩
        case rest =>
          obtain ⟨N, rfl, rfl, hbc, _⟩ := hcut
          have HBC : Hid (Below W.heap.size W wc) := below_then HB.out hbc
          clear hbc
          go_wp2_with fail
          exact HFN.out _ HNO.out HBC.out
      | some y =>
        have hyR : y ∈ R := List.mem_of_find?_eq_some hcat
        obtain ⟨⟨e1, n1, d1, q1⟩, _, e3, n3, d3, q3⟩ := pg_slices (HPG.out y hyR)
        obtain ⟨e2, d2, q2, _⟩ := (HPG.out y hyR).2.1.el
        have HDP : Hid (DepsAt w0 (.slice e2 y.pg.p.length d2) y.pg.p) := by
          have e := (HPG.out y hyR).2.1
          rw [q2] at e
          exact e
        have HBES : Hid (besC R O E x.nm x.a x.b x.c = besL O E y.pg.p) := by
          unfold Hid besC
          rw [hcat]
        have HFAIL : Hid (besL O E y.pg.p = none → ctxF R O E FU [p] [] = none) := fun h => by
          rw [HCE.out, ctxF_none (HBES.out.trans h)]
        have HOKC : Hid (∀ psd, besL O E y.pg.p = some psd → ctxF R O E FU [p] [] = ctxF R O E (FU - (t + 1)) (rs ++ freshN od psd) (od ++ freshN od psd)) := fun psd h => by
          rw [HCE.out, ctxF_some (HBES.out.trans h), hf2]
        have HGT : Hid (∀ W2, Below W.heap.size W W2 → Calls Tryz.prog 14 #[.pointer (some ⟨Ec, 0, none⟩), .string x.nm, .agg #[.int .i64 x.a, .int .i64 x.b, .int .i64 x.c]] W2 fun e w' => e = .returned (.tuple #[.agg #[.string y.pg.nm, .int .i64 y.pg.a, .int .i64 y.pg.b, .int .i64 y.pg.c, .slice e1 n1 d1, .slice e2 y.pg.p.length d2, .slice e3 n3 d3], .bool true]) ∧ Below W2.heap.size W2 w') := fun W2 hb => by
          have e := rget_any (HRC.out.below hb) x.nm x.a x.b x.c
          rw [gotV, hcat] at e
          simp only [Option.isSome, cvV] at e
          rw [q1, q2, q3] at e
          exact e
        clear hcat hf2 q1 q2 q3
        go_upto_region 4 with fail
        go_cut [12, 13] from 23 to 100 (fun s12 s13 wx => ∃ N, s12 = .pointer (some ⟨N, 0, none⟩) ∧ s13 = .bool true ∧ Below wr.heap.size wr wx ∧ BxP wx N y.pg.nm y.pg.a y.pg.b y.pg.c (.slice e1 n1 d1) (.slice e2 y.pg.p.length d2) (.slice e3 n3 d3))
        case first =>
          have HZF : Hid (∀ b, Below (wr.alloc (.cells #[.string ⟨#[]⟩, .int .i64 0, .int .i64 0, .int .i64 0, .slice none 0 0, .slice none 0 0, .slice none 0 0] 34)).drew.heap.size (wr.alloc (.cells #[.string ⟨#[]⟩, .int .i64 0, .int .i64 0, .int .i64 0, .slice none 0 0, .slice none 0 0, .slice none 0 0] 34)).drew b → BxPF b wr.heap.size ⟨#[]⟩ 0 0 0 (.slice none 0 0) (.slice none 0 0) (.slice none 0 0)) := fun b hb => keepBxPF _ _ _ _ _ _ _ _ _ _ (keepBxPF _ _ _ _ _ _ _ _ _ _ (BxPF.new rfl _ _ _ _ _ _ _) (Below.refl _ _).drew) hb
          have nb0 := World.new_ne wr ⟨g, 0, none⟩ c0
          have HGA : Hid (Calls Tryz.prog 14 #[.pointer (some ⟨Ec, 0, none⟩), .string x.nm, .agg #[.int .i64 x.a, .int .i64 x.b, .int .i64 x.c]] (wr.alloc (.cells #[.string ⟨#[]⟩, .int .i64 0, .int .i64 0, .int .i64 0, .slice none 0 0, .slice none 0 0, .slice none 0 0] 34)).drew fun e w' => e = .returned (.tuple #[.agg #[.string y.pg.nm, .int .i64 y.pg.a, .int .i64 y.pg.b, .int .i64 y.pg.c, .slice e1 n1 d1, .slice e2 y.pg.p.length d2, .slice e3 n3 d3], .bool true]) ∧ Below (wr.alloc (.cells #[.string ⟨#[]⟩, .int .i64 0, .int .i64 0, .int .i64 0, .slice none 0 0, .slice none 0 0, .slice none 0 0] 34)).drew.heap.size (wr.alloc (.cells #[.string ⟨#[]⟩, .int .i64 0, .int .i64 0, .int .i64 0, .slice none 0 0, .slice none 0 0, .slice none 0 0] 34)).drew w') := HGT.out _ (below_then HB.out (boxB _ _).drew)
          have HGB : Hid (Calls Tryz.prog 14 #[.pointer (some ⟨Ec, 0, none⟩), .string x.nm, .agg #[.int .i64 x.a, .int .i64 x.b, .int .i64 x.c]] wr.drew fun e w' => e = .returned (.tuple #[.agg #[.string y.pg.nm, .int .i64 y.pg.a, .int .i64 y.pg.b, .int .i64 y.pg.c, .slice e1 n1 d1, .slice e2 y.pg.p.length d2, .slice e3 n3 d3], .bool true]) ∧ Below wr.drew.heap.size wr.drew w') := HGT.out _ HB.out.drew
          clear HGT
          go_region_held3 (fun w' => w'.cell? ⟨g, 0, none⟩ = some (.string x.nm) ∧ w'.cell? ⟨g, 1, none⟩ = some (.int .i64 x.a) ∧ w'.cell? ⟨g, 2, none⟩ = some (.int .i64 x.b) ∧ w'.cell? ⟨g, 3, none⟩ = some (.int .i64 x.c)) (go_keep) (first
            | (go_at_call 14; refine HGA.out.mono ?_; rintro e w7 ⟨rfl, hb⟩; have HZ2 := hide3 (HZF.out _ hb); have hq : Below wr.heap.size wr w7 := below_then (boxB _ _).drew hb; have HB17 := hide3 hq; obtain ⟨⟨r0, r1, r2, r3, r4, r5, r6, r7⟩, hfz⟩ := HZ2.out; have f0 := hfz 0 (by decide); have f1 := hfz 1 (by decide); have f2 := hfz 2 (by decide); have f3 := hfz 3 (by decide); have f4 := hfz 4 (by decide); have f5 := hfz 5 (by decide); have f6 := hfz 6 (by decide); clear hfz; have c0 := (hq.cell (p := ⟨g, 0, none⟩) hgr).trans c0; have c1 := (hq.cell (p := ⟨g, 1, none⟩) hgr).trans c1; have c2 := (hq.cell (p := ⟨g, 2, none⟩) hgr).trans c2; have c3 := (hq.cell (p := ⟨g, 3, none⟩) hgr).trans c3; have w7l : wr.heap.size < w7.heap.size := r7; clear hb hq)
            | (go_at_call 14; with_reducible refine HGB.out.mono ?_; rintro e w7 ⟨rfl, hb⟩; have hq : Below wr.heap.size wr w7 := below_then (Below.refl _ _).drew hb; have HB17 := hide3 hq; have c0 := (hq.cell (p := ⟨g, 0, none⟩) hgr).trans c0; have c1 := (hq.cell (p := ⟨g, 1, none⟩) hgr).trans c1; have c2 := (hq.cell (p := ⟨g, 2, none⟩) hgr).trans c2; have c3 := (hq.cell (p := ⟨g, 3, none⟩) hgr).trans c3; have nb2 := World.new_ne w7 ⟨g, 0, none⟩ c0; clear hb hq))
          all_goals go_wp2_with fail
          all_goals go_meet
          all_goals first
            | (have _t := HZ2; have s7 := set7 r0 r1 r2 r3 r4 r5 r6 (.string y.pg.nm) (.int .i64 y.pg.a) (.int .i64 y.pg.b) (.int .i64 y.pg.c) (.slice e1 n1 d1) (.slice e2 y.pg.p.length d2) (.slice e3 n3 d3); exact ⟨wr.heap.size, rfl, rfl, below_set7 (Nat.le_refl _) HB17.out, s7.1, s7.2.1, s7.2.2.1, s7.2.2.2.1, s7.2.2.2.2.1, s7.2.2.2.2.2.1, s7.2.2.2.2.2.2, by simpa using r7⟩)
            | exact ⟨w7.heap.size, rfl, rfl, below_then HB17.out (boxB _ _), BxP.new rfl _ _ _ _ _ _ _⟩
        case rest =>
          obtain ⟨N, rfl, rfl, hbc, hbx⟩ := hcut
          obtain ⟨w2, hw2⟩ : ∃ z, z = wc := ⟨_, rfl⟩
          subst hw2
          have HB2 : Hid (Below W.heap.size W w2) := below_then HB.out hbc
          have HBX2 := hide3 hbx
          have HOS2 := hide3 (own_below HOS.out hbc)
          have HOR2 : Hid (OwnPn w2 W.heap.size (.slice (some ⟨g, 0, none⟩) (rs.length + 1) c2') (x :: rs)) := own_below HOR.out hbc
          clear hbc hbx c0 c1 c2 c3
          go_upto_region 8 with fail
          go_cut [14] from 23 to 100 (fun s14 wx => Below w2.heap.size w2 wx ∧ OwnPn wx W.heap.size s14 rs ∧ ∀ q, s14.ownBlock = some q → w2.heap.size ≤ q)
          case first =>
            by_cases hc1 : c2' = 1
            · have hre : rs = [] := List.length_eq_zero_iff.1 (by rw [List.length_cons] at hcap1; omega)
              subst hre
              subst hc1
              go_wp2_with (at_builtin; refine wp_ownN (B := W.heap.size) (v := .slice none 0 0) (xs := []) (news := []) (n := 0) (m := 0) (ad := ⟨g, 0, none⟩) infoPn Tryz.underlying40 rfl (by decide) (by decide) rfl (.tmp 41) (.tmp 43) rfl rfl ⟨rfl, Or.inl ⟨rfl, rfl⟩⟩ HB2.out.size rfl rfl (fun j u hj => by cases hj) (fun u hu => by cases hu) (by omega) ?_; intro v3 w3 ho3 hg3 hat3; obtain ⟨b3, d3', rfl⟩ := own_len ho3; have HO3 := hide3 ho3; have HB3 : Hid (Below w2.heap.size w2 w3) := (Below.refl _ _).grown hg3 (Nat.le_refl _) (fun k hk => by cases hk); have HAT := hide3 hat3; clear ho3 hg3 hat3)
              go_meet
              exact ⟨HB3.out, HO3.out, fun q hq => by
                rcases HAT.out with h | h
                · rw [h] at hq; cases hq
                · have e : w2.heap.size = q := Option.some.inj (h.symm.trans hq)
                  omega⟩
            · obtain ⟨g', cap', _, hg', hv', _, hcl⟩ := own_news HOR2.out (by simp)
              injection hv' with hq1 hq2 hq3
              injection hq1 with hq1
              injection hq1 with hq1 hq4 hq5
              subst hq1
              clear hq2 hq3 hq4 hq5
              have HNW : Hid (∀ j u, (rs.flatMap encPn)[j]? = some u → w2.cell? ((⟨g, 4, none⟩ : Addr).add j) = some u) := fun j u hj => by
                rw [add_at]
                refine hcl (4 + j) u ?_
                rw [List.flatMap_cons, List.getElem?_append_right (by show 4 ≤ 4 + j; omega)]
                show (rs.flatMap encPn)[4 + j - 4]? = some u
                rw [Nat.add_sub_cancel_left]
                exact hj
              have HLE : Hid ((rs.flatMap encPn).length = rs.length * 4) := flatMap_len encPn 4 (fun _ => rfl) rs
              have hcap2 : rs.length + 1 ≤ c2' := by rw [List.length_cons] at hcap1; exact hcap1
              have hci : (rs.length : Int) + 1 ≤ (c2' : Int) := by omega
              have hci1 : (1 : Int) ≤ (c2' : Int) := by omega
              have hci3 : (1 : Int) ≤ (rs.length : Int) + 1 := by omega
              have hci4 : ¬ (c2' - 1 = 0) := by omega
              have hrl : rs.length ≤ 10000 := by omega
              clear hcl
              go_wp2_with (at_builtin; refine wp_ownN (B := W.heap.size) (v := .slice none 0 0) (xs := []) (news := rs.flatMap encPn) (n := 0) (m := rs.length) (ad := ⟨g, 4, none⟩) infoPn Tryz.underlying40 rfl (by decide) (by decide) rfl (.tmp 41) (.tmp 43) rfl rfl ⟨rfl, Or.inl ⟨rfl, rfl⟩⟩ HB2.out.size rfl HLE.out HNW.out (encPn_one rs) (by omega) ?_; intro v3 w3 ho3 hg3 hat3; rw [Nat.zero_add, List.nil_append] at ho3; obtain ⟨b3, d3', rfl⟩ := own_len ho3; have HO3 := hide3 ho3; have HB3 : Hid (Below w2.heap.size w2 w3) := (Below.refl _ _).grown hg3 (Nat.le_refl _) (fun k hk => by cases hk); have HAT := hide3 hat3; clear ho3 hg3 hat3)
              go_meet
              exact ⟨HB3.out, HO3.out, fun q hq => by
                rcases HAT.out with h | h
                · rw [h] at hq; cases hq
                · have e : w2.heap.size = q := Option.some.inj (h.symm.trans hq)
                  omega⟩
          case rest =>
            obtain ⟨hb3, hon, han⟩ := hcut
            obtain ⟨w3, hw3⟩ : ∃ z, z = wc := ⟨_, rfl⟩
            subst hw3
            obtain ⟨an, cn, hvn⟩ := own_len hon
            subst hvn
            have HB3W : Hid (Below W.heap.size W w3) := below_then HB2.out hb3
            have HON := hide3 hon
            have HAN := hide3 han
            have HOS3 := hide3 (own_below HOS2.out hb3)
            obtain ⟨b0, b1, b2, b3, b4, b5, b6, _⟩ := keepBxP _ _ _ _ _ _ _ _ _ _ HBX2.out hb3
            have j0 := (HB3W.out.cell (p := ⟨w.heap.size, 0, none⟩) hmw).trans m0
            have j1 := (HB3W.out.cell (p := ⟨w.heap.size, 1, none⟩) hmw).trans m1
            have j2 := (HB3W.out.cell (p := ⟨w.heap.size, 2, none⟩) hmw).trans m2
            have j3 := (HB3W.out.cell (p := ⟨w.heap.size, 3, none⟩) hmw).trans m3
            clear hb3 hon han
            have HPR : Hid (Calls Tryz.prog 55 #[.agg #[.string y.pg.nm, .int .i64 y.pg.a, .int .i64 y.pg.b, .int .i64 y.pg.c, .slice e1 n1 d1, .slice e2 y.pg.p.length d2, .slice e3 n3 d3], .agg #[.slice x1 y1 z1, .slice x2 y2 z2, .slice x3 y3 z3, .slice ad O.length cap]] w3 fun e w' => ∃ v, e = .returned v ∧ PeersAt W w3 w' v O y.pg.p ∧ Below w3.heap.size w3 w') := rpeers_any HB3W.out HDE.out hol0 _ _ _ _ (HDP.out.below HB00.out) (by have := (HSH.out y hyR).1; omega)
            go_wp2_with (go_at_call 55; refine HPR.out.mono ?_; rintro e w4 ⟨vl, rfl, ⟨us, hrow, hus, hum⟩, hb4⟩; have HRW0 := hide3 hrow; have HUS := hide3 hus; have HUM := hide3 hum; obtain ⟨al, cl, hvl⟩ := own_len hrow; subst hvl; have HB4 : Hid (Below W.heap.size W w4) := below_then HB3W.out hb4; have HOS4 := hide3 (own_below HOS3.out hb4); have HON4 := hide3 (own_below HON.out hb4); clear hrow hus hum hb4)
            obtain ⟨ds, hds⟩ : ∃ z, z = y.pg.p := ⟨_, rfl⟩
            have HUL : Hid (us.length = ds.length) := by
              have e := congrArg List.length HUM.out
              unfold peersD at e
              rw [List.length_map, List.length_map] at e
              rw [hds]
              exact e
            rw [← hds] at HUM HFAIL HOKC HDP
            have hdl : ds.length ≤ 16 := by rw [hds]; exact (HSH.out y hyR).1
            have HDS := hide3 hds
            clear b0 b1 b2 b3 b4 b5 b6 j0 j1 j2 j3 HPR hds
            go_loopw [10, 14, 16] (fun vo vn vi wr => ∃ (i : Nat) (psd so1 nx : List Pn), i ≤ us.length ∧ vi = .int .i64 i ∧ Below W.heap.size W wr ∧ OwnPn wr W.heap.size vo so1 ∧ OwnPn wr W.heap.size vn nx ∧ wr.ownsRow W.heap.size 70 2 (.slice al us.length cl) us.length (dpCells us) ∧ so1.Perm (od ++ freshN od psd) ∧ SortedN so1 ∧ nx = rs ++ freshN od psd ∧ psd.length = i ∧ (∀ z ∈ psd, z.nm ∈ peerN R ∧ KeyOk z.nm z.a z.b z.c) ∧ (∀ q, vn.ownBlock = some q → vo.ownBlock ≠ some q) ∧ besL O E ds = (besL O E (ds.drop i)).map (psd ++ ·)) (fun _ _ vi _ => us.length - (intOf vi).toNat)
            case atStart =>
              refine ⟨0, [], so, rs, Nat.zero_le _, rfl, HB4.out, HOS4.out, HON4.out, own_base HRW0.out HB3W.out.size, by simpa [freshN] using HSO.out.1, HSO.out.2.1, by simp [freshN], rfl, fun z hz => (by cases hz), ?_, by simp⟩
              intro q hq e
              have h1 := HAN.out q hq
              have h2 := (World.ownsRow.lt HOS2.out q e).2
              omega
            case round =>
              obtain ⟨i, psd, so1, nx, hi, rfl, hbw, hos, hon, hrow, hpm, hsr, hnx, hpl, hgp, hap, hbl⟩ := hrel
              have HB := hide3 hbw
              have HOS := hide3 hos
              have HON := hide3 hon
              have HRW := hide3 hrow
              have HPM := hide3 hpm
              have HSR := hide3 hsr
              have HNX := hide3 hnx
              have HGP := hide3 hgp
              have HAP := hide3 hap
              have HBL := hide3 hbl
              obtain ⟨ao, co, hvo⟩ := own_len hos
              obtain ⟨an, cn, hvn⟩ := own_len hon
              obtain ⟨lo, hlo⟩ : ∃ l, l = so1.length := ⟨_, rfl⟩
              obtain ⟨ln, hln⟩ : ∃ l, l = nx.length := ⟨_, rfl⟩
              rw [← hlo] at hvo
              rw [← hln] at hvn
              subst hvo
              subst hvn
              have HGD1 : Hid (GoodC R (od ++ freshN od psd)) := HSO.out.2.2.fresh hgp
              have hsl1 : so1.length ≤ 2048 := by rw [hpm.length_eq]; exact HGD1.out.len HPL.out
              have HLO := hide3 hlo
              have HLN := hide3 hln
              have hnl : nx.length ≤ 10000 := by
                have e1 : (od ++ freshN od psd).length ≤ 2048 := HGD1.out.len HPL.out
                rw [List.length_append] at e1
                rw [hnx, List.length_append]
                omega
              clear hbw hos hon hrow hpm hsr hnx hgp hap hbl hlo hln
              by_cases hlt : i < us.length
              · have hki : (i : Int) < (us.length : Int) := by omega
                obtain ⟨gl, cl, hglB, hgl, hvl, _, hcl⟩ := own_news HRW.out (by omega)
                injection hvl with hq1 hq2 hq3
                subst hq1
                subst hq3
                clear hq2
                have hids : i < ds.length := by rw [← HUL.out]; exact hlt
                have HUI : Hid (us[i].1 = ⟨ds[i].nm, rangeD O ds[i]⟩) := by
                  have e := congrArg (fun l => l[i]?) HUM.out
                  simp only [List.getElem?_map, peersD] at e
                  rw [List.getElem?_eq_getElem hlt, List.getElem?_eq_getElem hids] at e
                  exact Option.some.inj e
                obtain ⟨n0, n1⟩ := dpCells_at us i hlt
                have c0 := hcl _ _ n0
                have c1 := hcl _ _ n1
                have HSPU := hide3 (HUS.out _ (List.getElem_mem hlt))
                rw [HUI.out] at c0 HSPU
                obtain ⟨au, nu, cu, hau, _⟩ := HSPU.out.1.2
                rw [hau] at c1 HSPU
                have HDR : Hid (ds.drop i = ds[i] :: ds.drop (i + 1)) := List.drop_eq_getElem_cons hids
                rw [HDR.out] at HBL
                have HNMI : Hid (ds[i].nm ∈ peerN R ∧ ds[i].nm.size ≤ 16) := ⟨List.mem_flatMap.2 ⟨y, hyR, List.mem_map.2 ⟨ds[i], by rw [← HDS.out]; exact List.getElem_mem hids, rfl⟩⟩, (HSH.out y hyR).2 _ (by rw [← HDS.out]; exact List.getElem_mem hids)⟩
                generalize ds[i] = d at *
                clear hcl n0 n1 hau HDR HUI
                have HTE : Hid (Calls Tryz.prog 56 #[.slice ae E.length ce, .string d.nm] wr fun e w' => e = .returned (.tuple #[.agg #[.int .i64 (tellV E d.nm).a, .int .i64 (tellV E d.nm).b, .int .i64 (tellV E d.nm).c], .bool (E.find? (isN d.nm)).isSome]) ∧ Below wr.heap.size wr w') := rtells_any (HPE.out.below HB.out) hel _
                have HINR : Hid (∀ w1 va vb vc, Below W.heap.size W w1 → Calls Tryz.prog 30 #[.slice au nu cu, .agg #[.int .i64 va, .int .i64 vb, .int .i64 vc]] w1 fun e w' => e = .returned (.bool (inL (rangeD O d) va vb vc)) ∧ Below w1.heap.size w1 w') := fun w1 va vb vc hb => rIn_any (HSPU.out.1.1.below hb) _ _ _
                have HTV : Hid (∀ q, E.find? (isN d.nm) = some q → tellV E d.nm = q) := fun q h => by
                  unfold tellV
                  rw [h]
                obtain ⟨va, hva⟩ : ∃ z, z = (tellV E d.nm).a := ⟨_, rfl⟩
                obtain ⟨vb, hvb⟩ : ∃ z, z = (tellV E d.nm).b := ⟨_, rfl⟩
                obtain ⟨vc, hvc⟩ : ∃ z, z = (tellV E d.nm).c := ⟨_, rfl⟩
                have HVV := hide3 (And.intro hva (And.intro hvb hvc))
                rw [← hva, ← hvb, ← hvc] at HTE
                clear hva hvb hvc
                obtain ⟨fd, hfd⟩ : ∃ z, z = (E.find? (isN d.nm)).isSome := ⟨_, rfl⟩
                rw [← hfd] at HTE
                have HFD := hide3 hfd
                clear hfd
                go_upto_region 14 with (go_at_call 56; refine HTE.out.mono ?_; rintro e w5 ⟨rfl, hb5⟩; have HNVB : Hid (∀ q, (Value.slice an ln cn).ownBlock = some q → q < w5.heap.size) := (fun q hq => Nat.lt_of_lt_of_le (World.ownsRow.lt HON.out q hq).2 hb5.size); have hb6 := below_then hb5 (boxB w5 (.cells #[.int .i64 va, .int .i64 vb, .int .i64 vc] 31)); have HK0 : Hid ((Below W.heap.size W (w5.alloc (.cells #[.int .i64 va, .int .i64 vb, .int .i64 vc] 31)) ∧ OwnPn (w5.alloc (.cells #[.int .i64 va, .int .i64 vb, .int .i64 vc] 31)) W.heap.size (.slice ao lo co) so1 ∧ OwnPn (w5.alloc (.cells #[.int .i64 va, .int .i64 vb, .int .i64 vc] 31)) W.heap.size (.slice an ln cn) nx ∧ (w5.alloc (.cells #[.int .i64 va, .int .i64 vb, .int .i64 vc] 31)).ownsRow W.heap.size 70 2 (.slice (some ⟨gl, 0, none⟩) us.length cl) us.length (dpCells us)) ∧ Sc.CellK (w5.alloc (.cells #[.int .i64 va, .int .i64 vb, .int .i64 vc] 31)) gl (i * 2) (.string d.nm) ∧ Sc.CellK (w5.alloc (.cells #[.int .i64 va, .int .i64 vb, .int .i64 vc] 31)) gl (i * 2 + 1) (.slice au nu cu) ∧ Sc.CellK (w5.alloc (.cells #[.int .i64 va, .int .i64 vb, .int .i64 vc] 31)) w5.heap.size 0 (.int .i64 va) ∧ Sc.CellK (w5.alloc (.cells #[.int .i64 va, .int .i64 vb, .int .i64 vc] 31)) w5.heap.size 1 (.int .i64 vb) ∧ Sc.CellK (w5.alloc (.cells #[.int .i64 va, .int .i64 vb, .int .i64 vc] 31)) w5.heap.size 2 (.int .i64 vc)) := ⟨⟨below_then HB.out hb6, own_below HOS.out hb6, own_below HON.out hb6, own_below HRW.out hb6⟩, ⟨(hb6.cell (p := ⟨gl, i * 2, none⟩) hgl).trans c0, Nat.lt_of_lt_of_le hgl hb6.size⟩, ⟨(hb6.cell (p := ⟨gl, i * 2 + 1, none⟩) hgl).trans c1, Nat.lt_of_lt_of_le hgl hb6.size⟩, ⟨by simp, by simp⟩, ⟨by simp, by simp⟩, ⟨by simp, by simp⟩⟩; clear hb5 hb6)
                generalize (w5.alloc (.cells #[.int .i64 va, .int .i64 vb, .int .i64 vc] 31)) = w6 at *
                generalize w5.heap.size = NV at *
                clear c0 c1 HTE
                have HK : Hid (KeepP fun w1 => (Below W.heap.size W w1 ∧ OwnPn w1 W.heap.size (.slice ao lo co) so1 ∧ OwnPn w1 W.heap.size (.slice an ln cn) nx ∧ w1.ownsRow W.heap.size 70 2 (.slice (some ⟨gl, 0, none⟩) us.length cl) us.length (dpCells us)) ∧ Sc.CellK w1 gl (i * 2) (.string d.nm) ∧ Sc.CellK w1 gl (i * 2 + 1) (.slice au nu cu) ∧ Sc.CellK w1 NV 0 (.int .i64 va) ∧ Sc.CellK w1 NV 1 (.int .i64 vb) ∧ Sc.CellK w1 NV 2 (.int .i64 vc)) := KeepP.and (fun _ _ h hb => ⟨below_then h.1 hb, own_below h.2.1 hb, own_below h.2.2.1 hb, own_below h.2.2.2 hb⟩) (KeepP.and (keepCk _ _ _) (KeepP.and (keepCk _ _ _) (KeepP.and (keepCk _ _ _) (KeepP.and (keepCk _ _ _) (keepCk _ _ _)))))
                have HO := HK0
                obtain ⟨_, ⟨t0, _⟩, ⟨t1, _⟩, ⟨t2, _⟩, ⟨t3, _⟩, ⟨t4, _⟩⟩ := HK0.out
                cases hfe : E.find? (isN d.nm) with
                | none =>
                  have HNO : Hid (ctxF R O E FU [p] [] = none) := by
                    unfold Hid
                    refine HFAIL.out ?_
                    rw [HBL.out, besL_none]
                    · rfl
                    · unfold besP
                      rw [hfe]
                  rw [hfe] at HFD
                  have hfd2 : fd = false := HFD.out
                  subst hfd2
                  clear hfe t0 t1 t2 t3 t4
                  refine wp_region_keep HK.out (by kernel_rfl) (by kernel_rfl) (by first | exact HO.out | exact HK.out.drew HO.out) ?_
                  intro C hin hout
                  have HIN := hide3 hin
                  have HOUT := hide3 hout
                  clear hin hout HO
                  repeat
                    (with_reducible refine wpQuiet_step (fun K hK => ?_)
                     go_simp
                     first
                       | (refine hK _ ?_; clear hK K)
                       | (apply Exists.intro; refine ⟨fun w1 hC => ?_, hK _ ?_⟩; (focus ((first | (exact rfl) | (obtain ⟨⟨hb1, ho1, ho2, ho3⟩, ⟨t0, u0⟩, ⟨t1, u1⟩, ⟨t2, u2⟩, ⟨t3, u3⟩, ⟨t4, u4⟩⟩ := HOUT.out w1 hC; clear hC; go_simp; first | done | exact rfl)); done)); clear hK K))
                  refine wpQuiet_nil ?_
                  intro wz hC
                  have HO := hide3 (HOUT.out _ hC)
                  clear hC HIN HOUT C
                  obtain ⟨⟨hb1, ho1, ho2, ho3⟩, ⟨t0, u0⟩, ⟨t1, u1⟩, ⟨t2, u2⟩, ⟨t3, u3⟩, ⟨t4, u4⟩⟩ := HO.out
                  go_wp2_with fail
                  exact HFN.out _ HNO.out hb1
                | some q =>
                  have htq := HTV.out q hfe
                  rw [htq] at HVV
                  have HVQ := hide3 HVV.out
                  rw [hfe] at HFD
                  have hfd2 : fd = true := HFD.out
                  subst hfd2
                  have hqE : q ∈ E := List.mem_of_find?_eq_some hfe
                  have HIN2 : Hid (∀ w1, ((Below W.heap.size W w1 ∧ OwnPn w1 W.heap.size (.slice ao lo co) so1 ∧ OwnPn w1 W.heap.size (.slice an ln cn) nx ∧ w1.ownsRow W.heap.size 70 2 (.slice (some ⟨gl, 0, none⟩) us.length cl) us.length (dpCells us)) ∧ Sc.CellK w1 gl (i * 2) (.string d.nm) ∧ Sc.CellK w1 gl (i * 2 + 1) (.slice au nu cu) ∧ Sc.CellK w1 NV 0 (.int .i64 va) ∧ Sc.CellK w1 NV 1 (.int .i64 vb) ∧ Sc.CellK w1 NV 2 (.int .i64 vc)) → Calls Tryz.prog 30 #[.slice au nu cu, .agg #[.int .i64 va, .int .i64 vb, .int .i64 vc]] w1 fun e w' => e = .returned (.bool (inL (rangeD O d) va vb vc)) ∧ Below w1.heap.size w1 w') := fun w1 hk => HINR.out w1 va vb vc hk.1.1
                  cases hin : inL (rangeD O d) va vb vc
                  · have HNO : Hid (ctxF R O E FU [p] [] = none) := by
                      unfold Hid
                      refine HFAIL.out ?_
                      rw [HBL.out, besL_none]
                      · rfl
                      · unfold besP
                        rw [hfe]
                        simp only
                        rw [← HVQ.out.1, ← HVQ.out.2.1, ← HVQ.out.2.2, hin, if_neg (by decide)]
                    rw [hin] at HIN2
                    clear hfe hin t0 t1 t2 t3 t4 htq
                    refine wp_region_keep HK.out (by kernel_rfl) (by kernel_rfl) (by first | exact HO.out | exact HK.out.drew HO.out) ?_
                    intro C hin hout
                    have HIN := hide3 hin
                    have HOUT := hide3 hout
                    clear hin hout HO
                    repeat
                      (with_reducible refine wpQuiet_step (fun K hK => ?_)
                       go_simp
                       first
                         | (refine hK _ ?_; clear hK K)
                         | (apply Exists.intro; refine ⟨fun w1 hC => ?_, hK _ ?_⟩; (focus ((first | (go_at_call 30; with_reducible exact callC' HIN.out HOUT.out HK.out HIN2.out w1 hC) | (exact rfl) | (obtain ⟨⟨hb1, ho1, ho2, ho3⟩, ⟨t0, u0⟩, ⟨t1, u1⟩, ⟨t2, u2⟩, ⟨t3, u3⟩, ⟨t4, u4⟩⟩ := HOUT.out w1 hC; clear hC; go_simp; first | done | exact rfl)); done)); clear hK K))
                    refine wpQuiet_nil ?_
                    intro wz hC
                    have HO := hide3 (HOUT.out _ hC)
                    clear hC HIN HOUT C
                    obtain ⟨⟨hb1, ho1, ho2, ho3⟩, ⟨t0, u0⟩, ⟨t1, u1⟩, ⟨t2, u2⟩, ⟨t3, u3⟩, ⟨t4, u4⟩⟩ := HO.out
                    go_wp2_with fail
                    exact HFN.out _ HNO.out hb1
                  · have HBP : Hid (besP O E d = some ⟨d.nm, va, vb, vc⟩) := by
                      unfold Hid besP
                      rw [hfe]
                      simp only
                      rw [← HVQ.out.1, ← HVQ.out.2.1, ← HVQ.out.2.2, hin, if_pos rfl]
                    have HGN : Hid (∀ z ∈ psd ++ [⟨d.nm, va, vb, vc⟩], z.nm ∈ peerN R ∧ KeyOk z.nm z.a z.b z.c) := fun z hz => by
                      rcases List.mem_append.1 hz with hz | hz
                      · exact HGP.out z hz
                      · obtain rfl := List.mem_singleton.1 hz
                        obtain ⟨i1, i2, i3⟩ := HEI.out q hqE
                        refine ⟨HNMI.out.1, ?_, by rw [HVQ.out.1]; exact i1, by rw [HVQ.out.2.1]; exact i2, by rw [HVQ.out.2.2]; exact i3⟩
                        have := HNMI.out.2
                        simp only
                        unfold maxLen
                        omega
                    have HBN : Hid (besL O E ds = (besL O E (ds.drop (i + 1))).map ((psd ++ [⟨d.nm, va, vb, vc⟩]) ++ ·)) := by
                      unfold Hid
                      rw [HBL.out, besL_some HBP.out, Option.map_map]
                      congr 1
                      funext z
                      simp
                    have HFRS := hide3 (freshN_snoc psd od ⟨d.nm, va, vb, vc⟩)
                    have HHP : Hid (hasPn so1 d.nm = hasPn (od ++ freshN od psd) d.nm) := has_perm HPM.out d.nm
                    have HPIN : Hid (∀ w1, ((Below W.heap.size W w1 ∧ OwnPn w1 W.heap.size (.slice ao lo co) so1 ∧ OwnPn w1 W.heap.size (.slice an ln cn) nx ∧ w1.ownsRow W.heap.size 70 2 (.slice (some ⟨gl, 0, none⟩) us.length cl) us.length (dpCells us)) ∧ Sc.CellK w1 gl (i * 2) (.string d.nm) ∧ Sc.CellK w1 gl (i * 2 + 1) (.slice au nu cu) ∧ Sc.CellK w1 NV 0 (.int .i64 va) ∧ Sc.CellK w1 NV 1 (.int .i64 vb) ∧ Sc.CellK w1 NV 2 (.int .i64 vc)) → Calls Tryz.prog 57 #[.slice ao lo co, .agg #[.string d.nm, .int .i64 va, .int .i64 vb, .int .i64 vc]] w1 (PinQ w1 (.slice ao lo co) so1 ⟨d.nm, va, vb, vc⟩)) := fun w1 hk => rpinned_any (p := ⟨d.nm, va, vb, vc⟩) hk.1.2.1 (by omega) (fun z hz => (by have := (HGD1.out.2 z (HPM.out.mem_iff.1 hz)).2.1; unfold maxLen at this; omega))
                    rw [hin] at HIN2
                    clear hfe hin t0 t1 t2 t3 t4 htq HVV HVQ HBP
                    refine wp_region_keep HK.out (by kernel_rfl) (by kernel_rfl) (by first | exact HO.out | exact HK.out.drew HO.out) ?_
                    intro C hin hout
                    have HIN := hide3 hin
                    have HOUT := hide3 hout
                    clear hin hout HO
                    repeat
                      (with_reducible refine wpQuiet_step (fun K hK => ?_)
                       go_simp
                       first
                         | (refine hK _ ?_; clear hK K)
                         | (apply Exists.intro; refine ⟨fun w1 hC => ?_, hK _ ?_⟩; (focus ((first | (go_at_call 30; with_reducible exact callC' HIN.out HOUT.out HK.out HIN2.out w1 hC) | (exact rfl) | (obtain ⟨⟨hb1, ho1, ho2, ho3⟩, ⟨t0, u0⟩, ⟨t1, u1⟩, ⟨t2, u2⟩, ⟨t3, u3⟩, ⟨t4, u4⟩⟩ := HOUT.out w1 hC; clear hC; go_simp; first | done | exact rfl)); done)); clear hK K))
                    refine wpQuiet_nil ?_
                    intro wz hC
                    have HO := hide3 (HOUT.out _ hC)
                    clear hC HIN HOUT C
                    obtain ⟨⟨hb1, ho1, ho2, ho3⟩, ⟨t0, u0⟩, ⟨t1, u1⟩, ⟨t2, u2⟩, ⟨t3, u3⟩, ⟨t4, u4⟩⟩ := HO.out
                    cases hhs : hasPn so1 d.nm
                    · have HPN2 : Hid (∀ w1, ((Below W.heap.size W w1 ∧ OwnPn w1 W.heap.size (.slice ao lo co) so1 ∧ OwnPn w1 W.heap.size (.slice an ln cn) nx ∧ w1.ownsRow W.heap.size 70 2 (.slice (some ⟨gl, 0, none⟩) us.length cl) us.length (dpCells us)) ∧ Sc.CellK w1 gl (i * 2) (.string d.nm) ∧ Sc.CellK w1 gl (i * 2 + 1) (.slice au nu cu) ∧ Sc.CellK w1 NV 0 (.int .i64 va) ∧ Sc.CellK w1 NV 1 (.int .i64 vb) ∧ Sc.CellK w1 NV 2 (.int .i64 vc)) → Calls Tryz.prog 57 #[.slice ao lo co, .agg #[.string d.nm, .int .i64 va, .int .i64 vb, .int .i64 vc]] w1 fun e w' => ∃ a8 l8 c8, e = .returned (.tuple #[.slice a8 l8 c8, .bool true]) ∧ OwnPn w' w1.heap.size (.slice a8 l8 c8) (insN so1 ⟨d.nm, va, vb, vc⟩) ∧ Below w1.heap.size w1 w') := fun w1 hk => (HPIN.out w1 hk).mono fun e w' h => by
                        obtain ⟨v8, e8, o8⟩ := h.2.1 (pos_hasnt hhs)
                        obtain ⟨a8, c8, e9⟩ := own_len o8
                        subst e9
                        exact ⟨a8, _, c8, e8, o8, h.2.2⟩
                      have HSI : Hid (SortedN (insN so1 ⟨d.nm, va, vb, vc⟩)) := ins_sorted HSR.out hhs
                      rw [← HHP.out, hhs, if_neg (by decide)] at HFRS
                      have HPI : Hid ((insN so1 ⟨d.nm, va, vb, vc⟩).Perm (od ++ freshN od (psd ++ [⟨d.nm, va, vb, vc⟩]))) := by
                        unfold Hid
                        rw [HFRS.out, ← List.append_assoc]
                        refine (insN_perm _ _).trans ?_
                        refine ((HPM.out.cons _).trans ?_)
                        exact (List.perm_append_singleton _ _).symm
                      have HNI : Hid (nx ++ [⟨d.nm, va, vb, vc⟩] = rs ++ freshN od (psd ++ [⟨d.nm, va, vb, vc⟩])) := by
                        unfold Hid
                        rw [HFRS.out, HNX.out, List.append_assoc]
                      have HKz := hide3 HO.out
                      clear hhs HPIN hb1 ho1 ho2 ho3 t0 t1 t2 t3 t4 u0 u1 u2 u3 u4
                      obtain ⟨_, ⟨t0, g0⟩, ⟨t1, _⟩, ⟨t2, g2⟩, ⟨t3, _⟩, ⟨t4, _⟩⟩ := HO.out
                      have HNXB : Hid (∀ q, (Value.slice an ln cn).ownBlock = some q → q < wz.heap.size) := fun q hq => (World.ownsRow.lt HKz.out.1.2.2.1 q hq).2
                      go_wp2_with fail
                      go_region_held3 (fun w' => w'.cell? ⟨gl, i * 2, none⟩ = some (.string d.nm) ∧ w'.cell? ⟨NV, 0, none⟩ = some (.int .i64 va) ∧ w'.cell? ⟨NV, 1, none⟩ = some (.int .i64 vb) ∧ w'.cell? ⟨NV, 2, none⟩ = some (.int .i64 vc)) (go_keep) (first
                        | (go_at_call 57; refine (HPN2.out _ (HK.out.drew HKz.out)).mono ?_; rintro e w8 ⟨a8, l8, c8, rfl, ho8, hb8⟩; have hb9 : Below wz.heap.size wz w8 := below_then (Below.refl _ _).drew hb8; have HO8 := hide3 ho8; have HK8 := hide3 (HK.out _ _ HKz.out hb9); have s0 := (hb9.cell (p := ⟨gl, i * 2, none⟩) g0).trans t0; have s2 := (hb9.cell (p := ⟨NV, 0, none⟩) g2).trans t2; have s3 := (hb9.cell (p := ⟨NV, 1, none⟩) g2).trans t3; have s4 := (hb9.cell (p := ⟨NV, 2, none⟩) g2).trans t4; have HZ8 := hide3 hb9.size; clear ho8 hb8 hb9))
                      clear t0 t1 t2 t3 t4
                      have hW8 : W.heap.size ≤ w8.heap.size := HK8.out.1.1.size
                      have HNE : Hid (∀ q, (∃ z, w8.cell? ⟨q, z, none⟩ = some (.string d.nm)) → True) := fun _ _ => trivial
                      clear HNE
                      have HRL8 := hide3 HK8.out.1.2.2.2
                      have HON8 : Hid (w8.drew.ownsRow W.heap.size 58 4 (.slice an ln cn) nx.length (nx.flatMap encPn)) := own_below HK8.out.1.2.2.1 (Below.refl _ _).drew
                      have hne1 : some gl ≠ (Value.slice an ln cn).ownBlock := fun q => own_ne HRL8.out HK8.out.1.2.2.1 (by decide) rfl q.symm
                      have hne2 : some NV ≠ (Value.slice an ln cn).ownBlock := fun q => Nat.lt_irrefl _ (HNVB.out NV q.symm)
                      go_wp2_with fail
                      go_region_held3 (fun w' => w'.cell? ⟨gl, i * 2, none⟩ = some (.string d.nm) ∧ w'.cell? ⟨NV, 0, none⟩ = some (.int .i64 va) ∧ w'.cell? ⟨NV, 1, none⟩ = some (.int .i64 vb) ∧ w'.cell? ⟨NV, 2, none⟩ = some (.int .i64 vc)) (go_keep) (first
                        | (refine step_own (B := W.heap.size) (M := w8.heap.size) (wx := w8.drew) (v := .slice an ln cn) (n := nx.length) infoPn Tryz.underlying40 rfl (by decide) (by decide) rfl (.tmp 90) (.tmp 98) rfl rfl HON8.out hW8 #[.string d.nm, .int .i64 va, .int .i64 vb, .int .i64 vc] rfl (by simp [Value.oneCell']) rfl rfl (by omega) ?_; intro v9 w9 ho hgr hat; obtain ⟨b9, d9, rfl⟩ := own_len ho; have hgr2 : w8.grownBy w9 (Value.slice an ln cn).ownBlock := grown_pre (below_then (Below.refl _ _).drew (boxB _ _)) hgr; have HO9 := hide3 ho; have HG9 := hide3 hgr2; have HAT := hide3 hat; have z0 := hgr2.cell s0 hne1; have z2 := hgr2.cell s2 hne2; have z3 := hgr2.cell s3 hne2; have z4 := hgr2.cell s4 hne2; clear ho hgr hat hgr2))
                      all_goals go_wp2_with fail
                      all_goals refine ⟨⟨i + 1, psd ++ [⟨d.nm, va, vb, vc⟩], insN so1 ⟨d.nm, va, vb, vc⟩, nx ++ [⟨d.nm, va, vb, vc⟩], by omega, by go_num, ?_, ?_, ?_, ?_, HPI.out, HSI.out, HNI.out, by rw [List.length_append, hpl]; rfl, HGN.out, ?_, HBN.out⟩, by simp [intOf]; omega⟩
                      · exact HK8.out.1.1.grown HG9.out HK8.out.1.1.size (fun q hq => (World.ownsRow.lt HK8.out.1.2.2.1 q hq).1)
                      · refine own_base (World.ownsRow.kept HO8.out HG9.out ?_) (HKz.out.1.1.size)
                        cases hq : (Value.slice a8 l8 c8).ownBlock with
                        | none => exact Or.inl rfl
                        | some q => exact Or.inr fun e => (by
                          have h1 : wz.heap.size ≤ q := (World.ownsRow.lt HO8.out q hq).1
                          have h2 := HNXB.out q e.symm
                          omega)
                      · unfold OwnPn
                        rw [List.length_append, List.flatMap_append]
                        simpa [encPn] using HO9.out
                      · exact World.ownsRow.kept HRL8.out HG9.out (own_apart HRL8.out HK8.out.1.2.2.1 (by decide))
                      · intro q hq e
                        have h1 : wz.heap.size ≤ q := (World.ownsRow.lt HO8.out q e).1
                        have h3 : q < w8.heap.size := (World.ownsRow.lt HO8.out q e).2
                        rcases HAT.out with h | h
                        · have h2 := HNXB.out q (h.symm.trans hq)
                          omega
                        · have h2 : w8.heap.size + 1 = q := Option.some.inj (h.symm.trans hq)
                          omega
                    · have HPN2 : Hid (∀ w1, ((Below W.heap.size W w1 ∧ OwnPn w1 W.heap.size (.slice ao lo co) so1 ∧ OwnPn w1 W.heap.size (.slice an ln cn) nx ∧ w1.ownsRow W.heap.size 70 2 (.slice (some ⟨gl, 0, none⟩) us.length cl) us.length (dpCells us)) ∧ Sc.CellK w1 gl (i * 2) (.string d.nm) ∧ Sc.CellK w1 gl (i * 2 + 1) (.slice au nu cu) ∧ Sc.CellK w1 NV 0 (.int .i64 va) ∧ Sc.CellK w1 NV 1 (.int .i64 vb) ∧ Sc.CellK w1 NV 2 (.int .i64 vc)) → Calls Tryz.prog 57 #[.slice ao lo co, .agg #[.string d.nm, .int .i64 va, .int .i64 vb, .int .i64 vc]] w1 fun e w' => e = .returned (.tuple #[.slice ao lo co, .bool false]) ∧ Below w1.heap.size w1 w') := fun w1 hk => (HPIN.out w1 hk).mono fun e w' h => ⟨h.1 (pos_has HSR.out hhs), h.2.2⟩
                      rw [← HHP.out, hhs, if_pos rfl, List.append_nil] at HFRS
                      clear hhs HPIN hb1 ho1 ho2 ho3 t0 t1 t2 t3 t4 u0 u1 u2 u3 u4
                      obtain ⟨_, ⟨t0, _⟩, ⟨t1, _⟩, ⟨t2, _⟩, ⟨t3, _⟩, ⟨t4, _⟩⟩ := HO.out
                      go_wp2_with fail
                      clear t0 t1 t2 t3 t4
                      refine wp_region_keep HK.out (by kernel_rfl) (by kernel_rfl) (by first | exact HO.out | exact HK.out.drew HO.out) ?_
                      intro C hin hout
                      have HIN := hide3 hin
                      have HOUT := hide3 hout
                      clear hin hout HO
                      repeat
                        (with_reducible refine wpQuiet_step (fun K hK => ?_)
                         go_simp
                         first
                           | (refine hK _ ?_; clear hK K)
                           | (apply Exists.intro; refine ⟨fun w1 hC => ?_, hK _ ?_⟩; (focus ((first | (go_at_call 57; with_reducible exact callC' HIN.out HOUT.out HK.out HPN2.out w1 hC) | (exact rfl) | (obtain ⟨⟨hb1, ho1, ho2, ho3⟩, ⟨t0, u0⟩, ⟨t1, u1⟩, ⟨t2, u2⟩, ⟨t3, u3⟩, ⟨t4, u4⟩⟩ := HOUT.out w1 hC; clear hC; go_simp; first | done | exact rfl)); done)); clear hK K))
                      refine wpQuiet_nil ?_
                      intro wy hC
                      have HO := hide3 (HOUT.out _ hC)
                      clear hC HIN HOUT C
                      obtain ⟨⟨hb1, ho1, ho2, ho3⟩, ⟨t0, u0⟩, ⟨t1, u1⟩, ⟨t2, u2⟩, ⟨t3, u3⟩, ⟨t4, u4⟩⟩ := HO.out
                      go_wp2_with fail
                      refine ⟨⟨i + 1, psd ++ [⟨d.nm, va, vb, vc⟩], so1, nx, by omega, by go_num, hb1, ho1, ho2, ho3, ?_, HSR.out, ?_, by rw [List.length_append, hpl]; rfl, HGN.out, HAP.out, HBN.out⟩, by simp [intOf]; omega⟩
                      · rw [HFRS.out]
                        exact HPM.out
                      · rw [HFRS.out]
                        exact HNX.out
              · obtain rfl : i = us.length := by omega
                have hki : ¬ ((us.length : Int) < (us.length : Int)) := by omega
                have HBF : Hid (besL O E ds = some psd) := by
                  unfold Hid
                  rw [HBL.out, List.drop_of_length_le (by rw [HUL.out]; exact Nat.le_refl _)]
                  show (some []).map (psd ++ ·) = some psd
                  simp
                have HCT2 : Hid (ctxF R O E FU [p] [] = ctxF R O E (FU - (t + 1)) nx (od ++ freshN od psd)) := by
                  unfold Hid
                  rw [HOKC.out psd HBF.out, HNX.out]
                have hnn : nx.length = rs.length + (freshN od psd).length := by rw [HNX.out, List.length_append]
                have hss : so1.length = od.length + (freshN od psd).length := by rw [HPM.out.length_eq, List.length_append]
                have HNN := hide3 (And.intro hnn hss)
                clear hnn hss
                go_wp2_with fail
                refine ⟨⟨t + 1, nx, od ++ freshN od psd, so1, HB.out, HOS.out, HON.out, ⟨HPM.out, HSR.out, HGD1.out⟩, ?_, HCT2.out⟩, ?_⟩
                · rw [List.length_append]
                  have := HNN.out
                  omega
                · simp only [lenV]
                  have h1 := HNN.out
                  have h2 := HLO.out
                  have h3 := HLN.out
                  have h4 := HSL.out
                  show lenV (.slice an ln cn) + 2 * (3000 - lenV (.slice ao lo co)) < lenV (.slice (some ⟨g, 0, none⟩) (rs.length + 1) c2') + 2 * (3000 - lenV (.slice a1 so.length c1'))
                  simp only [lenV]
                  omega
end Go.Proofs.YtjpmlagofcgheaaGreatDoor
