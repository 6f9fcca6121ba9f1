/- Wc4, Wc5, Wc6, RwW, laid in one text. -/
import Derived.Test.YtjpmlagofcgheaaGreatDoorMg26
namespace Go.Proofs.YtjpmlagofcgheaaGreatDoor
open Go.RowKit Go.Maps Go.WideMaps
set_option maxRecDepth 100000

/-- Both catalogs lie there, with the same packages. -/
def BothAt (w w' : World) (C E M : Nat) (L R : List CV) : Prop := (CatAt w' w.heap.size C M L ∧ L.length ≤ 128) ∧ RcAt w w' E R ∧ TwoC L R ∧ Below w.heap.size w w'

/-- What making both catalogs answers. -/
def BothQ (w w' : World) (e : Ending) : Prop := ∃ C E M L R, e = .returned (.tuple #[.pointer (some ⟨C, 0, none⟩), .pointer (some ⟨E, 0, none⟩)]) ∧ BothAt w w' C E M L R

set_option maxHeartbeats 12800000 in
theorem both_any {w : World} (he : Env w) (hf : FL w) {ap : Option Addr} {cp : Nat} {Ps : List Pg} (hps : PgsAt w (.slice ap Ps.length cp) Ps) (hpz : Ps.length ≤ 9223372036854775807) (hpo : ∀ P ∈ Ps, PgOk P) {x1 x2 x3 x4 : Option Addr} {y1 y2 y3 y4 z1 z2 z3 z4 : Nat} : Calls Tryz.prog 23 #[.agg #[.slice ap Ps.length cp, .slice x1 y1 z1, .slice x2 y2 z2, .slice x3 y3 z3, .slice x4 y4 z4]] w fun e w' => BothQ w w' e := by
  obtain ⟨ad0, cap0, eq0, hel⟩ := hps.sl
  injection eq0 with eq1 eq2 eq3
  clear eq2 eq3
  subst eq1
  have HEL := hide3 hel
  have HPO := hide3 hpo
  have hs0 : (w.alloc (.cells #[.slice ap Ps.length cp, .slice x1 y1 z1, .slice x2 y2 z2, .slice x3 y3 z3, .slice x4 y4 z4] 56)).heap.size = w.heap.size + 1 := by simp
  have HNW : Hid (Calls Tryz.prog 7 #[] (w.alloc (.cells #[.slice ap Ps.length cp, .slice x1 y1 z1, .slice x2 y2 z2, .slice x3 y3 z3, .slice x4 y4 z4] 56)) fun e w' => e = .returned (.pointer (some ⟨w.heap.size + 2, 0, none⟩)) ∧ w' = (((w.alloc (.cells #[.slice ap Ps.length cp, .slice x1 y1 z1, .slice x2 y2 z2, .slice x3 y3 z3, .slice x4 y4 z4] 56)).alloc (.map #[] 0)).alloc (.cells #[.map (some (w.heap.size + 1))] 74))) := by
    have e := new_any (w.alloc (.cells #[.slice ap Ps.length cp, .slice x1 y1 z1, .slice x2 y2 z2, .slice x3 y3 z3, .slice x4 y4 z4] 56))
    rw [hs0] at e
    exact e
  have HC0 : Hid (CatAt ((((w.alloc (.cells #[.slice ap Ps.length cp, .slice x1 y1 z1, .slice x2 y2 z2, .slice x3 y3 z3, .slice x4 y4 z4] 56)).alloc (.map #[] 0)).alloc (.cells #[.map (some (w.heap.size + 1))] 74)).alloc (.cells #[.slice none 0 0] 28)) w.heap.size (w.heap.size + 2) (w.heap.size + 1) []) := by
    have e := CatAt.new (w.alloc (.cells #[.slice ap Ps.length cp, .slice x1 y1 z1, .slice x2 y2 z2, .slice x3 y3 z3, .slice x4 y4 z4] 56)) w.heap.size
    rw [hs0] at e
    exact e.below (boxB _ _)
  have hs2 : (((w.alloc (.cells #[.slice ap Ps.length cp, .slice x1 y1 z1, .slice x2 y2 z2, .slice x3 y3 z3, .slice x4 y4 z4] 56)).alloc (.map #[] 0)).alloc (.cells #[.map (some (w.heap.size + 1))] 74)).heap.size = w.heap.size + 3 := by simp
  have HR0 : Hid (RcAt w ((((w.alloc (.cells #[.slice ap Ps.length cp, .slice x1 y1 z1, .slice x2 y2 z2, .slice x3 y3 z3, .slice x4 y4 z4] 56)).alloc (.map #[] 0)).alloc (.cells #[.map (some (w.heap.size + 1))] 74)).alloc (.cells #[.slice none 0 0] 28)) (w.heap.size + 3) []) := by
    have e := RcAt.new w (((w.alloc (.cells #[.slice ap Ps.length cp, .slice x1 y1 z1, .slice x2 y2 z2, .slice x3 y3 z3, .slice x4 y4 z4] 56)).alloc (.map #[] 0)).alloc (.cells #[.map (some (w.heap.size + 1))] 74))
    rw [hs2] at e
    exact e
  have HB0 : Hid (Below w.heap.size w ((((w.alloc (.cells #[.slice ap Ps.length cp, .slice x1 y1 z1, .slice x2 y2 z2, .slice x3 y3 z3, .slice x4 y4 z4] 56)).alloc (.map #[] 0)).alloc (.cells #[.map (some (w.heap.size + 1))] 74)).alloc (.cells #[.slice none 0 0] 28))) := below_then (below_then (boxB _ _) (boxB2 _ _ _)) (boxB _ _)
  have HK0 : Hid ((((CatAt ((((w.alloc (.cells #[.slice ap Ps.length cp, .slice x1 y1 z1, .slice x2 y2 z2, .slice x3 y3 z3, .slice x4 y4 z4] 56)).alloc (.map #[] 0)).alloc (.cells #[.map (some (w.heap.size + 1))] 74)).alloc (.cells #[.slice none 0 0] 28)) w.heap.size (w.heap.size + 2) (w.heap.size + 1) ([] : List CV) ∧ ([] : List CV).length ≤ 128) ∧ RcAt w ((((w.alloc (.cells #[.slice ap Ps.length cp, .slice x1 y1 z1, .slice x2 y2 z2, .slice x3 y3 z3, .slice x4 y4 z4] 56)).alloc (.map #[] 0)).alloc (.cells #[.map (some (w.heap.size + 1))] 74)).alloc (.cells #[.slice none 0 0] 28)) (w.heap.size + 3) ([] : List CV)) ∧ Below w.heap.size w ((((w.alloc (.cells #[.slice ap Ps.length cp, .slice x1 y1 z1, .slice x2 y2 z2, .slice x3 y3 z3, .slice x4 y4 z4] 56)).alloc (.map #[] 0)).alloc (.cells #[.map (some (w.heap.size + 1))] 74)).alloc (.cells #[.slice none 0 0] 28))) ∧ (((((w.alloc (.cells #[.slice ap Ps.length cp, .slice x1 y1 z1, .slice x2 y2 z2, .slice x3 y3 z3, .slice x4 y4 z4] 56)).alloc (.map #[] 0)).alloc (.cells #[.map (some (w.heap.size + 1))] 74)).alloc (.cells #[.slice none 0 0] 28)).cell? ⟨w.heap.size, 0, none⟩ = some (.slice ap Ps.length cp) ∧ w.heap.size < ((((w.alloc (.cells #[.slice ap Ps.length cp, .slice x1 y1 z1, .slice x2 y2 z2, .slice x3 y3 z3, .slice x4 y4 z4] 56)).alloc (.map #[] 0)).alloc (.cells #[.map (some (w.heap.size + 1))] 74)).alloc (.cells #[.slice none 0 0] 28)).heap.size)) := ⟨⟨⟨⟨HC0.out, by decide⟩, HR0.out⟩, HB0.out⟩, ((below_then (boxB2 (w.alloc (.cells #[.slice ap Ps.length cp, .slice x1 y1 z1, .slice x2 y2 z2, .slice x3 y3 z3, .slice x4 y4 z4] 56)) _ _) (boxB _ _)).cell (p := ⟨w.heap.size, 0, none⟩) (by simp)).trans (by simp), Nat.lt_of_lt_of_le (by simp) (below_then (boxB2 (w.alloc (.cells #[.slice ap Ps.length cp, .slice x1 y1 z1, .slice x2 y2 z2, .slice x3 y3 z3, .slice x4 y4 z4] 56)) _ _) (boxB _ _)).size⟩
  have HPC : Hid (∀ (W : World) (L R : List CV) (P : Pg) (v1 v2 v3 : Value), ((((CatAt W w.heap.size (w.heap.size + 2) (w.heap.size + 1) L ∧ L.length ≤ 128) ∧ RcAt w W (w.heap.size + 3) R) ∧ Below w.heap.size w W) ∧ (W.cell? ⟨w.heap.size, 0, none⟩ = some (.slice ap Ps.length cp) ∧ w.heap.size < W.heap.size)) → PgAt w P v1 v2 v3 → Calls Tryz.prog 10 #[.pointer (some ⟨w.heap.size + 2, 0, none⟩), .agg #[.string P.nm, .int .i64 P.a, .int .i64 P.b, .int .i64 P.c, v1, v2, v3]] W fun e w' => ∃ r L', e = .returned (.int .i64 r) ∧ PutL L L' P ∧ ((((CatAt w' w.heap.size (w.heap.size + 2) (w.heap.size + 1) L' ∧ L'.length ≤ 128) ∧ RcAt w w' (w.heap.size + 3) R) ∧ Below w.heap.size w w') ∧ (w'.cell? ⟨w.heap.size, 0, none⟩ = some (.slice ap Ps.length cp) ∧ w.heap.size < w'.heap.size))) := fun W L R P v1 v2 v3 hk hp => by
    refine (put_sharp hk.1.1.1.1 hk.1.2.size hk.1.1.1.2 (hp.below hk.1.2) (he.below hk.1.2) (hf.below hk.1.2)).mono ?_
    rintro e w' ⟨L', rfl, hc, hq, hg⟩
    obtain ⟨es, cl, hm, _⟩ := len_cat hk.1.1.1.1
    exact ⟨_, L', rfl, hq, ⟨⟨hc, hk.1.1.2.map ⟨es, cl, hm⟩ hg⟩, hk.1.2.grown hg hk.1.2.size (fun j hj => by cases hj; omega)⟩, (World.cell?_of_block (a := ⟨w.heap.size, 0, none⟩) (hg.block w.heap.size hk.2.2 (fun q => by have := Option.some.inj q; omega))).trans hk.2.1, Nat.lt_of_lt_of_le hk.2.2 hg.size⟩
  have HPR : Hid (∀ (W : World) (L R : List CV) (P : Pg) (v1 v2 v3 : Value), ((((CatAt W w.heap.size (w.heap.size + 2) (w.heap.size + 1) L ∧ L.length ≤ 128) ∧ RcAt w W (w.heap.size + 3) R) ∧ Below w.heap.size w W) ∧ (W.cell? ⟨w.heap.size, 0, none⟩ = some (.slice ap Ps.length cp) ∧ w.heap.size < W.heap.size)) → PgAt w P v1 v2 v3 → PgOk P → Calls Tryz.prog 11 #[.pointer (some ⟨w.heap.size + 3, 0, none⟩), .agg #[.string P.nm, .int .i64 P.a, .int .i64 P.b, .int .i64 P.c, v1, v2, v3]] W fun e w' => ∃ r R', e = .returned (.int .i64 r) ∧ PutL R R' P ∧ ((((CatAt w' w.heap.size (w.heap.size + 2) (w.heap.size + 1) L ∧ L.length ≤ 128) ∧ RcAt w w' (w.heap.size + 3) R') ∧ Below w.heap.size w w') ∧ (w'.cell? ⟨w.heap.size, 0, none⟩ = some (.slice ap Ps.length cp) ∧ w.heap.size < w'.heap.size))) := fun W L R P v1 v2 v3 hk hp hok => by
    refine (rput_sharp hk.1.1.2 hk.1.2 hp hok).mono ?_
    rintro e w' ⟨R', rfl, hc, hq, hg⟩
    obtain ⟨⟨vv, hv, _⟩, _⟩ := hk.1.1.2
    exact ⟨_, R', rfl, hq, ⟨⟨⟨hk.1.1.1.1.over hv (by decide) (by decide) (by omega) hg, hk.1.1.1.2⟩, hc⟩, hk.1.2.grown hg hk.1.2.size (fun j hj => by cases hj; omega)⟩, (World.cell?_of_block (a := ⟨w.heap.size, 0, none⟩) (hg.block w.heap.size hk.2.2 (fun q => by have := Option.some.inj q; omega))).trans hk.2.1, Nat.lt_of_lt_of_le hk.2.2 hg.size⟩
  have HTW : Hid (∀ (W : World) (L L' R R' : List CV) (P : Pg), ((((CatAt W w.heap.size (w.heap.size + 2) (w.heap.size + 1) L ∧ L.length ≤ 128) ∧ RcAt w W (w.heap.size + 3) R) ∧ Below w.heap.size w W) ∧ (W.cell? ⟨w.heap.size, 0, none⟩ = some (.slice ap Ps.length cp) ∧ w.heap.size < W.heap.size)) → TwoC L R → PutL L L' P → PutL R R' P → TwoC L' R') := fun W L L' R R' P hk ht h1 h2 => PutL.two (two_find (lcat_apart hk.1.1.1.1.2.2.2) hk.1.1.2.2.2.1 ht) ht h1 h2
  clear hps hel hpo hs0 hs2 HC0 HR0
  go_enter Tryz.func23, Tryz.ntmps23
  go_wp2_with (go_at_call 7; refine HNW.out.mono ?_; rintro e w1 ⟨rfl, rfl⟩; clear HNW)
  generalize ((((w.alloc (.cells #[.slice ap Ps.length cp, .slice x1 y1 z1, .slice x2 y2 z2, .slice x3 y3 z3, .slice x4 y4 z4] 56)).alloc (.map #[] 0)).alloc (.cells #[.map (some (w.heap.size + 1))] 74)).alloc (.cells #[.slice none 0 0] 28)) = W at *
  go_loopw [6] (fun vi wr => ∃ (i : Nat) (L R : List CV), i ≤ Ps.length ∧ vi = .int .i64 i ∧ TwoC L R ∧ ((((CatAt wr w.heap.size (w.heap.size + 2) (w.heap.size + 1) L ∧ L.length ≤ 128) ∧ RcAt w wr (w.heap.size + 3) R) ∧ Below w.heap.size w wr) ∧ (wr.cell? ⟨w.heap.size, 0, none⟩ = some (.slice ap Ps.length cp) ∧ w.heap.size < wr.heap.size))) (fun vi _ => Ps.length - (intOf vi).toNat)
  case atStart => exact ⟨0, [], [], Nat.zero_le _, rfl, List.Perm.refl _, HK0.out⟩
  case round =>
    obtain ⟨i, L, R, hi, rfl, htw, hk⟩ := hrel
    have HK := hide3 hk
    have HT := hide3 htw
    obtain ⟨_, b0, hlt0⟩ := hk
    clear htw
    by_cases hlt : i < Ps.length
    · have hki : (i : Int) < (Ps.length : Int) := by omega
      obtain ⟨g, o, rfl, v1, v2, v3, ⟨c0, c1, c2, c3, c4, c5, c6⟩, hpg, hgl⟩ := HEL.out i hlt
      have hok := HPO.out _ (List.getElem_mem hlt)
      generalize Ps[i] = P at *
      have d0 := (HK.out.1.2.cell (p := ⟨g, o + i * 7, none⟩) hgl).trans c0
      have d1 := (HK.out.1.2.cell (p := ⟨g, o + i * 7 + 1, none⟩) hgl).trans c1
      have d2 := (HK.out.1.2.cell (p := ⟨g, o + i * 7 + 2, none⟩) hgl).trans c2
      have d3 := (HK.out.1.2.cell (p := ⟨g, o + i * 7 + 3, none⟩) hgl).trans c3
      have d4 := (HK.out.1.2.cell (p := ⟨g, o + i * 7 + 4, none⟩) hgl).trans c4
      have d5 := (HK.out.1.2.cell (p := ⟨g, o + i * 7 + 5, none⟩) hgl).trans c5
      have d6 := (HK.out.1.2.cell (p := ⟨g, o + i * 7 + 6, none⟩) hgl).trans c6
      obtain ⟨⟨f1, n1, k1, rfl⟩, ⟨f2, n2, k2, rfl⟩, f3, n3, k3, rfl⟩ := pg_slices hpg
      have HPG := hide3 hpg
      have HOK := hide3 hok
      clear hpg hok
      go_wp2_with (first
        | (go_at_call 10; refine (HPC.out _ _ _ _ _ _ _ HK.out HPG.out).mono ?_; rintro e w4 ⟨r4, L', rfl, hq4, hk4⟩; have HK4 := hide3 hk4; have HQ4 := hide3 hq4; obtain ⟨_, b4, _⟩ := hk4; clear d0 d1 d2 d3 d4 d5 d6 hq4; have d0 := (HK4.out.1.2.cell (p := ⟨g, o + i * 7, none⟩) hgl).trans c0; have d1 := (HK4.out.1.2.cell (p := ⟨g, o + i * 7 + 1, none⟩) hgl).trans c1; have d2 := (HK4.out.1.2.cell (p := ⟨g, o + i * 7 + 2, none⟩) hgl).trans c2; have d3 := (HK4.out.1.2.cell (p := ⟨g, o + i * 7 + 3, none⟩) hgl).trans c3; have d4 := (HK4.out.1.2.cell (p := ⟨g, o + i * 7 + 4, none⟩) hgl).trans c4; have d5 := (HK4.out.1.2.cell (p := ⟨g, o + i * 7 + 5, none⟩) hgl).trans c5; have d6 := (HK4.out.1.2.cell (p := ⟨g, o + i * 7 + 6, none⟩) hgl).trans c6)
        | (go_at_call 11; refine (HPR.out _ _ _ _ _ _ _ HK4.out HPG.out HOK.out).mono ?_; rintro e w5 ⟨r5, R', rfl, hq5, hk5⟩; have HK5 := hide3 hk5; have HQ5 := hide3 hq5; clear hk5 hq5))
      exact ⟨⟨i + 1, L', R', by omega, by go_num, HTW.out wr L L' R R' P HK.out HT.out HQ4.out HQ5.out, HK5.out⟩, by simp [intOf]; omega⟩
    · obtain rfl : i = Ps.length := by omega
      have hki : ¬ ((Ps.length : Int) < (Ps.length : Int)) := by omega
      go_wp2_with fail
      go_ret2
      exact ⟨_, _, _, L, R, rfl, HK.out.1.1.1, HK.out.1.1.2, HT.out, HK.out.1.2⟩
end Go.Proofs.YtjpmlagofcgheaaGreatDoor
namespace Go.Proofs.YtjpmlagofcgheaaGreatDoor
open Go.RowKit Go.Maps Go.WideMaps
set_option maxRecDepth 100000

set_option maxHeartbeats 6400000 in
theorem lpins_any {w : World} {B B' : Nat} {v v' : Value} {ps : List Pn} (h : OwnPn w B v ps) (h' : OwnPn w B' v' ps) (hl : ps.length ≤ 100000) : Calls Tryz.prog 27 #[v, v'] w fun e w' => e = .returned (.bool true) ∧ Below w.heap.size w w' := by
  have HA := hide3 h
  have HB' := hide3 h'
  obtain ⟨a1, c1, rfl⟩ := own_len h
  obtain ⟨a2, c2, rfl⟩ := own_len h'
  have hgp := guardPn
  clear h h'
  go_enter Tryz.func27, Tryz.ntmps27
  go_wp2_with fail
  go_loopw [5, 6] (fun vs vi wr => ∃ i : Nat, i ≤ ps.length ∧ vi = .int .i64 i ∧ vs = .bool true ∧ Below w.heap.size w wr) (fun _ vi _ => ps.length - (intOf vi).toNat)
  case atStart => exact ⟨0, Nat.zero_le _, rfl, by simp, Below.refl _ _⟩
  case round =>
    obtain ⟨i, hi, rfl, rfl, hbw⟩ := hrel
    have HB := hide3 hbw
    clear hbw
    by_cases hlt : i < ps.length
    · have hki : (i : Int) < (ps.length : Int) := by omega
      obtain ⟨g, cap, _, hg, hv, _, ⟨p0, p1, p2, p3⟩, _⟩ := pn_cells HA.out i hlt
      injection hv with hq1 hq2 hq3
      subst hq1
      clear hq2 hq3
      obtain ⟨g', cap', _, hg', hv', _, ⟨r0, r1, r2, r3⟩, _⟩ := pn_cells HB'.out i hlt
      injection hv' with hq1 hq2 hq3
      subst hq1
      clear hq2 hq3
      generalize ps[i] = x at *
      have hep : ∀ W, (binOp .eql 58 (.agg #[.string x.nm, .int .i64 x.a, .int .i64 x.b, .int .i64 x.c]) (.agg #[.string x.nm, .int .i64 x.a, .int .i64 x.b, .int .i64 x.c])).run Tryz.prog W = .ok (.bool true) W := fun W => by
        have e := eqlPn x x W
        rw [show eqPn x x = true from eqPn_iff.2 rfl] at e
        exact e
      have d0 := (HB.out.cell (p := ⟨g, i * 4, none⟩) hg).trans p0
      have d1 := (HB.out.cell (p := ⟨g, i * 4 + 1, none⟩) hg).trans p1
      have d2 := (HB.out.cell (p := ⟨g, i * 4 + 2, none⟩) hg).trans p2
      have d3 := (HB.out.cell (p := ⟨g, i * 4 + 3, none⟩) hg).trans p3
      have e0 := (HB.out.cell (p := ⟨g', i * 4, none⟩) hg').trans r0
      have e1 := (HB.out.cell (p := ⟨g', i * 4 + 1, none⟩) hg').trans r1
      have e2 := (HB.out.cell (p := ⟨g', i * 4 + 2, none⟩) hg').trans r2
      have e3 := (HB.out.cell (p := ⟨g', i * 4 + 3, none⟩) hg').trans r3
      clear p0 p1 p2 p3 r0 r1 r2 r3
      go_wp2_with fail
      go_quiet (fail)
      go_wp2_with fail
      exact ⟨⟨i + 1, by omega, by go_num, by rfl, Go.Proofs.YtjpmlagofcgheaaGreatDoor.Below.drewN HB.out _⟩, by simp [intOf]; omega⟩
    · obtain rfl : i = ps.length := by omega
      have hki : ¬ ((ps.length : Int) < (ps.length : Int)) := by omega
      go_wp2_with fail
      go_ret
      exact ⟨rfl, HB.out⟩

theorem ctx_nil {w : World} {x1 x2 x3 x4 : Option Addr} {y1 y2 y3 y4 z1 z2 z3 z4 : Nat} (ve : Value) (p : Pn) : Calls Tryz.prog 25 #[.pointer none, .agg #[.slice x1 y1 z1, .slice x2 y2 z2, .slice x3 y3 z3, .slice x4 y4 z4], ve, .agg #[.string p.nm, .int .i64 p.a, .int .i64 p.b, .int .i64 p.c]] w fun e w' => e = .returned (.tuple #[.slice none 0 0, .bool false]) ∧ Below w.heap.size w w' := by
  go_enter Tryz.func25, Tryz.ntmps25
  go_wp2_with fail
  go_ret2
  exact ⟨rfl, boxB2 _ _ _⟩
end Go.Proofs.YtjpmlagofcgheaaGreatDoor
namespace Go.Proofs.YtjpmlagofcgheaaGreatDoor
open Go.RowKit Go.Maps Go.WideMaps
set_option maxRecDepth 100000

/-- The sorted list that belongs to an answer. -/
def TsOk (L : List CV) (r : Option (List Pn)) (ts : List Pn) : Prop := (r = none → ts = []) ∧ ∀ out, r = some out → ts.Perm out ∧ (ts.Pairwise fun x y => ltP y x = false) ∧ GoodC L out

def SoOk (R : List CV) (r : Option (List Pn)) (so : List Pn) : Prop := (r = none → so = []) ∧ ∀ od, r = some od → so.Perm od ∧ SortedN so ∧ GoodC R od

theorem ts_so {L R : List CV} {r : Option (List Pn)} {ts so : List Pn} (h : TsOk L r ts) (h' : SoOk R r so) : ts = so := by
  rcases r with _ | out
  · rw [h.1 rfl, h'.1 rfl]
  · have a := h.2 out rfl
    have b := h'.2 out rfl
    exact sorted_same a.1 a.2.1 a.2.2.1 b.1 b.2.1

theorem ts_len {L : List CV} {r : Option (List Pn)} {ts : List Pn} (h : TsOk L r ts) (hp : (peerN L).length ≤ 2048) : ts.length ≤ 100000 := by
  rcases r with _ | out
  · rw [h.1 rfl]
    decide
  · have a := h.2 out rfl
    have := a.2.2.len hp
    rw [a.1.length_eq]
    omega

/-- What a Context answers: a list of one's own, and whether it stands. -/
def CtxW (w : World) (T : List Pn → Prop) (r : Option (List Pn)) (e : Ending) (w' : World) : Prop := ∃ v ts, e = .returned (.tuple #[v, .bool r.isSome]) ∧ (OwnPn w' w.heap.size v ts ∧ T ts ∧ Below w.heap.size w w')

theorem ctx_w {w w' : World} {L : List CV} {r : Option (List Pn)} {e : Ending} (h : CtxQ w L r e w') : CtxW w (TsOk L r) r e w' := by
  obtain ⟨h1, h2, h3⟩ := h
  rcases r with _ | out
  · exact ⟨_, [], h1 rfl, OwnPn.nil _ _, ⟨fun _ => rfl, fun _ q => by cases q⟩, h3⟩
  · obtain ⟨v, ts, he, ht, ho⟩ := h2 out rfl
    exact ⟨v, ts, he, ho, ⟨fun q => (by cases q), fun o q => (by cases q; exact ht)⟩, h3⟩

theorem rctx_w {w w' : World} {R : List CV} {r : Option (List Pn)} {e : Ending} (h : RctQ w R r e w') : CtxW w (SoOk R r) r e w' := by
  obtain ⟨h1, h2, h3⟩ := h
  rcases r with _ | out
  · exact ⟨_, [], h1 rfl, OwnPn.nil _ _, ⟨fun _ => rfl, fun _ q => by cases q⟩, h3⟩
  · obtain ⟨v, ts, he, ht, ho⟩ := h2 out rfl
    exact ⟨v, ts, he, ho, ⟨fun q => (by cases q), fun o q => (by cases q; exact ht)⟩, h3⟩

theorem both_ctx {w w' : World} {C E M : Nat} {L R : List CV} (h : BothAt w w' C E M L R) (O : List Dp) (Es : List Pn) (p : Pn) : ctxC R O Es p = ctxC L O Es p :=
  (two_ctx (two_find (lcat_apart h.1.1.2.2.2) h.2.1.2.2.1 h.2.2.1) O Es _ _ _).symm

theorem both_peers {w w' : World} {C E M : Nat} {L R : List CV} (h : BothAt w w' C E M L R) : (peerN L).length ≤ 2048 := by
  obtain ⟨⟨hc, hL⟩, _⟩ := h
  exact peerN_len hL fun x hx => (peers_short (hc.2.2.1 x hx).1.2).1

/-- The boxes of the world and of the pin. -/
def WcBx (W : World) (n : Nat) (v0 v1 v2 v3 v4 : Value) (p : Pn) : Prop := ((W.cell? ⟨n, 0, none⟩ = some v0 ∧ W.cell? ⟨n, 1, none⟩ = some v1 ∧ W.cell? ⟨n, 2, none⟩ = some v2 ∧ W.cell? ⟨n, 3, none⟩ = some v3 ∧ W.cell? ⟨n, 4, none⟩ = some v4) ∧ W.cell? ⟨n + 1, 0, none⟩ = some (.string p.nm) ∧ W.cell? ⟨n + 1, 1, none⟩ = some (.int .i64 p.a) ∧ W.cell? ⟨n + 1, 2, none⟩ = some (.int .i64 p.b) ∧ W.cell? ⟨n + 1, 3, none⟩ = some (.int .i64 p.c)) ∧ n + 1 < W.heap.size

theorem WcBx.below {W W' : World} {n : Nat} {v0 v1 v2 v3 v4 : Value} {p : Pn} (h : WcBx W n v0 v1 v2 v3 v4 p) (hb : Below W.heap.size W W') : WcBx W' n v0 v1 v2 v3 v4 p := by
  obtain ⟨⟨⟨a0, a1, a2, a3, a4⟩, b0, b1, b2, b3⟩, hl⟩ := h
  have k0 : ∀ j, W'.cell? ⟨n, j, none⟩ = W.cell? ⟨n, j, none⟩ := fun j => hb.cell (p := ⟨n, j, none⟩) (by show n < _; omega)
  have k1 : ∀ j, W'.cell? ⟨n + 1, j, none⟩ = W.cell? ⟨n + 1, j, none⟩ := fun j => hb.cell (p := ⟨n + 1, j, none⟩) hl
  exact ⟨⟨⟨(k0 _).trans a0, (k0 _).trans a1, (k0 _).trans a2, (k0 _).trans a3, (k0 _).trans a4⟩, (k1 _).trans b0, (k1 _).trans b1, (k1 _).trans b2, (k1 _).trans b3⟩, Nat.lt_of_lt_of_le hl hb.size⟩

theorem WcBx.new (w : World) (v0 v1 v2 v3 v4 : Value) (p : Pn) : WcBx ((w.alloc (.cells #[v0, v1, v2, v3, v4] 56)).alloc (.cells #[.string p.nm, .int .i64 p.a, .int .i64 p.b, .int .i64 p.c] 58)) w.heap.size v0 v1 v2 v3 v4 p := by
  have hs : (w.alloc (.cells #[v0, v1, v2, v3, v4] 56)).heap.size = w.heap.size + 1 := by simp
  have k0 : ∀ j, ((w.alloc (.cells #[v0, v1, v2, v3, v4] 56)).alloc (.cells #[.string p.nm, .int .i64 p.a, .int .i64 p.b, .int .i64 p.c] 58)).cell? ⟨w.heap.size, j, none⟩ = (w.alloc (.cells #[v0, v1, v2, v3, v4] 56)).cell? ⟨w.heap.size, j, none⟩ := fun j => (boxB _ _).cell (p := ⟨w.heap.size, j, none⟩) (by rw [hs]; show w.heap.size < _; omega)
  refine ⟨⟨⟨(k0 _).trans (by simp), (k0 _).trans (by simp), (k0 _).trans (by simp), (k0 _).trans (by simp), (k0 _).trans (by simp)⟩, ?_, ?_, ?_, ?_⟩, by simp⟩ <;> (rw [← hs]; simp)

set_option maxHeartbeats 25600000 in
theorem wantsContext_walk {w : World} (he : Env w) (hf : FL w) {ap : Option Addr} {cp : Nat} {Ps : List Pg} (hps : PgsAt w (.slice ap Ps.length cp) Ps) (hpz : Ps.length ≤ 9223372036854775807) (hpo : ∀ P ∈ Ps, PgOk P) {x1 x2 x3 x4 : Option Addr} {y1 y2 y3 y4 z1 z2 z3 z4 : Nat} {O : List Dp} (ho : DepsAt w (.slice x4 y4 z4) O) (hol : O.length ≤ 9223372036854775807) (hon : ∀ d ∈ O, d.nm.size ≤ 9223372036854775807) {xe : Option Addr} {ye ze : Nat} {Es : List Pn} (hpe : PinsAt w (.slice xe ye ze) Es) (hel : Es.length ≤ 9223372036854775807) (hen : ∀ q ∈ Es, q.nm.size ≤ 9223372036854775807) (hei : ∀ q ∈ Es, I64 q.a ∧ I64 q.b ∧ I64 q.c) (p : Pn) (hkp : KeyOk p.nm p.a p.b p.c) :
    Calls Tryz.prog 4 #[.agg #[.slice ap Ps.length cp, .slice x1 y1 z1, .slice x2 y2 z2, .slice x3 y3 z3, .slice x4 y4 z4], .slice xe ye ze, .agg #[.string p.nm, .int .i64 p.a, .int .i64 p.b, .int .i64 p.c]] w fun e w' => e = .returned (.bool true) ∧ Below w.heap.size w w' := by
  have HBX : Hid (Below w.heap.size w ((w.alloc (.cells #[.slice ap Ps.length cp, .slice x1 y1 z1, .slice x2 y2 z2, .slice x3 y3 z3, .slice x4 y4 z4] 56)).alloc (.cells #[.string p.nm, .int .i64 p.a, .int .i64 p.b, .int .i64 p.c] 58))) := boxB2 _ _ _
  have HWA : Hid (∀ W0, Below w.heap.size w W0 → Calls Tryz.prog 23 #[.agg #[.slice ap Ps.length cp, .slice x1 y1 z1, .slice x2 y2 z2, .slice x3 y3 z3, .slice x4 y4 z4]] W0 (fun e w' => BothQ W0 w' e)) := fun W0 hb => both_any (he.below hb) (hf.below hb) (hps.below hb) hpz hpo
  have HKN : Hid (∀ W, Below w.heap.size w W → Calls Tryz.prog 24 #[] W fun e w' => e = .returned (.bool true) ∧ Below W.heap.size W w') := fun W hb => known_wa (he.below hb) (hf.below hb)
  have HCX : Hid (∀ (W0 w1 W : World) (C E M : Nat) (L R : List CV), BothAt W0 w1 C E M L R → Below w1.heap.size w1 W → Below w.heap.size w W → Calls Tryz.prog 25 #[.pointer (some ⟨C, 0, none⟩), .agg #[.slice x1 y1 z1, .slice x2 y2 z2, .slice x3 y3 z3, .slice x4 y4 z4], .slice xe ye ze, .agg #[.string p.nm, .int .i64 p.a, .int .i64 p.b, .int .i64 p.c]] W (CtxW W (TsOk L (ctxC L O Es p)) (ctxC L O Es p))) := fun W0 w1 W C E M L R hq h1 hb => (ctx_any (hq.1.1.below h1) hq.1.2 (ho.below hb) hol hon (hpe.below hb) hel hen hei p hkp).mono fun e w' h => ctx_w h
  have HRX : Hid (∀ (W0 w1 W : World) (C E M : Nat) (L R : List CV), BothAt W0 w1 C E M L R → Below w1.heap.size w1 W → Below w.heap.size w W → Calls Tryz.prog 26 #[.pointer (some ⟨E, 0, none⟩), .agg #[.slice x1 y1 z1, .slice x2 y2 z2, .slice x3 y3 z3, .slice x4 y4 z4], .slice xe ye ze, .agg #[.string p.nm, .int .i64 p.a, .int .i64 p.b, .int .i64 p.c]] W (CtxW W (SoOk R (ctxC L O Es p)) (ctxC L O Es p))) := fun W0 w1 W C E M L R hq h1 hb => by
    rw [← both_ctx hq O Es p]
    exact (rctx_any (below_then hq.2.2.2 h1) (hq.2.1.below h1) (ho.below hb) hol (hpe.below hb) hel hei p).mono fun e w' h => rctx_w h
  have HNX : Hid (∀ W, Calls Tryz.prog 25 #[.pointer none, .agg #[.slice x1 y1 z1, .slice x2 y2 z2, .slice x3 y3 z3, .slice x4 y4 z4], .slice xe ye ze, .agg #[.string p.nm, .int .i64 p.a, .int .i64 p.b, .int .i64 p.c]] W fun e w' => e = .returned (.tuple #[.slice none 0 0, .bool false]) ∧ Below W.heap.size W w') := fun W => ctx_nil _ p
  have HX0 : Hid (WcBx ((w.alloc (.cells #[.slice ap Ps.length cp, .slice x1 y1 z1, .slice x2 y2 z2, .slice x3 y3 z3, .slice x4 y4 z4] 56)).alloc (.cells #[.string p.nm, .int .i64 p.a, .int .i64 p.b, .int .i64 p.c] 58)) w.heap.size (.slice ap Ps.length cp) (.slice x1 y1 z1) (.slice x2 y2 z2) (.slice x3 y3 z3) (.slice x4 y4 z4) p) := WcBx.new _ _ _ _ _ _ _
  obtain ⟨⟨⟨d0, d1, d2, d3, d4⟩, q0, q1, q2, q3⟩, dl⟩ := HX0.out
  clear he hf hps hpz hpo ho hol hon hpe hel hen hei hkp
  go_enter Tryz.func4, Tryz.ntmps4
  go_upto_region 1 with fail
  generalize ((w.alloc (.cells #[.slice ap Ps.length cp, .slice x1 y1 z1, .slice x2 y2 z2, .slice x3 y3 z3, .slice x4 y4 z4] 56)).alloc (.cells #[.string p.nm, .int .i64 p.a, .int .i64 p.b, .int .i64 p.c] 58)) = W0 at *
  have HW0 := HBX
  go_wp2_with (first
    | (go_at_call 27; have _t := HW5; refine (lpins_any (own_below (own_below HO3.out (HW4b.out)) hb5) (own_below HO4.out hb5) HLN.out).mono ?_; rintro e w6 ⟨rfl, hb6⟩)
    | (go_at_call 25; have _t := HW4; refine (HNX.out _).mono ?_; rintro e w5 ⟨rfl, hb5⟩; have HX5 := hide3 (HX4.out.below hb5); have HW5 := hide3 (below_then HW4.out hb5); clear d0 d1 d2 d3 d4 q0 q1 q2 q3 dl; obtain ⟨⟨⟨d0, d1, d2, d3, d4⟩, q0, q1, q2, q3⟩, dl⟩ := HX5.out)
    | (go_at_call 26; refine (HRX.out _ _ _ _ _ _ _ _ HQ.out (below_then HB2.out hb3) HW3.out).mono ?_; rintro e w4 ⟨v4, so, rfl, ho4, hso, hb4⟩; obtain rfl := ts_so HT3.out hso; have HO4 := hide3 ho4; have HW4b := hide3 hb4; clear ho4 hso; have HX4 := hide3 (HX3.out.below hb4); have HW4 := hide3 (below_then HW3.out hb4); clear d0 d1 d2 d3 d4 q0 q1 q2 q3 dl; obtain ⟨⟨⟨d0, d1, d2, d3, d4⟩, q0, q1, q2, q3⟩, dl⟩ := HX4.out)
    | (go_at_call 25; have _t := HW2; refine (HCX.out _ _ _ _ _ _ _ _ HQ.out HB2.out HW2.out).mono ?_; rintro e w3 ⟨v3, ts, rfl, ho3, hts, hb3⟩; have HO3 := hide3 ho3; have HT3 := hide3 hts; have HLN := hide3 (ts_len hts (both_peers HQ.out)); clear ho3 hts; have HX3 := hide3 (HX2.out.below hb3); have HW3 := hide3 (below_then HW2.out hb3); clear d0 d1 d2 d3 d4 q0 q1 q2 q3 dl; obtain ⟨⟨⟨d0, d1, d2, d3, d4⟩, q0, q1, q2, q3⟩, dl⟩ := HX3.out)
    | (go_at_call 24; refine (HKN.out _ HW1.out).mono ?_; rintro e w2 ⟨rfl, hb2⟩; have HB2 := hide3 hb2; have HX2 := hide3 (HX1.out.below hb2); have HW2 := hide3 (below_then HW1.out hb2); clear d0 d1 d2 d3 d4 q0 q1 q2 q3 dl; obtain ⟨⟨⟨d0, d1, d2, d3, d4⟩, q0, q1, q2, q3⟩, dl⟩ := HX2.out)
    | (go_at_call 23; refine (HWA.out _ HW0.out).mono ?_; rintro e w1 ⟨C, Ec, M, L, R, rfl, hq⟩; have HQ := hide3 hq; have hb1 := hq.2.2.2; clear hq; have HX1 := hide3 (HX0.out.below hb1); have HW1 := hide3 (below_then HW0.out hb1); clear d0 d1 d2 d3 d4 q0 q1 q2 q3 dl; obtain ⟨⟨⟨d0, d1, d2, d3, d4⟩, q0, q1, q2, q3⟩, dl⟩ := HX1.out))
  go_ret
  exact ⟨rfl, below_then HW5.out hb6⟩
end Go.Proofs.YtjpmlagofcgheaaGreatDoor
namespace Go.Proofs.YtjpmlagofcgheaaGreatDoor
open Go.ChangeShapes Go.WideShapes Go.ChangeAt Go.RowKit
set_option maxRecDepth 100000

/-- A pin whose numbers fit and whose name is not too great. -/
def PnOkS (p : Pn) : Prop := p.nm.size ≤ 9223372036854775807 ∧ I64 p.a ∧ I64 p.b ∧ I64 p.c

theorem pin_readS {H : Type} {enc : TypeId × Value → H} {W : World} {base : Nat} {held : Bool} {n : Nat} {g o : Nat} {cs : List Value} {x : DataW H × List MemPlace} (hc : W.cells? base ⟨g, o, none⟩ 4 = some cs) (h : DataW.trod enc Tryz.prog W base (fun _ => true) held n 58 cs = some x) : ∃ d : Pn, PnIn W g o d ∧ PnOkS d := by
  have hs : Tryz.prog.underlying 58 = some (.struct (Tryz.prog.fieldsOf 58)) := by kernel_rfl
  obtain ⟨xs, n', _, _, _, hxl, hf⟩ := DataW.trod_struct hs h
  have hsz : (Tryz.prog.fieldsOf 58).size = 2 := by kernel_rfl
  obtain ⟨_, hcl, hq⟩ := World.cells?_some hc
  obtain ⟨f0, i0, t0, o0⟩ := field_at (fs := Tryz.prog.fieldsOf 58) (i := 0) (ty := 9) (off := 0) (by kernel_rfl)
  obtain ⟨f1, i1, t1, o1⟩ := field_at (fs := Tryz.prog.fieldsOf 58) (i := 1) (ty := 31) (off := 1) (by kernel_rfl)
  have r0 := hf 0 f0 i0
  have r1 := hf 1 f1 i1
  rw [t0, o0, cellsStrD, List.getElem?_eq_getElem (by omega : 0 < xs.length)] at r0
  rw [t1, o1, cellsVer, List.getElem?_eq_getElem (by omega : 1 < xs.length)] at r1
  obtain ⟨s, e0, _, hs0⟩ := DataW.trod_string Tryz.underlying9 r0
  obtain ⟨a, b, c, ⟨ea, eb, ec⟩, wa, wb, wc⟩ := intsW r1
  have ka : ((cs.drop 1).take 3)[0]? = some (.int .i64 a) := ea
  have kb : ((cs.drop 1).take 3)[1]? = some (.int .i64 b) := eb
  have kc : ((cs.drop 1).take 3)[2]? = some (.int .i64 c) := ec
  have q0 := hq 0 (by decide)
  have q1 := hq 1 (by decide)
  have q2 := hq 2 (by decide)
  have q3 := hq 3 (by decide)
  have ad : ∀ i, (⟨g, o, none⟩ : Addr).add i = ⟨g, o + i, none⟩ := fun i => by unfold Addr.add; split <;> simp_all
  simp at ka kb kc
  rw [ad, take1 e0] at q0
  rw [ad, ka] at q1
  rw [ad, kb] at q2
  rw [ad, kc] at q3
  exact ⟨⟨s, a, b, c⟩, ⟨⟨q0, q1, q2, q3⟩, cell_in q0⟩, by unfold maxLen at hs0; exact hs0, wa, wb, wc⟩

theorem pins_csS {H : Type} {enc : TypeId × Value → H} {W : World} {base fuel : Nat} {held : Bool} {cs : List Value} {x : DataW H × List MemPlace} (h : DataW.trod enc Tryz.prog W base (fun _ => true) held fuel 40 cs = some x) :
    ∃ v L, cs = [v] ∧ PinsAt W v L ∧ L.length ≤ 9223372036854775807 ∧ ∀ d ∈ L, PnOkS d := by
  rcases Go.Deep.open_slice Tryz.underlying40 h with ⟨rfl, _⟩ | ⟨ad, len, cap, m, n, D, Pl, rfl, _, hl, hcm, hm, hx, hel⟩
  · exact ⟨_, [], rfl, ⟨none, 0, rfl, Nat.le_refl _, Or.inl rfl⟩, by simp, (fun d hd => by cases hd)⟩
  · have hz : len ≤ 9223372036854775807 := by unfold maxLen at hcm; omega
    rcases Nat.eq_zero_or_pos len with h0 | h0
    · subst h0
      exact ⟨_, [], rfl, ⟨_, _, rfl, Nat.zero_le _, Or.inl rfl⟩, by simp, (fun d hd => by cases hd)⟩
    · have hmm : len ≤ m := by rw [hm]; simp; exact hl
      rw [cellsPinC] at hel
      obtain ⟨g, off, spot⟩ := ad
      obtain ⟨cs0, hc0, _⟩ := hel 0 (by omega)
      obtain ⟨_, hln, hq⟩ := World.cells?_some hc0
      have hcell := hq 0 (by decide)
      rw [List.getElem?_eq_getElem (by omega : 0 < cs0.length)] at hcell
      have hspot : spot = none := by simpa [Addr.add] using World.cell?_spot hcell
      subst hspot
      have ad2 : ∀ o i, (⟨g, o, none⟩ : Addr).add i = ⟨g, o + i, none⟩ := fun o i => by unfold Addr.add; split <;> simp_all
      obtain ⟨L, hL, hP⟩ := list_any (P := fun i (d : Pn) => PnIn W g (off + i * 4) d ∧ PnOkS d) (n := len) fun i hi => by
        obtain ⟨cs, hc, ht⟩ := hel i (by omega)
        rw [ad2] at hc
        exact pin_readS hc ht
      subst hL
      refine ⟨_, L, rfl, ⟨_, _, rfl, hl, Or.inr ⟨g, off, rfl, ?_, fun i hi => (hP i hi).1⟩⟩, hz, ?_⟩
      · have := cell_in hcell
        rw [ad2, ad2] at this; exact this
      · intro d hd
        obtain ⟨i, hi, rfl⟩ := List.getElem_of_mem hd
        exact (hP i hi).2


theorem open_pins {H : Type} {enc : TypeId × Value → H} {W : World} {base b0 : Nat} {held : Bool} {v : Value} {d : DataW H} {p : List MemPlace} (hv : Value.okWide Tryz.prog W .any b0 40 v) (h : DataW.Trod enc Tryz.prog W base (fun _ => true) held 40 v d p) :
    ∃ L, PinsAt W v L ∧ L.length ≤ 9223372036854775807 ∧ ∀ q ∈ L, PnOkS q := by
  obtain ⟨ad, len, cap, rfl⟩ := okWide_slice Tryz.underlying40 hv
  obtain ⟨fuel, hf⟩ := h
  obtain ⟨v, L, e, h1, h2⟩ := pins_csS (x := (d, p)) hf
  have e2 : Value.slice ad len cap = v := by simpa [Value.cells] using e
  subst e2
  exact ⟨L, h1, h2⟩

theorem open_pin {H : Type} {enc : TypeId × Value → H} {W : World} {base b0 : Nat} {held : Bool} {v : Value} {d : DataW H} {p : List MemPlace} (hv : Value.okWide Tryz.prog W .any b0 58 v) (h : DataW.Trod enc Tryz.prog W base (fun _ => true) held 58 v d p) :
    ∃ q : Pn, v = .agg #[.string q.nm, .int .i64 q.a, .int .i64 q.b, .int .i64 q.c] ∧ KeyOk q.nm q.a q.b q.c := by
  have hs : Tryz.prog.underlying 58 = some (.struct (Tryz.prog.fieldsOf 58)) := by kernel_rfl
  obtain ⟨cs, rfl, hsz⟩ := okWide_struct hs hv
  obtain ⟨n, h⟩ := h
  obtain ⟨xs, n', _, _, _, hxl, hf⟩ := DataW.trod_struct hs h
  have hfz : (Tryz.prog.fieldsOf 58).size = 2 := by kernel_rfl
  rw [cellsPinC] at hsz
  obtain ⟨f0, i0, t0, o0⟩ := field_at (fs := Tryz.prog.fieldsOf 58) (i := 0) (ty := 9) (off := 0) (by kernel_rfl)
  obtain ⟨f1, i1, t1, o1⟩ := field_at (fs := Tryz.prog.fieldsOf 58) (i := 1) (ty := 31) (off := 1) (by kernel_rfl)
  have r0 := hf 0 f0 i0
  have r1 := hf 1 f1 i1
  rw [t0, o0, cellsStrD, List.getElem?_eq_getElem (by omega : 0 < xs.length)] at r0
  rw [t1, o1, cellsVer, List.getElem?_eq_getElem (by omega : 1 < xs.length)] at r1
  obtain ⟨s, e0, _, hs0⟩ := DataW.trod_string Tryz.underlying9 r0
  obtain ⟨a, b, c, ⟨ea, eb, ec⟩, wa, wb, wc⟩ := intsW r1
  have k0 : cs.toList[0]? = some (.string s) := take1 e0
  have ka : ((cs.toList.drop 1).take 3)[0]? = some (.int .i64 a) := ea
  have kb : ((cs.toList.drop 1).take 3)[1]? = some (.int .i64 b) := eb
  have kc : ((cs.toList.drop 1).take 3)[2]? = some (.int .i64 c) := ec
  obtain ⟨l⟩ := cs
  obtain ⟨x0, x1, x2, x3, rfl⟩ := list4W (l := l) (by simpa using hsz)
  simp at k0 ka kb kc
  subst k0 ka kb kc
  exact ⟨⟨s, a, b, c⟩, rfl, hs0, wa, wb, wc⟩

theorem cellsWor : Tryz.prog.cellsOf 56 = 5 := by kernel_rfl
theorem list5W {α : Type} {l : List α} (h : l.length = 5) : ∃ a b c d e, l = [a, b, c, d, e] := by
  match l, h with
  | [a, b, c, d, e], _ => exact ⟨a, b, c, d, e, rfl⟩

/-- Deps that came in and are not too great. -/
def DpsOk (W : World) (v : Value) (L : List Dp) : Prop := DepsAt W v L ∧ L.length ≤ 9223372036854775807 ∧ ∀ d ∈ L, d.nm.size ≤ 9223372036854775807

theorem man_cs {H : Type} {enc : TypeId × Value → H} {W : World} {base n : Nat} {held : Bool} {cs : List Value} {x : DataW H × List MemPlace} (h : DataW.trod enc Tryz.prog W base (fun _ => true) held n 54 cs = some x) :
    ∃ v1 v2 v3 v4 L1 L2 L3 L4, (cs[0]? = some v1 ∧ cs[1]? = some v2 ∧ cs[2]? = some v3 ∧ cs[3]? = some v4) ∧ DpsOk W v1 L1 ∧ DpsOk W v2 L2 ∧ DpsOk W v3 L3 ∧ DpsOk W v4 L4 := by
  have hs : Tryz.prog.underlying 54 = some (.struct (Tryz.prog.fieldsOf 54)) := by kernel_rfl
  obtain ⟨xs, n', _, _, _, hxl, hf⟩ := DataW.trod_struct hs h
  have hfz : (Tryz.prog.fieldsOf 54).size = 4 := by kernel_rfl
  have get : ∀ i, ((Tryz.prog.fieldsOf 54)[i]?).map (fun f => (f.type, f.offset)) = some (32, i) → i < 4 → ∃ v L, cs[i]? = some v ∧ DpsOk W v L := by
    intro i hfd hi
    obtain ⟨f, h1, h2, h3⟩ := field_at hfd
    have hr := hf i f h1
    rw [h2, h3, cellsDeps, List.getElem?_eq_getElem (by omega : i < xs.length)] at hr
    obtain ⟨v, L, e, hL, hz, hm⟩ := deps_cs hr
    exact ⟨v, L, take1 e, hL, hz, hm⟩
  obtain ⟨v1, L1, k1, h1⟩ := get 0 (by kernel_rfl) (by decide)
  obtain ⟨v2, L2, k2, h2⟩ := get 1 (by kernel_rfl) (by decide)
  obtain ⟨v3, L3, k3, h3⟩ := get 2 (by kernel_rfl) (by decide)
  obtain ⟨v4, L4, k4, h4⟩ := get 3 (by kernel_rfl) (by decide)
  exact ⟨v1, v2, v3, v4, L1, L2, L3, L4, ⟨k1, k2, k3, k4⟩, h1, h2, h3, h4⟩

/-- A world that came in. -/
theorem open_wor {H : Type} {enc : TypeId × Value → H} {W : World} {base b0 : Nat} {held : Bool} {v : Value} {d : DataW H} {p : List MemPlace} (hv : Value.okWide Tryz.prog W .any b0 56 v) (h : DataW.Trod enc Tryz.prog W base (fun _ => true) held 56 v d p) :
    ∃ (v0 v1 v2 v3 v4 : Value) (Ps : List Pg) (L1 L2 L3 L4 : List Dp), v = .agg #[v0, v1, v2, v3, v4] ∧ (PgsAt W v0 Ps ∧ Ps.length ≤ 9223372036854775807 ∧ ∀ P ∈ Ps, PgOk P) ∧ DpsOk W v1 L1 ∧ DpsOk W v2 L2 ∧ DpsOk W v3 L3 ∧ DpsOk W v4 L4 := by
  have hs : Tryz.prog.underlying 56 = some (.struct (Tryz.prog.fieldsOf 56)) := by kernel_rfl
  obtain ⟨cs, rfl, hsz⟩ := okWide_struct hs hv
  obtain ⟨n, h⟩ := h
  obtain ⟨xs, n', _, _, _, hxl, hf⟩ := DataW.trod_struct hs h
  have hfz : (Tryz.prog.fieldsOf 56).size = 2 := by kernel_rfl
  rw [cellsWor] at hsz
  obtain ⟨f0, i0, t0, o0⟩ := field_at (fs := Tryz.prog.fieldsOf 56) (i := 0) (ty := 22) (off := 0) (by kernel_rfl)
  obtain ⟨f1, i1, t1, o1⟩ := field_at (fs := Tryz.prog.fieldsOf 56) (i := 1) (ty := 54) (off := 1) (by kernel_rfl)
  have r0 := hf 0 f0 i0
  have r1 := hf 1 f1 i1
  rw [t0, o0, cellsPkgs, List.getElem?_eq_getElem (by omega : 0 < xs.length)] at r0
  rw [t1, o1, cellsManW, List.getElem?_eq_getElem (by omega : 1 < xs.length)] at r1
  obtain ⟨v0, Ps, e0, h0⟩ := pkgs_cs r0
  obtain ⟨v1, v2, v3, v4, L1, L2, L3, L4, ⟨e1, e2, e3, e4⟩, hr⟩ := man_cs r1
  have k0 : cs.toList[0]? = some v0 := take1 e0
  have k1 : ((cs.toList.drop 1).take 4)[0]? = some v1 := e1
  have k2 : ((cs.toList.drop 1).take 4)[1]? = some v2 := e2
  have k3 : ((cs.toList.drop 1).take 4)[2]? = some v3 := e3
  have k4 : ((cs.toList.drop 1).take 4)[3]? = some v4 := e4
  obtain ⟨l⟩ := cs
  obtain ⟨x0, x1, x2, x3, x4, rfl⟩ := list5W (l := l) (by simpa using hsz)
  simp at k0 k1 k2 k3 k4
  subst k0 k1 k2 k3 k4
  exact ⟨_, _, _, _, _, Ps, L1, L2, L3, L4, rfl, h0, hr⟩

theorem wctx_row {W : World} (he : Env W) (hf : FL W) {v0 v1 v2 v3 v4 ve : Value} {Ps : List Pg} {L1 L2 L3 L4 : List Dp} {Es : List Pn} (h0 : PgsAt W v0 Ps ∧ Ps.length ≤ 9223372036854775807 ∧ ∀ P ∈ Ps, PgOk P) (h1 : DpsOk W v1 L1) (h2 : DpsOk W v2 L2) (h3 : DpsOk W v3 L3) (h4 : DpsOk W v4 L4) (hp : PinsAt W ve Es) (hz : Es.length ≤ 9223372036854775807) (hn : ∀ q ∈ Es, PnOkS q) (p : Pn) (hk : KeyOk p.nm p.a p.b p.c) :
    Calls Tryz.prog 4 #[.agg #[v0, v1, v2, v3, v4], ve, .agg #[.string p.nm, .int .i64 p.a, .int .i64 p.b, .int .i64 p.c]] W fun e w' => e = .returned (.bool true) ∧ Below W.heap.size W w' := by
  obtain ⟨q0, h0b, h0c⟩ := h0
  obtain ⟨_, _, rfl, _⟩ := q0.sl
  obtain ⟨_, _, rfl, _, _⟩ := h1.1.el
  obtain ⟨_, _, rfl, _, _⟩ := h2.1.el
  obtain ⟨_, _, rfl, _, _⟩ := h3.1.el
  obtain ⟨_, _, rfl, _, _⟩ := h4.1.el
  obtain ⟨_, _, rfl, _, _⟩ := hp.el
  exact wantsContext_walk he hf q0 h0b h0c h4.1 h4.2.1 h4.2.2 hp hz (fun q hq => (hn q hq).1) (fun q hq => (hn q hq).2) p hk
end Go.Proofs.YtjpmlagofcgheaaGreatDoor
