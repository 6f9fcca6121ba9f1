/- Ct7, Ct8, laid in one text. -/
import Derived.Test.YtjpmlagofcgheaaGreatDoorShelfE
import Derived.Test.YtjpmlagofcgheaaGreatDoorShelfF
import Derived.Test.YtjpmlagofcgheaaGreatDoorMg09
namespace Go.Proofs.YtjpmlagofcgheaaGreatDoor
open Go.RowKit Go.Maps Go.WideMaps
set_option maxRecDepth 100000

set_option maxHeartbeats 3200000 in
theorem put_no {w : World} {B C M : Nat} {L : List CV} (h : CatAt w B C M L) {P : Pg} {v1 v2 v3 : Value} (hp : PgAt w P v1 v2 v3) (he : Env w) (hf : FL w) (hw : writtenB P = false) : Calls Tryz.prog 10 #[.pointer (some ⟨C, 0, none⟩), .agg #[.string P.nm, .int .i64 P.a, .int .i64 P.b, .int .i64 P.c, v1, v2, v3]] w fun e w' => e = .returned (.int .i64 24) ∧ Below w.heap.size w w' := by
  have HMY : Hid (∀ W, PgAt W P v1 v2 v3 → Below w.heap.size w W → Calls Tryz.prog 33 #[.agg #[.string P.nm, .int .i64 P.a, .int .i64 P.b, .int .i64 P.c, v1, v2, v3]] W fun e w' => e = .returned (.bool (writtenB P)) ∧ Below W.heap.size W w') := fun W hw hb => pMay_any hw (he.below hb) (hf.below hb)
  obtain ⟨a1, c1, rfl⟩ := hp.1.sl
  obtain ⟨a2, c2, rfl⟩ := hp.2.1.sl
  obtain ⟨a3, c3, rfl⟩ := hp.2.2.sl
  generalize P.d.length = n1 at *
  generalize P.p.length = n2 at *
  generalize P.o.length = n3 at *
  have HKD : Hid (KeepP fun W => ((Below w.heap.size w W ∧ CatAt W B C M L) ∧ PgAt W P (.slice a1 n1 c1) (.slice a2 n2 c2) (.slice a3 n3 c3)) ∧ BxP W w.heap.size P.nm P.a P.b P.c (.slice a1 n1 c1) (.slice a2 n2 c2) (.slice a3 n3 c3)) := fun a b hx hab => ⟨⟨⟨below_then hx.1.1.1 hab, hx.1.1.2.below hab⟩, hx.1.2.below hab⟩, keepBxP _ _ _ _ _ _ _ _ _ _ hx.2 hab⟩
  have HO0 : Hid (((Below w.heap.size w (w.alloc (.cells #[.string P.nm, .int .i64 P.a, .int .i64 P.b, .int .i64 P.c, .slice a1 n1 c1, .slice a2 n2 c2, .slice a3 n3 c3] 34)) ∧ CatAt (w.alloc (.cells #[.string P.nm, .int .i64 P.a, .int .i64 P.b, .int .i64 P.c, .slice a1 n1 c1, .slice a2 n2 c2, .slice a3 n3 c3] 34)) B C M L) ∧ PgAt (w.alloc (.cells #[.string P.nm, .int .i64 P.a, .int .i64 P.b, .int .i64 P.c, .slice a1 n1 c1, .slice a2 n2 c2, .slice a3 n3 c3] 34)) P (.slice a1 n1 c1) (.slice a2 n2 c2) (.slice a3 n3 c3)) ∧ BxP (w.alloc (.cells #[.string P.nm, .int .i64 P.a, .int .i64 P.b, .int .i64 P.c, .slice a1 n1 c1, .slice a2 n2 c2, .slice a3 n3 c3] 34)) w.heap.size P.nm P.a P.b P.c (.slice a1 n1 c1) (.slice a2 n2 c2) (.slice a3 n3 c3)) := ⟨⟨⟨boxB _ _, h.below (boxB _ _)⟩, hp.below (boxB _ _)⟩, BxP.new rfl _ _ _ _ _ _ _⟩
  clear h hp he hf
  obtain ⟨k0, k1, k2, k3, k4, k5, k6, _⟩ := HO0.out.2
  rw [hw] at HMY
  clear hw
  go_enter Tryz.func10, Tryz.ntmps10
  go_wp2_with (go_at_call 33; refine (HMY.out _ HO0.out.1.2 HO0.out.1.1.1).mono ?_; rintro e w1 ⟨rfl, hb⟩; have HO1 := hide3 (HKD.out _ _ HO0.out hb); clear hb k0 k1 k2 k3 k4 k5 k6; obtain ⟨k0, k1, k2, k3, k4, k5, k6, _⟩ := HO1.out.2; have kc := HO1.out.1.1.2.1.1)
  go_ret
  exact ⟨rfl, HO1.out.1.1.1⟩

set_option maxHeartbeats 3200000 in
theorem put_there {w : World} {B C M : Nat} {L : List CV} (h : CatAt w B C M L) {P : Pg} {v1 v2 v3 : Value} (hp : PgAt w P v1 v2 v3) (he : Env w) (hf : FL w) (hk : KeyOk P.nm P.a P.b P.c) (hw : writtenB P = true) {x : CV} (hx : catC L P.nm P.a P.b P.c = some x) : Calls Tryz.prog 10 #[.pointer (some ⟨C, 0, none⟩), .agg #[.string P.nm, .int .i64 P.a, .int .i64 P.b, .int .i64 P.c, v1, v2, v3]] w fun e w' => e = .returned (.int .i64 11) ∧ Below w.heap.size w w' := by
  have HOG := hide3 (h.find hx).2.2.2.2.2.1
  have HMY : Hid (∀ W, PgAt W P v1 v2 v3 → Below w.heap.size w W → Calls Tryz.prog 33 #[.agg #[.string P.nm, .int .i64 P.a, .int .i64 P.b, .int .i64 P.c, v1, v2, v3]] W fun e w' => e = .returned (.bool (writtenB P)) ∧ Below W.heap.size W w') := fun W hw hb => pMay_any hw (he.below hb) (hf.below hb)
  obtain ⟨a1, c1, rfl⟩ := hp.1.sl
  obtain ⟨a2, c2, rfl⟩ := hp.2.1.sl
  obtain ⟨a3, c3, rfl⟩ := hp.2.2.sl
  generalize P.d.length = n1 at *
  generalize P.p.length = n2 at *
  generalize P.o.length = n3 at *
  have HKD : Hid (KeepP fun W => ((Below w.heap.size w W ∧ CatAt W B C M L) ∧ PgAt W P (.slice a1 n1 c1) (.slice a2 n2 c2) (.slice a3 n3 c3)) ∧ BxP W w.heap.size P.nm P.a P.b P.c (.slice a1 n1 c1) (.slice a2 n2 c2) (.slice a3 n3 c3)) := fun a b hx hab => ⟨⟨⟨below_then hx.1.1.1 hab, hx.1.1.2.below hab⟩, hx.1.2.below hab⟩, keepBxP _ _ _ _ _ _ _ _ _ _ hx.2 hab⟩
  have HO0 : Hid (((Below w.heap.size w (w.alloc (.cells #[.string P.nm, .int .i64 P.a, .int .i64 P.b, .int .i64 P.c, .slice a1 n1 c1, .slice a2 n2 c2, .slice a3 n3 c3] 34)) ∧ CatAt (w.alloc (.cells #[.string P.nm, .int .i64 P.a, .int .i64 P.b, .int .i64 P.c, .slice a1 n1 c1, .slice a2 n2 c2, .slice a3 n3 c3] 34)) B C M L) ∧ PgAt (w.alloc (.cells #[.string P.nm, .int .i64 P.a, .int .i64 P.b, .int .i64 P.c, .slice a1 n1 c1, .slice a2 n2 c2, .slice a3 n3 c3] 34)) P (.slice a1 n1 c1) (.slice a2 n2 c2) (.slice a3 n3 c3)) ∧ BxP (w.alloc (.cells #[.string P.nm, .int .i64 P.a, .int .i64 P.b, .int .i64 P.c, .slice a1 n1 c1, .slice a2 n2 c2, .slice a3 n3 c3] 34)) w.heap.size P.nm P.a P.b P.c (.slice a1 n1 c1) (.slice a2 n2 c2) (.slice a3 n3 c3)) := ⟨⟨⟨boxB _ _, h.below (boxB _ _)⟩, hp.below (boxB _ _)⟩, BxP.new rfl _ _ _ _ _ _ _⟩
  clear h hp he hf
  obtain ⟨k0, k1, k2, k3, k4, k5, k6, _⟩ := HO0.out.2
  rw [hw] at HMY
  clear hw
  obtain ⟨Q, y1, y2, y3⟩ := x
  obtain ⟨d1, m1, o1, rfl⟩ := own_sl1 HOG.out
  obtain ⟨d2, m2, o2, rfl⟩ := own_sl2 HOG.out
  obtain ⟨d3, m3, o3, rfl⟩ := own_sl3 HOG.out
  have HLK : Hid (∀ W, CatAt W B C M L → (Instr.lookup 72 (.map (some M)) (.agg #[.string P.nm, .int .i64 P.a, .int .i64 P.b, .int .i64 P.c]) true).run Tryz.prog W = .ok (.tuple #[Value.agg #[.string Q.nm, .int .i64 Q.a, .int .i64 Q.b, .int .i64 Q.c, .slice d1 m1 o1, .slice d2 m2 o2, .slice d3 m3 o3], .bool true]) W) := fun W hW => by
    have e := look_cat hW hk
    rw [gotV, hx] at e
    exact e
  have HKE : Hid (∀ W, Calls Tryz.prog 34 #[.agg #[.string P.nm, .int .i64 P.a, .int .i64 P.b, .int .i64 P.c, .slice a1 n1 c1, .slice a2 n2 c2, .slice a3 n3 c3]] W fun e w' => e = .returned (.agg #[.string P.nm, .int .i64 P.a, .int .i64 P.b, .int .i64 P.c]) ∧ Below W.heap.size W w') := fun W => key_any ⟨_, _, _, rfl⟩ ⟨_, _, _, rfl⟩ ⟨_, _, _, rfl⟩
  clear hx hk
  go_enter Tryz.func10, Tryz.ntmps10
  go_wp2_with (go_at_call 33; refine (HMY.out _ HO0.out.1.2 HO0.out.1.1.1).mono ?_; rintro e w1 ⟨rfl, hb⟩; have HO1 := hide3 (HKD.out _ _ HO0.out hb); clear hb k0 k1 k2 k3 k4 k5 k6; obtain ⟨k0, k1, k2, k3, k4, k5, k6, _⟩ := HO1.out.2; have kc := HO1.out.1.1.2.1.1)
  have HOW := HO1
  have HKF : Hid (∀ a b, (((Below w.heap.size w a ∧ CatAt a B C M L) ∧ PgAt a P (.slice a1 n1 c1) (.slice a2 n2 c2) (.slice a3 n3 c3)) ∧ BxP a w.heap.size P.nm P.a P.b P.c (.slice a1 n1 c1) (.slice a2 n2 c2) (.slice a3 n3 c3)) → Below a.heap.size a b → ((Below w.heap.size w b ∧ CatAt b B C M L) ∧ PgAt b P (.slice a1 n1 c1) (.slice a2 n2 c2) (.slice a3 n3 c3)) ∧ BxP b w.heap.size P.nm P.a P.b P.c (.slice a1 n1 c1) (.slice a2 n2 c2) (.slice a3 n3 c3)) := fun a b => HKD.out a b
  have HOA : Hid (((Below w.heap.size w (w1.alloc (.cells #[.string ⟨#[]⟩, .int .i64 0, .int .i64 0, .int .i64 0, .slice none 0 0, .slice none 0 0, .slice none 0 0] 34)).drew ∧ CatAt (w1.alloc (.cells #[.string ⟨#[]⟩, .int .i64 0, .int .i64 0, .int .i64 0, .slice none 0 0, .slice none 0 0, .slice none 0 0] 34)).drew B C M L) ∧ PgAt (w1.alloc (.cells #[.string ⟨#[]⟩, .int .i64 0, .int .i64 0, .int .i64 0, .slice none 0 0, .slice none 0 0, .slice none 0 0] 34)).drew P (.slice a1 n1 c1) (.slice a2 n2 c2) (.slice a3 n3 c3)) ∧ BxP (w1.alloc (.cells #[.string ⟨#[]⟩, .int .i64 0, .int .i64 0, .int .i64 0, .slice none 0 0, .slice none 0 0, .slice none 0 0] 34)).drew w.heap.size P.nm P.a P.b P.c (.slice a1 n1 c1) (.slice a2 n2 c2) (.slice a3 n3 c3)) := HKD.out _ _ (HKD.out _ _ HO1.out (boxB _ _)) (Below.refl _ _).drew
  have HZF : Hid (∀ b, Below (w1.alloc (.cells #[.string ⟨#[]⟩, .int .i64 0, .int .i64 0, .int .i64 0, .slice none 0 0, .slice none 0 0, .slice none 0 0] 34)).drew.heap.size (w1.alloc (.cells #[.string ⟨#[]⟩, .int .i64 0, .int .i64 0, .int .i64 0, .slice none 0 0, .slice none 0 0, .slice none 0 0] 34)).drew b → BxPF b w1.heap.size ⟨#[]⟩ 0 0 0 (.slice none 0 0) (.slice none 0 0) (.slice none 0 0)) := fun b hb => keepBxPF _ _ _ _ _ _ _ _ _ _ (keepBxPF _ _ _ _ _ _ _ _ _ _ (BxPF.new rfl _ _ _ _ _ _ _) (Below.refl _ _).drew) hb
  have HO1 := hide3 (HKD.out _ _ HO1.out (Below.refl _ _).drew)
  have hle1 : w.heap.size ≤ w1.heap.size := HO1.out.1.1.1.size
  have nc := World.new_ne w1 ⟨C, 0, none⟩ kc
  have nb0 := World.new_ne w1 ⟨w.heap.size, 0, none⟩ k0
  go_region_held3 (fun w' => w'.cell? ⟨C, 0, none⟩ = some (.map (some M)) ∧ w'.cell? ⟨w.heap.size, 0, none⟩ = some (.string P.nm) ∧ w'.cell? ⟨w.heap.size, 1, none⟩ = some (.int .i64 P.a) ∧ w'.cell? ⟨w.heap.size, 2, none⟩ = some (.int .i64 P.b) ∧ w'.cell? ⟨w.heap.size, 3, none⟩ = some (.int .i64 P.c) ∧ w'.cell? ⟨w.heap.size, 4, none⟩ = some (.slice a1 n1 c1) ∧ w'.cell? ⟨w.heap.size, 5, none⟩ = some (.slice a2 n2 c2) ∧ w'.cell? ⟨w.heap.size, 6, none⟩ = some (.slice a3 n3 c3)) (go_keep) (first
    | (go_at_call 34; refine (HKE.out _).mono ?_; rintro e w2 ⟨rfl, hb⟩; have HO2 : Hid (((Below w.heap.size w w2 ∧ CatAt w2 B C M L) ∧ PgAt w2 P (.slice a1 n1 c1) (.slice a2 n2 c2) (.slice a3 n3 c3)) ∧ BxP w2 w.heap.size P.nm P.a P.b P.c (.slice a1 n1 c1) (.slice a2 n2 c2) (.slice a3 n3 c3)) := (by with_reducible exact hide3 (HKF.out _ _ HOA.out hb)); have HZ2 := hide3 (HZF.out _ hb); have HB12 : Hid (Below w1.heap.size w1 w2) := below_then ((boxB _ _).drew) hb; obtain ⟨⟨r0, r1, r2, r3, r4, r5, r6, r7⟩, hfz⟩ := HZ2.out; have f0 := hfz 0 (by decide); have f1 := hfz 1 (by decide); have f2 := hfz 2 (by decide); have f3 := hfz 3 (by decide); have f4 := hfz 4 (by decide); have f5 := hfz 5 (by decide); have f6 := hfz 6 (by decide); clear hfz; have hle2 : w.heap.size ≤ w2.heap.size := HO2.out.1.1.1.size; obtain ⟨k0, k1, k2, k3, k4, k5, k6, _⟩ := HO2.out.2; have kc := HO2.out.1.1.2.1.1; have l1 := HLK.out _ HO2.out.1.1.2; clear hb)
    | (go_at_call 34; refine (HKE.out _).mono ?_; rintro e w2 ⟨rfl, hb⟩; have HO2 : Hid (((Below w.heap.size w w2 ∧ CatAt w2 B C M L) ∧ PgAt w2 P (.slice a1 n1 c1) (.slice a2 n2 c2) (.slice a3 n3 c3)) ∧ BxP w2 w.heap.size P.nm P.a P.b P.c (.slice a1 n1 c1) (.slice a2 n2 c2) (.slice a3 n3 c3)) := (by with_reducible exact hide3 (HKF.out _ _ HO1.out hb)); have hle2 : w.heap.size ≤ w2.heap.size := HO2.out.1.1.1.size; obtain ⟨k0, k1, k2, k3, k4, k5, k6, _⟩ := HO2.out.2; have kc := HO2.out.1.1.2.1.1; have l1 := HLK.out _ HO2.out.1.1.2; have l2 := HLK.out _ (HO2.out.1.1.2.below (boxB w2 (.cells #[.string ⟨#[]⟩, .int .i64 0, .int .i64 0, .int .i64 0, .slice none 0 0, .slice none 0 0, .slice none 0 0] 34))); have nc2 := World.new_ne w2 ⟨C, 0, none⟩ kc; have nb2 := World.new_ne w2 ⟨w.heap.size, 0, none⟩ k0; clear hb))
  all_goals go_wp2
  all_goals go_ret
  all_goals first | (have _t := HZ2; exact ⟨rfl, below_set7 hle1 HO2.out.1.1.1⟩) | exact ⟨rfl, HO2.out.1.1.1.trans ((boxB _ _).mono hle2)⟩

theorem len_run {w : World} {B C M : Nat} {L : List CV} (h : CatAt w B C M L) : (Builtin.len_ #[72] 3 #[.map (some M)]).run Tryz.prog w = .ok (.int .i64 (L.length : Nat)) w := by
  rw [h.2.1.len Tryz.underlying72 3]
  simp [Maps.size]
/-- A map is no row. -/
theorem own_map {w w' : World} {B M : Nat} {e : TypeId} {z : Nat} {v : Value} {n : Nat} {xs : List Value} (h : w.ownsRow B e z v n xs) (hM : ∃ es cl, w.heap[M]? = some (.map es cl)) (hg : w.grownBy w' (some M)) : w'.ownsRow B e z v n xs := by
  refine own_of h fun g hv => hg.block g (h.lt g hv).2 fun e' => ?_
  obtain rfl := Option.some.inj e'
  obtain ⟨es, cl, hm⟩ := hM
  rcases h.2 with ⟨rfl, _⟩ | ⟨g1, cap, cur, rfl, _, hgg, _⟩
  · cases hv
  · cases hv
    rw [hm] at hgg
    cases hgg
theorem OwnD.map {w w' : World} {B M : Nat} {v : Value} {ps : List (Dp × Value)} (h : OwnD w B v ps) (hM : ∃ es cl, w.heap[M]? = some (.map es cl)) (hg : w.grownBy w' (some M)) : OwnD w' B v ps := ⟨own_map h.1 hM hg, fun p hp => own_map (h.2 p hp) hM hg⟩
theorem OwnG.map {w w' : World} {B M : Nat} {P : Pg} {v1 v2 v3 : Value} (h : OwnG w B P v1 v2 v3) (hM : ∃ es cl, w.heap[M]? = some (.map es cl)) (hg : w.grownBy w' (some M)) : OwnG w' B P v1 v2 v3 := by
  obtain ⟨q1, q2, q3, ⟨d1, m1⟩, ⟨d2, m2⟩, d3, m3⟩ := h
  exact ⟨q1, q2, q3, ⟨d1.map hM hg, m1⟩, ⟨d2.map hM hg, m2⟩, d3.map hM hg, m3⟩
/-- One more package in a catalog. -/
theorem CatAt.put {w w' : World} {B C M : Nat} {L : List CV} (h : CatAt w B C M L) {x : CV} (ho : OwnG w B x.pg x.u1 x.u2 x.u3) (hw : writtenB x.pg = true) (hk : KeyOk x.pg.nm x.pg.a x.pg.b x.pg.c) (hs : SmP x.pg) (hn : catC L x.pg.nm x.pg.a x.pg.b x.pg.c = none) (hm : w'.ownsMap Tryz.prog 58 heldR M (L.length + 1) ((DataW.map (L.map cvE)).put (keyC x) (.held (cvV x)))) (hg : w.grownBy w' (some M)) : ∃ L', L'.Perm (x :: L) ∧ CatAt w' B C M L' := by
  obtain ⟨L', e, hp⟩ := put_cv h.keys hk hn
  have hM : ∃ es cl, w.heap[M]? = some (.map es cl) := by
    obtain ⟨es, cl, h1, _⟩ := h.2.1
    exact ⟨es, cl, h1⟩
  refine ⟨L', hp, ⟨?_, Nat.lt_of_lt_of_le h.1.2.1 hg.size, h.1.2.2⟩, ?_, fun y hy => ?_, ?_⟩
  · rw [World.cell?_of_block (a := ⟨C, 0, none⟩) (hg.block C h.1.2.1 fun q => h.1.2.2 (Option.some.inj q).symm)]
    exact h.1.1
  · rw [hp.length_eq, List.length_cons, ← e]
    exact hm
  · rcases List.mem_cons.1 (hp.mem_iff.1 hy) with rfl | hy
    · exact ⟨⟨ho.map hM hg, hw⟩, hk, hs⟩
    · exact ⟨⟨(h.2.2.1 y hy).1.1.map hM hg, (h.2.2.1 y hy).1.2⟩, (h.2.2.1 y hy).2⟩
  · have hc : (x :: L).Pairwise fun x y => keyC x ≠ keyC y := by
      refine List.pairwise_cons.2 ⟨fun y hy q => ?_, h.2.2.2⟩
      have := List.find?_eq_none.1 hn y hy
      obtain ⟨e1, e2, e3, e4⟩ := keyP_inj hk.1 hk.2.1 hk.2.2.1 hk.2.2.2 (h.keys y hy).1 (h.keys y hy).2.1 (h.keys y hy).2.2.1 (h.keys y hy).2.2.2 q
      exact this (decide_eq_true ⟨e1.symm, e2.symm, e3.symm, e4.symm⟩)
    exact (hp.pairwise_iff (fun q e => q e.symm)).2 hc
theorem small_may {D : List Dp} (h : mayD D = true) : SmD D := by
  obtain ⟨h1, h2⟩ := short_may h
  refine ⟨by omega, fun d hd => ⟨by have := h2 d hd; omega, ?_⟩⟩
  have hr : ∀ (q : Option ByteArray) (E : List Dp), riseD q E = true → ∀ d ∈ E, rangeB d.rg = true := by
    intro q E
    induction E generalizing q with
    | nil => intro _ d hd; cases hd
    | cons x r ih =>
      intro he d hd
      simp only [riseD, Bool.and_eq_true] at he
      rcases List.mem_cons.1 hd with rfl | hd
      · exact he.1.2
      · exact ih _ he.2 d hd
  have hm := hr none D (by simp only [mayD, Bool.and_eq_true] at h; exact h.2) d hd
  simp only [rangeB, Bool.and_eq_true] at hm
  obtain ⟨A, e, _, hl⟩ := may_iff.1 hm.2
  rw [e, List.length_map]
  omega
theorem small_written {P : Pg} (h : writtenB P = true) : SmP P := by
  unfold writtenB soundB at h
  simp only [Bool.and_eq_true] at h
  obtain ⟨⟨⟨⟨hn, _⟩, hd, hp, ho⟩, _⟩, _⟩ := h
  refine ⟨?_, small_may hd, small_may hp, small_may ho⟩
  unfold Sc.nameA at hn
  simp only [Bool.and_eq_true, decide_eq_true_eq] at hn
  have e : P.nm.size = P.nm.data.toList.length := by rw [Array.length_toList]; rfl
  rw [e]
  omega

set_option maxHeartbeats 3200000 in
theorem put_full {w : World} {B C M : Nat} {L : List CV} (h : CatAt w B C M L) {P : Pg} {v1 v2 v3 : Value} (hp : PgAt w P v1 v2 v3) (he : Env w) (hf : FL w) (hk : KeyOk P.nm P.a P.b P.c) (hw : writtenB P = true) (hx : catC L P.nm P.a P.b P.c = none) (hl : 128 ≤ L.length) : Calls Tryz.prog 10 #[.pointer (some ⟨C, 0, none⟩), .agg #[.string P.nm, .int .i64 P.a, .int .i64 P.b, .int .i64 P.c, v1, v2, v3]] w fun e w' => e = .returned (.int .i64 26) ∧ Below w.heap.size w w' := by
  have HMY : Hid (∀ W, PgAt W P v1 v2 v3 → Below w.heap.size w W → Calls Tryz.prog 33 #[.agg #[.string P.nm, .int .i64 P.a, .int .i64 P.b, .int .i64 P.c, v1, v2, v3]] W fun e w' => e = .returned (.bool (writtenB P)) ∧ Below W.heap.size W w') := fun W hw hb => pMay_any hw (he.below hb) (hf.below hb)
  obtain ⟨a1, c1, rfl⟩ := hp.1.sl
  obtain ⟨a2, c2, rfl⟩ := hp.2.1.sl
  obtain ⟨a3, c3, rfl⟩ := hp.2.2.sl
  generalize P.d.length = n1 at *
  generalize P.p.length = n2 at *
  generalize P.o.length = n3 at *
  have HKD : Hid (KeepP fun W => ((Below w.heap.size w W ∧ CatAt W B C M L) ∧ PgAt W P (.slice a1 n1 c1) (.slice a2 n2 c2) (.slice a3 n3 c3)) ∧ BxP W w.heap.size P.nm P.a P.b P.c (.slice a1 n1 c1) (.slice a2 n2 c2) (.slice a3 n3 c3)) := fun a b hx hab => ⟨⟨⟨below_then hx.1.1.1 hab, hx.1.1.2.below hab⟩, hx.1.2.below hab⟩, keepBxP _ _ _ _ _ _ _ _ _ _ hx.2 hab⟩
  have HO0 : Hid (((Below w.heap.size w (w.alloc (.cells #[.string P.nm, .int .i64 P.a, .int .i64 P.b, .int .i64 P.c, .slice a1 n1 c1, .slice a2 n2 c2, .slice a3 n3 c3] 34)) ∧ CatAt (w.alloc (.cells #[.string P.nm, .int .i64 P.a, .int .i64 P.b, .int .i64 P.c, .slice a1 n1 c1, .slice a2 n2 c2, .slice a3 n3 c3] 34)) B C M L) ∧ PgAt (w.alloc (.cells #[.string P.nm, .int .i64 P.a, .int .i64 P.b, .int .i64 P.c, .slice a1 n1 c1, .slice a2 n2 c2, .slice a3 n3 c3] 34)) P (.slice a1 n1 c1) (.slice a2 n2 c2) (.slice a3 n3 c3)) ∧ BxP (w.alloc (.cells #[.string P.nm, .int .i64 P.a, .int .i64 P.b, .int .i64 P.c, .slice a1 n1 c1, .slice a2 n2 c2, .slice a3 n3 c3] 34)) w.heap.size P.nm P.a P.b P.c (.slice a1 n1 c1) (.slice a2 n2 c2) (.slice a3 n3 c3)) := ⟨⟨⟨boxB _ _, h.below (boxB _ _)⟩, hp.below (boxB _ _)⟩, BxP.new rfl _ _ _ _ _ _ _⟩
  clear h hp he hf
  obtain ⟨k0, k1, k2, k3, k4, k5, k6, _⟩ := HO0.out.2
  rw [hw] at HMY
  clear hw
  have HLK : Hid (∀ W, CatAt W B C M L → (Instr.lookup 72 (.map (some M)) (.agg #[.string P.nm, .int .i64 P.a, .int .i64 P.b, .int .i64 P.c]) true).run Tryz.prog W = .ok (.tuple #[Value.agg #[.string ByteArray.empty, .int .i64 0, .int .i64 0, .int .i64 0, .slice none 0 0, .slice none 0 0, .slice none 0 0], .bool false]) W) := fun W hW => by
    have e := look_cat hW hk
    rw [gotV, hx] at e
    exact e
  have HKE : Hid (∀ W, Calls Tryz.prog 34 #[.agg #[.string P.nm, .int .i64 P.a, .int .i64 P.b, .int .i64 P.c, .slice a1 n1 c1, .slice a2 n2 c2, .slice a3 n3 c3]] W fun e w' => e = .returned (.agg #[.string P.nm, .int .i64 P.a, .int .i64 P.b, .int .i64 P.c]) ∧ Below W.heap.size W w') := fun W => key_any ⟨_, _, _, rfl⟩ ⟨_, _, _, rfl⟩ ⟨_, _, _, rfl⟩
  clear hx hk
  have hl2 : (128 : Int) ≤ (L.length : Int) := by omega
  go_enter Tryz.func10, Tryz.ntmps10
  go_wp2_with (go_at_call 33; refine (HMY.out _ HO0.out.1.2 HO0.out.1.1.1).mono ?_; rintro e w1 ⟨rfl, hb⟩; have HO1 := hide3 (HKD.out _ _ HO0.out hb); clear hb k0 k1 k2 k3 k4 k5 k6; obtain ⟨k0, k1, k2, k3, k4, k5, k6, _⟩ := HO1.out.2; have kc := HO1.out.1.1.2.1.1)
  have HOW := HO1
  have HKF : Hid (∀ a b, (((Below w.heap.size w a ∧ CatAt a B C M L) ∧ PgAt a P (.slice a1 n1 c1) (.slice a2 n2 c2) (.slice a3 n3 c3)) ∧ BxP a w.heap.size P.nm P.a P.b P.c (.slice a1 n1 c1) (.slice a2 n2 c2) (.slice a3 n3 c3)) → Below a.heap.size a b → ((Below w.heap.size w b ∧ CatAt b B C M L) ∧ PgAt b P (.slice a1 n1 c1) (.slice a2 n2 c2) (.slice a3 n3 c3)) ∧ BxP b w.heap.size P.nm P.a P.b P.c (.slice a1 n1 c1) (.slice a2 n2 c2) (.slice a3 n3 c3)) := fun a b => HKD.out a b
  have HOA : Hid (((Below w.heap.size w (w1.alloc (.cells #[.string ⟨#[]⟩, .int .i64 0, .int .i64 0, .int .i64 0, .slice none 0 0, .slice none 0 0, .slice none 0 0] 34)).drew ∧ CatAt (w1.alloc (.cells #[.string ⟨#[]⟩, .int .i64 0, .int .i64 0, .int .i64 0, .slice none 0 0, .slice none 0 0, .slice none 0 0] 34)).drew B C M L) ∧ PgAt (w1.alloc (.cells #[.string ⟨#[]⟩, .int .i64 0, .int .i64 0, .int .i64 0, .slice none 0 0, .slice none 0 0, .slice none 0 0] 34)).drew P (.slice a1 n1 c1) (.slice a2 n2 c2) (.slice a3 n3 c3)) ∧ BxP (w1.alloc (.cells #[.string ⟨#[]⟩, .int .i64 0, .int .i64 0, .int .i64 0, .slice none 0 0, .slice none 0 0, .slice none 0 0] 34)).drew w.heap.size P.nm P.a P.b P.c (.slice a1 n1 c1) (.slice a2 n2 c2) (.slice a3 n3 c3)) := HKD.out _ _ (HKD.out _ _ HO1.out (boxB _ _)) (Below.refl _ _).drew
  have HZF : Hid (∀ b, Below (w1.alloc (.cells #[.string ⟨#[]⟩, .int .i64 0, .int .i64 0, .int .i64 0, .slice none 0 0, .slice none 0 0, .slice none 0 0] 34)).drew.heap.size (w1.alloc (.cells #[.string ⟨#[]⟩, .int .i64 0, .int .i64 0, .int .i64 0, .slice none 0 0, .slice none 0 0, .slice none 0 0] 34)).drew b → BxPF b w1.heap.size ⟨#[]⟩ 0 0 0 (.slice none 0 0) (.slice none 0 0) (.slice none 0 0)) := fun b hb => keepBxPF _ _ _ _ _ _ _ _ _ _ (keepBxPF _ _ _ _ _ _ _ _ _ _ (BxPF.new rfl _ _ _ _ _ _ _) (Below.refl _ _).drew) hb
  have HO1 := hide3 (HKD.out _ _ HO1.out (Below.refl _ _).drew)
  have hle1 : w.heap.size ≤ w1.heap.size := HO1.out.1.1.1.size
  have nc := World.new_ne w1 ⟨C, 0, none⟩ kc
  have nb0 := World.new_ne w1 ⟨w.heap.size, 0, none⟩ k0
  go_region_held3 (fun w' => w'.cell? ⟨C, 0, none⟩ = some (.map (some M)) ∧ w'.cell? ⟨w.heap.size, 0, none⟩ = some (.string P.nm) ∧ w'.cell? ⟨w.heap.size, 1, none⟩ = some (.int .i64 P.a) ∧ w'.cell? ⟨w.heap.size, 2, none⟩ = some (.int .i64 P.b) ∧ w'.cell? ⟨w.heap.size, 3, none⟩ = some (.int .i64 P.c) ∧ w'.cell? ⟨w.heap.size, 4, none⟩ = some (.slice a1 n1 c1) ∧ w'.cell? ⟨w.heap.size, 5, none⟩ = some (.slice a2 n2 c2) ∧ w'.cell? ⟨w.heap.size, 6, none⟩ = some (.slice a3 n3 c3)) (go_keep) (first
    | (go_at_call 34; refine (HKE.out _).mono ?_; rintro e w2 ⟨rfl, hb⟩; have HO2 : Hid (((Below w.heap.size w w2 ∧ CatAt w2 B C M L) ∧ PgAt w2 P (.slice a1 n1 c1) (.slice a2 n2 c2) (.slice a3 n3 c3)) ∧ BxP w2 w.heap.size P.nm P.a P.b P.c (.slice a1 n1 c1) (.slice a2 n2 c2) (.slice a3 n3 c3)) := (by with_reducible exact hide3 (HKF.out _ _ HOA.out hb)); have HZ2 := hide3 (HZF.out _ hb); have HB12 : Hid (Below w1.heap.size w1 w2) := below_then ((boxB _ _).drew) hb; obtain ⟨⟨r0, r1, r2, r3, r4, r5, r6, r7⟩, hfz⟩ := HZ2.out; have f0 := hfz 0 (by decide); have f1 := hfz 1 (by decide); have f2 := hfz 2 (by decide); have f3 := hfz 3 (by decide); have f4 := hfz 4 (by decide); have f5 := hfz 5 (by decide); have f6 := hfz 6 (by decide); clear hfz; have hle2 : w.heap.size ≤ w2.heap.size := HO2.out.1.1.1.size; obtain ⟨k0, k1, k2, k3, k4, k5, k6, _⟩ := HO2.out.2; have kc := HO2.out.1.1.2.1.1; have l1 := HLK.out _ HO2.out.1.1.2; clear hb)
    | (go_at_call 34; refine (HKE.out _).mono ?_; rintro e w2 ⟨rfl, hb⟩; have HO2 : Hid (((Below w.heap.size w w2 ∧ CatAt w2 B C M L) ∧ PgAt w2 P (.slice a1 n1 c1) (.slice a2 n2 c2) (.slice a3 n3 c3)) ∧ BxP w2 w.heap.size P.nm P.a P.b P.c (.slice a1 n1 c1) (.slice a2 n2 c2) (.slice a3 n3 c3)) := (by with_reducible exact hide3 (HKF.out _ _ HO1.out hb)); have hle2 : w.heap.size ≤ w2.heap.size := HO2.out.1.1.1.size; obtain ⟨k0, k1, k2, k3, k4, k5, k6, _⟩ := HO2.out.2; have kc := HO2.out.1.1.2.1.1; have l1 := HLK.out _ HO2.out.1.1.2; have l2 := HLK.out _ (HO2.out.1.1.2.below (boxB w2 (.cells #[.string ⟨#[]⟩, .int .i64 0, .int .i64 0, .int .i64 0, .slice none 0 0, .slice none 0 0, .slice none 0 0] 34))); have nc2 := World.new_ne w2 ⟨C, 0, none⟩ kc; have nb2 := World.new_ne w2 ⟨w.heap.size, 0, none⟩ k0; clear hb))
  all_goals first
    | (have _t := HZ2; have HO3 : Hid (((Below w.heap.size w (((((((w2.setCell ⟨w1.heap.size, 0, none⟩ (.string ByteArray.empty)).setCell ⟨w1.heap.size, 1, none⟩ (.int .i64 0)).setCell ⟨w1.heap.size, 2, none⟩ (.int .i64 0)).setCell ⟨w1.heap.size, 3, none⟩ (.int .i64 0)).setCell ⟨w1.heap.size, 4, none⟩ (.slice none 0 0)).setCell ⟨w1.heap.size, 5, none⟩ (.slice none 0 0)).setCell ⟨w1.heap.size, 6, none⟩ (.slice none 0 0)) ∧ CatAt (((((((w2.setCell ⟨w1.heap.size, 0, none⟩ (.string ByteArray.empty)).setCell ⟨w1.heap.size, 1, none⟩ (.int .i64 0)).setCell ⟨w1.heap.size, 2, none⟩ (.int .i64 0)).setCell ⟨w1.heap.size, 3, none⟩ (.int .i64 0)).setCell ⟨w1.heap.size, 4, none⟩ (.slice none 0 0)).setCell ⟨w1.heap.size, 5, none⟩ (.slice none 0 0)).setCell ⟨w1.heap.size, 6, none⟩ (.slice none 0 0)) B C M L) ∧ PgAt (((((((w2.setCell ⟨w1.heap.size, 0, none⟩ (.string ByteArray.empty)).setCell ⟨w1.heap.size, 1, none⟩ (.int .i64 0)).setCell ⟨w1.heap.size, 2, none⟩ (.int .i64 0)).setCell ⟨w1.heap.size, 3, none⟩ (.int .i64 0)).setCell ⟨w1.heap.size, 4, none⟩ (.slice none 0 0)).setCell ⟨w1.heap.size, 5, none⟩ (.slice none 0 0)).setCell ⟨w1.heap.size, 6, none⟩ (.slice none 0 0)) P (.slice a1 n1 c1) (.slice a2 n2 c2) (.slice a3 n3 c3)) ∧ BxP (((((((w2.setCell ⟨w1.heap.size, 0, none⟩ (.string ByteArray.empty)).setCell ⟨w1.heap.size, 1, none⟩ (.int .i64 0)).setCell ⟨w1.heap.size, 2, none⟩ (.int .i64 0)).setCell ⟨w1.heap.size, 3, none⟩ (.int .i64 0)).setCell ⟨w1.heap.size, 4, none⟩ (.slice none 0 0)).setCell ⟨w1.heap.size, 5, none⟩ (.slice none 0 0)).setCell ⟨w1.heap.size, 6, none⟩ (.slice none 0 0)) w.heap.size P.nm P.a P.b P.c (.slice a1 n1 c1) (.slice a2 n2 c2) (.slice a3 n3 c3)) := HKD.out _ _ HOW.out (below_set7 (Nat.le_refl _) HB12.out); clear _t HZ2 r0 r1 r2 r3 r4 r5 r6 r7 f0 f1 f2 f3 f4 f5 f6 l1 k0 k1 k2 k3 k4 k5 k6 kc; generalize (((((((w2.setCell ⟨w1.heap.size, 0, none⟩ (.string ByteArray.empty)).setCell ⟨w1.heap.size, 1, none⟩ (.int .i64 0)).setCell ⟨w1.heap.size, 2, none⟩ (.int .i64 0)).setCell ⟨w1.heap.size, 3, none⟩ (.int .i64 0)).setCell ⟨w1.heap.size, 4, none⟩ (.slice none 0 0)).setCell ⟨w1.heap.size, 5, none⟩ (.slice none 0 0)).setCell ⟨w1.heap.size, 6, none⟩ (.slice none 0 0)) = W3 at *)
    | (have HO3 : Hid (((Below w.heap.size w (w2.alloc (.cells #[.string ByteArray.empty, .int .i64 0, .int .i64 0, .int .i64 0, .slice none 0 0, .slice none 0 0, .slice none 0 0] 34)) ∧ CatAt (w2.alloc (.cells #[.string ByteArray.empty, .int .i64 0, .int .i64 0, .int .i64 0, .slice none 0 0, .slice none 0 0, .slice none 0 0] 34)) B C M L) ∧ PgAt (w2.alloc (.cells #[.string ByteArray.empty, .int .i64 0, .int .i64 0, .int .i64 0, .slice none 0 0, .slice none 0 0, .slice none 0 0] 34)) P (.slice a1 n1 c1) (.slice a2 n2 c2) (.slice a3 n3 c3)) ∧ BxP (w2.alloc (.cells #[.string ByteArray.empty, .int .i64 0, .int .i64 0, .int .i64 0, .slice none 0 0, .slice none 0 0, .slice none 0 0] 34)) w.heap.size P.nm P.a P.b P.c (.slice a1 n1 c1) (.slice a2 n2 c2) (.slice a3 n3 c3)) := HKD.out _ _ HO2.out (boxB _ _); clear l1 l2 k0 k1 k2 k3 k4 k5 k6 kc; generalize (w2.alloc (.cells #[.string ByteArray.empty, .int .i64 0, .int .i64 0, .int .i64 0, .slice none 0 0, .slice none 0 0, .slice none 0 0] 34)) = W3 at *)
  all_goals obtain ⟨k0, k1, k2, k3, k4, k5, k6, _⟩ := HO3.out.2
  all_goals have kc := HO3.out.1.1.2.1.1
  all_goals have hlr := len_run HO3.out.1.1.2
  all_goals go_wp2_with fail
  all_goals go_ret
  all_goals exact ⟨rfl, HO3.out.1.1.1⟩

set_option maxHeartbeats 6400000 in
theorem put_ok {w : World} {B C M : Nat} {L : List CV} (h : CatAt w B C M L) {P : Pg} {v1 v2 v3 : Value} (hp : PgAt w P v1 v2 v3) (he : Env w) (hf : FL w) (hB : B ≤ w.heap.size) (hk : KeyOk P.nm P.a P.b P.c) (hw : writtenB P = true) (hx : catC L P.nm P.a P.b P.c = none) (hl : L.length < 128) : Calls Tryz.prog 10 #[.pointer (some ⟨C, 0, none⟩), .agg #[.string P.nm, .int .i64 P.a, .int .i64 P.b, .int .i64 P.c, v1, v2, v3]] w fun e w' => e = .returned (.int .i64 0) ∧ ∃ u1 u2 u3 L', L'.Perm (⟨P, u1, u2, u3⟩ :: L) ∧ CatAt w' B C M L' ∧ w.grownBy w' (some M) := by
  have HSM := hide3 (small_written hw)
  have HWR := hide3 hw
  have HKY := hide3 hk
  have HNX := hide3 hx
  have HMY : Hid (∀ W, PgAt W P v1 v2 v3 → Below w.heap.size w W → Calls Tryz.prog 33 #[.agg #[.string P.nm, .int .i64 P.a, .int .i64 P.b, .int .i64 P.c, v1, v2, v3]] W fun e w' => e = .returned (.bool (writtenB P)) ∧ Below W.heap.size W w') := fun W hw hb => pMay_any hw (he.below hb) (hf.below hb)
  obtain ⟨a1, c1, rfl⟩ := hp.1.sl
  obtain ⟨a2, c2, rfl⟩ := hp.2.1.sl
  obtain ⟨a3, c3, rfl⟩ := hp.2.2.sl
  generalize P.d.length = n1 at *
  generalize P.p.length = n2 at *
  generalize P.o.length = n3 at *
  have HKD : Hid (KeepP fun W => ((Below w.heap.size w W ∧ CatAt W B C M L) ∧ PgAt W P (.slice a1 n1 c1) (.slice a2 n2 c2) (.slice a3 n3 c3)) ∧ BxP W w.heap.size P.nm P.a P.b P.c (.slice a1 n1 c1) (.slice a2 n2 c2) (.slice a3 n3 c3)) := fun a b hx hab => ⟨⟨⟨below_then hx.1.1.1 hab, hx.1.1.2.below hab⟩, hx.1.2.below hab⟩, keepBxP _ _ _ _ _ _ _ _ _ _ hx.2 hab⟩
  have HO0 : Hid (((Below w.heap.size w (w.alloc (.cells #[.string P.nm, .int .i64 P.a, .int .i64 P.b, .int .i64 P.c, .slice a1 n1 c1, .slice a2 n2 c2, .slice a3 n3 c3] 34)) ∧ CatAt (w.alloc (.cells #[.string P.nm, .int .i64 P.a, .int .i64 P.b, .int .i64 P.c, .slice a1 n1 c1, .slice a2 n2 c2, .slice a3 n3 c3] 34)) B C M L) ∧ PgAt (w.alloc (.cells #[.string P.nm, .int .i64 P.a, .int .i64 P.b, .int .i64 P.c, .slice a1 n1 c1, .slice a2 n2 c2, .slice a3 n3 c3] 34)) P (.slice a1 n1 c1) (.slice a2 n2 c2) (.slice a3 n3 c3)) ∧ BxP (w.alloc (.cells #[.string P.nm, .int .i64 P.a, .int .i64 P.b, .int .i64 P.c, .slice a1 n1 c1, .slice a2 n2 c2, .slice a3 n3 c3] 34)) w.heap.size P.nm P.a P.b P.c (.slice a1 n1 c1) (.slice a2 n2 c2) (.slice a3 n3 c3)) := ⟨⟨⟨boxB _ _, h.below (boxB _ _)⟩, hp.below (boxB _ _)⟩, BxP.new rfl _ _ _ _ _ _ _⟩
  clear h hp he hf
  obtain ⟨k0, k1, k2, k3, k4, k5, k6, _⟩ := HO0.out.2
  rw [hw] at HMY
  clear hw
  have HLK : Hid (∀ W, CatAt W B C M L → (Instr.lookup 72 (.map (some M)) (.agg #[.string P.nm, .int .i64 P.a, .int .i64 P.b, .int .i64 P.c]) true).run Tryz.prog W = .ok (.tuple #[Value.agg #[.string ByteArray.empty, .int .i64 0, .int .i64 0, .int .i64 0, .slice none 0 0, .slice none 0 0, .slice none 0 0], .bool false]) W) := fun W hW => by
    have e := look_cat hW hk
    rw [gotV, hx] at e
    exact e
  have HKE : Hid (∀ W, Calls Tryz.prog 34 #[.agg #[.string P.nm, .int .i64 P.a, .int .i64 P.b, .int .i64 P.c, .slice a1 n1 c1, .slice a2 n2 c2, .slice a3 n3 c3]] W fun e w' => e = .returned (.agg #[.string P.nm, .int .i64 P.a, .int .i64 P.b, .int .i64 P.c]) ∧ Below W.heap.size W w') := fun W => key_any ⟨_, _, _, rfl⟩ ⟨_, _, _, rfl⟩ ⟨_, _, _, rfl⟩
  clear hx hk
  have hl2 : ¬ (128 : Int) ≤ (L.length : Int) := by omega
  have HFIN : Hid (∀ w6 w7 x1 y1 z1 x2 y2 z2 x3 y3 z3, Below w.heap.size w w6 → CatAt w6 B C M L → OwnG w6 w.heap.size P (.slice x1 y1 z1) (.slice x2 y2 z2) (.slice x3 y3 z3) → w7.ownsMap Tryz.prog 58 heldR M (L.length + 1) ((DataW.map (L.map cvE)).put (keyP P.nm P.a P.b P.c) (.held (.agg #[.string P.nm, .int .i64 P.a, .int .i64 P.b, .int .i64 P.c, .slice x1 y1 z1, .slice x2 y2 z2, .slice x3 y3 z3]))) → w6.grownBy w7 (some M) → ∃ u1 u2 u3 L', L'.Perm (⟨P, u1, u2, u3⟩ :: L) ∧ CatAt w7 B C M L' ∧ w.grownBy w7 (some M)) := fun w6 w7 x1 y1 z1 x2 y2 z2 x3 y3 z3 hb hc ho hm hg => ⟨_, _, _, by
    obtain ⟨L', hp, hc'⟩ := hc.put (x := ⟨P, .slice x1 y1 z1, .slice x2 y2 z2, .slice x3 y3 z3⟩) (ho.base hB) HWR.out HKY.out HSM.out HNX.out hm hg
    exact ⟨L', hp, hc', grown_pre hb hg⟩⟩
  have HCP : Hid (∀ W, PgAt W P (.slice a1 n1 c1) (.slice a2 n2 c2) (.slice a3 n3 c3) → Calls Tryz.prog 35 #[.agg #[.string P.nm, .int .i64 P.a, .int .i64 P.b, .int .i64 P.c, .slice a1 n1 c1, .slice a2 n2 c2, .slice a3 n3 c3]] W fun e w' => ∃ u1 u2 u3, e = .returned (.agg #[.string P.nm, .int .i64 P.a, .int .i64 P.b, .int .i64 P.c, u1, u2, u3]) ∧ OwnG w' W.heap.size P u1 u2 u3 ∧ Below W.heap.size W w') := fun W hW => copied_any hW HSM.out
  go_enter Tryz.func10, Tryz.ntmps10
  go_wp2_with (go_at_call 33; refine (HMY.out _ HO0.out.1.2 HO0.out.1.1.1).mono ?_; rintro e w1 ⟨rfl, hb⟩; have HO1 := hide3 (HKD.out _ _ HO0.out hb); clear hb k0 k1 k2 k3 k4 k5 k6; obtain ⟨k0, k1, k2, k3, k4, k5, k6, _⟩ := HO1.out.2; have kc := HO1.out.1.1.2.1.1)
  have HOW := HO1
  have HKF : Hid (∀ a b, (((Below w.heap.size w a ∧ CatAt a B C M L) ∧ PgAt a P (.slice a1 n1 c1) (.slice a2 n2 c2) (.slice a3 n3 c3)) ∧ BxP a w.heap.size P.nm P.a P.b P.c (.slice a1 n1 c1) (.slice a2 n2 c2) (.slice a3 n3 c3)) → Below a.heap.size a b → ((Below w.heap.size w b ∧ CatAt b B C M L) ∧ PgAt b P (.slice a1 n1 c1) (.slice a2 n2 c2) (.slice a3 n3 c3)) ∧ BxP b w.heap.size P.nm P.a P.b P.c (.slice a1 n1 c1) (.slice a2 n2 c2) (.slice a3 n3 c3)) := fun a b => HKD.out a b
  have HOA : Hid (((Below w.heap.size w (w1.alloc (.cells #[.string ⟨#[]⟩, .int .i64 0, .int .i64 0, .int .i64 0, .slice none 0 0, .slice none 0 0, .slice none 0 0] 34)).drew ∧ CatAt (w1.alloc (.cells #[.string ⟨#[]⟩, .int .i64 0, .int .i64 0, .int .i64 0, .slice none 0 0, .slice none 0 0, .slice none 0 0] 34)).drew B C M L) ∧ PgAt (w1.alloc (.cells #[.string ⟨#[]⟩, .int .i64 0, .int .i64 0, .int .i64 0, .slice none 0 0, .slice none 0 0, .slice none 0 0] 34)).drew P (.slice a1 n1 c1) (.slice a2 n2 c2) (.slice a3 n3 c3)) ∧ BxP (w1.alloc (.cells #[.string ⟨#[]⟩, .int .i64 0, .int .i64 0, .int .i64 0, .slice none 0 0, .slice none 0 0, .slice none 0 0] 34)).drew w.heap.size P.nm P.a P.b P.c (.slice a1 n1 c1) (.slice a2 n2 c2) (.slice a3 n3 c3)) := HKD.out _ _ (HKD.out _ _ HO1.out (boxB _ _)) (Below.refl _ _).drew
  have HZF : Hid (∀ b, Below (w1.alloc (.cells #[.string ⟨#[]⟩, .int .i64 0, .int .i64 0, .int .i64 0, .slice none 0 0, .slice none 0 0, .slice none 0 0] 34)).drew.heap.size (w1.alloc (.cells #[.string ⟨#[]⟩, .int .i64 0, .int .i64 0, .int .i64 0, .slice none 0 0, .slice none 0 0, .slice none 0 0] 34)).drew b → BxPF b w1.heap.size ⟨#[]⟩ 0 0 0 (.slice none 0 0) (.slice none 0 0) (.slice none 0 0)) := fun b hb => keepBxPF _ _ _ _ _ _ _ _ _ _ (keepBxPF _ _ _ _ _ _ _ _ _ _ (BxPF.new rfl _ _ _ _ _ _ _) (Below.refl _ _).drew) hb
  have HO1 := hide3 (HKD.out _ _ HO1.out (Below.refl _ _).drew)
  have hle1 : w.heap.size ≤ w1.heap.size := HO1.out.1.1.1.size
  have nc := World.new_ne w1 ⟨C, 0, none⟩ kc
  have nb0 := World.new_ne w1 ⟨w.heap.size, 0, none⟩ k0
  go_region_held3 (fun w' => w'.cell? ⟨C, 0, none⟩ = some (.map (some M)) ∧ w'.cell? ⟨w.heap.size, 0, none⟩ = some (.string P.nm) ∧ w'.cell? ⟨w.heap.size, 1, none⟩ = some (.int .i64 P.a) ∧ w'.cell? ⟨w.heap.size, 2, none⟩ = some (.int .i64 P.b) ∧ w'.cell? ⟨w.heap.size, 3, none⟩ = some (.int .i64 P.c) ∧ w'.cell? ⟨w.heap.size, 4, none⟩ = some (.slice a1 n1 c1) ∧ w'.cell? ⟨w.heap.size, 5, none⟩ = some (.slice a2 n2 c2) ∧ w'.cell? ⟨w.heap.size, 6, none⟩ = some (.slice a3 n3 c3)) (go_keep) (first
    | (go_at_call 34; refine (HKE.out _).mono ?_; rintro e w2 ⟨rfl, hb⟩; have HO2 : Hid (((Below w.heap.size w w2 ∧ CatAt w2 B C M L) ∧ PgAt w2 P (.slice a1 n1 c1) (.slice a2 n2 c2) (.slice a3 n3 c3)) ∧ BxP w2 w.heap.size P.nm P.a P.b P.c (.slice a1 n1 c1) (.slice a2 n2 c2) (.slice a3 n3 c3)) := (by with_reducible exact hide3 (HKF.out _ _ HOA.out hb)); have HZ2 := hide3 (HZF.out _ hb); have HB12 : Hid (Below w1.heap.size w1 w2) := below_then ((boxB _ _).drew) hb; obtain ⟨⟨r0, r1, r2, r3, r4, r5, r6, r7⟩, hfz⟩ := HZ2.out; have f0 := hfz 0 (by decide); have f1 := hfz 1 (by decide); have f2 := hfz 2 (by decide); have f3 := hfz 3 (by decide); have f4 := hfz 4 (by decide); have f5 := hfz 5 (by decide); have f6 := hfz 6 (by decide); clear hfz; have hle2 : w.heap.size ≤ w2.heap.size := HO2.out.1.1.1.size; obtain ⟨k0, k1, k2, k3, k4, k5, k6, _⟩ := HO2.out.2; have kc := HO2.out.1.1.2.1.1; have l1 := HLK.out _ HO2.out.1.1.2; clear hb)
    | (go_at_call 34; refine (HKE.out _).mono ?_; rintro e w2 ⟨rfl, hb⟩; have HO2 : Hid (((Below w.heap.size w w2 ∧ CatAt w2 B C M L) ∧ PgAt w2 P (.slice a1 n1 c1) (.slice a2 n2 c2) (.slice a3 n3 c3)) ∧ BxP w2 w.heap.size P.nm P.a P.b P.c (.slice a1 n1 c1) (.slice a2 n2 c2) (.slice a3 n3 c3)) := (by with_reducible exact hide3 (HKF.out _ _ HO1.out hb)); have hle2 : w.heap.size ≤ w2.heap.size := HO2.out.1.1.1.size; obtain ⟨k0, k1, k2, k3, k4, k5, k6, _⟩ := HO2.out.2; have kc := HO2.out.1.1.2.1.1; have l1 := HLK.out _ HO2.out.1.1.2; have l2 := HLK.out _ (HO2.out.1.1.2.below (boxB w2 (.cells #[.string ⟨#[]⟩, .int .i64 0, .int .i64 0, .int .i64 0, .slice none 0 0, .slice none 0 0, .slice none 0 0] 34))); have nc2 := World.new_ne w2 ⟨C, 0, none⟩ kc; have nb2 := World.new_ne w2 ⟨w.heap.size, 0, none⟩ k0; clear hb))
  all_goals first
    | (have _t := HZ2; have HO3 : Hid (((Below w.heap.size w (((((((w2.setCell ⟨w1.heap.size, 0, none⟩ (.string ByteArray.empty)).setCell ⟨w1.heap.size, 1, none⟩ (.int .i64 0)).setCell ⟨w1.heap.size, 2, none⟩ (.int .i64 0)).setCell ⟨w1.heap.size, 3, none⟩ (.int .i64 0)).setCell ⟨w1.heap.size, 4, none⟩ (.slice none 0 0)).setCell ⟨w1.heap.size, 5, none⟩ (.slice none 0 0)).setCell ⟨w1.heap.size, 6, none⟩ (.slice none 0 0)) ∧ CatAt (((((((w2.setCell ⟨w1.heap.size, 0, none⟩ (.string ByteArray.empty)).setCell ⟨w1.heap.size, 1, none⟩ (.int .i64 0)).setCell ⟨w1.heap.size, 2, none⟩ (.int .i64 0)).setCell ⟨w1.heap.size, 3, none⟩ (.int .i64 0)).setCell ⟨w1.heap.size, 4, none⟩ (.slice none 0 0)).setCell ⟨w1.heap.size, 5, none⟩ (.slice none 0 0)).setCell ⟨w1.heap.size, 6, none⟩ (.slice none 0 0)) B C M L) ∧ PgAt (((((((w2.setCell ⟨w1.heap.size, 0, none⟩ (.string ByteArray.empty)).setCell ⟨w1.heap.size, 1, none⟩ (.int .i64 0)).setCell ⟨w1.heap.size, 2, none⟩ (.int .i64 0)).setCell ⟨w1.heap.size, 3, none⟩ (.int .i64 0)).setCell ⟨w1.heap.size, 4, none⟩ (.slice none 0 0)).setCell ⟨w1.heap.size, 5, none⟩ (.slice none 0 0)).setCell ⟨w1.heap.size, 6, none⟩ (.slice none 0 0)) P (.slice a1 n1 c1) (.slice a2 n2 c2) (.slice a3 n3 c3)) ∧ BxP (((((((w2.setCell ⟨w1.heap.size, 0, none⟩ (.string ByteArray.empty)).setCell ⟨w1.heap.size, 1, none⟩ (.int .i64 0)).setCell ⟨w1.heap.size, 2, none⟩ (.int .i64 0)).setCell ⟨w1.heap.size, 3, none⟩ (.int .i64 0)).setCell ⟨w1.heap.size, 4, none⟩ (.slice none 0 0)).setCell ⟨w1.heap.size, 5, none⟩ (.slice none 0 0)).setCell ⟨w1.heap.size, 6, none⟩ (.slice none 0 0)) w.heap.size P.nm P.a P.b P.c (.slice a1 n1 c1) (.slice a2 n2 c2) (.slice a3 n3 c3)) := HKD.out _ _ HOW.out (below_set7 (Nat.le_refl _) HB12.out); clear _t HZ2 r0 r1 r2 r3 r4 r5 r6 r7 f0 f1 f2 f3 f4 f5 f6 l1 k0 k1 k2 k3 k4 k5 k6 kc; generalize (((((((w2.setCell ⟨w1.heap.size, 0, none⟩ (.string ByteArray.empty)).setCell ⟨w1.heap.size, 1, none⟩ (.int .i64 0)).setCell ⟨w1.heap.size, 2, none⟩ (.int .i64 0)).setCell ⟨w1.heap.size, 3, none⟩ (.int .i64 0)).setCell ⟨w1.heap.size, 4, none⟩ (.slice none 0 0)).setCell ⟨w1.heap.size, 5, none⟩ (.slice none 0 0)).setCell ⟨w1.heap.size, 6, none⟩ (.slice none 0 0)) = W3 at *)
    | (have HO3 : Hid (((Below w.heap.size w (w2.alloc (.cells #[.string ByteArray.empty, .int .i64 0, .int .i64 0, .int .i64 0, .slice none 0 0, .slice none 0 0, .slice none 0 0] 34)) ∧ CatAt (w2.alloc (.cells #[.string ByteArray.empty, .int .i64 0, .int .i64 0, .int .i64 0, .slice none 0 0, .slice none 0 0, .slice none 0 0] 34)) B C M L) ∧ PgAt (w2.alloc (.cells #[.string ByteArray.empty, .int .i64 0, .int .i64 0, .int .i64 0, .slice none 0 0, .slice none 0 0, .slice none 0 0] 34)) P (.slice a1 n1 c1) (.slice a2 n2 c2) (.slice a3 n3 c3)) ∧ BxP (w2.alloc (.cells #[.string ByteArray.empty, .int .i64 0, .int .i64 0, .int .i64 0, .slice none 0 0, .slice none 0 0, .slice none 0 0] 34)) w.heap.size P.nm P.a P.b P.c (.slice a1 n1 c1) (.slice a2 n2 c2) (.slice a3 n3 c3)) := HKD.out _ _ HO2.out (boxB _ _); clear l1 l2 k0 k1 k2 k3 k4 k5 k6 kc; generalize (w2.alloc (.cells #[.string ByteArray.empty, .int .i64 0, .int .i64 0, .int .i64 0, .slice none 0 0, .slice none 0 0, .slice none 0 0] 34)) = W3 at *)
  all_goals obtain ⟨k0, k1, k2, k3, k4, k5, k6, _⟩ := HO3.out.2
  all_goals have kc := HO3.out.1.1.2.1.1
  all_goals have hlr := len_run HO3.out.1.1.2
  all_goals go_upto_region 9 with (go_at_call 35; refine (HCP.out _ HO3.out.1.2).mono ?_; rintro e w4 ⟨u1, u2, u3, rfl, ho, hb⟩; obtain ⟨x1, y1, z1, rfl⟩ := own_sl1 ho; obtain ⟨x2, y2, z2, rfl⟩ := own_sl2 ho; obtain ⟨x3, y3, z3, rfl⟩ := own_sl3 ho; have HO4 := hide3 (HKD.out _ _ HO3.out hb); have HG4 : Hid (OwnG w4 w.heap.size P (.slice x1 y1 z1) (.slice x2 y2 z2) (.slice x3 y3 z3)) := ho.base HO3.out.1.1.1.size; clear ho hb k0 k1 k2 k3 k4 k5 k6 kc)
  all_goals have HKE2 : Hid (∀ W, Calls Tryz.prog 34 #[.agg #[.string P.nm, .int .i64 P.a, .int .i64 P.b, .int .i64 P.c, .slice x1 y1 z1, .slice x2 y2 z2, .slice x3 y3 z3]] W fun e w' => e = .returned (.agg #[.string P.nm, .int .i64 P.a, .int .i64 P.b, .int .i64 P.c]) ∧ Below W.heap.size W w') := fun W => key_any ⟨_, _, _, rfl⟩ ⟨_, _, _, rfl⟩ ⟨_, _, _, rfl⟩
  all_goals have HEK : Hid (∀ a b, (((Below w.heap.size w a ∧ CatAt a B C M L) ∧ OwnG a w.heap.size P (.slice x1 y1 z1) (.slice x2 y2 z2) (.slice x3 y3 z3)) ∧ BxP a w4.heap.size P.nm P.a P.b P.c (.slice x1 y1 z1) (.slice x2 y2 z2) (.slice x3 y3 z3)) → Below a.heap.size a b → ((Below w.heap.size w b ∧ CatAt b B C M L) ∧ OwnG b w.heap.size P (.slice x1 y1 z1) (.slice x2 y2 z2) (.slice x3 y3 z3)) ∧ BxP b w4.heap.size P.nm P.a P.b P.c (.slice x1 y1 z1) (.slice x2 y2 z2) (.slice x3 y3 z3)) := fun a b hx hab => ⟨⟨⟨below_then hx.1.1.1 hab, hx.1.1.2.below hab⟩, hx.1.2.below hab⟩, keepBxP _ _ _ _ _ _ _ _ _ _ hx.2 hab⟩
  all_goals have HE5 : Hid (((Below w.heap.size w (w4.alloc (.cells #[.string P.nm, .int .i64 P.a, .int .i64 P.b, .int .i64 P.c, .slice x1 y1 z1, .slice x2 y2 z2, .slice x3 y3 z3] 34)).drew ∧ CatAt (w4.alloc (.cells #[.string P.nm, .int .i64 P.a, .int .i64 P.b, .int .i64 P.c, .slice x1 y1 z1, .slice x2 y2 z2, .slice x3 y3 z3] 34)).drew B C M L) ∧ OwnG (w4.alloc (.cells #[.string P.nm, .int .i64 P.a, .int .i64 P.b, .int .i64 P.c, .slice x1 y1 z1, .slice x2 y2 z2, .slice x3 y3 z3] 34)).drew w.heap.size P (.slice x1 y1 z1) (.slice x2 y2 z2) (.slice x3 y3 z3)) ∧ BxP (w4.alloc (.cells #[.string P.nm, .int .i64 P.a, .int .i64 P.b, .int .i64 P.c, .slice x1 y1 z1, .slice x2 y2 z2, .slice x3 y3 z3] 34)).drew w4.heap.size P.nm P.a P.b P.c (.slice x1 y1 z1) (.slice x2 y2 z2) (.slice x3 y3 z3)) := HEK.out _ _ (⟨⟨⟨below_then HO4.out.1.1.1 (boxB _ _), HO4.out.1.1.2.below (boxB _ _)⟩, HG4.out.below (boxB _ _)⟩, BxP.new rfl _ _ _ _ _ _ _⟩ : ((Below w.heap.size w (w4.alloc (.cells #[.string P.nm, .int .i64 P.a, .int .i64 P.b, .int .i64 P.c, .slice x1 y1 z1, .slice x2 y2 z2, .slice x3 y3 z3] 34)) ∧ CatAt (w4.alloc (.cells #[.string P.nm, .int .i64 P.a, .int .i64 P.b, .int .i64 P.c, .slice x1 y1 z1, .slice x2 y2 z2, .slice x3 y3 z3] 34)) B C M L) ∧ OwnG (w4.alloc (.cells #[.string P.nm, .int .i64 P.a, .int .i64 P.b, .int .i64 P.c, .slice x1 y1 z1, .slice x2 y2 z2, .slice x3 y3 z3] 34)) w.heap.size P (.slice x1 y1 z1) (.slice x2 y2 z2) (.slice x3 y3 z3)) ∧ BxP (w4.alloc (.cells #[.string P.nm, .int .i64 P.a, .int .i64 P.b, .int .i64 P.c, .slice x1 y1 z1, .slice x2 y2 z2, .slice x3 y3 z3] 34)) w4.heap.size P.nm P.a P.b P.c (.slice x1 y1 z1) (.slice x2 y2 z2) (.slice x3 y3 z3)) (Below.refl _ _).drew
  all_goals have hM4 : M < w4.heap.size := HO4.out.1.1.2.2.1.lt
  all_goals generalize (w4.alloc (.cells #[.string P.nm, .int .i64 P.a, .int .i64 P.b, .int .i64 P.c, .slice x1 y1 z1, .slice x2 y2 z2, .slice x3 y3 z3] 34)) = W5 at *
  all_goals obtain ⟨k0, k1, k2, k3, k4, k5, k6, _⟩ := HE5.out.2
  all_goals have kc := HE5.out.1.1.2.1.1
  all_goals clear HKE HCP HMY HLK hlr
  all_goals go_region_held3 (fun w' => w'.cell? ⟨C, 0, none⟩ = some (.map (some M)) ∧ w'.cell? ⟨w4.heap.size, 0, none⟩ = some (.string P.nm) ∧ w'.cell? ⟨w4.heap.size, 1, none⟩ = some (.int .i64 P.a) ∧ w'.cell? ⟨w4.heap.size, 2, none⟩ = some (.int .i64 P.b) ∧ w'.cell? ⟨w4.heap.size, 3, none⟩ = some (.int .i64 P.c) ∧ w'.cell? ⟨w4.heap.size, 4, none⟩ = some (.slice x1 y1 z1) ∧ w'.cell? ⟨w4.heap.size, 5, none⟩ = some (.slice x2 y2 z2) ∧ w'.cell? ⟨w4.heap.size, 6, none⟩ = some (.slice x3 y3 z3)) (go_keep) (first
    | (go_at_call 34; refine (HKE2.out _).mono ?_; rintro e w6 ⟨rfl, hb⟩; have HE6 := hide3 (HEK.out _ _ HE5.out hb); obtain ⟨k0, k1, k2, k3, k4, k5, k6, hlt6⟩ := HE6.out.2; have kc := HE6.out.1.1.2.1.1; obtain ⟨w7, hrun, hm, hg⟩ := HE6.out.1.1.2.2.1.update (e := 34) keyedPin Tryz.underlying72 (by unfold maxLen; omega) (keyOf_pin HKY.out.1 HKY.out.2.1 HKY.out.2.2.1 HKY.out.2.2.2) (val := .agg #[.string P.nm, .int .i64 P.a, .int .i64 P.b, .int .i64 P.c, .slice x1 y1 z1, .slice x2 y2 z2, .slice x3 y3 z3]) (show heldR (.agg #[.string P.nm, .int .i64 P.a, .int .i64 P.b, .int .i64 P.c, .slice x1 y1 z1, .slice x2 y2 z2, .slice x3 y3 z3]) = some (.held (.agg #[.string P.nm, .int .i64 P.a, .int .i64 P.b, .int .i64 P.c, .slice x1 y1 z1, .slice x2 y2 z2, .slice x3 y3 z3]), []) from rfl); unfold pinV at hrun; have hne : some w4.heap.size ≠ some M := (fun q => by have := Option.some.inj q; omega); have g0 := (World.cell?_of_block (a := ⟨w4.heap.size, 0, none⟩) (hg.block w4.heap.size hlt6 hne)).trans k0; have g1 := (World.cell?_of_block (a := ⟨w4.heap.size, 1, none⟩) (hg.block w4.heap.size hlt6 hne)).trans k1; have g2 := (World.cell?_of_block (a := ⟨w4.heap.size, 2, none⟩) (hg.block w4.heap.size hlt6 hne)).trans k2; have g3 := (World.cell?_of_block (a := ⟨w4.heap.size, 3, none⟩) (hg.block w4.heap.size hlt6 hne)).trans k3; have g4 := (World.cell?_of_block (a := ⟨w4.heap.size, 4, none⟩) (hg.block w4.heap.size hlt6 hne)).trans k4; have g5 := (World.cell?_of_block (a := ⟨w4.heap.size, 5, none⟩) (hg.block w4.heap.size hlt6 hne)).trans k5; have g6 := (World.cell?_of_block (a := ⟨w4.heap.size, 6, none⟩) (hg.block w4.heap.size hlt6 hne)).trans k6; have gc := (World.cell?_of_block (a := ⟨C, 0, none⟩) (hg.block C HE6.out.1.1.2.1.2.1 (fun q => HE6.out.1.1.2.1.2.2 (Option.some.inj q).symm))).trans kc; have HM7 := hide3 hm; have HG7 := hide3 hg; clear hb hm hg hne))
  all_goals go_wp2_with fail
  all_goals go_ret
  all_goals exact ⟨rfl, HFIN.out _ _ _ _ _ _ _ _ _ _ _ HE6.out.1.1.1 HE6.out.1.1.2 HE6.out.1.2 HM7.out HG7.out⟩
end Go.Proofs.YtjpmlagofcgheaaGreatDoor
namespace Go.Proofs.YtjpmlagofcgheaaGreatDoor
open Go.Shelf Go.RowKit Go.Lib Go.Sort
set_option maxRecDepth 100000

theorem greatest_gd (a b c x y z : Int) (w : World) :
    Calls Tryz.prog 40 #[.agg #[.int .i64 a, .int .i64 b, .int .i64 c], .agg #[.int .i64 x, .int .i64 y, .int .i64 z]] w fun e w' => e = .returned (.int .i64 (cmpV x y z a b c)) ∧ Gd w w' := by
  have HC : Hid (∀ W, Calls Tryz.prog 77 #[.agg #[.int .i64 x, .int .i64 y, .int .i64 z], .agg #[.int .i64 a, .int .i64 b, .int .i64 c]] W fun e w' => e = .returned (.int .i64 (cmpV x y z a b c)) ∧ Gd W w') := Compare_gd x y z a b c
  generalize cmpV x y z a b c = r at *
  go_enter Tryz.func40, Tryz.ntmps40
  go_wp2_with (go_at_call 77; refine (HC.out _).mono ?_; rintro e w' ⟨rfl, hb⟩)
  go_ret
  exact ⟨rfl, (Gd.box2 _ _ _).trans hb⟩

/-- A version. -/
structure Vn where
  a : Int
  b : Int
  c : Int
  deriving DecidableEq, Inhabited
def encV (x : Vn) : List Value := [.int .i64 x.a, .int .i64 x.b, .int .i64 x.c]
def cmpG (x y : Vn) : Int := cmpV y.a y.b y.c x.a x.b x.c
/-- The one is greater than the other. -/
def gtV (x y : Vn) : Bool := decide (y.a < x.a ∨ y.a = x.a ∧ (y.b < x.b ∨ y.b = x.b ∧ y.c < x.c))
theorem ltG (x y : Vn) : ltOf cmpG x y = gtV x y := by
  unfold ltOf cmpG gtV cmpV
  grind
theorem gtV_iff {x y : Vn} : gtV x y = true ↔ (y.a < x.a ∨ y.a = x.a ∧ (y.b < x.b ∨ y.b = x.b ∧ y.c < x.c)) := by unfold gtV; rw [decide_eq_true_eq]
theorem gtV_no {x y : Vn} : gtV x y = false ↔ ¬ (y.a < x.a ∨ y.a = x.a ∧ (y.b < x.b ∨ y.b = x.b ∧ y.c < x.c)) := by unfold gtV; rw [decide_eq_false_iff_not]
theorem gtV_total {x y : Vn} (h1 : gtV x y = false) (h2 : gtV y x = false) : x = y := by
  rw [gtV_no] at h1 h2
  obtain ⟨a, b, c⟩ := x
  obtain ⟨a', b', c'⟩ := y
  simp only at h1 h2
  obtain rfl : a = a' := by omega
  obtain rfl : b = b' := by omega
  obtain rfl : c = c' := by omega
  rfl
theorem swoG : SWO (ltOf cmpG) where
  irrefl x := by rw [ltG, gtV_no]; omega
  trans x y z h1 h2 := by rw [ltG, gtV_iff] at *; omega
  ntrans x y z h1 h2 := by rw [ltG, gtV_no] at *; omega

/-- Versions in a row of one's own are sorted: the greatest first. -/
theorem sortV_any {w : World} {base : Nat} {v : Value} {fs : List Vn} (hown : w.ownsRow base 31 3 v fs.length (fs.flatMap encV)) (hz : fs.length ≤ 1000000000) :
    Calls Tryz.prog 39 #[v, .func (.func 40) #[] #[]] w fun e w' => e = .returned (.tuple #[]) ∧ ∃ ts : List Vn, ts.Perm fs ∧ (ts.Pairwise fun x y => gtV y x = false) ∧ w'.ownsRow base 31 3 v ts.length (ts.flatMap encV) ∧ w.grownBy w' v.ownBlock := by
  have eg : ∀ args w, (callFunc 40 args).run Tryz.prog w = .ok (.enter 40 args) w := enters_of Tryz.func40 (by kernel_rfl) rfl
  have h := sort_own Tryz.sortV 3 (by decide) Tryz.isAgg31 Tryz.sizeOf31 encV (fun _ => rfl) (fun x v hv => by simp [encV] at hv; rcases hv with rfl | rfl | rfl <;> rfl) cmpG swoG 40 eg (fun x y W => greatest_gd _ _ _ _ _ _ W) hown (by omega)
  simp only [ltG] at h
  exact h
end Go.Proofs.YtjpmlagofcgheaaGreatDoor
