/- Ct29, Ct30, laid in one text. -/
import Derived.Deep.CutRange
import Derived.Test.YthlipnnlgkmhcaaGreatDoorMg20
namespace Go.Proofs.YthlipnnlgkmhcaaGreatDoor
open Go.RowKit Go.Maps Go.WideMaps
set_option maxRecDepth 100000

set_option maxHeartbeats 25600000 in
theorem catalogTries_walk {w : World} (he : Env w) (hf : FL w) {v0 : Value} {Ps : List Pg} (hps : PgsAt w v0 Ps) (hpz : Ps.length ≤ 9223372036854775807) (s : ByteArray) (a b c : Int) {al ap : Option Addr} {nl cl cp : Nat} {R : List Sp} {ps : List Pn} (hra : SpansC w (.slice al nl cl) R) (hpp : PinsAt w (.slice ap ps.length cp) ps) (hpl : ps.length ≤ 9223372036854775807) (hpi : ∀ p ∈ ps, I64 p.a ∧ I64 p.b ∧ I64 p.c) :
    Calls Tryz.prog 4 #[v0, .agg #[.string s, .int .i64 a, .int .i64 b, .int .i64 c, .slice al nl cl, .slice ap ps.length cp]] w fun e w' => e = .returned (.bool true) ∧ Below w.heap.size w w' := by
  obtain ⟨ad0, cap0, rfl, hel⟩ := hps.sl
  have HEL := hide3 hel
  have HRA := hide3 hra
  have HPP := hide3 hpp
  have HB0 : Hid (Below w.heap.size w (w.alloc (.cells #[.string s, .int .i64 a, .int .i64 b, .int .i64 c, .slice al nl cl, .slice ap ps.length cp] 42))) := boxB _ _
  have HNW : Hid (Calls Tryz.prog 8 #[] (w.alloc (.cells #[.string s, .int .i64 a, .int .i64 b, .int .i64 c, .slice al nl cl, .slice ap ps.length cp] 42)) fun e w' => e = .returned (.pointer (some ⟨(w.alloc (.cells #[.string s, .int .i64 a, .int .i64 b, .int .i64 c, .slice al nl cl, .slice ap ps.length cp] 42)).heap.size + 1, 0, none⟩)) ∧ w' = (((w.alloc (.cells #[.string s, .int .i64 a, .int .i64 b, .int .i64 c, .slice al nl cl, .slice ap ps.length cp] 42)).alloc (.map #[] 0)).alloc (.cells #[.map (some (w.alloc (.cells #[.string s, .int .i64 a, .int .i64 b, .int .i64 c, .slice al nl cl, .slice ap ps.length cp] 42)).heap.size)] 68))) := new_any _
  have HC1 : Hid (CatAt (((w.alloc (.cells #[.string s, .int .i64 a, .int .i64 b, .int .i64 c, .slice al nl cl, .slice ap ps.length cp] 42)).alloc (.map #[] 0)).alloc (.cells #[.map (some (w.alloc (.cells #[.string s, .int .i64 a, .int .i64 b, .int .i64 c, .slice al nl cl, .slice ap ps.length cp] 42)).heap.size)] 68)) w.heap.size ((w.alloc (.cells #[.string s, .int .i64 a, .int .i64 b, .int .i64 c, .slice al nl cl, .slice ap ps.length cp] 42)).heap.size + 1) (w.alloc (.cells #[.string s, .int .i64 a, .int .i64 b, .int .i64 c, .slice al nl cl, .slice ap ps.length cp] 42)).heap.size []) := CatAt.new _ _
  have hs0 : (w.alloc (.cells #[.string s, .int .i64 a, .int .i64 b, .int .i64 c, .slice al nl cl, .slice ap ps.length cp] 42)).heap.size = w.heap.size + 1 := by simp
  rw [hs0] at HNW HC1
  have HB1 : Hid (Below w.heap.size w (((w.alloc (.cells #[.string s, .int .i64 a, .int .i64 b, .int .i64 c, .slice al nl cl, .slice ap ps.length cp] 42)).alloc (.map #[] 0)).alloc (.cells #[.map (some (w.heap.size + 1))] 68))) := below_then HB0.out (boxB2 _ _ _)
  have HA1 : Hid (((((w.alloc (.cells #[.string s, .int .i64 a, .int .i64 b, .int .i64 c, .slice al nl cl, .slice ap ps.length cp] 42)).alloc (.map #[] 0)).alloc (.cells #[.map (some (w.heap.size + 1))] 68)).cell? ⟨w.heap.size, 0, none⟩ = some (.string s) ∧ (((w.alloc (.cells #[.string s, .int .i64 a, .int .i64 b, .int .i64 c, .slice al nl cl, .slice ap ps.length cp] 42)).alloc (.map #[] 0)).alloc (.cells #[.map (some (w.heap.size + 1))] 68)).cell? ⟨w.heap.size, 4, none⟩ = some (.slice al nl cl) ∧ (((w.alloc (.cells #[.string s, .int .i64 a, .int .i64 b, .int .i64 c, .slice al nl cl, .slice ap ps.length cp] 42)).alloc (.map #[] 0)).alloc (.cells #[.map (some (w.heap.size + 1))] 68)).cell? ⟨w.heap.size, 5, none⟩ = some (.slice ap ps.length cp) ∧ w.heap.size < (((w.alloc (.cells #[.string s, .int .i64 a, .int .i64 b, .int .i64 c, .slice al nl cl, .slice ap ps.length cp] 42)).alloc (.map #[] 0)).alloc (.cells #[.map (some (w.heap.size + 1))] 68)).heap.size)) := ⟨((boxB2 (w.alloc (.cells #[.string s, .int .i64 a, .int .i64 b, .int .i64 c, .slice al nl cl, .slice ap ps.length cp] 42)) _ _).cell (p := ⟨w.heap.size, 0, none⟩) (by simp)).trans (by simp), ((boxB2 (w.alloc (.cells #[.string s, .int .i64 a, .int .i64 b, .int .i64 c, .slice al nl cl, .slice ap ps.length cp] 42)) _ _).cell (p := ⟨w.heap.size, 4, none⟩) (by simp)).trans (by simp), ((boxB2 (w.alloc (.cells #[.string s, .int .i64 a, .int .i64 b, .int .i64 c, .slice al nl cl, .slice ap ps.length cp] 42)) _ _).cell (p := ⟨w.heap.size, 5, none⟩) (by simp)).trans (by simp), by simp; omega⟩
  have HKN : Hid (Calls Tryz.prog 9 #[] (((w.alloc (.cells #[.string s, .int .i64 a, .int .i64 b, .int .i64 c, .slice al nl cl, .slice ap ps.length cp] 42)).alloc (.map #[] 0)).alloc (.cells #[.map (some (w.heap.size + 1))] 68)) fun e w' => e = .returned (.bool true) ∧ Below (((w.alloc (.cells #[.string s, .int .i64 a, .int .i64 b, .int .i64 c, .slice al nl cl, .slice ap ps.length cp] 42)).alloc (.map #[] 0)).alloc (.cells #[.map (some (w.heap.size + 1))] 68)).heap.size (((w.alloc (.cells #[.string s, .int .i64 a, .int .i64 b, .int .i64 c, .slice al nl cl, .slice ap ps.length cp] 42)).alloc (.map #[] 0)).alloc (.cells #[.map (some (w.heap.size + 1))] 68)) w') := known_ct (he.below HB1.out) (hf.below HB1.out)
  have HKE : Hid (∀ a b (L : List CV), (((CatAt a w.heap.size (w.heap.size + 2) (w.heap.size + 1) L ∧ L.length ≤ 128) ∧ Below w.heap.size w a) ∧ (a.cell? ⟨w.heap.size, 0, none⟩ = some (.string s) ∧ a.cell? ⟨w.heap.size, 4, none⟩ = some (.slice al nl cl) ∧ a.cell? ⟨w.heap.size, 5, none⟩ = some (.slice ap ps.length cp) ∧ w.heap.size < a.heap.size)) → Below a.heap.size a b → ((CatAt b w.heap.size (w.heap.size + 2) (w.heap.size + 1) L ∧ L.length ≤ 128) ∧ Below w.heap.size w b) ∧ (b.cell? ⟨w.heap.size, 0, none⟩ = some (.string s) ∧ b.cell? ⟨w.heap.size, 4, none⟩ = some (.slice al nl cl) ∧ b.cell? ⟨w.heap.size, 5, none⟩ = some (.slice ap ps.length cp) ∧ w.heap.size < b.heap.size)) := fun a b L hx hab => ⟨⟨⟨hx.1.1.1.below hab, hx.1.1.2⟩, below_then hx.1.2 hab⟩, (hab.cell (p := ⟨w.heap.size, 0, none⟩) hx.2.2.2.2).trans hx.2.1, (hab.cell (p := ⟨w.heap.size, 4, none⟩) hx.2.2.2.2).trans hx.2.2.1, (hab.cell (p := ⟨w.heap.size, 5, none⟩) hx.2.2.2.2).trans hx.2.2.2.1, Nat.lt_of_lt_of_le hx.2.2.2.2 hab.size⟩
  have HK1 : Hid (((CatAt (((w.alloc (.cells #[.string s, .int .i64 a, .int .i64 b, .int .i64 c, .slice al nl cl, .slice ap ps.length cp] 42)).alloc (.map #[] 0)).alloc (.cells #[.map (some (w.heap.size + 1))] 68)) w.heap.size (w.heap.size + 2) (w.heap.size + 1) ([] : List CV) ∧ ([] : List CV).length ≤ 128) ∧ Below w.heap.size w (((w.alloc (.cells #[.string s, .int .i64 a, .int .i64 b, .int .i64 c, .slice al nl cl, .slice ap ps.length cp] 42)).alloc (.map #[] 0)).alloc (.cells #[.map (some (w.heap.size + 1))] 68))) ∧ ((((w.alloc (.cells #[.string s, .int .i64 a, .int .i64 b, .int .i64 c, .slice al nl cl, .slice ap ps.length cp] 42)).alloc (.map #[] 0)).alloc (.cells #[.map (some (w.heap.size + 1))] 68)).cell? ⟨w.heap.size, 0, none⟩ = some (.string s) ∧ (((w.alloc (.cells #[.string s, .int .i64 a, .int .i64 b, .int .i64 c, .slice al nl cl, .slice ap ps.length cp] 42)).alloc (.map #[] 0)).alloc (.cells #[.map (some (w.heap.size + 1))] 68)).cell? ⟨w.heap.size, 4, none⟩ = some (.slice al nl cl) ∧ (((w.alloc (.cells #[.string s, .int .i64 a, .int .i64 b, .int .i64 c, .slice al nl cl, .slice ap ps.length cp] 42)).alloc (.map #[] 0)).alloc (.cells #[.map (some (w.heap.size + 1))] 68)).cell? ⟨w.heap.size, 5, none⟩ = some (.slice ap ps.length cp) ∧ w.heap.size < (((w.alloc (.cells #[.string s, .int .i64 a, .int .i64 b, .int .i64 c, .slice al nl cl, .slice ap ps.length cp] 42)).alloc (.map #[] 0)).alloc (.cells #[.map (some (w.heap.size + 1))] 68)).heap.size)) := ⟨⟨⟨HC1.out, by decide⟩, HB1.out⟩, HA1.out⟩
  have HPA : Hid (∀ (W : World) (L : List CV) (P : Pg) (v1 v2 v3 : Value), (((CatAt W w.heap.size (w.heap.size + 2) (w.heap.size + 1) L ∧ L.length ≤ 128) ∧ Below w.heap.size w W) ∧ (W.cell? ⟨w.heap.size, 0, none⟩ = some (.string s) ∧ W.cell? ⟨w.heap.size, 4, none⟩ = some (.slice al nl cl) ∧ W.cell? ⟨w.heap.size, 5, none⟩ = some (.slice ap ps.length cp) ∧ w.heap.size < W.heap.size)) → PgAt W P v1 v2 v3 → Calls Tryz.prog 11 #[.pointer (some ⟨w.heap.size + 2, 0, none⟩), .agg #[.string P.nm, .int .i64 P.a, .int .i64 P.b, .int .i64 P.c, v1, v2, v3]] W fun e w' => ∃ r L', e = .returned (.int .i64 r) ∧ (((CatAt w' w.heap.size (w.heap.size + 2) (w.heap.size + 1) L' ∧ L'.length ≤ 128) ∧ Below w.heap.size w w') ∧ (w'.cell? ⟨w.heap.size, 0, none⟩ = some (.string s) ∧ w'.cell? ⟨w.heap.size, 4, none⟩ = some (.slice al nl cl) ∧ w'.cell? ⟨w.heap.size, 5, none⟩ = some (.slice ap ps.length cp) ∧ w.heap.size < w'.heap.size))) := fun W L P v1 v2 v3 hk hp => by
    refine (put_any hk.1.1.1 hk.1.2.size hk.1.1.2 hp (he.below hk.1.2) (hf.below hk.1.2)).mono ?_
    rintro e w' ⟨r, L', rfl, hc, hl, hg⟩
    have q : ∀ j, w'.cell? ⟨w.heap.size, j, none⟩ = W.cell? ⟨w.heap.size, j, none⟩ := fun j => World.cell?_of_block (a := ⟨w.heap.size, j, none⟩) (hg.block w.heap.size hk.2.2.2.2 (fun q => by have := Option.some.inj q; omega))
    exact ⟨r, L', rfl, ⟨⟨hc, hl⟩, hk.1.2.grown hg hk.1.2.size (fun j hj => by cases hj; omega)⟩, (q 0).trans hk.2.1, (q 4).trans hk.2.2.1, (q 5).trans hk.2.2.2.1, Nat.lt_of_lt_of_le hk.2.2.2.2 hg.size⟩
  clear hps hel hra hpp hs0
  go_enter Tryz.func4, Tryz.ntmps4
  go_wp2_with (first
    | (go_at_call 8; refine HNW.out.mono ?_; rintro e w1 ⟨rfl, rfl⟩; clear HNW)
    | (go_at_call 9; refine HKN.out.mono ?_; rintro e w2 ⟨rfl, hb⟩; have HK2 := hide3 (HKE.out _ _ _ HK1.out hb); clear hb HKN HK1))
  go_loopw [6] (fun vi wr => ∃ (i : Nat) (L : List CV), i ≤ Ps.length ∧ vi = .int .i64 i ∧ (((CatAt wr w.heap.size (w.heap.size + 2) (w.heap.size + 1) L ∧ L.length ≤ 128) ∧ Below w.heap.size w wr) ∧ (wr.cell? ⟨w.heap.size, 0, none⟩ = some (.string s) ∧ wr.cell? ⟨w.heap.size, 4, none⟩ = some (.slice al nl cl) ∧ wr.cell? ⟨w.heap.size, 5, none⟩ = some (.slice ap ps.length cp) ∧ w.heap.size < wr.heap.size))) (fun vi _ => Ps.length - (intOf vi).toNat)
  case atStart => exact ⟨0, [], Nat.zero_le _, rfl, HK2.out⟩
  case round =>
    obtain ⟨i, L, hi, rfl, hk⟩ := hrel
    have HK := hide3 hk
    obtain ⟨_, b0, e4, e5, hlt0⟩ := hk
    by_cases hlt : i < Ps.length
    · have hki : (i : Int) < (Ps.length : Int) := by omega
      obtain ⟨g, o, rfl, v1, v2, v3, ⟨c0, c1, c2, c3, c4, c5, c6⟩, hpg, hgl⟩ := HEL.out i hlt
      obtain ⟨P, hP⟩ : ∃ P, P = Ps[i] := ⟨_, rfl⟩
      rw [← hP] at c0 c1 c2 c3 hpg
      have d0 := (HK.out.1.2.cell (p := ⟨g, o + i * 7, none⟩) hgl).trans c0
      have d1 := (HK.out.1.2.cell (p := ⟨g, o + i * 7 + 1, none⟩) hgl).trans c1
      have d2 := (HK.out.1.2.cell (p := ⟨g, o + i * 7 + 2, none⟩) hgl).trans c2
      have d3 := (HK.out.1.2.cell (p := ⟨g, o + i * 7 + 3, none⟩) hgl).trans c3
      have d4 := (HK.out.1.2.cell (p := ⟨g, o + i * 7 + 4, none⟩) hgl).trans c4
      have d5 := (HK.out.1.2.cell (p := ⟨g, o + i * 7 + 5, none⟩) hgl).trans c5
      have d6 := (HK.out.1.2.cell (p := ⟨g, o + i * 7 + 6, none⟩) hgl).trans c6
      have HPG := hide3 (hpg.below HK.out.1.2)
      clear hP c0 c1 c2 c3 c4 c5 c6 hpg b0 e4 e5
      go_wp2_with (go_at_call 11; refine (HPA.out _ _ _ _ _ _ HK.out HPG.out).mono ?_; rintro e w4 ⟨r, L', rfl, hk4⟩; have HK4 := hide3 hk4; clear hk4)
      exact ⟨⟨i + 1, L', by omega, by go_num, HK4.out⟩, by simp [intOf]; omega⟩
    · obtain rfl : i = Ps.length := by omega
      have hki : ¬ ((Ps.length : Int) < (Ps.length : Int)) := by omega
      have HKD : Hid (∀ a b, (((CatAt a w.heap.size (w.heap.size + 2) (w.heap.size + 1) L ∧ L.length ≤ 128) ∧ Below w.heap.size w a) ∧ (a.cell? ⟨w.heap.size, 0, none⟩ = some (.string s) ∧ a.cell? ⟨w.heap.size, 4, none⟩ = some (.slice al nl cl) ∧ a.cell? ⟨w.heap.size, 5, none⟩ = some (.slice ap ps.length cp) ∧ w.heap.size < a.heap.size)) → Below a.heap.size a b → ((CatAt b w.heap.size (w.heap.size + 2) (w.heap.size + 1) L ∧ L.length ≤ 128) ∧ Below w.heap.size w b) ∧ (b.cell? ⟨w.heap.size, 0, none⟩ = some (.string s) ∧ b.cell? ⟨w.heap.size, 4, none⟩ = some (.slice al nl cl) ∧ b.cell? ⟨w.heap.size, 5, none⟩ = some (.slice ap ps.length cp) ∧ w.heap.size < b.heap.size)) := fun a b => HKE.out a b L
      have HCT : Hid (∃ ts, Told L s ts ∧ ts.length ≤ 128) := by
        obtain ⟨ts, hp, hs⟩ := told_any (L := L) s HK.out.1.1.1.2.2.2
        exact ⟨ts, ⟨hp, hs⟩, by rw [hp.length_eq]; exact Nat.le_trans (verL_len s L) HK.out.1.1.2⟩
      obtain ⟨ts, htd, htl⟩ := HCT.out
      have HTD := hide3 htd
      have HCN : Hid (∀ (W : World), (((CatAt W w.heap.size (w.heap.size + 2) (w.heap.size + 1) L ∧ L.length ≤ 128) ∧ Below w.heap.size w W) ∧ (W.cell? ⟨w.heap.size, 0, none⟩ = some (.string s) ∧ W.cell? ⟨w.heap.size, 4, none⟩ = some (.slice al nl cl) ∧ W.cell? ⟨w.heap.size, 5, none⟩ = some (.slice ap ps.length cp) ∧ w.heap.size < W.heap.size)) → Calls Tryz.prog 20 #[.pointer (some ⟨w.heap.size + 2, 0, none⟩), .string s, .slice al nl cl, .slice ap ps.length cp] W fun e w' => ∃ u, e = .returned u ∧ OwnV w' W.heap.size u (candV R s ps ts) ∧ Below W.heap.size W w') := fun W hk => by
        refine (cands_any hk.1.1.1 (Nat.le_trans hk.1.1.2 (by decide)) s (HRA.out.1.below hk.1.2) (HPP.out.below hk.1.2) hpl hpi).mono ?_
        rintro e w' ⟨u, us, rfl, ht, ho, hb⟩
        rw [ht.uniq HTD.out] at ho
        exact ⟨u, rfl, ho, hb⟩
      have HGE : Hid (∀ (W : World) (x : Vn), (((CatAt W w.heap.size (w.heap.size + 2) (w.heap.size + 1) L ∧ L.length ≤ 128) ∧ Below w.heap.size w W) ∧ (W.cell? ⟨w.heap.size, 0, none⟩ = some (.string s) ∧ W.cell? ⟨w.heap.size, 4, none⟩ = some (.slice al nl cl) ∧ W.cell? ⟨w.heap.size, 5, none⟩ = some (.slice ap ps.length cp) ∧ w.heap.size < W.heap.size)) → x ∈ ts → Calls Tryz.prog 14 #[.pointer (some ⟨w.heap.size + 2, 0, none⟩), .string s, .agg #[.int .i64 x.a, .int .i64 x.b, .int .i64 x.c]] W fun e w' => ∃ p1 q1 r1 p2 q2 r2 p3 q3 r3, e = .returned (.tuple #[.agg #[.string s, .int .i64 x.a, .int .i64 x.b, .int .i64 x.c, .slice p1 q1 r1, .slice p2 q2 r2, .slice p3 q3 r3], .bool true]) ∧ Below W.heap.size W w') := fun W x hk hx => by
        obtain ⟨y, hy, rfl⟩ := List.mem_map.1 (HTD.out.1.mem_iff.1 hx)
        obtain ⟨hyL, hyn⟩ := List.mem_filter.1 hy
        have hn : y.pg.nm = s := of_decide_eq_true hyn
        obtain ⟨P, u1, u2, u3⟩ := y
        have e := get_some hk.1.1.1 (cat_self hk.1.1.1.2.2.2 hyL)
        simp only at hn
        rw [hn] at e
        refine e.mono ?_
        rintro e w' ⟨v1, v2, v3, rfl, ho, hb⟩
        obtain ⟨p1, q1, r1, rfl⟩ := own_sl1 ho
        obtain ⟨p2, q2, r2, rfl⟩ := own_sl2 ho
        obtain ⟨p3, q3, r3, rfl⟩ := own_sl3 ho
        exact ⟨p1, q1, r1, p2, q2, r2, p3, q3, r3, rfl, hb⟩
      have HIN : Hid (∀ (W : World) (x : Vn), Below w.heap.size w W → Calls Tryz.prog 24 #[.slice al nl cl, .agg #[.int .i64 x.a, .int .i64 x.b, .int .i64 x.c]] W fun e w' => e = .returned (.bool (inB R x)) ∧ Below W.heap.size W w') := fun W x hb => rIn_any (HRA.out.1.below hb) _ _ _
      have HVS : Hid (∀ (W : World), (((CatAt W w.heap.size (w.heap.size + 2) (w.heap.size + 1) L ∧ L.length ≤ 128) ∧ Below w.heap.size w W) ∧ (W.cell? ⟨w.heap.size, 0, none⟩ = some (.string s) ∧ W.cell? ⟨w.heap.size, 4, none⟩ = some (.slice al nl cl) ∧ W.cell? ⟨w.heap.size, 5, none⟩ = some (.slice ap ps.length cp) ∧ w.heap.size < W.heap.size)) → Calls Tryz.prog 18 #[.pointer (some ⟨w.heap.size + 2, 0, none⟩), .string s] W fun e w' => ∃ u, e = .returned u ∧ OwnV w' W.heap.size u ts ∧ Below W.heap.size W w') := fun W hk => by
        refine (versions_any hk.1.1.1 (Nat.le_trans hk.1.1.2 (by decide)) s).mono ?_
        rintro e w' ⟨u, us, rfl, ht, ho, hb⟩
        rw [ht.uniq HTD.out] at ho
        exact ⟨u, rfl, ho, hb⟩
      obtain ⟨va, hvae⟩ : ∃ v, v = candV R s ps ts := ⟨_, rfl⟩
      rw [← hvae] at HCN
      have HCX : Hid (∀ i (hi : i + 1 < va.length), (pinB s ps va[i + 1] = true → pinB s ps (va[i]'(by omega)) = true) ∧ (pinB s ps va[i + 1] = pinB s ps (va[i]'(by omega)) → gtV (va[i]'(by omega)) va[i + 1] = true)) := by
        subst hvae
        exact fun i hi => cand_next htd.2 hi
      have HME : Hid (∀ x ∈ va, x ∈ ts ∧ inB R x = true) := by
        subst hvae
        exact fun x hx => cand_mem hx
      have HLL : Hid (va.length = (ts.filter (inB R)).length) := by
        subst hvae
        exact cand_length _ _ _ _
      have hla : va.length ≤ 128 := by rw [HLL.out]; exact Nat.le_trans (List.length_filter_le _ _) htl
      clear hvae
      clear hpi htd
      obtain ⟨i0, hi0, hz0, hz1, hz2⟩ := Sc.info_parts infoB
      go_wp2_with (first
        | (go_at_call 20; refine (HCN.out _ HK.out).mono ?_; rintro e w5 ⟨va0, rfl, hoa, hb⟩; have HK5 := hide3 (HKD.out _ _ HK.out hb); have HOA := hide3 hoa; obtain ⟨ra, za, rfl⟩ := hoa.len; clear hb hoa HCN)
        | (at_make; refine wpList_make_full _ rfl _ _ 53 rfl w5.heap.size 4 i0 _ 1 Tryz.underlying53 hi0 hz0 hz1 .i64 .i64 _ _ va.length rfl rfl rfl rfl (by rw [hz2]; omega) (by unfold maxLen; omega) (Nat.le_refl _) ?_; intro w6 hrow hgr; have HBL := hide3 (made_bls hrow); have HB6 : Hid (Below w5.heap.size w5 w6) := below_grown hgr (fun g e => by cases e) (Nat.le_refl _); clear hrow hgr))
      rw [← mark_start (pinB s ps)] at HBL
      obtain ⟨b0, b4, b5, hbl⟩ := HK5.out.2
      have hgv := guardV
      have hgp := guardPn
      have HPL : Hid (PinsAt w5 (.slice ap ps.length cp) ps) := HPP.out.below HK5.out.1.2
      go_loopw [9] (fun vi wr => ∃ (i : Nat), i ≤ va.length ∧ vi = .int .i64 i ∧ Below w5.heap.size w5 wr ∧ Bls wr w5.heap.size (markL (pinB s ps) va i)) (fun vi _ => va.length - (intOf vi).toNat)
      case atStart => exact ⟨0, Nat.zero_le _, rfl, HB6.out, HBL.out⟩
      case round =>
        obtain ⟨i, hi, rfl, hbw, hbl2⟩ := hrel
        by_cases hlt : i < va.length
        · have hki : (i : Int) < (va.length : Int) := by omega
          obtain ⟨ga, _, hga, ⟨ca, hva⟩, x0, x1, x2⟩ := OwnV.cells (ts := va) HOA.out i hlt
          injection hva with hq1 _ hq2
          subst hq1
          subst hq2
          obtain ⟨bs, hbs⟩ : ∃ bs, bs = markL (pinB s ps) va i := ⟨_, rfl⟩
          rw [← hbs] at hbl2
          have HBS := hide3 hbs
          clear hbs
          have HKT : Hid ((Below w5.heap.size w5 wr ∧ Bls wr w5.heap.size bs)) := ⟨hbw, hbl2⟩
          clear hbw hbl2
          obtain ⟨hxt, hxi⟩ := HME.out _ (List.getElem_mem hlt)
          obtain ⟨x, hx⟩ : ∃ x, x = va[i] := ⟨_, rfl⟩
          have HX := hide3 hx
          rw [← hx] at x0 x1 x2 hxt hxi
          clear hx
          have HTF : Hid (∀ a b, ((Below w5.heap.size w5 a ∧ Bls a w5.heap.size bs)) → Below a.heap.size a b → (Below w5.heap.size w5 b ∧ Bls b w5.heap.size bs)) := fun a b hx hab => ⟨below_then hx.1 hab, hx.2.below hab⟩
          have HCL : Hid (∀ W, ((Below w5.heap.size w5 W ∧ Bls W w5.heap.size bs)) → (((CatAt W w.heap.size (w.heap.size + 2) (w.heap.size + 1) L ∧ L.length ≤ 128) ∧ Below w.heap.size w W) ∧ (W.cell? ⟨w.heap.size, 0, none⟩ = some (.string s) ∧ W.cell? ⟨w.heap.size, 4, none⟩ = some (.slice al nl cl) ∧ W.cell? ⟨w.heap.size, 5, none⟩ = some (.slice ap ps.length cp) ∧ w.heap.size < W.heap.size)) ∧ (W.cell? ⟨w.heap.size, 0, none⟩ = some (.string s) ∧ W.cell? ⟨w.heap.size, 4, none⟩ = some (.slice al nl cl) ∧ W.cell? ⟨w.heap.size, 5, none⟩ = some (.slice ap ps.length cp)) ∧ W.cell? ⟨ga, i * 3, none⟩ = some (.int .i64 x.a) ∧ W.cell? ⟨ga, i * 3 + 1, none⟩ = some (.int .i64 x.b) ∧ W.cell? ⟨ga, i * 3 + 2, none⟩ = some (.int .i64 x.c)) := fun W hk => ⟨HKD.out _ _ HK5.out hk.1, ⟨(hk.1.cell (p := ⟨w.heap.size, 0, none⟩) hbl).trans b0, (hk.1.cell (p := ⟨w.heap.size, 4, none⟩) hbl).trans b4, (hk.1.cell (p := ⟨w.heap.size, 5, none⟩) hbl).trans b5⟩, (hk.1.cell (p := ⟨ga, i * 3, none⟩) hga).trans x0, (hk.1.cell (p := ⟨ga, i * 3 + 1, none⟩) hga).trans x1, (hk.1.cell (p := ⟨ga, i * 3 + 2, none⟩) hga).trans x2⟩
          have HGX : Hid (∀ W, ((Below w5.heap.size w5 W ∧ Bls W w5.heap.size bs)) → Calls Tryz.prog 14 #[.pointer (some ⟨w.heap.size + 2, 0, none⟩), .string s, .agg #[.int .i64 x.a, .int .i64 x.b, .int .i64 x.c]] W fun e w' => ∃ p1 q1 r1 p2 q2 r2 p3 q3 r3, e = .returned (.tuple #[.agg #[.string s, .int .i64 x.a, .int .i64 x.b, .int .i64 x.c, .slice p1 q1 r1, .slice p2 q2 r2, .slice p3 q3 r3], .bool true]) ∧ Below W.heap.size W w') := fun W hk => HGE.out W x (HCL.out W hk).1 hxt
          have HIX : Hid (∀ W, ((Below w5.heap.size w5 W ∧ Bls W w5.heap.size bs)) → Calls Tryz.prog 24 #[.slice al nl cl, .agg #[.int .i64 x.a, .int .i64 x.b, .int .i64 x.c]] W fun e w' => e = .returned (.bool true) ∧ Below W.heap.size W w') := fun W hk => by
            have e := HIN.out W x (HCL.out W hk).1.1.2
            rw [hxi] at e
            exact e
          clear hxt hxi
          obtain ⟨_, ⟨k0, k4, k5⟩, m0, m1, m2⟩ := HCL.out _ HKT.out
          go_upto_region 13 with fail
          go_cut [9, 11] from 46 to 144 (fun s9 s11 wx => s9 = .int .i64 (i : Int) ∧ s11 = .bool true ∧ (Below w5.heap.size w5 wx ∧ Bls wx w5.heap.size bs))
          case first =>
            have HOAt : Hid ((Below w5.heap.size w5 (wr.alloc (.cells #[.string ⟨#[]⟩, .int .i64 0, .int .i64 0, .int .i64 0, .slice none 0 0, .slice none 0 0, .slice none 0 0] 34)).drew ∧ Bls (wr.alloc (.cells #[.string ⟨#[]⟩, .int .i64 0, .int .i64 0, .int .i64 0, .slice none 0 0, .slice none 0 0, .slice none 0 0] 34)).drew w5.heap.size bs)) := HTF.out _ _ (HTF.out _ _ HKT.out (boxB _ _)) (Below.refl _ _).drew
            have HOBt : Hid ((Below w5.heap.size w5 wr.drew ∧ Bls wr.drew w5.heap.size bs)) := HTF.out _ _ HKT.out (Below.refl _ _).drew
            have HZF : Hid (∀ b, Below (wr.alloc (.cells #[.string ⟨#[]⟩, .int .i64 0, .int .i64 0, .int .i64 0, .slice none 0 0, .slice none 0 0, .slice none 0 0] 34)).drew.heap.size (wr.alloc (.cells #[.string ⟨#[]⟩, .int .i64 0, .int .i64 0, .int .i64 0, .slice none 0 0, .slice none 0 0, .slice none 0 0] 34)).drew b → BxPF b wr.heap.size ⟨#[]⟩ 0 0 0 (.slice none 0 0) (.slice none 0 0) (.slice none 0 0)) := fun b hb => keepBxPF _ _ _ _ _ _ _ _ _ _ (keepBxPF _ _ _ _ _ _ _ _ _ _ (BxPF.new rfl _ _ _ _ _ _ _) (Below.refl _ _).drew) hb
            have hlw : w5.heap.size ≤ wr.heap.size := HKT.out.1.size
            have nc := World.new_ne wr ⟨w.heap.size, 0, none⟩ k0
            have nb0 := World.new_ne wr ⟨ga, i * 3, none⟩ m0
            have nb1 := HKT.out.2.lt
            go_region_held3 (fun w' => w'.cell? ⟨w.heap.size, 0, none⟩ = some (.string s) ∧ w'.cell? ⟨ga, i * 3, none⟩ = some (.int .i64 x.a) ∧ w'.cell? ⟨ga, i * 3 + 1, none⟩ = some (.int .i64 x.b) ∧ w'.cell? ⟨ga, i * 3 + 2, none⟩ = some (.int .i64 x.c)) (go_keep) (first
              | (go_at_call 14; refine (HGX.out _ HOAt.out).mono ?_; rintro e w7 ⟨p1, q1, r1, p2, q2, r2, p3, q3, r3, rfl, hb⟩; have HK7 : Hid ((Below w5.heap.size w5 w7 ∧ Bls w7 w5.heap.size bs)) := (by with_reducible exact hide3 (HTF.out _ _ HOAt.out hb)); have HZ2 := hide3 (HZF.out _ hb); have HB17 : Hid (Below wr.heap.size wr w7) := below_then ((boxB _ _).drew) hb; obtain ⟨⟨r0, r1', r2', r3', r4, r5, r6, r7⟩, hfz⟩ := HZ2.out; have f0 := hfz 0 (by decide); have f1 := hfz 1 (by decide); have f2 := hfz 2 (by decide); have f3 := hfz 3 (by decide); have f4 := hfz 4 (by decide); have f5 := hfz 5 (by decide); have f6 := hfz 6 (by decide); clear hfz; obtain ⟨_, ⟨k0, k4, k5⟩, m0, m1, m2⟩ := HCL.out _ HK7.out; clear hb)
              | (go_at_call 14; refine (HGX.out _ HOBt.out).mono ?_; rintro e w7 ⟨p1, q1, r1, p2, q2, r2, p3, q3, r3, rfl, hb⟩; have HK7 : Hid ((Below w5.heap.size w5 w7 ∧ Bls w7 w5.heap.size bs)) := (by with_reducible exact hide3 (HTF.out _ _ HOBt.out hb)); obtain ⟨_, ⟨k0, k4, k5⟩, m0, m1, m2⟩ := HCL.out _ HK7.out; have nc2 := World.new_ne w7 ⟨w.heap.size, 0, none⟩ k0; have nb2 := World.new_ne w7 ⟨ga, i * 3, none⟩ m0; clear hb))
            all_goals first
              | (have _t := HZ2; have HK8 : Hid ((Below w5.heap.size w5 (((((((w7.setCell ⟨wr.heap.size, 0, none⟩ (.string s)).setCell ⟨wr.heap.size, 1, none⟩ (.int .i64 x.a)).setCell ⟨wr.heap.size, 2, none⟩ (.int .i64 x.b)).setCell ⟨wr.heap.size, 3, none⟩ (.int .i64 x.c)).setCell ⟨wr.heap.size, 4, none⟩ (.slice p1 q1 r1)).setCell ⟨wr.heap.size, 5, none⟩ (.slice p2 q2 r2)).setCell ⟨wr.heap.size, 6, none⟩ (.slice p3 q3 r3)) ∧ Bls (((((((w7.setCell ⟨wr.heap.size, 0, none⟩ (.string s)).setCell ⟨wr.heap.size, 1, none⟩ (.int .i64 x.a)).setCell ⟨wr.heap.size, 2, none⟩ (.int .i64 x.b)).setCell ⟨wr.heap.size, 3, none⟩ (.int .i64 x.c)).setCell ⟨wr.heap.size, 4, none⟩ (.slice p1 q1 r1)).setCell ⟨wr.heap.size, 5, none⟩ (.slice p2 q2 r2)).setCell ⟨wr.heap.size, 6, none⟩ (.slice p3 q3 r3)) w5.heap.size bs)) := HTF.out _ _ HKT.out (below_set7 (Nat.le_refl _) HB17.out); clear _t HZ2 r0 r1' r2' r3' r4 r5 r6 r7 f0 f1 f2 f3 f4 f5 f6; generalize (((((((w7.setCell ⟨wr.heap.size, 0, none⟩ (.string s)).setCell ⟨wr.heap.size, 1, none⟩ (.int .i64 x.a)).setCell ⟨wr.heap.size, 2, none⟩ (.int .i64 x.b)).setCell ⟨wr.heap.size, 3, none⟩ (.int .i64 x.c)).setCell ⟨wr.heap.size, 4, none⟩ (.slice p1 q1 r1)).setCell ⟨wr.heap.size, 5, none⟩ (.slice p2 q2 r2)).setCell ⟨wr.heap.size, 6, none⟩ (.slice p3 q3 r3)) = w8 at *)
              | (have HK8 : Hid ((Below w5.heap.size w5 (w7.alloc (.cells #[.string s, .int .i64 x.a, .int .i64 x.b, .int .i64 x.c, .slice p1 q1 r1, .slice p2 q2 r2, .slice p3 q3 r3] 34)) ∧ Bls (w7.alloc (.cells #[.string s, .int .i64 x.a, .int .i64 x.b, .int .i64 x.c, .slice p1 q1 r1, .slice p2 q2 r2, .slice p3 q3 r3] 34)) w5.heap.size bs)) := HTF.out _ _ HK7.out (boxB _ _); generalize (w7.alloc (.cells #[.string s, .int .i64 x.a, .int .i64 x.b, .int .i64 x.c, .slice p1 q1 r1, .slice p2 q2 r2, .slice p3 q3 r3] 34)) = w8 at *)
            all_goals go_wp2_with fail
            all_goals go_meet
            all_goals exact ⟨rfl, rfl, HK8.out⟩
          case rest =>
            obtain ⟨rfl, rfl, hk8⟩ := hcut
            obtain ⟨w8, hw8⟩ : ∃ x, x = wc := ⟨_, rfl⟩
            subst hw8
            have HK8 := hide3 hk8
            clear hk8 k0 k4 k5 m0 m1 m2
            obtain ⟨_, ⟨k0, k4, k5⟩, m0, m1, m2⟩ := HCL.out _ HK8.out
            go_wp2_with fail
            have HK8d := hide3 (HTF.out _ _ HK8.out (Below.refl _ _).drew)
            go_region_held3 (fun w' => w'.cell? ⟨w.heap.size, 4, none⟩ = some (.slice al nl cl) ∧ w'.cell? ⟨ga, i * 3, none⟩ = some (.int .i64 x.a) ∧ w'.cell? ⟨ga, i * 3 + 1, none⟩ = some (.int .i64 x.b) ∧ w'.cell? ⟨ga, i * 3 + 2, none⟩ = some (.int .i64 x.c)) (go_keep) (first
              | (go_at_call 24; refine (HIX.out _ HK8d.out).mono ?_; rintro e w9 ⟨rfl, hb⟩; have HK9 := hide3 (HTF.out _ _ HK8d.out hb); obtain ⟨_, ⟨k0, k4, k5⟩, m0, m1, m2⟩ := HCL.out _ HK9.out; clear hb))
            go_wp2_with fail
            go_loopw [12] (fun vk wq => ∃ (k : Nat), k ≤ ps.length ∧ vk = .int .i64 k ∧ Below w5.heap.size w5 wq ∧ Bls wq w5.heap.size (bs.set i (decide (0 < cntP s (ps.take k) x)))) (fun vk _ => ps.length - (intOf vk).toNat)
            case atStart =>
              refine ⟨0, Nat.zero_le _, rfl, HK9.out.1, ?_⟩
              have e : bs.set i (decide (0 < cntP s (ps.take 0) x)) = bs := by
                rw [HBS.out]
                exact mark_self hlt
              rw [e]
              exact HK9.out.2
            case round =>
              obtain ⟨k, hk, rfl, hbw, hbl2⟩ := hrel
              have HBP := hide3 hbw
              have HBL2 := hide3 hbl2
              clear hbw hbl2 k0 k4 k5 m0 m1 m2
              have k0 := (HBP.out.cell (p := ⟨w.heap.size, 0, none⟩) hbl).trans b0
              have k5 := (HBP.out.cell (p := ⟨w.heap.size, 5, none⟩) hbl).trans b5
              have m0 := (HBP.out.cell (p := ⟨ga, i * 3, none⟩) hga).trans x0
              have m1 := (HBP.out.cell (p := ⟨ga, i * 3 + 1, none⟩) hga).trans x1
              have m2 := (HBP.out.cell (p := ⟨ga, i * 3 + 2, none⟩) hga).trans x2
              have hbsl : i < bs.length := by rw [HBS.out, mark_len _ _ (by omega)]; exact hlt
              obtain ⟨n0, nf⟩ := HBL2.out.cell (i := i) (by rw [List.length_set]; exact hbsl)
              rw [List.getElem_set_self] at n0
              by_cases hkt : k < ps.length
              · have hkk : (k : Int) < (ps.length : Int) := by omega
                obtain ⟨g, o, hgo, ⟨⟨y0, y1, y2, y3⟩, hgl⟩⟩ : ∃ g o, ap = some ⟨g, o, none⟩ ∧ PnIn w5 g (o + k * 4) ps[k] := by
                  obtain ⟨ad, cap, e, _, hl⟩ := HPL.out
                  injection e with e1 _ _
                  rcases hl with e | ⟨g, o, e2, _, hs⟩
                  · rw [e] at hkt; cases hkt
                  · exact ⟨g, o, e1.trans e2, hs k hkt⟩
                subst hgo
                have HFS := hide3 (pin_step s ps k hkt x)
                obtain ⟨p, hp⟩ : ∃ p, p = ps[k] := ⟨_, rfl⟩
                rw [← hp] at y0 y1 y2 y3 HFS
                have q0 := (HBP.out.cell (p := ⟨g, o + k * 4, none⟩) hgl).trans y0
                have q1 := (HBP.out.cell (p := ⟨g, o + k * 4 + 1, none⟩) hgl).trans y1
                have q2 := (HBP.out.cell (p := ⟨g, o + k * 4 + 2, none⟩) hgl).trans y2
                have q3 := (HBP.out.cell (p := ⟨g, o + k * 4 + 3, none⟩) hgl).trans y3
                clear hp y0 y1 y2 y3
                have HEND : Hid (∀ b0 b1, Bls wr w5.heap.size (bs.set i b0) → Below w5.heap.size w5 (wr.setCell ⟨w5.heap.size, i, none⟩ (.bool b1)).drew ∧ Bls (wr.setCell ⟨w5.heap.size, i, none⟩ (.bool b1)).drew w5.heap.size (bs.set i b1)) := fun b0 b1 h => by
                  obtain ⟨h1, h2⟩ := h.set i b1
                  rw [List.set_set] at h1
                  exact ⟨(HBP.out.grown h2 HBP.out.size (fun j hj => by cases hj; exact Nat.le_refl _)).drew, h1⟩
                cases hb0 : decide (0 < cntP s (ps.take k) x)
                · rw [hb0] at n0 HBL2
                  rw [hb0, isPn_eq] at HFS
                  have hep := eqlPn p ⟨s, x.a, x.b, x.c⟩
                  clear hb0
                  simp only at hep
                  generalize eqPn p ⟨s, x.a, x.b, x.c⟩ = bq at *
                  go_wp2_with fail
                  go_region
                  all_goals go_wp2_with fail
                  all_goals exact ⟨⟨k + 1, by omega, by go_num, (HEND.out _ _ HBL2.out).1, by rw [HFS.out]; exact (HEND.out _ _ HBL2.out).2⟩, by simp [intOf]; omega⟩
                · rw [hb0] at n0 HBL2
                  rw [hb0] at HFS
                  clear hb0
                  go_wp2_with fail
                  go_region
                  all_goals go_wp2_with fail
                  all_goals exact ⟨⟨k + 1, by omega, by go_num, (HEND.out _ _ HBL2.out).1, by rw [HFS.out]; exact (HEND.out _ _ HBL2.out).2⟩, by simp [intOf]; omega⟩
              · obtain rfl : k = ps.length := by omega
                have hkk : ¬ ((ps.length : Int) < (ps.length : Int)) := by omega
                have HBM : Hid (Bls wr w5.heap.size (markL (pinB s ps) va (i + 1))) := by
                  have e := HBL2.out
                  rw [pin_all, HBS.out, HX.out, mark_set hlt] at e
                  exact e
                clear n0 nf HBL2
                have hgpl := HBM.out.lt
                by_cases hz : i = 0
                · have hd0 : decide ((0 : Int) < (i : Int)) = false := decide_eq_false (by omega)
                  have hd1 : ¬ (0 : Int) < (i : Int) := by omega
                  have hd2 : decide (0 < i) = false := decide_eq_false (by omega)
                  have hd3 : ¬ 0 < i := by omega
                  clear hz
                  go_wp2_with fail
                  go_quiet (fail)
                  go_wp2_with fail
                  exact ⟨⟨i + 1, by omega, by go_num, Go.Proofs.YthlipnnlgkmhcaaGreatDoor.Below.drewN HBP.out _, HBM.out⟩, by simp [intOf]; omega⟩
                · obtain ⟨j, hj⟩ : ∃ j, j = i - 1 := ⟨_, rfl⟩
                  have hd1 : (0 : Int) < (i : Int) := by omega
                  have hd3 : 0 < i := by omega
                  have hwr1 : IntKind.i64.wrap ((i : Int) - 1) = (i : Int) - 1 := by simp [IntKind.wrap, IntKind.bits, IntKind.signed]; omega
                  have hwr2 : wrap64 ((i : Int) - 1) = (i : Int) - 1 := by unfold wrap64; omega
                  have hj0 : (0 : Int) ≤ (i : Int) - 1 := by omega
                  have hj1 : (i : Int) - 1 < (va.length : Int) := by omega
                  have hj2 : ((i : Int) - 1).toNat = j := by omega
                  have hj3 : ¬ (i : Int) - 1 < 0 := by omega
                  have hq1 : (1 : Int) ≤ (i : Int) := by omega
                  have hq2 : 1 ≤ i := by omega
                  have hq3 : (i : Int) ≤ (va.length : Int) := by omega
                  have hq4 : (i : Int) < (va.length : Int) + 1 := by omega
                  have hjv : j < va.length := by omega
                  obtain ⟨ci, _⟩ := HBM.out.cell (i := i) (by rw [mark_len _ _ (by omega)]; exact hlt)
                  rw [mark_ahead (by omega) (by omega), ← HX.out] at ci
                  obtain ⟨cj, _⟩ := HBM.out.cell (i := j) (by rw [mark_len _ _ (by omega)]; exact hjv)
                  rw [mark_ahead (by omega) (by omega)] at cj
                  obtain ⟨g2, _, _, ⟨c2, hv2⟩, z0, z1, z2⟩ := OwnV.cells (ts := va) HOA.out j hjv
                  injection hv2 with hv2 hv3 hv4
                  clear hv3 hv4
                  injection hv2 with hv2
                  injection hv2 with hv2 hv3 hv4
                  clear hv3 hv4
                  subst hv2
                  have HQ : Hid ((pinB s ps x = true → pinB s ps va[j] = true) ∧ (pinB s ps x = pinB s ps va[j] → gtV va[j] x = true)) := by
                    have h := HCX.out j (by omega)
                    have e : va[j + 1]'(by omega) = x := by
                      rw [HX.out]
                      congr 1
                      omega
                    rw [e] at h
                    exact h
                  obtain ⟨y, hy⟩ : ∃ y, y = va[j] := ⟨_, rfl⟩
                  rw [← hy] at cj z0 z1 z2 HQ
                  clear hy hz
                  have u0 := (HBP.out.cell (p := ⟨ga, j * 3, none⟩) hga).trans z0
                  have u1 := (HBP.out.cell (p := ⟨ga, j * 3 + 1, none⟩) hga).trans z1
                  have u2 := (HBP.out.cell (p := ⟨ga, j * 3 + 2, none⟩) hga).trans z2
                  have hgaw : ga < wr.heap.size := Nat.lt_of_lt_of_le hga HBP.out.size
                  cases hbp : pinB s ps x
                  · cases hbq : pinB s ps y
                    · have HCM : Hid (∀ W, Calls Tryz.prog 25 #[.agg #[.int .i64 y.a, .int .i64 y.b, .int .i64 y.c], .agg #[.int .i64 x.a, .int .i64 x.b, .int .i64 x.c]] W fun e w' => e = .returned (.int .i64 1) ∧ Below W.heap.size W w') := fun W => by
                        have e := rCompare_any y.a y.b y.c x.a x.b x.c W
                        rw [cmp_gt (HQ.out.2 (by rw [hbp, hbq]))] at e
                        exact e
                      rw [hbp] at ci
                      rw [hbq] at cj
                      clear hbp hbq hj
                      have HK : Hid (KeepP fun w1 => (Below w5.heap.size w5 w1 ∧ Bls w1 w5.heap.size (markL (pinB s ps) va (i + 1))) ∧ Sc.CellK w1 w5.heap.size i (.bool false) ∧ Sc.CellK w1 w5.heap.size j (.bool false) ∧ Sc.CellK w1 ga (i * 3) (.int .i64 x.a) ∧ Sc.CellK w1 ga (i * 3 + 1) (.int .i64 x.b) ∧ Sc.CellK w1 ga (i * 3 + 2) (.int .i64 x.c) ∧ Sc.CellK w1 ga (j * 3) (.int .i64 y.a) ∧ Sc.CellK w1 ga (j * 3 + 1) (.int .i64 y.b) ∧ Sc.CellK w1 ga (j * 3 + 2) (.int .i64 y.c)) := (KeepP.and (KeepP.and (keepBelow w5) (fun _ _ h hb => h.below hb)) (KeepP.and (keepCk _ _ _) ((KeepP.and (keepCk _ _ _) ((KeepP.and (keepCk _ _ _) ((KeepP.and (keepCk _ _ _) ((KeepP.and (keepCk _ _ _) ((KeepP.and (keepCk _ _ _) ((KeepP.and (keepCk _ _ _) (keepCk _ _ _)))))))))))))))
                      have HO : Hid ((Below w5.heap.size w5 wr ∧ Bls wr w5.heap.size (markL (pinB s ps) va (i + 1))) ∧ Sc.CellK wr w5.heap.size i (.bool false) ∧ Sc.CellK wr w5.heap.size j (.bool false) ∧ Sc.CellK wr ga (i * 3) (.int .i64 x.a) ∧ Sc.CellK wr ga (i * 3 + 1) (.int .i64 x.b) ∧ Sc.CellK wr ga (i * 3 + 2) (.int .i64 x.c) ∧ Sc.CellK wr ga (j * 3) (.int .i64 y.a) ∧ Sc.CellK wr ga (j * 3 + 1) (.int .i64 y.b) ∧ Sc.CellK wr ga (j * 3 + 2) (.int .i64 y.c)) := ⟨⟨HBP.out, HBM.out⟩, ⟨ci, hgpl⟩, ⟨cj, hgpl⟩, ⟨m0, hgaw⟩, ⟨m1, hgaw⟩, ⟨m2, hgaw⟩, ⟨u0, hgaw⟩, ⟨u1, hgaw⟩, ⟨u2, hgaw⟩⟩
                      clear ci cj m0 m1 m2 u0 u1 u2 x0 x1 x2 z0 z1 z2 k0
                      go_wp2_with fail
                      refine wp_region_keep HK.out (by kernel_rfl) (by kernel_rfl) (by first | exact HO.out | exact HK.out.drew HO.out) ?_
                      intro C hin hout
                      have HIN := hide3 hin
                      have HOUT := hide3 hout
                      clear hin hout HO
                      repeat
                        (with_reducible refine wpQuiet_step (fun K hK => ?_)
                         go_simp
                         first
                           | (refine hK _ ?_; clear hK K)
                           | (apply Exists.intro; refine ⟨fun w1 hC => ?_, hK _ ?_⟩; (focus ((first | (go_at_call 25; with_reducible exact callC HIN.out HOUT.out HK.out HCM.out w1 hC) | (exact rfl) | (obtain ⟨⟨hb1, hb2⟩, ⟨t0, _⟩, ⟨t1, _⟩, ⟨t2, _⟩, ⟨t3, _⟩, ⟨t4, _⟩, ⟨t5, _⟩, ⟨t6, _⟩, ⟨t7, _⟩⟩ := HOUT.out w1 hC; clear hC; go_simp; first | done | exact rfl)); done)); clear hK K))
                      refine wpQuiet_nil ?_
                      intro w10 hC
                      have HO := hide3 (HOUT.out _ hC)
                      clear hC HIN HOUT C
                      obtain ⟨⟨hb1, hb2⟩, ⟨t0, _⟩, ⟨t1, _⟩, ⟨t2, _⟩, ⟨t3, _⟩, ⟨t4, _⟩, ⟨t5, _⟩, ⟨t6, _⟩, ⟨t7, _⟩⟩ := HO.out
                      go_wp2_with fail
                      exact ⟨⟨i + 1, by omega, by go_num, hb1, hb2⟩, by simp [intOf]; omega⟩
                    · rw [hbp] at ci
                      rw [hbq] at cj
                      clear hbp hbq hj
                      have HK : Hid (KeepP fun w1 => (Below w5.heap.size w5 w1 ∧ Bls w1 w5.heap.size (markL (pinB s ps) va (i + 1))) ∧ Sc.CellK w1 w5.heap.size i (.bool false) ∧ Sc.CellK w1 w5.heap.size j (.bool true) ∧ Sc.CellK w1 ga (i * 3) (.int .i64 x.a) ∧ Sc.CellK w1 ga (i * 3 + 1) (.int .i64 x.b) ∧ Sc.CellK w1 ga (i * 3 + 2) (.int .i64 x.c) ∧ Sc.CellK w1 ga (j * 3) (.int .i64 y.a) ∧ Sc.CellK w1 ga (j * 3 + 1) (.int .i64 y.b) ∧ Sc.CellK w1 ga (j * 3 + 2) (.int .i64 y.c)) := (KeepP.and (KeepP.and (keepBelow w5) (fun _ _ h hb => h.below hb)) (KeepP.and (keepCk _ _ _) ((KeepP.and (keepCk _ _ _) ((KeepP.and (keepCk _ _ _) ((KeepP.and (keepCk _ _ _) ((KeepP.and (keepCk _ _ _) ((KeepP.and (keepCk _ _ _) ((KeepP.and (keepCk _ _ _) (keepCk _ _ _)))))))))))))))
                      have HO : Hid ((Below w5.heap.size w5 wr ∧ Bls wr w5.heap.size (markL (pinB s ps) va (i + 1))) ∧ Sc.CellK wr w5.heap.size i (.bool false) ∧ Sc.CellK wr w5.heap.size j (.bool true) ∧ Sc.CellK wr ga (i * 3) (.int .i64 x.a) ∧ Sc.CellK wr ga (i * 3 + 1) (.int .i64 x.b) ∧ Sc.CellK wr ga (i * 3 + 2) (.int .i64 x.c) ∧ Sc.CellK wr ga (j * 3) (.int .i64 y.a) ∧ Sc.CellK wr ga (j * 3 + 1) (.int .i64 y.b) ∧ Sc.CellK wr ga (j * 3 + 2) (.int .i64 y.c)) := ⟨⟨HBP.out, HBM.out⟩, ⟨ci, hgpl⟩, ⟨cj, hgpl⟩, ⟨m0, hgaw⟩, ⟨m1, hgaw⟩, ⟨m2, hgaw⟩, ⟨u0, hgaw⟩, ⟨u1, hgaw⟩, ⟨u2, hgaw⟩⟩
                      clear ci cj m0 m1 m2 u0 u1 u2 x0 x1 x2 z0 z1 z2 k0
                      go_wp2_with fail
                      refine wp_region_keep HK.out (by kernel_rfl) (by kernel_rfl) (by first | exact HO.out | exact HK.out.drew HO.out) ?_
                      intro C hin hout
                      have HIN := hide3 hin
                      have HOUT := hide3 hout
                      clear hin hout HO
                      repeat
                        (with_reducible refine wpQuiet_step (fun K hK => ?_)
                         go_simp
                         first
                           | (refine hK _ ?_; clear hK K)
                           | (apply Exists.intro; refine ⟨fun w1 hC => ?_, hK _ ?_⟩; (focus ((first | (exact rfl) | (obtain ⟨⟨hb1, hb2⟩, ⟨t0, _⟩, ⟨t1, _⟩, ⟨t2, _⟩, ⟨t3, _⟩, ⟨t4, _⟩, ⟨t5, _⟩, ⟨t6, _⟩, ⟨t7, _⟩⟩ := HOUT.out w1 hC; clear hC; go_simp; first | done | exact rfl)); done)); clear hK K))
                      refine wpQuiet_nil ?_
                      intro w10 hC
                      have HO := hide3 (HOUT.out _ hC)
                      clear hC HIN HOUT C
                      obtain ⟨⟨hb1, hb2⟩, ⟨t0, _⟩, ⟨t1, _⟩, ⟨t2, _⟩, ⟨t3, _⟩, ⟨t4, _⟩, ⟨t5, _⟩, ⟨t6, _⟩, ⟨t7, _⟩⟩ := HO.out
                      go_wp2_with fail
                      exact ⟨⟨i + 1, by omega, by go_num, hb1, hb2⟩, by simp [intOf]; omega⟩
                  · have hbq : pinB s ps y = true := HQ.out.1 hbp
                    have HCM : Hid (∀ W, Calls Tryz.prog 25 #[.agg #[.int .i64 y.a, .int .i64 y.b, .int .i64 y.c], .agg #[.int .i64 x.a, .int .i64 x.b, .int .i64 x.c]] W fun e w' => e = .returned (.int .i64 1) ∧ Below W.heap.size W w') := fun W => by
                      have e := rCompare_any y.a y.b y.c x.a x.b x.c W
                      rw [cmp_gt (HQ.out.2 (by rw [hbp, hbq]))] at e
                      exact e
                    rw [hbp] at ci
                    rw [hbq] at cj
                    clear hbp hbq hj
                    have HK : Hid (KeepP fun w1 => (Below w5.heap.size w5 w1 ∧ Bls w1 w5.heap.size (markL (pinB s ps) va (i + 1))) ∧ Sc.CellK w1 w5.heap.size i (.bool true) ∧ Sc.CellK w1 w5.heap.size j (.bool true) ∧ Sc.CellK w1 ga (i * 3) (.int .i64 x.a) ∧ Sc.CellK w1 ga (i * 3 + 1) (.int .i64 x.b) ∧ Sc.CellK w1 ga (i * 3 + 2) (.int .i64 x.c) ∧ Sc.CellK w1 ga (j * 3) (.int .i64 y.a) ∧ Sc.CellK w1 ga (j * 3 + 1) (.int .i64 y.b) ∧ Sc.CellK w1 ga (j * 3 + 2) (.int .i64 y.c)) := (KeepP.and (KeepP.and (keepBelow w5) (fun _ _ h hb => h.below hb)) (KeepP.and (keepCk _ _ _) ((KeepP.and (keepCk _ _ _) ((KeepP.and (keepCk _ _ _) ((KeepP.and (keepCk _ _ _) ((KeepP.and (keepCk _ _ _) ((KeepP.and (keepCk _ _ _) ((KeepP.and (keepCk _ _ _) (keepCk _ _ _)))))))))))))))
                    have HO : Hid ((Below w5.heap.size w5 wr ∧ Bls wr w5.heap.size (markL (pinB s ps) va (i + 1))) ∧ Sc.CellK wr w5.heap.size i (.bool true) ∧ Sc.CellK wr w5.heap.size j (.bool true) ∧ Sc.CellK wr ga (i * 3) (.int .i64 x.a) ∧ Sc.CellK wr ga (i * 3 + 1) (.int .i64 x.b) ∧ Sc.CellK wr ga (i * 3 + 2) (.int .i64 x.c) ∧ Sc.CellK wr ga (j * 3) (.int .i64 y.a) ∧ Sc.CellK wr ga (j * 3 + 1) (.int .i64 y.b) ∧ Sc.CellK wr ga (j * 3 + 2) (.int .i64 y.c)) := ⟨⟨HBP.out, HBM.out⟩, ⟨ci, hgpl⟩, ⟨cj, hgpl⟩, ⟨m0, hgaw⟩, ⟨m1, hgaw⟩, ⟨m2, hgaw⟩, ⟨u0, hgaw⟩, ⟨u1, hgaw⟩, ⟨u2, hgaw⟩⟩
                    clear ci cj m0 m1 m2 u0 u1 u2 x0 x1 x2 z0 z1 z2 k0
                    go_wp2_with fail
                    refine wp_region_keep HK.out (by kernel_rfl) (by kernel_rfl) (by first | exact HO.out | exact HK.out.drew HO.out) ?_
                    intro C hin hout
                    have HIN := hide3 hin
                    have HOUT := hide3 hout
                    clear hin hout HO
                    repeat
                      (with_reducible refine wpQuiet_step (fun K hK => ?_)
                       go_simp
                       first
                         | (refine hK _ ?_; clear hK K)
                         | (apply Exists.intro; refine ⟨fun w1 hC => ?_, hK _ ?_⟩; (focus ((first | (go_at_call 25; with_reducible exact callC HIN.out HOUT.out HK.out HCM.out w1 hC) | (exact rfl) | (obtain ⟨⟨hb1, hb2⟩, ⟨t0, _⟩, ⟨t1, _⟩, ⟨t2, _⟩, ⟨t3, _⟩, ⟨t4, _⟩, ⟨t5, _⟩, ⟨t6, _⟩, ⟨t7, _⟩⟩ := HOUT.out w1 hC; clear hC; go_simp; first | done | exact rfl)); done)); clear hK K))
                    refine wpQuiet_nil ?_
                    intro w10 hC
                    have HO := hide3 (HOUT.out _ hC)
                    clear hC HIN HOUT C
                    obtain ⟨⟨hb1, hb2⟩, ⟨t0, _⟩, ⟨t1, _⟩, ⟨t2, _⟩, ⟨t3, _⟩, ⟨t4, _⟩, ⟨t5, _⟩, ⟨t6, _⟩, ⟨t7, _⟩⟩ := HO.out
                    go_wp2_with fail
                    exact ⟨⟨i + 1, by omega, by go_num, hb1, hb2⟩, by simp [intOf]; omega⟩
        · obtain rfl : i = va.length := by omega
          have hki : ¬ ((va.length : Int) < (va.length : Int)) := by omega
          have HBW := hide3 hbw
          clear hbw hbl2
          have HKW := hide3 (HKD.out _ _ HK5.out HBW.out)
          obtain ⟨k0, k4, k5, hkl⟩ := HKW.out.2
          have HLE : Hid (bothN (inB R) ts ts.length = va.length) := by
            unfold Hid
            rw [both_all, HLL.out]
          go_wp2_with (go_at_call 18; refine (HVS.out _ HKW.out).mono ?_; rintro e w8 ⟨vt, rfl, hot, hb⟩; have HK8 := hide3 (HKD.out _ _ HKW.out hb); have HOT := hide3 hot; obtain ⟨rt, zt, rfl⟩ := hot.len; clear hb hot k0 k4 k5)
          obtain ⟨k0, k4, k5, hkl8⟩ := HK8.out.2
          go_loopw [14, 15] (fun vn vi wq => ∃ (i : Nat), i ≤ ts.length ∧ vi = .int .i64 i ∧ vn = .int .i64 (bothN (inB R) ts i : Nat) ∧ Below w8.heap.size w8 wq) (fun _ vi _ => ts.length - (intOf vi).toNat)
          case atStart => exact ⟨0, Nat.zero_le _, rfl, rfl, Below.refl _ _⟩
          case round =>
            obtain ⟨i, hi, rfl, rfl, hbw⟩ := hrel
            have HBQ := hide3 hbw
            clear hbw
            by_cases hlt : i < ts.length
            · have hki2 : (i : Int) < (ts.length : Int) := by omega
              obtain ⟨gt, _, hgt, ⟨ct, hvt⟩, x0, x1, x2⟩ := OwnV.cells (ts := ts) HOT.out i hlt
              injection hvt with hq1 _ hq2
              subst hq1
              subst hq2
              have HSC : Hid (bothN (inB R) ts (i + 1) = bothN (inB R) ts i + (if inB R ts[i] = true then 1 else 0)) := both_succ hlt
              have hbl3 : bothN (inB R) ts i ≤ 128 := Nat.le_trans (both_le _ _ _) htl
              obtain ⟨x, hx⟩ : ∃ x, x = ts[i] := ⟨_, rfl⟩
              rw [← hx] at x0 x1 x2 HSC
              clear hx
              have m0 := (HBQ.out.cell (p := ⟨gt, i * 3, none⟩) hgt).trans x0
              have m1 := (HBQ.out.cell (p := ⟨gt, i * 3 + 1, none⟩) hgt).trans x1
              have m2 := (HBQ.out.cell (p := ⟨gt, i * 3 + 2, none⟩) hgt).trans x2
              have k4' := (HBQ.out.cell (p := ⟨w.heap.size, 4, none⟩) hkl8).trans k4
              have HIX : Hid (∀ W, Below w8.heap.size w8 W → Calls Tryz.prog 24 #[.slice al nl cl, .agg #[.int .i64 x.a, .int .i64 x.b, .int .i64 x.c]] W fun e w' => e = .returned (.bool (inB R x)) ∧ Below W.heap.size W w') := fun W hb => HIN.out W x (below_then HK8.out.1.2 hb)
              cases hin : inB R x
              · rw [hin] at HIX HSC
                have HNX : Hid (bothN (inB R) ts (i + 1) = bothN (inB R) ts i) := by
                  unfold Hid
                  rw [HSC.out]
                  rfl
                clear hin HSC
                generalize bothN (inB R) ts i = n0 at *
                go_wp2_with fail
                go_region_held3 (fun w' => w'.cell? ⟨w.heap.size, 4, none⟩ = some (.slice al nl cl) ∧ w'.cell? ⟨gt, i * 3, none⟩ = some (.int .i64 x.a) ∧ w'.cell? ⟨gt, i * 3 + 1, none⟩ = some (.int .i64 x.b) ∧ w'.cell? ⟨gt, i * 3 + 2, none⟩ = some (.int .i64 x.c)) (go_keep) (first
                  | (go_at_call 24; refine (HIX.out _ HBQ.out.drew).mono ?_; rintro e w9 ⟨rfl, hb⟩; have HB9 : Hid (Below w8.heap.size w8 w9) := below_then HBQ.out.drew hb; have t0 := (HB9.out.cell (p := ⟨w.heap.size, 4, none⟩) hkl8).trans k4; have t1 := (HB9.out.cell (p := ⟨gt, i * 3, none⟩) hgt).trans x0; have t2 := (HB9.out.cell (p := ⟨gt, i * 3 + 1, none⟩) hgt).trans x1; have t3 := (HB9.out.cell (p := ⟨gt, i * 3 + 2, none⟩) hgt).trans x2; clear hb))
                go_wp2_with fail
                exact ⟨⟨i + 1, by omega, by go_num, by rw [HNX.out], HB9.out⟩, by simp [intOf]; omega⟩
              · rw [hin] at HIX HSC
                have HNX : Hid (bothN (inB R) ts (i + 1) = bothN (inB R) ts i + 1) := by
                  unfold Hid
                  rw [HSC.out]
                  rfl
                clear hin HSC
                generalize bothN (inB R) ts i = n0 at *
                go_wp2_with fail
                go_region_held3 (fun w' => w'.cell? ⟨w.heap.size, 4, none⟩ = some (.slice al nl cl) ∧ w'.cell? ⟨gt, i * 3, none⟩ = some (.int .i64 x.a) ∧ w'.cell? ⟨gt, i * 3 + 1, none⟩ = some (.int .i64 x.b) ∧ w'.cell? ⟨gt, i * 3 + 2, none⟩ = some (.int .i64 x.c)) (go_keep) (first
                  | (go_at_call 24; refine (HIX.out _ HBQ.out.drew).mono ?_; rintro e w9 ⟨rfl, hb⟩; have HB9 : Hid (Below w8.heap.size w8 w9) := below_then HBQ.out.drew hb; have t0 := (HB9.out.cell (p := ⟨w.heap.size, 4, none⟩) hkl8).trans k4; have t1 := (HB9.out.cell (p := ⟨gt, i * 3, none⟩) hgt).trans x0; have t2 := (HB9.out.cell (p := ⟨gt, i * 3 + 1, none⟩) hgt).trans x1; have t3 := (HB9.out.cell (p := ⟨gt, i * 3 + 2, none⟩) hgt).trans x2; clear hb))
                go_wp2_with fail
                exact ⟨⟨i + 1, by omega, by go_num, by rw [HNX.out, Int.natCast_add]; go_num, HB9.out⟩, by simp [intOf]; omega⟩
            · obtain rfl : i = ts.length := by omega
              have hki2 : ¬ ((ts.length : Int) < (ts.length : Int)) := by omega
              rw [HLE.out]
              clear HLE
              go_wp2_with fail
              go_ret
              exact ⟨rfl, below_then HK8.out.1.2 HBQ.out⟩
end Go.Proofs.YthlipnnlgkmhcaaGreatDoor
namespace Go.Proofs.YthlipnnlgkmhcaaGreatDoor
open Go.RowKit
set_option maxRecDepth 100000

theorem tries_row {w : World} (he : Env w) (hf : FL w) {v0 vl vp : Value} {Ps : List Pg} (hps : PgsAt w v0 Ps) (hpz : Ps.length ≤ 9223372036854775807) (s : ByteArray) (a b c : Int) {R : List Sp} {qs : List Pn} (hra : SpansC w vl R) (hpp : PinsAt w vp qs) (hpl : qs.length ≤ 9223372036854775807) (hpi : ∀ p ∈ qs, I64 p.a ∧ I64 p.b ∧ I64 p.c) :
    Calls Tryz.prog 4 #[v0, .agg #[.string s, .int .i64 a, .int .i64 b, .int .i64 c, vl, vp]] w fun e w' => e = .returned (.bool true) ∧ Below w.heap.size w w' := by
  obtain ⟨al, nl, cl, rfl, _⟩ := hra.2
  obtain ⟨ap, cp, rfl⟩ := hpp.sl
  exact catalogTries_walk he hf hps hpz s a b c hra hpp hpl hpi
end Go.Proofs.YthlipnnlgkmhcaaGreatDoor
