/- Ct26, laid in one text. -/
import Derived.Test.YthlipnnlgkmhcaaGreatDoorMg18
namespace Go.Proofs.YthlipnnlgkmhcaaGreatDoor
open Go.RowKit Go.Maps Go.WideMaps
set_option maxRecDepth 100000

theorem isPn_eq (s : ByteArray) (x : Vn) (p : Pn) : isPn s x p = eqPn p ⟨s, x.a, x.b, x.c⟩ := by
  rw [Bool.eq_iff_iff, eqPn_iff]
  unfold isPn
  rw [decide_eq_true_eq]
  obtain ⟨n, a, b, c⟩ := p
  simp

set_option maxHeartbeats 25600000 in
theorem catalogPins_walk {w : World} (he : Env w) (hf : FL w) {v0 : Value} {Ps : List Pg} (hps : PgsAt w v0 Ps) (hpz : Ps.length ≤ 9223372036854775807) (s : ByteArray) (a b c : Int) {al ap : Option Addr} {nl cl cp : Nat} {R : List Sp} {ps : List Pn} (hra : SpansC w (.slice al nl cl) R) (hpp : PinsAt w (.slice ap ps.length cp) ps) (hpl : ps.length ≤ 9223372036854775807) (hpi : ∀ p ∈ ps, I64 p.a ∧ I64 p.b ∧ I64 p.c) :
    Calls Tryz.prog 6 #[v0, .agg #[.string s, .int .i64 a, .int .i64 b, .int .i64 c, .slice al nl cl, .slice ap ps.length cp]] w fun e w' => e = .returned (.bool true) ∧ Below w.heap.size w w' := by
  obtain ⟨ad0, cap0, rfl, hel⟩ := hps.sl
  have HEL := hide3 hel
  have HRA := hide3 hra
  have HPP := hide3 hpp
  have HB0 : Hid (Below w.heap.size w (w.alloc (.cells #[.string s, .int .i64 a, .int .i64 b, .int .i64 c, .slice al nl cl, .slice ap ps.length cp] 42))) := boxB _ _
  have HNW : Hid (Calls Tryz.prog 8 #[] (w.alloc (.cells #[.string s, .int .i64 a, .int .i64 b, .int .i64 c, .slice al nl cl, .slice ap ps.length cp] 42)) fun e w' => e = .returned (.pointer (some ⟨(w.alloc (.cells #[.string s, .int .i64 a, .int .i64 b, .int .i64 c, .slice al nl cl, .slice ap ps.length cp] 42)).heap.size + 1, 0, none⟩)) ∧ w' = (((w.alloc (.cells #[.string s, .int .i64 a, .int .i64 b, .int .i64 c, .slice al nl cl, .slice ap ps.length cp] 42)).alloc (.map #[] 0)).alloc (.cells #[.map (some (w.alloc (.cells #[.string s, .int .i64 a, .int .i64 b, .int .i64 c, .slice al nl cl, .slice ap ps.length cp] 42)).heap.size)] 68))) := new_any _
  have HC1 : Hid (CatAt (((w.alloc (.cells #[.string s, .int .i64 a, .int .i64 b, .int .i64 c, .slice al nl cl, .slice ap ps.length cp] 42)).alloc (.map #[] 0)).alloc (.cells #[.map (some (w.alloc (.cells #[.string s, .int .i64 a, .int .i64 b, .int .i64 c, .slice al nl cl, .slice ap ps.length cp] 42)).heap.size)] 68)) w.heap.size ((w.alloc (.cells #[.string s, .int .i64 a, .int .i64 b, .int .i64 c, .slice al nl cl, .slice ap ps.length cp] 42)).heap.size + 1) (w.alloc (.cells #[.string s, .int .i64 a, .int .i64 b, .int .i64 c, .slice al nl cl, .slice ap ps.length cp] 42)).heap.size []) := CatAt.new _ _
  have hs0 : (w.alloc (.cells #[.string s, .int .i64 a, .int .i64 b, .int .i64 c, .slice al nl cl, .slice ap ps.length cp] 42)).heap.size = w.heap.size + 1 := by simp
  rw [hs0] at HNW HC1
  have HB1 : Hid (Below w.heap.size w (((w.alloc (.cells #[.string s, .int .i64 a, .int .i64 b, .int .i64 c, .slice al nl cl, .slice ap ps.length cp] 42)).alloc (.map #[] 0)).alloc (.cells #[.map (some (w.heap.size + 1))] 68))) := below_then HB0.out (boxB2 _ _ _)
  have HA1 : Hid (((((w.alloc (.cells #[.string s, .int .i64 a, .int .i64 b, .int .i64 c, .slice al nl cl, .slice ap ps.length cp] 42)).alloc (.map #[] 0)).alloc (.cells #[.map (some (w.heap.size + 1))] 68)).cell? ⟨w.heap.size, 0, none⟩ = some (.string s) ∧ (((w.alloc (.cells #[.string s, .int .i64 a, .int .i64 b, .int .i64 c, .slice al nl cl, .slice ap ps.length cp] 42)).alloc (.map #[] 0)).alloc (.cells #[.map (some (w.heap.size + 1))] 68)).cell? ⟨w.heap.size, 4, none⟩ = some (.slice al nl cl) ∧ (((w.alloc (.cells #[.string s, .int .i64 a, .int .i64 b, .int .i64 c, .slice al nl cl, .slice ap ps.length cp] 42)).alloc (.map #[] 0)).alloc (.cells #[.map (some (w.heap.size + 1))] 68)).cell? ⟨w.heap.size, 5, none⟩ = some (.slice ap ps.length cp) ∧ w.heap.size < (((w.alloc (.cells #[.string s, .int .i64 a, .int .i64 b, .int .i64 c, .slice al nl cl, .slice ap ps.length cp] 42)).alloc (.map #[] 0)).alloc (.cells #[.map (some (w.heap.size + 1))] 68)).heap.size)) := ⟨((boxB2 (w.alloc (.cells #[.string s, .int .i64 a, .int .i64 b, .int .i64 c, .slice al nl cl, .slice ap ps.length cp] 42)) _ _).cell (p := ⟨w.heap.size, 0, none⟩) (by simp)).trans (by simp), ((boxB2 (w.alloc (.cells #[.string s, .int .i64 a, .int .i64 b, .int .i64 c, .slice al nl cl, .slice ap ps.length cp] 42)) _ _).cell (p := ⟨w.heap.size, 4, none⟩) (by simp)).trans (by simp), ((boxB2 (w.alloc (.cells #[.string s, .int .i64 a, .int .i64 b, .int .i64 c, .slice al nl cl, .slice ap ps.length cp] 42)) _ _).cell (p := ⟨w.heap.size, 5, none⟩) (by simp)).trans (by simp), by simp; omega⟩
  have HKN : Hid (Calls Tryz.prog 9 #[] (((w.alloc (.cells #[.string s, .int .i64 a, .int .i64 b, .int .i64 c, .slice al nl cl, .slice ap ps.length cp] 42)).alloc (.map #[] 0)).alloc (.cells #[.map (some (w.heap.size + 1))] 68)) fun e w' => e = .returned (.bool true) ∧ Below (((w.alloc (.cells #[.string s, .int .i64 a, .int .i64 b, .int .i64 c, .slice al nl cl, .slice ap ps.length cp] 42)).alloc (.map #[] 0)).alloc (.cells #[.map (some (w.heap.size + 1))] 68)).heap.size (((w.alloc (.cells #[.string s, .int .i64 a, .int .i64 b, .int .i64 c, .slice al nl cl, .slice ap ps.length cp] 42)).alloc (.map #[] 0)).alloc (.cells #[.map (some (w.heap.size + 1))] 68)) w') := known_ct (he.below HB1.out) (hf.below HB1.out)
  have HKE : Hid (∀ a b (L : List CV), (((CatAt a w.heap.size (w.heap.size + 2) (w.heap.size + 1) L ∧ L.length ≤ 128) ∧ Below w.heap.size w a) ∧ (a.cell? ⟨w.heap.size, 0, none⟩ = some (.string s) ∧ a.cell? ⟨w.heap.size, 4, none⟩ = some (.slice al nl cl) ∧ a.cell? ⟨w.heap.size, 5, none⟩ = some (.slice ap ps.length cp) ∧ w.heap.size < a.heap.size)) → Below a.heap.size a b → ((CatAt b w.heap.size (w.heap.size + 2) (w.heap.size + 1) L ∧ L.length ≤ 128) ∧ Below w.heap.size w b) ∧ (b.cell? ⟨w.heap.size, 0, none⟩ = some (.string s) ∧ b.cell? ⟨w.heap.size, 4, none⟩ = some (.slice al nl cl) ∧ b.cell? ⟨w.heap.size, 5, none⟩ = some (.slice ap ps.length cp) ∧ w.heap.size < b.heap.size)) := fun a b L hx hab => ⟨⟨⟨hx.1.1.1.below hab, hx.1.1.2⟩, below_then hx.1.2 hab⟩, (hab.cell (p := ⟨w.heap.size, 0, none⟩) hx.2.2.2.2).trans hx.2.1, (hab.cell (p := ⟨w.heap.size, 4, none⟩) hx.2.2.2.2).trans hx.2.2.1, (hab.cell (p := ⟨w.heap.size, 5, none⟩) hx.2.2.2.2).trans hx.2.2.2.1, Nat.lt_of_lt_of_le hx.2.2.2.2 hab.size⟩
  have HK1 : Hid (((CatAt (((w.alloc (.cells #[.string s, .int .i64 a, .int .i64 b, .int .i64 c, .slice al nl cl, .slice ap ps.length cp] 42)).alloc (.map #[] 0)).alloc (.cells #[.map (some (w.heap.size + 1))] 68)) w.heap.size (w.heap.size + 2) (w.heap.size + 1) ([] : List CV) ∧ ([] : List CV).length ≤ 128) ∧ Below w.heap.size w (((w.alloc (.cells #[.string s, .int .i64 a, .int .i64 b, .int .i64 c, .slice al nl cl, .slice ap ps.length cp] 42)).alloc (.map #[] 0)).alloc (.cells #[.map (some (w.heap.size + 1))] 68))) ∧ ((((w.alloc (.cells #[.string s, .int .i64 a, .int .i64 b, .int .i64 c, .slice al nl cl, .slice ap ps.length cp] 42)).alloc (.map #[] 0)).alloc (.cells #[.map (some (w.heap.size + 1))] 68)).cell? ⟨w.heap.size, 0, none⟩ = some (.string s) ∧ (((w.alloc (.cells #[.string s, .int .i64 a, .int .i64 b, .int .i64 c, .slice al nl cl, .slice ap ps.length cp] 42)).alloc (.map #[] 0)).alloc (.cells #[.map (some (w.heap.size + 1))] 68)).cell? ⟨w.heap.size, 4, none⟩ = some (.slice al nl cl) ∧ (((w.alloc (.cells #[.string s, .int .i64 a, .int .i64 b, .int .i64 c, .slice al nl cl, .slice ap ps.length cp] 42)).alloc (.map #[] 0)).alloc (.cells #[.map (some (w.heap.size + 1))] 68)).cell? ⟨w.heap.size, 5, none⟩ = some (.slice ap ps.length cp) ∧ w.heap.size < (((w.alloc (.cells #[.string s, .int .i64 a, .int .i64 b, .int .i64 c, .slice al nl cl, .slice ap ps.length cp] 42)).alloc (.map #[] 0)).alloc (.cells #[.map (some (w.heap.size + 1))] 68)).heap.size)) := ⟨⟨⟨HC1.out, by decide⟩, HB1.out⟩, HA1.out⟩
  have HPA : Hid (∀ (W : World) (L : List CV) (P : Pg) (v1 v2 v3 : Value), (((CatAt W w.heap.size (w.heap.size + 2) (w.heap.size + 1) L ∧ L.length ≤ 128) ∧ Below w.heap.size w W) ∧ (W.cell? ⟨w.heap.size, 0, none⟩ = some (.string s) ∧ W.cell? ⟨w.heap.size, 4, none⟩ = some (.slice al nl cl) ∧ W.cell? ⟨w.heap.size, 5, none⟩ = some (.slice ap ps.length cp) ∧ w.heap.size < W.heap.size)) → PgAt W P v1 v2 v3 → Calls Tryz.prog 11 #[.pointer (some ⟨w.heap.size + 2, 0, none⟩), .agg #[.string P.nm, .int .i64 P.a, .int .i64 P.b, .int .i64 P.c, v1, v2, v3]] W fun e w' => ∃ r L', e = .returned (.int .i64 r) ∧ (((CatAt w' w.heap.size (w.heap.size + 2) (w.heap.size + 1) L' ∧ L'.length ≤ 128) ∧ Below w.heap.size w w') ∧ (w'.cell? ⟨w.heap.size, 0, none⟩ = some (.string s) ∧ w'.cell? ⟨w.heap.size, 4, none⟩ = some (.slice al nl cl) ∧ w'.cell? ⟨w.heap.size, 5, none⟩ = some (.slice ap ps.length cp) ∧ w.heap.size < w'.heap.size))) := fun W L P v1 v2 v3 hk hp => by
    refine (put_any hk.1.1.1 hk.1.2.size hk.1.1.2 hp (he.below hk.1.2) (hf.below hk.1.2)).mono ?_
    rintro e w' ⟨r, L', rfl, hc, hl, hg⟩
    have q : ∀ j, w'.cell? ⟨w.heap.size, j, none⟩ = W.cell? ⟨w.heap.size, j, none⟩ := fun j => World.cell?_of_block (a := ⟨w.heap.size, j, none⟩) (hg.block w.heap.size hk.2.2.2.2 (fun q => by have := Option.some.inj q; omega))
    exact ⟨r, L', rfl, ⟨⟨hc, hl⟩, hk.1.2.grown hg hk.1.2.size (fun j hj => by cases hj; omega)⟩, (q 0).trans hk.2.1, (q 4).trans hk.2.2.1, (q 5).trans hk.2.2.2.1, Nat.lt_of_lt_of_le hk.2.2.2.2 hg.size⟩
  clear hps hel hra hpp hs0
  go_enter Tryz.func6, Tryz.ntmps6
  go_wp2_with (first
    | (go_at_call 8; refine HNW.out.mono ?_; rintro e w1 ⟨rfl, rfl⟩; clear HNW)
    | (go_at_call 9; refine HKN.out.mono ?_; rintro e w2 ⟨rfl, hb⟩; have HK2 := hide3 (HKE.out _ _ _ HK1.out hb); clear hb HKN HK1))
  go_loopw [6] (fun vi wr => ∃ (i : Nat) (L : List CV), i ≤ Ps.length ∧ vi = .int .i64 i ∧ (((CatAt wr w.heap.size (w.heap.size + 2) (w.heap.size + 1) L ∧ L.length ≤ 128) ∧ Below w.heap.size w wr) ∧ (wr.cell? ⟨w.heap.size, 0, none⟩ = some (.string s) ∧ wr.cell? ⟨w.heap.size, 4, none⟩ = some (.slice al nl cl) ∧ wr.cell? ⟨w.heap.size, 5, none⟩ = some (.slice ap ps.length cp) ∧ w.heap.size < wr.heap.size))) (fun vi _ => Ps.length - (intOf vi).toNat)
  case atStart => exact ⟨0, [], Nat.zero_le _, rfl, HK2.out⟩
  case round =>
    obtain ⟨i, L, hi, rfl, hk⟩ := hrel
    have HK := hide3 hk
    obtain ⟨_, b0, e4, e5, hlt0⟩ := hk
    by_cases hlt : i < Ps.length
    · have hki : (i : Int) < (Ps.length : Int) := by omega
      obtain ⟨g, o, rfl, v1, v2, v3, ⟨c0, c1, c2, c3, c4, c5, c6⟩, hpg, hgl⟩ := HEL.out i hlt
      obtain ⟨P, hP⟩ : ∃ P, P = Ps[i] := ⟨_, rfl⟩
      rw [← hP] at c0 c1 c2 c3 hpg
      have d0 := (HK.out.1.2.cell (p := ⟨g, o + i * 7, none⟩) hgl).trans c0
      have d1 := (HK.out.1.2.cell (p := ⟨g, o + i * 7 + 1, none⟩) hgl).trans c1
      have d2 := (HK.out.1.2.cell (p := ⟨g, o + i * 7 + 2, none⟩) hgl).trans c2
      have d3 := (HK.out.1.2.cell (p := ⟨g, o + i * 7 + 3, none⟩) hgl).trans c3
      have d4 := (HK.out.1.2.cell (p := ⟨g, o + i * 7 + 4, none⟩) hgl).trans c4
      have d5 := (HK.out.1.2.cell (p := ⟨g, o + i * 7 + 5, none⟩) hgl).trans c5
      have d6 := (HK.out.1.2.cell (p := ⟨g, o + i * 7 + 6, none⟩) hgl).trans c6
      have HPG := hide3 (hpg.below HK.out.1.2)
      clear hP c0 c1 c2 c3 c4 c5 c6 hpg b0 e4 e5
      go_wp2_with (go_at_call 11; refine (HPA.out _ _ _ _ _ _ HK.out HPG.out).mono ?_; rintro e w4 ⟨r, L', rfl, hk4⟩; have HK4 := hide3 hk4; clear hk4)
      exact ⟨⟨i + 1, L', by omega, by go_num, HK4.out⟩, by simp [intOf]; omega⟩
    · obtain rfl : i = Ps.length := by omega
      have hki : ¬ ((Ps.length : Int) < (Ps.length : Int)) := by omega
      have HKD : Hid (∀ a b, (((CatAt a w.heap.size (w.heap.size + 2) (w.heap.size + 1) L ∧ L.length ≤ 128) ∧ Below w.heap.size w a) ∧ (a.cell? ⟨w.heap.size, 0, none⟩ = some (.string s) ∧ a.cell? ⟨w.heap.size, 4, none⟩ = some (.slice al nl cl) ∧ a.cell? ⟨w.heap.size, 5, none⟩ = some (.slice ap ps.length cp) ∧ w.heap.size < a.heap.size)) → Below a.heap.size a b → ((CatAt b w.heap.size (w.heap.size + 2) (w.heap.size + 1) L ∧ L.length ≤ 128) ∧ Below w.heap.size w b) ∧ (b.cell? ⟨w.heap.size, 0, none⟩ = some (.string s) ∧ b.cell? ⟨w.heap.size, 4, none⟩ = some (.slice al nl cl) ∧ b.cell? ⟨w.heap.size, 5, none⟩ = some (.slice ap ps.length cp) ∧ w.heap.size < b.heap.size)) := fun a b => HKE.out a b L
      have HCT : Hid (∃ ts, Told L s ts ∧ ts.length ≤ 128) := by
        obtain ⟨ts, hp, hs⟩ := told_any (L := L) s HK.out.1.1.1.2.2.2
        exact ⟨ts, ⟨hp, hs⟩, by rw [hp.length_eq]; exact Nat.le_trans (verL_len s L) HK.out.1.1.2⟩
      obtain ⟨ts, htd, htl⟩ := HCT.out
      have HTD := hide3 htd
      have HCN : Hid (∀ (W : World), (((CatAt W w.heap.size (w.heap.size + 2) (w.heap.size + 1) L ∧ L.length ≤ 128) ∧ Below w.heap.size w W) ∧ (W.cell? ⟨w.heap.size, 0, none⟩ = some (.string s) ∧ W.cell? ⟨w.heap.size, 4, none⟩ = some (.slice al nl cl) ∧ W.cell? ⟨w.heap.size, 5, none⟩ = some (.slice ap ps.length cp) ∧ w.heap.size < W.heap.size)) → Calls Tryz.prog 20 #[.pointer (some ⟨w.heap.size + 2, 0, none⟩), .string s, .slice al nl cl, .slice ap ps.length cp] W fun e w' => ∃ u, e = .returned u ∧ OwnV w' W.heap.size u (candV R s ps ts) ∧ Below W.heap.size W w') := fun W hk => by
        refine (cands_any hk.1.1.1 (Nat.le_trans hk.1.1.2 (by decide)) s (HRA.out.1.below hk.1.2) (HPP.out.below hk.1.2) hpl hpi).mono ?_
        rintro e w' ⟨u, us, rfl, ht, ho, hb⟩
        rw [ht.uniq HTD.out] at ho
        exact ⟨u, rfl, ho, hb⟩
      have HCZ : Hid (∀ (W : World), (((CatAt W w.heap.size (w.heap.size + 2) (w.heap.size + 1) L ∧ L.length ≤ 128) ∧ Below w.heap.size w W) ∧ (W.cell? ⟨w.heap.size, 0, none⟩ = some (.string s) ∧ W.cell? ⟨w.heap.size, 4, none⟩ = some (.slice al nl cl) ∧ W.cell? ⟨w.heap.size, 5, none⟩ = some (.slice ap ps.length cp) ∧ w.heap.size < W.heap.size)) → Calls Tryz.prog 20 #[.pointer (some ⟨w.heap.size + 2, 0, none⟩), .string s, .slice al nl cl, .slice none 0 0] W fun e w' => ∃ u, e = .returned u ∧ OwnV w' W.heap.size u (ts.filter (inB R)) ∧ Below W.heap.size W w') := fun W hk => by
        refine (cands_any hk.1.1.1 (Nat.le_trans hk.1.1.2 (by decide)) s (HRA.out.1.below hk.1.2) (ps := []) ⟨none, 0, rfl, Nat.le_refl _, Or.inl rfl⟩ (by decide) (fun p hp => by cases hp)).mono ?_
        rintro e w' ⟨u, us, rfl, ht, ho, hb⟩
        rw [ht.uniq HTD.out, cand_nil] at ho
        exact ⟨u, rfl, ho, hb⟩
      have k1 : True := trivial
      clear hpi
      have HND := hide3 (told_nodup htd)
      have HGT := hide3 htd.2
      have HNB : Hid ((ts.filter (inB R)).Pairwise fun x y => x ≠ y) := HND.out.filter _
      have HGB : Hid ((ts.filter (inB R)).Pairwise fun x y => gtV x y = true) := HGT.out.filter _
      have HAE : Hid (candV R s ps ts = ((ts.filter (inB R)).filter (pinB s ps)) ++ ((ts.filter (inB R)).filter fun x => !pinB s ps x)) := cand_split _ _ _ _
      have hll : (candV R s ps ts).length = (ts.filter (inB R)).length := cand_length _ _ _ _
      have hlb : (ts.filter (inB R)).length ≤ 128 := Nat.le_trans (List.length_filter_le _ _) htl
      clear htd
      go_wp2_with (first
        | (have _t := k1; go_at_call 20; refine (HCN.out _ HK.out).mono ?_; rintro e w5 ⟨va0, rfl, hoa, hb⟩; have HK5 := hide3 (HKD.out _ _ HK.out hb); have HOa := hide3 hoa; obtain ⟨ra, za, rfl⟩ := hoa.len; obtain ⟨b0, b4, b5, _⟩ := HK5.out.2; clear hb hoa _t k1)
        | (go_at_call 20; refine (HCZ.out _ HK5.out).mono ?_; rintro e w6 ⟨vb0, rfl, hob, hb⟩; have HK6 := hide3 (HKD.out _ _ HK5.out hb); have HOA := hide3 (own_below HOa.out hb); have HOB := hide3 hob; obtain ⟨rb, zb, rfl⟩ := hob.len; obtain ⟨b0, b4, b5, hbl⟩ := HK6.out.2; clear hb hob))
      have HPL : Hid (PinsAt w6 (.slice ap ps.length cp) ps) := HPP.out.below HK6.out.1.2
      have HBW := hide3 HK6.out.1.2
      generalize candV R s ps ts = va at *
      generalize ts.filter (inB R) = vb at *
      have HNA : Hid (va.Pairwise fun x y => x ≠ y) := by
        rw [HAE.out]
        exact split_nodup HNB.out
      have HMA : Hid (∀ x, x ∈ va ↔ x ∈ vb) := fun x => by
        rw [HAE.out]
        exact split_mem
      have HPF : Hid (∀ i (hi : i < vb.length), (!pinB s ps vb[i]) = true → ∃ hl : (vb.filter (pinB s ps)).length + bothN (fun x => !pinB s ps x) vb i < va.length, va[(vb.filter (pinB s ps)).length + bothN (fun x => !pinB s ps x) vb i] = vb[i]) := fun i hi h => by
        obtain ⟨h1, h2⟩ := place_free hi h
        refine ⟨by rw [HAE.out]; exact h1, ?_⟩
        simp only [HAE.out]
        exact h2
      have hfb : (vb.filter (pinB s ps)).length ≤ 128 := Nat.le_trans (List.length_filter_le _ _) hlb
      clear HTD HCN HCZ HCT HND HGT HAE HK5 HOa
      have hgv := guardV
      have hgp := guardPn
      generalize (vb.filter (pinB s ps)).length = f0 at *
      go_loopw [9, 10] (fun vt vi wr => ∃ (i : Nat), i ≤ vb.length ∧ vi = .int .i64 i ∧ vt = .int .i64 (atN f0 (fun x => !pinB s ps x) vb i : Nat) ∧ Below w6.heap.size w6 wr) (fun _ vi _ => vb.length - (intOf vi).toNat)
      case atStart => exact ⟨0, Nat.zero_le _, rfl, rfl, Below.refl _ _⟩
      case round =>
        obtain ⟨i, hi, rfl, rfl, hbw⟩ := hrel
        obtain ⟨wo, hwo⟩ : ∃ x, x = wr := ⟨_, rfl⟩
        subst hwo
        have HBO := hide3 hbw
        clear hbw
        by_cases hlt : i < vb.length
        · have hki : (i : Int) < (vb.length : Int) := by omega
          obtain ⟨gb, _, hgb, ⟨cb, hvb⟩, x0, x1, x2⟩ := OwnV.cells (ts := vb) HOB.out i hlt
          injection hvb with hq1 _ hq2
          subst hq1
          subst hq2
          have HXB := hide3 (HMA.out vb[i])
          have HXM : Hid (vb[i] ∈ va) := HXB.out.2 (List.getElem_mem hlt)
          have HPV : Hid (∀ (hj : i - 1 < vb.length), 0 < i → gtV vb[i - 1] vb[i] = true) := fun hj h0 => List.pairwise_iff_getElem.1 HGB.out (i - 1) i hj hlt (by omega)
          have HPR : Hid (0 < i → w6.cell? ⟨gb, (i - 1) * 3, none⟩ = some (.int .i64 (vb[i - 1]'(by omega)).a) ∧ w6.cell? ⟨gb, (i - 1) * 3 + 1, none⟩ = some (.int .i64 (vb[i - 1]'(by omega)).b) ∧ w6.cell? ⟨gb, (i - 1) * 3 + 2, none⟩ = some (.int .i64 (vb[i - 1]'(by omega)).c)) := fun h0 => by
            obtain ⟨g2, _, _, ⟨c2, hv2⟩, y0, y1, y2⟩ := OwnV.cells (ts := vb) HOB.out (i - 1) (by omega)
            injection hv2 with hq1 _ _
            injection hq1 with hq1
            injection hq1 with hq1 _ _
            subst hq1
            exact ⟨y0, y1, y2⟩
          have HFR : Hid ((!pinB s ps vb[i]) = true → (∃ hl : f0 + bothN (fun x => !pinB s ps x) vb i < va.length, va[f0 + bothN (fun x => !pinB s ps x) vb i] = vb[i]) ∧ atN f0 (fun x => !pinB s ps x) vb (i + 1) = f0 + bothN (fun x => !pinB s ps x) vb i ∧ atN f0 (fun x => !pinB s ps x) vb i ≤ f0 + bothN (fun x => !pinB s ps x) vb i) := fun h => ⟨HPF.out i hlt h, at_free (q := fun x => !pinB s ps x) hlt h, at_le _ _ _ _⟩
          have HNF : Hid (¬ (!pinB s ps vb[i]) = true → atN f0 (fun x => !pinB s ps x) vb (i + 1) = atN f0 (fun x => !pinB s ps x) vb i) := fun h => at_not (q := fun x => !pinB s ps x) hlt h
          have hal : atN f0 (fun x => !pinB s ps x) vb i ≤ 256 := Nat.le_trans (at_le _ _ _ _) (by have := both_le (fun x => !pinB s ps x) vb i; omega)
          obtain ⟨x, hx⟩ : ∃ x, x = vb[i] := ⟨_, rfl⟩
          rw [← hx] at x0 x1 x2 HXM HPV HFR HNF
          clear hx HXB
          generalize f0 + bothN (fun x => !pinB s ps x) vb i = ix at *
          obtain ⟨at1, hat1⟩ : ∃ z, z = atN f0 (fun x => !pinB s ps x) vb (i + 1) := ⟨_, rfl⟩
          have HAT1 := hide3 hat1
          rw [← hat1] at HFR HNF
          clear hat1
          generalize atN f0 (fun x => !pinB s ps x) vb i = at0 at *
          go_wp2_with fail
          go_loopw [11, 12] (fun vn vk wr => ∃ (k : Nat), k ≤ vb.length ∧ vk = .int .i64 k ∧ vn = .int .i64 (metN x va k : Nat) ∧ Below w6.heap.size w6 wr) (fun _ vk _ => vb.length - (intOf vk).toNat)
          case atStart => exact ⟨0, Nat.zero_le _, rfl, by simp [metN], HBO.out⟩
          case round =>
            obtain ⟨k, hk, rfl, rfl, hbw⟩ := hrel
            have HBI := hide3 hbw
            clear hbw
            by_cases hkt : k < vb.length
            · have hkk : (k : Int) < (vb.length : Int) := by omega
              have hka : k < va.length := by omega
              obtain ⟨ga, _, hga, ⟨ca, hva⟩, y0, y1, y2⟩ := OwnV.cells (ts := va) HOA.out k hka
              rw [hll] at hva
              injection hva with hq1 _ hq2
              subst hq1
              subst hq2
              have HNO : Hid (¬ x = va[k] → metN x va (k + 1) = metN x va k) := fun q => met_no hka q
              have HYE : Hid (x = va[k] → metN x va k = 0 ∧ metN x va (k + 1) = 1) := fun q => met_yes hka q HNA.out
              have hml := met_le x va k
              obtain ⟨y, hy⟩ : ∃ y, y = va[k] := ⟨_, rfl⟩
              rw [← hy] at y0 y1 y2 HNO HYE
              have p0 := (HBI.out.cell (p := ⟨gb, i * 3, none⟩) hgb).trans x0
              have p1 := (HBI.out.cell (p := ⟨gb, i * 3 + 1, none⟩) hgb).trans x1
              have p2 := (HBI.out.cell (p := ⟨gb, i * 3 + 2, none⟩) hgb).trans x2
              have q0 := (HBI.out.cell (p := ⟨ga, k * 3, none⟩) hga).trans y0
              have q1 := (HBI.out.cell (p := ⟨ga, k * 3 + 1, none⟩) hga).trans y1
              have q2 := (HBI.out.cell (p := ⟨ga, k * 3 + 2, none⟩) hga).trans y2
              clear hy y0 y1 y2 x0 x1 x2
              have hev := eqlV y.a y.b y.c x.a x.b x.c
              by_cases hxy : x = y
              · subst hxy
                rw [decide_eq_true ⟨rfl, rfl, rfl⟩] at hev
                obtain ⟨hy1, hy2⟩ := HYE.out rfl
                have HY2 := hide3 hy2
                rw [hy1]
                clear hy1 hy2 HYE HNO hml
                go_wp2_with fail
                go_quiet (fail)
                go_wp2_with fail
                exact ⟨⟨k + 1, by omega, by go_num, by rw [HY2.out]; rfl, Go.Proofs.YthlipnnlgkmhcaaGreatDoor.Below.drewN HBI.out _⟩, by simp [intOf]; omega⟩
              · have hde : decide (y.a = x.a ∧ y.b = x.b ∧ y.c = x.c) = false := decide_eq_false fun q => hxy (by cases x; cases y; simp_all)
                rw [hde] at hev
                have HME : Hid (metN x va (k + 1) = metN x va k) := HNO.out hxy
                clear hde hxy HNO HYE
                go_wp2_with fail
                go_quiet (fail)
                go_wp2_with fail
                exact ⟨⟨k + 1, by omega, by go_num, by rw [HME.out], Go.Proofs.YthlipnnlgkmhcaaGreatDoor.Below.drewN HBI.out _⟩, by simp [intOf]; omega⟩
            · obtain rfl : k = vb.length := by omega
              have hkk : ¬ ((vb.length : Int) < (vb.length : Int)) := by omega
              have HM1 : Hid (metN x va vb.length = 1) := by
                unfold Hid
                rw [← hll, met_all, if_pos HXM.out]
              rw [HM1.out]
              clear HM1
              by_cases hz : i = 0
              · have hd0 : decide ((0 : Int) < (i : Int)) = false := decide_eq_false (by omega)
                have hd1 : ¬ (0 : Int) < (i : Int) := by omega
                have hd2 : decide (0 < i) = false := decide_eq_false (by omega)
                have hd3 : ¬ 0 < i := by omega
                clear hz HPV HPR
                go_wp2_with fail
                go_quiet (fail)
                go_wp2_with fail
                go_loopw [13, 14] (fun vf vk wq => ∃ (k : Nat), k ≤ ps.length ∧ vk = .int .i64 k ∧ vf = .bool (decide (cntP s (ps.take k) x = 0)) ∧ Below w6.heap.size w6 wq) (fun _ vk _ => ps.length - (intOf vk).toNat)
                case atStart => exact ⟨0, Nat.zero_le _, rfl, by simp [cntP], Go.Proofs.YthlipnnlgkmhcaaGreatDoor.Below.drewN HBI.out _⟩
                case round =>
                  obtain ⟨k, hk, rfl, rfl, hbw⟩ := hrel
                  have HBP := hide3 hbw
                  clear hbw
                  have c0 := (HBP.out.cell (p := ⟨w.heap.size, 0, none⟩) hbl).trans b0
                  have c5 := (HBP.out.cell (p := ⟨w.heap.size, 5, none⟩) hbl).trans b5
                  have p0 := (HBP.out.cell (p := ⟨gb, i * 3, none⟩) hgb).trans x0
                  have p1 := (HBP.out.cell (p := ⟨gb, i * 3 + 1, none⟩) hgb).trans x1
                  have p2 := (HBP.out.cell (p := ⟨gb, i * 3 + 2, none⟩) hgb).trans x2
                  by_cases hkt : k < ps.length
                  · have hkk : (k : Int) < (ps.length : Int) := by omega
                    obtain ⟨g, o, hgo, ⟨⟨y0, y1, y2, y3⟩, hgl⟩⟩ : ∃ g o, ap = some ⟨g, o, none⟩ ∧ PnIn w6 g (o + k * 4) ps[k] := by
                      obtain ⟨ad, cap, e, _, hl⟩ := HPL.out
                      injection e with e1 _ _
                      rcases hl with e | ⟨g, o, e2, _, hs⟩
                      · rw [e] at hkt; cases hkt
                      · exact ⟨g, o, e1.trans e2, hs k hkt⟩
                    subst hgo
                    have HFS := hide3 (free_step s ps k hkt x)
                    obtain ⟨p, hp⟩ : ∃ p, p = ps[k] := ⟨_, rfl⟩
                    rw [← hp] at y0 y1 y2 y3 HFS
                    have q0 := (HBP.out.cell (p := ⟨g, o + k * 4, none⟩) hgl).trans y0
                    have q1 := (HBP.out.cell (p := ⟨g, o + k * 4 + 1, none⟩) hgl).trans y1
                    have q2 := (HBP.out.cell (p := ⟨g, o + k * 4 + 2, none⟩) hgl).trans y2
                    have q3 := (HBP.out.cell (p := ⟨g, o + k * 4 + 3, none⟩) hgl).trans y3
                    clear hp y0 y1 y2 y3
                    cases hfr : decide (cntP s (ps.take k) x = 0)
                    · rw [hfr] at HFS
                      clear hfr
                      go_wp2_with fail
                      go_quiet (fail)
                      go_wp2_with fail
                      exact ⟨⟨k + 1, by omega, by go_num, by rw [HFS.out]; rfl, Go.Proofs.YthlipnnlgkmhcaaGreatDoor.Below.drewN HBP.out _⟩, by simp [intOf]; omega⟩
                    · rw [hfr, isPn_eq] at HFS
                      have hnp := neqPn p ⟨s, x.a, x.b, x.c⟩
                      clear hfr
                      simp only at hnp
                      generalize eqPn p ⟨s, x.a, x.b, x.c⟩ = bq at *
                      go_wp2_with fail
                      go_quiet (fail)
                      go_wp2_with fail
                      exact ⟨⟨k + 1, by omega, by go_num, by rw [HFS.out]; rfl, Go.Proofs.YthlipnnlgkmhcaaGreatDoor.Below.drewN HBP.out _⟩, by simp [intOf]; omega⟩
                  · obtain rfl : k = ps.length := by omega
                    have hkk : ¬ ((ps.length : Int) < (ps.length : Int)) := by omega
                    rw [free_all]
                    cases hpb : pinB s ps x
                    · obtain ⟨⟨hix, hax⟩, ha1, hle⟩ := HFR.out (by rw [hpb]; rfl)
                      have HA1 := hide3 ha1
                      have HAX := hide3 hax
                      have hixi : (ix : Int) < (vb.length : Int) := by omega
                      clear ha1 hax hpb HFR HNF
                      go_wp2_with fail
                      go_loopw [9] (fun vt wq => ∃ (m : Nat), m ≤ ix ∧ vt = .int .i64 m ∧ Below w6.heap.size w6 wq) (fun vt _ => ix - (intOf vt).toNat)
                      case atStart => exact ⟨at0, hle, rfl, HBP.out⟩
                      case round =>
                        obtain ⟨m, hm, rfl, hbw⟩ := hrel
                        have HBQ := hide3 hbw
                        clear hbw
                        have hma : m < va.length := by omega
                        have hmi : (m : Int) < (vb.length : Int) := by omega
                        obtain ⟨ga, _, hga, ⟨ca, hva⟩, y0, y1, y2⟩ := OwnV.cells (ts := va) HOA.out m hma
                        rw [hll] at hva
                        injection hva with hq1 _ hq2
                        subst hq1
                        subst hq2
                        have HYX : Hid (va[m] = x ↔ m = ix) := by
                          constructor
                          · intro q
                            rcases Nat.lt_trichotomy m ix with h | h | h
                            · exact absurd (q.trans HAX.out.symm) (List.pairwise_iff_getElem.1 HNA.out m ix hma hix h)
                            · exact h
                            · omega
                          · intro q
                            subst q
                            exact HAX.out
                        obtain ⟨y, hy⟩ : ∃ y, y = va[m] := ⟨_, rfl⟩
                        rw [← hy] at y0 y1 y2 HYX
                        have t0 := (HBQ.out.cell (p := ⟨ga, m * 3, none⟩) hga).trans y0
                        have t1 := (HBQ.out.cell (p := ⟨ga, m * 3 + 1, none⟩) hga).trans y1
                        have t2 := (HBQ.out.cell (p := ⟨ga, m * 3 + 2, none⟩) hga).trans y2
                        have u0 := (HBQ.out.cell (p := ⟨gb, i * 3, none⟩) hgb).trans x0
                        have u1 := (HBQ.out.cell (p := ⟨gb, i * 3 + 1, none⟩) hgb).trans x1
                        have u2 := (HBQ.out.cell (p := ⟨gb, i * 3 + 2, none⟩) hgb).trans x2
                        clear hy y0 y1 y2
                        have hnv := neqV y.a y.b y.c x.a x.b x.c
                        by_cases hmx : m = ix
                        · have hyx : y = x := HYX.out.2 hmx
                          rw [hyx, decide_eq_true ⟨rfl, rfl, rfl⟩] at hnv
                          rw [hyx] at t0 t1 t2
                          have hne : ((m : Int) == (vb.length : Int)) = false := by
                            rw [beq_eq_false_iff_ne]
                            omega
                          have HMX := hide3 hmx
                          clear hmx hyx
                          go_wp2_with fail
                          go_quiet (fail)
                          go_wp2_with fail
                          exact ⟨⟨i + 1, by omega, by go_num, by rw [← HAT1.out, HA1.out, HMX.out], Go.Proofs.YthlipnnlgkmhcaaGreatDoor.Below.drewN HBQ.out _⟩, by simp [intOf]; omega⟩
                        · have hde : decide (y.a = x.a ∧ y.b = x.b ∧ y.c = x.c) = false := decide_eq_false fun q => hmx (HYX.out.1 (by cases x; cases y; simp_all))
                          rw [hde] at hnv
                          have hmlt : m < ix := by omega
                          clear hde hmx
                          go_wp2_with fail
                          go_quiet (fail)
                          go_wp2_with fail
                          exact ⟨⟨m + 1, by omega, by go_num, Go.Proofs.YthlipnnlgkmhcaaGreatDoor.Below.drewN HBQ.out _⟩, by simp [intOf]; omega⟩
                    · have HA1 : Hid (at1 = at0) := HNF.out (by rw [hpb]; decide)
                      clear hpb HFR HNF
                      go_wp2_with fail
                      go_loopw [9] (fun vt wq => vt = .int .i64 at0 ∧ Below w6.heap.size w6 wq) (fun _ _ => 0)
                      case atStart => exact ⟨rfl, HBP.out⟩
                      case round =>
                        obtain ⟨rfl, hbw⟩ := hrel
                        have HBQ := hide3 hbw
                        clear hbw
                        go_wp2_with fail
                        go_quiet (fail)
                        go_wp2_with fail
                        exact ⟨⟨i + 1, by omega, by go_num, by rw [← HAT1.out, HA1.out], Go.Proofs.YthlipnnlgkmhcaaGreatDoor.Below.drewN HBQ.out _⟩, by simp [intOf]; omega⟩
              · obtain ⟨j, hj⟩ : ∃ j, j = i - 1 := ⟨_, rfl⟩
                have hd1 : (0 : Int) < (i : Int) := by omega
                have hd3 : 0 < i := by omega
                have hwr1 : IntKind.i64.wrap ((i : Int) - 1) = (i : Int) - 1 := by simp [IntKind.wrap, IntKind.bits, IntKind.signed]; omega
                have hwr2 : wrap64 ((i : Int) - 1) = (i : Int) - 1 := by unfold wrap64; omega
                have hj0 : (0 : Int) ≤ (i : Int) - 1 := by omega
                have hj1 : (i : Int) - 1 < (vb.length : Int) := by omega
                have hj2 : ((i : Int) - 1).toNat = j := by omega
                have hj3 : ¬ (i : Int) - 1 < 0 := by omega
                have hq1 : (1 : Int) ≤ (i : Int) := by omega
                have hq2 : 1 ≤ i := by omega
                have hq3 : (i : Int) ≤ (vb.length : Int) := by omega
                have hq4 : (i : Int) < (vb.length : Int) + 1 := by omega
                obtain ⟨z0, z1, z2⟩ := HPR.out (by omega)
                have HCM : Hid (∀ W, Calls Tryz.prog 25 #[.agg #[.int .i64 (vb[i - 1]'(by omega)).a, .int .i64 (vb[i - 1]'(by omega)).b, .int .i64 (vb[i - 1]'(by omega)).c], .agg #[.int .i64 x.a, .int .i64 x.b, .int .i64 x.c]] W fun e w' => e = .returned (.int .i64 1) ∧ Below W.heap.size W w') := fun W => by
                  have e := rCompare_any (vb[i - 1]'(by omega)).a (vb[i - 1]'(by omega)).b (vb[i - 1]'(by omega)).c x.a x.b x.c W
                  rw [cmp_gt (HPV.out (by omega) (by omega))] at e
                  exact e
                generalize vb[i - 1]'(by omega) = y at *
                rw [← hj] at z0 z1 z2
                have hjb : (j : Int) < (vb.length : Int) := by omega
                have u0 := (HBI.out.cell (p := ⟨gb, i * 3, none⟩) hgb).trans x0
                have u1 := (HBI.out.cell (p := ⟨gb, i * 3 + 1, none⟩) hgb).trans x1
                have u2 := (HBI.out.cell (p := ⟨gb, i * 3 + 2, none⟩) hgb).trans x2
                have z0' := (HBI.out.cell (p := ⟨gb, j * 3, none⟩) hgb).trans z0
                have z1' := (HBI.out.cell (p := ⟨gb, j * 3 + 1, none⟩) hgb).trans z1
                have z2' := (HBI.out.cell (p := ⟨gb, j * 3 + 2, none⟩) hgb).trans z2
                clear hz HPV HPR hj
                go_wp2_with fail
                go_region_held3 (fun w' => w'.cell? ⟨gb, i * 3, none⟩ = some (.int .i64 x.a) ∧ w'.cell? ⟨gb, i * 3 + 1, none⟩ = some (.int .i64 x.b) ∧ w'.cell? ⟨gb, i * 3 + 2, none⟩ = some (.int .i64 x.c) ∧ w'.cell? ⟨gb, j * 3, none⟩ = some (.int .i64 y.a) ∧ w'.cell? ⟨gb, j * 3 + 1, none⟩ = some (.int .i64 y.b) ∧ w'.cell? ⟨gb, j * 3 + 2, none⟩ = some (.int .i64 y.c)) (go_keep) (first
                  | (go_at_call 25; refine (HCM.out _).mono ?_; rintro e w7 ⟨rfl, hb⟩; have HB7 : Hid (Below w6.heap.size w6 w7) := below_then HBI.out.drew hb; have f0' := (HB7.out.cell (p := ⟨gb, i * 3, none⟩) hgb).trans x0; have f1' := (HB7.out.cell (p := ⟨gb, i * 3 + 1, none⟩) hgb).trans x1; have f2' := (HB7.out.cell (p := ⟨gb, i * 3 + 2, none⟩) hgb).trans x2; have f3' := (HB7.out.cell (p := ⟨gb, j * 3, none⟩) hgb).trans z0; have f4' := (HB7.out.cell (p := ⟨gb, j * 3 + 1, none⟩) hgb).trans z1; have f5' := (HB7.out.cell (p := ⟨gb, j * 3 + 2, none⟩) hgb).trans z2; clear hb))
                go_wp2_with fail
                go_loopw [13, 14] (fun vf vk wq => ∃ (k : Nat), k ≤ ps.length ∧ vk = .int .i64 k ∧ vf = .bool (decide (cntP s (ps.take k) x = 0)) ∧ Below w6.heap.size w6 wq) (fun _ vk _ => ps.length - (intOf vk).toNat)
                case atStart => exact ⟨0, Nat.zero_le _, rfl, by simp [cntP], HB7.out⟩
                case round =>
                  obtain ⟨k, hk, rfl, rfl, hbw⟩ := hrel
                  have HBP := hide3 hbw
                  clear hbw
                  have c0 := (HBP.out.cell (p := ⟨w.heap.size, 0, none⟩) hbl).trans b0
                  have c5 := (HBP.out.cell (p := ⟨w.heap.size, 5, none⟩) hbl).trans b5
                  have p0 := (HBP.out.cell (p := ⟨gb, i * 3, none⟩) hgb).trans x0
                  have p1 := (HBP.out.cell (p := ⟨gb, i * 3 + 1, none⟩) hgb).trans x1
                  have p2 := (HBP.out.cell (p := ⟨gb, i * 3 + 2, none⟩) hgb).trans x2
                  by_cases hkt : k < ps.length
                  · have hkk : (k : Int) < (ps.length : Int) := by omega
                    obtain ⟨g, o, hgo, ⟨⟨y0, y1, y2, y3⟩, hgl⟩⟩ : ∃ g o, ap = some ⟨g, o, none⟩ ∧ PnIn w6 g (o + k * 4) ps[k] := by
                      obtain ⟨ad, cap, e, _, hl⟩ := HPL.out
                      injection e with e1 _ _
                      rcases hl with e | ⟨g, o, e2, _, hs⟩
                      · rw [e] at hkt; cases hkt
                      · exact ⟨g, o, e1.trans e2, hs k hkt⟩
                    subst hgo
                    have HFS := hide3 (free_step s ps k hkt x)
                    obtain ⟨p, hp⟩ : ∃ p, p = ps[k] := ⟨_, rfl⟩
                    rw [← hp] at y0 y1 y2 y3 HFS
                    have q0 := (HBP.out.cell (p := ⟨g, o + k * 4, none⟩) hgl).trans y0
                    have q1 := (HBP.out.cell (p := ⟨g, o + k * 4 + 1, none⟩) hgl).trans y1
                    have q2 := (HBP.out.cell (p := ⟨g, o + k * 4 + 2, none⟩) hgl).trans y2
                    have q3 := (HBP.out.cell (p := ⟨g, o + k * 4 + 3, none⟩) hgl).trans y3
                    clear hp y0 y1 y2 y3
                    cases hfr : decide (cntP s (ps.take k) x = 0)
                    · rw [hfr] at HFS
                      clear hfr
                      go_wp2_with fail
                      go_quiet (fail)
                      go_wp2_with fail
                      exact ⟨⟨k + 1, by omega, by go_num, by rw [HFS.out]; rfl, Go.Proofs.YthlipnnlgkmhcaaGreatDoor.Below.drewN HBP.out _⟩, by simp [intOf]; omega⟩
                    · rw [hfr, isPn_eq] at HFS
                      have hnp := neqPn p ⟨s, x.a, x.b, x.c⟩
                      clear hfr
                      simp only at hnp
                      generalize eqPn p ⟨s, x.a, x.b, x.c⟩ = bq at *
                      go_wp2_with fail
                      go_quiet (fail)
                      go_wp2_with fail
                      exact ⟨⟨k + 1, by omega, by go_num, by rw [HFS.out]; rfl, Go.Proofs.YthlipnnlgkmhcaaGreatDoor.Below.drewN HBP.out _⟩, by simp [intOf]; omega⟩
                  · obtain rfl : k = ps.length := by omega
                    have hkk : ¬ ((ps.length : Int) < (ps.length : Int)) := by omega
                    rw [free_all]
                    cases hpb : pinB s ps x
                    · obtain ⟨⟨hix, hax⟩, ha1, hle⟩ := HFR.out (by rw [hpb]; rfl)
                      have HA1 := hide3 ha1
                      have HAX := hide3 hax
                      have hixi : (ix : Int) < (vb.length : Int) := by omega
                      clear ha1 hax hpb HFR HNF
                      go_wp2_with fail
                      go_loopw [9] (fun vt wq => ∃ (m : Nat), m ≤ ix ∧ vt = .int .i64 m ∧ Below w6.heap.size w6 wq) (fun vt _ => ix - (intOf vt).toNat)
                      case atStart => exact ⟨at0, hle, rfl, HBP.out⟩
                      case round =>
                        obtain ⟨m, hm, rfl, hbw⟩ := hrel
                        have HBQ := hide3 hbw
                        clear hbw
                        have hma : m < va.length := by omega
                        have hmi : (m : Int) < (vb.length : Int) := by omega
                        obtain ⟨ga, _, hga, ⟨ca, hva⟩, y0, y1, y2⟩ := OwnV.cells (ts := va) HOA.out m hma
                        rw [hll] at hva
                        injection hva with hq1 _ hq2
                        subst hq1
                        subst hq2
                        have HYX : Hid (va[m] = x ↔ m = ix) := by
                          constructor
                          · intro q
                            rcases Nat.lt_trichotomy m ix with h | h | h
                            · exact absurd (q.trans HAX.out.symm) (List.pairwise_iff_getElem.1 HNA.out m ix hma hix h)
                            · exact h
                            · omega
                          · intro q
                            subst q
                            exact HAX.out
                        obtain ⟨y, hy⟩ : ∃ y, y = va[m] := ⟨_, rfl⟩
                        rw [← hy] at y0 y1 y2 HYX
                        have t0 := (HBQ.out.cell (p := ⟨ga, m * 3, none⟩) hga).trans y0
                        have t1 := (HBQ.out.cell (p := ⟨ga, m * 3 + 1, none⟩) hga).trans y1
                        have t2 := (HBQ.out.cell (p := ⟨ga, m * 3 + 2, none⟩) hga).trans y2
                        have u0 := (HBQ.out.cell (p := ⟨gb, i * 3, none⟩) hgb).trans x0
                        have u1 := (HBQ.out.cell (p := ⟨gb, i * 3 + 1, none⟩) hgb).trans x1
                        have u2 := (HBQ.out.cell (p := ⟨gb, i * 3 + 2, none⟩) hgb).trans x2
                        clear hy y0 y1 y2
                        have hnv := neqV y.a y.b y.c x.a x.b x.c
                        by_cases hmx : m = ix
                        · have hyx : y = x := HYX.out.2 hmx
                          rw [hyx, decide_eq_true ⟨rfl, rfl, rfl⟩] at hnv
                          rw [hyx] at t0 t1 t2
                          have hne : ((m : Int) == (vb.length : Int)) = false := by
                            rw [beq_eq_false_iff_ne]
                            omega
                          have HMX := hide3 hmx
                          clear hmx hyx
                          go_wp2_with fail
                          go_quiet (fail)
                          go_wp2_with fail
                          exact ⟨⟨i + 1, by omega, by go_num, by rw [← HAT1.out, HA1.out, HMX.out], Go.Proofs.YthlipnnlgkmhcaaGreatDoor.Below.drewN HBQ.out _⟩, by simp [intOf]; omega⟩
                        · have hde : decide (y.a = x.a ∧ y.b = x.b ∧ y.c = x.c) = false := decide_eq_false fun q => hmx (HYX.out.1 (by cases x; cases y; simp_all))
                          rw [hde] at hnv
                          have hmlt : m < ix := by omega
                          clear hde hmx
                          go_wp2_with fail
                          go_quiet (fail)
                          go_wp2_with fail
                          exact ⟨⟨m + 1, by omega, by go_num, Go.Proofs.YthlipnnlgkmhcaaGreatDoor.Below.drewN HBQ.out _⟩, by simp [intOf]; omega⟩
                    · have HA1 : Hid (at1 = at0) := HNF.out (by rw [hpb]; decide)
                      clear hpb HFR HNF
                      go_wp2_with fail
                      go_loopw [9] (fun vt wq => vt = .int .i64 at0 ∧ Below w6.heap.size w6 wq) (fun _ _ => 0)
                      case atStart => exact ⟨rfl, HBP.out⟩
                      case round =>
                        obtain ⟨rfl, hbw⟩ := hrel
                        have HBQ := hide3 hbw
                        clear hbw
                        go_wp2_with fail
                        go_quiet (fail)
                        go_wp2_with fail
                        exact ⟨⟨i + 1, by omega, by go_num, by rw [← HAT1.out, HA1.out], Go.Proofs.YthlipnnlgkmhcaaGreatDoor.Below.drewN HBQ.out _⟩, by simp [intOf]; omega⟩
        · obtain rfl : i = vb.length := by omega
          have hki : ¬ ((vb.length : Int) < (vb.length : Int)) := by omega
          go_wp2_with fail
          go_ret
          exact ⟨rfl, below_then HBW.out HBO.out⟩
end Go.Proofs.YthlipnnlgkmhcaaGreatDoor
