/- Ct23, laid in one text. -/
import Derived.Deep.QuietTactic
import Derived.BigQuiet
import Derived.Test.YthlipnnlgkmhcaaGreatDoorMg16
namespace Go.Proofs.YthlipnnlgkmhcaaGreatDoor
open Go.RowKit Go.Maps Go.WideMaps
set_option maxRecDepth 100000

theorem meet_ok {A B : Rg} (hA : RangeR A) (hB : RangeR B) : RangeR (meetR A B) := hA.meet hB
theorem join_ok {A B : Rg} (hA : RangeR A) (hB : RangeR B) : RangeR (joinR A B) := hA.join hB
/-- There is a told list. -/
theorem told_any {L : List CV} (s : ByteArray) (hP : L.Pairwise fun x y => keyC x ≠ keyC y) : ∃ ts, Told L s ts := by
  refine ⟨(verL s L).mergeSort (fun x y => !gtV y x), Told.of hP (List.mergeSort_perm _ _) ?_⟩
  have h := List.pairwise_mergeSort (le := fun x y => !gtV y x) (fun x y z h1 h2 => by
    simp only [Bool.not_eq_true'] at h1 h2 ⊢
    exact gtV_ntrans h2 h1) (fun x y => by
    cases h : gtV y x with
    | false => simp
    | true => simp [gtV_asymm h]) (verL s L)
  exact h.imp fun {x y} q => by simpa using q

set_option maxHeartbeats 12800000 in
theorem catalogRanges_walk {w : World} (he : Env w) (hf : FL w) {v0 : Value} {Ps : List Pg} (hps : PgsAt w v0 Ps) (hpz : Ps.length ≤ 9223372036854775807) (s : ByteArray) (a b c : Int) {al ap ao : Option Addr} {nl cl np cp no co : Nat} {RA RB : List Sp} (hra : SpansC w (.slice al nl cl) RA) (hrb : SpansC w (.slice ao no co) RB) :
    Calls Tryz.prog 7 #[v0, .agg #[.string s, .int .i64 a, .int .i64 b, .int .i64 c, .slice al nl cl, .slice ap np cp], .slice ao no co] w fun e w' => e = .returned (.bool true) ∧ Below w.heap.size w w' := by
  obtain ⟨ad0, cap0, rfl, hel⟩ := hps.sl
  have HEL := hide3 hel
  have HRA := hide3 hra
  have HRB := hide3 hrb
  have HB0 : Hid (Below w.heap.size w (w.alloc (.cells #[.string s, .int .i64 a, .int .i64 b, .int .i64 c, .slice al nl cl, .slice ap np cp] 42))) := boxB _ _
  have HNW : Hid (Calls Tryz.prog 8 #[] (w.alloc (.cells #[.string s, .int .i64 a, .int .i64 b, .int .i64 c, .slice al nl cl, .slice ap np cp] 42)) fun e w' => e = .returned (.pointer (some ⟨(w.alloc (.cells #[.string s, .int .i64 a, .int .i64 b, .int .i64 c, .slice al nl cl, .slice ap np cp] 42)).heap.size + 1, 0, none⟩)) ∧ w' = (((w.alloc (.cells #[.string s, .int .i64 a, .int .i64 b, .int .i64 c, .slice al nl cl, .slice ap np cp] 42)).alloc (.map #[] 0)).alloc (.cells #[.map (some (w.alloc (.cells #[.string s, .int .i64 a, .int .i64 b, .int .i64 c, .slice al nl cl, .slice ap np cp] 42)).heap.size)] 68))) := new_any _
  have HC1 : Hid (CatAt (((w.alloc (.cells #[.string s, .int .i64 a, .int .i64 b, .int .i64 c, .slice al nl cl, .slice ap np cp] 42)).alloc (.map #[] 0)).alloc (.cells #[.map (some (w.alloc (.cells #[.string s, .int .i64 a, .int .i64 b, .int .i64 c, .slice al nl cl, .slice ap np cp] 42)).heap.size)] 68)) w.heap.size ((w.alloc (.cells #[.string s, .int .i64 a, .int .i64 b, .int .i64 c, .slice al nl cl, .slice ap np cp] 42)).heap.size + 1) (w.alloc (.cells #[.string s, .int .i64 a, .int .i64 b, .int .i64 c, .slice al nl cl, .slice ap np cp] 42)).heap.size []) := CatAt.new _ _
  have hs0 : (w.alloc (.cells #[.string s, .int .i64 a, .int .i64 b, .int .i64 c, .slice al nl cl, .slice ap np cp] 42)).heap.size = w.heap.size + 1 := by simp
  rw [hs0] at HNW HC1
  have HB1 : Hid (Below w.heap.size w (((w.alloc (.cells #[.string s, .int .i64 a, .int .i64 b, .int .i64 c, .slice al nl cl, .slice ap np cp] 42)).alloc (.map #[] 0)).alloc (.cells #[.map (some (w.heap.size + 1))] 68))) := below_then HB0.out (boxB2 _ _ _)
  have HA1 : Hid (((((w.alloc (.cells #[.string s, .int .i64 a, .int .i64 b, .int .i64 c, .slice al nl cl, .slice ap np cp] 42)).alloc (.map #[] 0)).alloc (.cells #[.map (some (w.heap.size + 1))] 68)).cell? ⟨w.heap.size, 0, none⟩ = some (.string s) ∧ (((w.alloc (.cells #[.string s, .int .i64 a, .int .i64 b, .int .i64 c, .slice al nl cl, .slice ap np cp] 42)).alloc (.map #[] 0)).alloc (.cells #[.map (some (w.heap.size + 1))] 68)).cell? ⟨w.heap.size, 4, none⟩ = some (.slice al nl cl) ∧ w.heap.size < (((w.alloc (.cells #[.string s, .int .i64 a, .int .i64 b, .int .i64 c, .slice al nl cl, .slice ap np cp] 42)).alloc (.map #[] 0)).alloc (.cells #[.map (some (w.heap.size + 1))] 68)).heap.size)) := ⟨((boxB2 (w.alloc (.cells #[.string s, .int .i64 a, .int .i64 b, .int .i64 c, .slice al nl cl, .slice ap np cp] 42)) _ _).cell (p := ⟨w.heap.size, 0, none⟩) (by simp)).trans (by simp), ((boxB2 (w.alloc (.cells #[.string s, .int .i64 a, .int .i64 b, .int .i64 c, .slice al nl cl, .slice ap np cp] 42)) _ _).cell (p := ⟨w.heap.size, 4, none⟩) (by simp)).trans (by simp), by simp; omega⟩
  have HKN : Hid (Calls Tryz.prog 9 #[] (((w.alloc (.cells #[.string s, .int .i64 a, .int .i64 b, .int .i64 c, .slice al nl cl, .slice ap np cp] 42)).alloc (.map #[] 0)).alloc (.cells #[.map (some (w.heap.size + 1))] 68)) fun e w' => e = .returned (.bool true) ∧ Below (((w.alloc (.cells #[.string s, .int .i64 a, .int .i64 b, .int .i64 c, .slice al nl cl, .slice ap np cp] 42)).alloc (.map #[] 0)).alloc (.cells #[.map (some (w.heap.size + 1))] 68)).heap.size (((w.alloc (.cells #[.string s, .int .i64 a, .int .i64 b, .int .i64 c, .slice al nl cl, .slice ap np cp] 42)).alloc (.map #[] 0)).alloc (.cells #[.map (some (w.heap.size + 1))] 68)) w') := known_ct (he.below HB1.out) (hf.below HB1.out)
  have HKE : Hid (∀ a b L, (((CatAt a w.heap.size (w.heap.size + 2) (w.heap.size + 1) L ∧ L.length ≤ 128) ∧ Below w.heap.size w a) ∧ (a.cell? ⟨w.heap.size, 0, none⟩ = some (.string s) ∧ a.cell? ⟨w.heap.size, 4, none⟩ = some (.slice al nl cl) ∧ w.heap.size < a.heap.size)) → Below a.heap.size a b → ((CatAt b w.heap.size (w.heap.size + 2) (w.heap.size + 1) L ∧ L.length ≤ 128) ∧ Below w.heap.size w b) ∧ (b.cell? ⟨w.heap.size, 0, none⟩ = some (.string s) ∧ b.cell? ⟨w.heap.size, 4, none⟩ = some (.slice al nl cl) ∧ w.heap.size < b.heap.size)) := fun a b L hx hab => ⟨⟨⟨hx.1.1.1.below hab, hx.1.1.2⟩, below_then hx.1.2 hab⟩, (hab.cell (p := ⟨w.heap.size, 0, none⟩) hx.2.2.2).trans hx.2.1, (hab.cell (p := ⟨w.heap.size, 4, none⟩) hx.2.2.2).trans hx.2.2.1, Nat.lt_of_lt_of_le hx.2.2.2 hab.size⟩
  have HK1 : Hid (((CatAt (((w.alloc (.cells #[.string s, .int .i64 a, .int .i64 b, .int .i64 c, .slice al nl cl, .slice ap np cp] 42)).alloc (.map #[] 0)).alloc (.cells #[.map (some (w.heap.size + 1))] 68)) w.heap.size (w.heap.size + 2) (w.heap.size + 1) ([] : List CV) ∧ ([] : List CV).length ≤ 128) ∧ Below w.heap.size w (((w.alloc (.cells #[.string s, .int .i64 a, .int .i64 b, .int .i64 c, .slice al nl cl, .slice ap np cp] 42)).alloc (.map #[] 0)).alloc (.cells #[.map (some (w.heap.size + 1))] 68))) ∧ ((((w.alloc (.cells #[.string s, .int .i64 a, .int .i64 b, .int .i64 c, .slice al nl cl, .slice ap np cp] 42)).alloc (.map #[] 0)).alloc (.cells #[.map (some (w.heap.size + 1))] 68)).cell? ⟨w.heap.size, 0, none⟩ = some (.string s) ∧ (((w.alloc (.cells #[.string s, .int .i64 a, .int .i64 b, .int .i64 c, .slice al nl cl, .slice ap np cp] 42)).alloc (.map #[] 0)).alloc (.cells #[.map (some (w.heap.size + 1))] 68)).cell? ⟨w.heap.size, 4, none⟩ = some (.slice al nl cl) ∧ w.heap.size < (((w.alloc (.cells #[.string s, .int .i64 a, .int .i64 b, .int .i64 c, .slice al nl cl, .slice ap np cp] 42)).alloc (.map #[] 0)).alloc (.cells #[.map (some (w.heap.size + 1))] 68)).heap.size)) := ⟨⟨⟨HC1.out, by decide⟩, HB1.out⟩, HA1.out⟩
  have HPA : Hid (∀ (W : World) (L : List CV) (P : Pg) (v1 v2 v3 : Value), (((CatAt W w.heap.size (w.heap.size + 2) (w.heap.size + 1) L ∧ L.length ≤ 128) ∧ Below w.heap.size w W) ∧ (W.cell? ⟨w.heap.size, 0, none⟩ = some (.string s) ∧ W.cell? ⟨w.heap.size, 4, none⟩ = some (.slice al nl cl) ∧ w.heap.size < W.heap.size)) → PgAt W P v1 v2 v3 → Calls Tryz.prog 11 #[.pointer (some ⟨w.heap.size + 2, 0, none⟩), .agg #[.string P.nm, .int .i64 P.a, .int .i64 P.b, .int .i64 P.c, v1, v2, v3]] W fun e w' => ∃ r L', e = .returned (.int .i64 r) ∧ (((CatAt w' w.heap.size (w.heap.size + 2) (w.heap.size + 1) L' ∧ L'.length ≤ 128) ∧ Below w.heap.size w w') ∧ (w'.cell? ⟨w.heap.size, 0, none⟩ = some (.string s) ∧ w'.cell? ⟨w.heap.size, 4, none⟩ = some (.slice al nl cl) ∧ w.heap.size < w'.heap.size))) := fun W L P v1 v2 v3 hk hp => by
    refine (put_any hk.1.1.1 hk.1.2.size hk.1.1.2 hp (he.below hk.1.2) (hf.below hk.1.2)).mono ?_
    rintro e w' ⟨r, L', rfl, hc, hl, hg⟩
    exact ⟨r, L', rfl, ⟨⟨hc, hl⟩, hk.1.2.grown hg hk.1.2.size (fun j hj => by cases hj; omega)⟩, (World.cell?_of_block (a := ⟨w.heap.size, 0, none⟩) (hg.block w.heap.size hk.2.2.2 (fun q => by have := Option.some.inj q; omega))).trans hk.2.1, (World.cell?_of_block (a := ⟨w.heap.size, 4, none⟩) (hg.block w.heap.size hk.2.2.2 (fun q => by have := Option.some.inj q; omega))).trans hk.2.2.1, Nat.lt_of_lt_of_le hk.2.2.2 hg.size⟩
  clear hps hel hra hrb hs0
  go_enter Tryz.func7, Tryz.ntmps7
  go_wp2_with (first
    | (go_at_call 8; refine HNW.out.mono ?_; rintro e w1 ⟨rfl, rfl⟩; clear HNW)
    | (go_at_call 9; refine HKN.out.mono ?_; rintro e w2 ⟨rfl, hb⟩; have HK2 := hide3 (HKE.out _ _ _ HK1.out hb); clear hb HKN HK1))
  go_loopw [8] (fun vi wr => ∃ (i : Nat) (L : List CV), i ≤ Ps.length ∧ vi = .int .i64 i ∧ (((CatAt wr w.heap.size (w.heap.size + 2) (w.heap.size + 1) L ∧ L.length ≤ 128) ∧ Below w.heap.size w wr) ∧ (wr.cell? ⟨w.heap.size, 0, none⟩ = some (.string s) ∧ wr.cell? ⟨w.heap.size, 4, none⟩ = some (.slice al nl cl) ∧ w.heap.size < wr.heap.size))) (fun vi _ => Ps.length - (intOf vi).toNat)
  case atStart => exact ⟨0, [], Nat.zero_le _, rfl, HK2.out⟩
  case round =>
    obtain ⟨i, L, hi, rfl, hk⟩ := hrel
    have HK := hide3 hk
    obtain ⟨_, b0, e4, hlt0⟩ := hk
    by_cases hlt : i < Ps.length
    · have hki : (i : Int) < (Ps.length : Int) := by omega
      obtain ⟨g, o, rfl, v1, v2, v3, ⟨c0, c1, c2, c3, c4, c5, c6⟩, hpg, hgl⟩ := HEL.out i hlt
      obtain ⟨P, hP⟩ : ∃ P, P = Ps[i] := ⟨_, rfl⟩
      rw [← hP] at c0 c1 c2 c3 hpg
      have d0 := (HK.out.1.2.cell (p := ⟨g, o + i * 7, none⟩) hgl).trans c0
      have d1 := (HK.out.1.2.cell (p := ⟨g, o + i * 7 + 1, none⟩) hgl).trans c1
      have d2 := (HK.out.1.2.cell (p := ⟨g, o + i * 7 + 2, none⟩) hgl).trans c2
      have d3 := (HK.out.1.2.cell (p := ⟨g, o + i * 7 + 3, none⟩) hgl).trans c3
      have d4 := (HK.out.1.2.cell (p := ⟨g, o + i * 7 + 4, none⟩) hgl).trans c4
      have d5 := (HK.out.1.2.cell (p := ⟨g, o + i * 7 + 5, none⟩) hgl).trans c5
      have d6 := (HK.out.1.2.cell (p := ⟨g, o + i * 7 + 6, none⟩) hgl).trans c6
      have HPG := hide3 (hpg.below HK.out.1.2)
      clear hP c0 c1 c2 c3 c4 c5 c6 hpg b0 e4
      go_wp2_with (go_at_call 11; refine (HPA.out _ _ _ _ _ _ HK.out HPG.out).mono ?_; rintro e w4 ⟨r, L', rfl, hk4⟩; have HK4 := hide3 hk4; clear hk4)
      exact ⟨⟨i + 1, L', by omega, by go_num, HK4.out⟩, by simp [intOf]; omega⟩
    · obtain rfl : i = Ps.length := by omega
      have hki : ¬ ((Ps.length : Int) < (Ps.length : Int)) := by omega
      have HKD : Hid (∀ a b, (((CatAt a w.heap.size (w.heap.size + 2) (w.heap.size + 1) L ∧ L.length ≤ 128) ∧ Below w.heap.size w a) ∧ (a.cell? ⟨w.heap.size, 0, none⟩ = some (.string s) ∧ a.cell? ⟨w.heap.size, 4, none⟩ = some (.slice al nl cl) ∧ w.heap.size < a.heap.size)) → Below a.heap.size a b → ((CatAt b w.heap.size (w.heap.size + 2) (w.heap.size + 1) L ∧ L.length ≤ 128) ∧ Below w.heap.size w b) ∧ (b.cell? ⟨w.heap.size, 0, none⟩ = some (.string s) ∧ b.cell? ⟨w.heap.size, 4, none⟩ = some (.slice al nl cl) ∧ w.heap.size < b.heap.size)) := fun a b => HKE.out a b L
      cases hmay : (mayL RA && mayL RB)
      · have HMN : Hid (∀ W, Below w.heap.size w W → Calls Tryz.prog 28 #[.slice al nl cl, .slice ao no co] W fun e w' => e = .returned (.tuple #[.slice none 0 0, .int .i64 21]) ∧ Below W.heap.size W w') := fun W hb => Meet_no (HRA.out.1.below hb) (HRB.out.1.below hb) hmay
        have HJN : Hid (∀ W, Below w.heap.size w W → Calls Tryz.prog 29 #[.slice al nl cl, .slice ao no co] W fun e w' => e = .returned (.tuple #[.slice none 0 0, .int .i64 21]) ∧ Below W.heap.size W w') := fun W hb => Join_no (HRA.out.1.below hb) (HRB.out.1.below hb) hmay
        clear hmay
        go_wp2_with (first
          | (go_at_call 28; refine (HMN.out _ HK.out.1.2).mono ?_; rintro e w5 ⟨rfl, hb⟩; have HK5 := hide3 (HKD.out _ _ HK.out hb); obtain ⟨_, b4, _⟩ := HK5.out.2; clear hb b0 e4)
          | (go_at_call 29; refine (HJN.out _ HK5.out.1.2).mono ?_; rintro e w6 ⟨rfl, hb⟩; have HK6 := hide3 (HKD.out _ _ HK5.out hb); clear hb b4))
        go_ret
        exact ⟨rfl, HK6.out.1.2⟩
      · rw [Bool.and_eq_true] at hmay
        obtain ⟨A, hAe, hA, la⟩ := may_iff.1 hmay.1
        obtain ⟨Bb, hBe, hB, lb⟩ := may_iff.1 hmay.2
        have HMT : Hid (∀ W, Below w.heap.size w W → Calls Tryz.prog 28 #[.slice al nl cl, .slice ao no co] W fun e w' => ∃ v, e = .returned (.tuple #[v, .int .i64 (fullE (meetR A Bb).length)]) ∧ OwnS w' W.heap.size v ((fitR (meetR A Bb)).map spR) ∧ Below W.heap.size W w') := fun W hb => Meet_rg hA hB la lb (SpansC.rg (hAe ▸ HRA.out.below hb)) (SpansC.rg (hBe ▸ HRB.out.below hb))
        have HJT : Hid (∀ W, Below w.heap.size w W → Calls Tryz.prog 29 #[.slice al nl cl, .slice ao no co] W fun e w' => ∃ v, e = .returned (.tuple #[v, .int .i64 (fullE (joinR A Bb).length)]) ∧ OwnS w' W.heap.size v ((fitR (joinR A Bb)).map spR) ∧ Below W.heap.size W w') := fun W hb => Join_rg hA hB la lb (hf.below hb) (SpansC.rg (hAe ▸ HRA.out.below hb)) (SpansC.rg (hBe ▸ HRB.out.below hb))
        by_cases hm64 : (meetR A Bb).length ≤ 64
        · by_cases hj64 : (joinR A Bb).length ≤ 64
          · have ef1 : fullE (meetR A Bb).length = 0 := if_pos hm64
            have ef2 : fullE (joinR A Bb).length = 0 := if_pos hj64
            have eg1 : fitR (meetR A Bb) = meetR A Bb := if_pos hm64
            have eg2 : fitR (joinR A Bb) = joinR A Bb := if_pos hj64
            rw [ef1, eg1] at HMT
            rw [ef2, eg2] at HJT
            clear ef1 ef2 eg1 eg2
            have HIB : Hid (∀ x : Vn, inB ((meetR A Bb).map spR) x = (inB RA x && inB RB x) ∧ inB ((joinR A Bb).map spR) x = (inB RA x || inB RB x)) := fun x => by
              rw [hAe, hBe]
              exact in_both hA hB la lb (meet_ok hA hB) hm64 (join_ok hA hB) hj64 x
            generalize (meetR A Bb).map spR = RM at *
            generalize (joinR A Bb).map spR = RJ at *
            clear hm64 hj64 hAe hBe hA hB la lb hmay
            have HCT : Hid (∃ ts, Told L s ts ∧ ts.length ≤ 128) := by
              obtain ⟨ts, hp, hs⟩ := told_any (L := L) s HK.out.1.1.1.2.2.2
              exact ⟨ts, ⟨hp, hs⟩, by rw [hp.length_eq]; exact Nat.le_trans (verL_len s L) HK.out.1.1.2⟩
            obtain ⟨ts, htd, htl⟩ := HCT.out
            have HTD := hide3 htd
            have HCN : Hid (∀ (W : World) (v : Value) (R : List Sp), CatAt W w.heap.size (w.heap.size + 2) (w.heap.size + 1) L → SpansAt W v R → Calls Tryz.prog 20 #[.pointer (some ⟨w.heap.size + 2, 0, none⟩), .string s, v, .slice none 0 0] W fun e w' => ∃ u, e = .returned u ∧ OwnV w' W.heap.size u (ts.filter (inB R)) ∧ Below W.heap.size W w') := fun W v R hc hv => by
              refine (cands_any hc (Nat.le_trans HK.out.1.1.2 (by decide)) s hv (ps := []) ⟨none, 0, rfl, Nat.le_refl _, Or.inl rfl⟩ (by decide) (fun p hp => by cases hp)).mono ?_
              rintro e w' ⟨u, us, rfl, ht, ho, hb⟩
              rw [ht.uniq HTD.out, cand_nil] at ho
              exact ⟨u, rfl, ho, hb⟩
            have HND := hide3 (told_nodup htd)
            clear htd
            have k1 : True := trivial
            have k2 : True := trivial
            have k3 : True := trivial
            go_wp2_with (first
              | (go_at_call 28; refine (HMT.out _ HK.out.1.2).mono ?_; rintro e w5 ⟨vm, rfl, hom, hb⟩; have HK5 := hide3 (HKD.out _ _ HK.out hb); have HM5 := hide3 hom; obtain ⟨b0, b4, _⟩ := HK5.out.2; obtain ⟨am, cm, rfl, _⟩ := hom.sp; clear hb hom e4)
              | (go_at_call 29; refine (HJT.out _ HK5.out.1.2).mono ?_; rintro e w6 ⟨vj, rfl, hoj, hb⟩; have HK6 := hide3 (HKD.out _ _ HK5.out hb); have HM6 := hide3 (HM5.out.below hb); have HJ6 := hide3 hoj; obtain ⟨b0, b4, _⟩ := HK6.out.2; obtain ⟨aj, cj, rfl, _⟩ := hoj.sp; clear hb hoj)
              | (have _t := k1; go_at_call 20; refine (HCN.out _ _ RA HK6.out.1.1.1 (HRA.out.1.below HK6.out.1.2)).mono ?_; rintro e w7 ⟨va, rfl, hoa, hb⟩; have HKw7 := hide3 (HKD.out _ _ HK6.out hb); have HOa := hide3 hoa; obtain ⟨ra, za, rfl⟩ := hoa.len; have HM7 := hide3 (HM6.out.below hb); have HJ7 := hide3 (HJ6.out.below hb); obtain ⟨b0, b4, _⟩ := HKw7.out.2; clear hb hoa _t k1)
              | (have _t := k2; go_at_call 20; refine (HCN.out _ _ RB HKw7.out.1.1.1 (HRB.out.1.below HKw7.out.1.2)).mono ?_; rintro e w8 ⟨vb, rfl, hob, hb⟩; have HKw8 := hide3 (HKD.out _ _ HKw7.out hb); have HOb := hide3 hob; obtain ⟨rb, zb, rfl⟩ := hob.len; have HM8 := hide3 (HM7.out.below hb); have HJ8 := hide3 (HJ7.out.below hb); have HOa8 := hide3 (own_below HOa.out hb); obtain ⟨b0, b4, _⟩ := HKw8.out.2; clear hb hob _t k2)
              | (have _t := k3; go_at_call 20; refine (HCN.out _ _ RM HKw8.out.1.1.1 HM8.out.at.1.1).mono ?_; rintro e w9 ⟨vm, rfl, hom, hb⟩; have HKw9 := hide3 (HKD.out _ _ HKw8.out hb); have HOm := hide3 hom; obtain ⟨rm, zm, rfl⟩ := hom.len; have HJ9 := hide3 (HJ8.out.below hb); have HOa9 := hide3 (own_below HOa8.out hb); have HOb9 := hide3 (own_below HOb.out hb); obtain ⟨b0, b4, _⟩ := HKw9.out.2; clear hb hom _t k3)
              | (go_at_call 20; refine (HCN.out _ _ RJ HKw9.out.1.1.1 HJ9.out.at.1.1).mono ?_; rintro e w10 ⟨vj2, rfl, hoj2, hb⟩; have HB10 := hide3 (below_then HKw9.out.1.2 hb); have HOA := hide3 (own_below HOa9.out hb); have HOB := hide3 (own_below HOb9.out hb); have HOM := hide3 (own_below HOm.out hb); obtain ⟨rj, zj, rfl⟩ := hoj2.len; clear hb hoj2))
            have HAM : Hid (ts.filter (inB RM) = (ts.filter (inB RA)).filter (inB RB)) := filter_two ts fun x _ => (HIB.out x).1
            have HJC : Hid ((ts.filter (inB RJ)).length + (ts.filter (inB RM)).length = (ts.filter (inB RA)).length + (ts.filter (inB RB)).length) := filter_count ts (fun x _ => (HIB.out x).1) (fun x _ => (HIB.out x).2)
            have HNB : Hid ((ts.filter (inB RB)).Pairwise fun x y => x ≠ y) := HND.out.filter _
            have HMB : Hid (∀ x ∈ ts.filter (inB RA), (x ∈ ts.filter (inB RB) ↔ inB RB x = true)) := fun x hx => ⟨fun q => (List.mem_filter.1 q).2, fun q => List.mem_filter.2 ⟨(List.mem_filter.1 hx).1, q⟩⟩
            have hla : (ts.filter (inB RA)).length ≤ 128 := Nat.le_trans (List.length_filter_le _ _) htl
            have hlb : (ts.filter (inB RB)).length ≤ 128 := Nat.le_trans (List.length_filter_le _ _) htl
            have hlm : (ts.filter (inB RM)).length ≤ 128 := Nat.le_trans (List.length_filter_le _ _) htl
            have hlj : (ts.filter (inB RJ)).length ≤ 128 := Nat.le_trans (List.length_filter_le _ _) htl
            generalize ts.filter (inB RA) = va at *
            generalize ts.filter (inB RB) = vb at *
            generalize ts.filter (inB RJ) = vj at *
            generalize ts.filter (inB RM) = vm at *
            clear HIB HCN HTD HND
            have hgv := guardV
            go_loopw [17, 18] (fun vn vi wr => ∃ (i : Nat), i ≤ va.length ∧ vi = .int .i64 i ∧ vn = .int .i64 (bothN (inB RB) va i) ∧ Below w10.heap.size w10 wr) (fun _ vi _ => va.length - (intOf vi).toNat)
            case atStart => exact ⟨0, Nat.zero_le _, rfl, rfl, Below.refl _ _⟩
            case round =>
              obtain ⟨i, hi, rfl, rfl, hbw⟩ := hrel
              obtain ⟨wo, hwo⟩ : ∃ x, x = wr := ⟨_, rfl⟩
              subst hwo
              have HBO := hide3 hbw
              clear hbw
              by_cases hlt : i < va.length
              · have hki : (i : Int) < (va.length : Int) := by omega
                obtain ⟨ga, _, hga, ⟨ca, hva⟩, a0, a1, a2⟩ := OwnV.cells (ts := va) HOA.out i hlt
                injection hva with hq1 _ hq2
                subst hq1
                subst hq2
                have HSC : Hid (bothN (inB RB) va (i + 1) = bothN (inB RB) va i + (if inB RB va[i] = true then 1 else 0)) := both_succ hlt
                have HAT : Hid (inB RB va[i] = true → ∃ h : bothN (inB RB) va i < vm.length, vm[bothN (inB RB) va i] = va[i]) := fun q => by
                  have e := both_at hlt q
                  rw [← HAM.out] at e
                  exact e
                have HIF : Hid (va[i] ∈ vb ↔ inB RB va[i] = true) := HMB.out _ (List.getElem_mem hlt)
                have hbl : bothN (inB RB) va i ≤ 128 := Nat.le_trans (both_le _ _ _) hla
                obtain ⟨x, hx⟩ : ∃ x, x = va[i] := ⟨_, rfl⟩
                rw [← hx] at a0 a1 a2 HSC HAT HIF
                have a0 := (HBO.out.cell (p := ⟨ga, i * 3, none⟩) hga).trans a0
                have a1 := (HBO.out.cell (p := ⟨ga, i * 3 + 1, none⟩) hga).trans a1
                have a2 := (HBO.out.cell (p := ⟨ga, i * 3 + 2, none⟩) hga).trans a2
                clear hx
                generalize bothN (inB RB) va i = n0 at *
                go_wp2_with fail
                go_loopw [17, 19] (fun vn vk wr => ∃ (k : Nat), k ≤ vb.length ∧ vk = .int .i64 k ∧ vn = .int .i64 ((n0 + metN x vb k : Nat) : Int) ∧ Below w10.heap.size w10 wr) (fun _ vk _ => vb.length - (intOf vk).toNat)
                case atStart => exact ⟨0, Nat.zero_le _, rfl, by simp [metN], HBO.out⟩
                case round =>
                  obtain ⟨k, hk, rfl, rfl, hbw⟩ := hrel
                  have HBI := hide3 hbw
                  clear hbw
                  by_cases hkt : k < vb.length
                  · have hkk : (k : Int) < (vb.length : Int) := by omega
                    obtain ⟨gb, _, hgb, ⟨cb, hvb⟩, b0', b1', b2'⟩ := OwnV.cells (ts := vb) HOB.out k hkt
                    injection hvb with hq1 _ hq2
                    subst hq1
                    subst hq2
                    have HNO : Hid (¬ x = vb[k] → metN x vb (k + 1) = metN x vb k) := fun q => met_no hkt q
                    have HYE : Hid (x = vb[k] → metN x vb k = 0 ∧ metN x vb (k + 1) = 1) := fun q => met_yes hkt q HNB.out
                    have HVM : Hid (x = vb[k] → inB RB x = true) := fun q => HIF.out.1 (q ▸ List.getElem_mem hkt)
                    have hml := met_le x vb k
                    obtain ⟨y, hy⟩ : ∃ y, y = vb[k] := ⟨_, rfl⟩
                    rw [← hy] at b0' b1' b2' HNO HYE HVM
                    have p0 := (HBI.out.cell (p := ⟨ga, i * 3, none⟩) hga).trans ((HBO.out.cell (p := ⟨ga, i * 3, none⟩) hga).symm.trans a0)
                    have p1 := (HBI.out.cell (p := ⟨ga, i * 3 + 1, none⟩) hga).trans ((HBO.out.cell (p := ⟨ga, i * 3 + 1, none⟩) hga).symm.trans a1)
                    have p2 := (HBI.out.cell (p := ⟨ga, i * 3 + 2, none⟩) hga).trans ((HBO.out.cell (p := ⟨ga, i * 3 + 2, none⟩) hga).symm.trans a2)
                    have q0 := (HBI.out.cell (p := ⟨gb, k * 3, none⟩) hgb).trans b0'
                    have q1 := (HBI.out.cell (p := ⟨gb, k * 3 + 1, none⟩) hgb).trans b1'
                    have q2 := (HBI.out.cell (p := ⟨gb, k * 3 + 2, none⟩) hgb).trans b2'
                    clear hy b0' b1' b2' a0 a1 a2
                    have hev := eqlV x.a x.b x.c y.a y.b y.c
                    by_cases hxy : x = y
                    · subst hxy
                      rw [decide_eq_true ⟨rfl, rfl, rfl⟩] at hev
                      obtain ⟨hy1, hy2⟩ := HYE.out rfl
                      obtain ⟨hmn, hme⟩ := HAT.out (HVM.out rfl)
                      obtain ⟨gm, _, hgm, ⟨cm2, hvm⟩, m0, m1, m2⟩ := OwnV.cells (ts := vm) HOM.out n0 hmn
                      injection hvm with hq1 _ hq2
                      subst hq1
                      subst hq2
                      rw [hme] at m0 m1 m2
                      have r0 := (HBI.out.cell (p := ⟨gm, n0 * 3, none⟩) hgm).trans m0
                      have r1 := (HBI.out.cell (p := ⟨gm, n0 * 3 + 1, none⟩) hgm).trans m1
                      have r2 := (HBI.out.cell (p := ⟨gm, n0 * 3 + 2, none⟩) hgm).trans m2
                      have hnv := neqV x.a x.b x.c x.a x.b x.c
                      rw [decide_eq_true ⟨rfl, rfl, rfl⟩] at hnv
                      have HY2 := hide3 hy2
                      rw [hy1, Nat.add_zero]
                      have hnn : (n0 : Int) < (vm.length : Int) := by omega
                      have hdn : decide ((vm.length : Int) ≤ (n0 : Int)) = false := decide_eq_false (by omega)
                      clear hy1 hy2 m0 m1 m2 hme HYE HNO HVM HAT
                      go_wp2_with fail
                      go_quiet (fail)
                      go_wp2_with fail
                      go_quiet (fail)
                      go_wp2_with fail
                      exact ⟨⟨k + 1, by omega, by go_num, by rw [HY2.out]; go_num, Go.Proofs.YthlipnnlgkmhcaaGreatDoor.Below.drewN HBI.out _⟩, by simp [intOf]; omega⟩
                    · have hde : decide (x.a = y.a ∧ x.b = y.b ∧ x.c = y.c) = false := decide_eq_false fun q => hxy (by cases x; cases y; simp_all)
                      rw [hde] at hev
                      have HME : Hid (metN x vb (k + 1) = metN x vb k) := HNO.out hxy
                      clear hde hxy HNO HYE HVM HAT
                      go_wp2_with fail
                      go_quiet (fail)
                      go_wp2_with fail
                      exact ⟨⟨k + 1, by omega, by go_num, by rw [HME.out, Int.natCast_add], Go.Proofs.YthlipnnlgkmhcaaGreatDoor.Below.drewN HBI.out _⟩, by simp [intOf]; omega⟩
                  · obtain rfl : k = vb.length := by omega
                    have hkk : ¬ ((vb.length : Int) < (vb.length : Int)) := by omega
                    have HNX : Hid (n0 + metN x vb vb.length = bothN (inB RB) va (i + 1)) := by
                      unfold Hid
                      rw [HSC.out, met_all]
                      by_cases q : inB RB x = true
                      · rw [if_pos q, if_pos (HIF.out.2 q)]
                      · rw [if_neg q, if_neg (fun z => q (HIF.out.1 z))]
                    go_wp2_with fail
                    exact ⟨⟨i + 1, by omega, by go_num, by rw [HNX.out], HBI.out⟩, by simp [intOf]; omega⟩
              · obtain rfl : i = va.length := by omega
                have hki : ¬ ((va.length : Int) < (va.length : Int)) := by omega
                have HBE : Hid (bothN (inB RB) va va.length = vm.length) := by
                  unfold Hid
                  rw [both_all, HAM.out]
                rw [HBE.out]
                have hj1 : ((vj.length : Int) == (va.length : Int) + (vb.length : Int) - (vm.length : Int)) = true := by
                  have := HJC.out
                  simp
                  omega
                clear HBE
                go_wp2_with fail
                go_ret
                exact ⟨rfl, below_then HB10.out HBO.out⟩
          · have ef2 : fullE (joinR A Bb).length = 26 := if_neg hj64
            have ef1 : fullE (meetR A Bb).length = 0 := if_pos hm64
            rw [ef2] at HJT
            rw [ef1] at HMT
            clear hmay hAe hBe hA hB la lb hm64 hj64 ef1 ef2
            go_wp2_with (first
              | (go_at_call 28; refine (HMT.out _ HK.out.1.2).mono ?_; rintro e w5 ⟨vm, rfl, hom, hb⟩; have HK5 := hide3 (HKD.out _ _ HK.out hb); have HM5 := hide3 hom; obtain ⟨b0, b4, _⟩ := HK5.out.2; obtain ⟨am, cm, rfl, _⟩ := hom.sp; clear hb hom e4)
              | (go_at_call 29; refine (HJT.out _ HK5.out.1.2).mono ?_; rintro e w6 ⟨vj, rfl, hoj, hb⟩; have HK6 := hide3 (HKD.out _ _ HK5.out hb); have HM6 := hide3 (HM5.out.below hb); have HJ6 := hide3 hoj; obtain ⟨b0, b4, _⟩ := HK6.out.2; obtain ⟨aj, cj, rfl, _⟩ := hoj.sp; clear hb hoj))
            go_ret
            exact ⟨rfl, HK6.out.1.2⟩
        · have ef1 : fullE (meetR A Bb).length = 26 := if_neg hm64
          rw [ef1] at HMT
          clear hmay hAe hBe hA hB la lb hm64 ef1
          generalize fullE (joinR A Bb).length = fj at *
          go_wp2_with (first
            | (go_at_call 28; refine (HMT.out _ HK.out.1.2).mono ?_; rintro e w5 ⟨vm, rfl, hom, hb⟩; have HK5 := hide3 (HKD.out _ _ HK.out hb); have HM5 := hide3 hom; obtain ⟨b0, b4, _⟩ := HK5.out.2; obtain ⟨am, cm, rfl, _⟩ := hom.sp; clear hb hom e4)
            | (go_at_call 29; refine (HJT.out _ HK5.out.1.2).mono ?_; rintro e w6 ⟨vj, rfl, hoj, hb⟩; have HK6 := hide3 (HKD.out _ _ HK5.out hb); have HM6 := hide3 (HM5.out.below hb); have HJ6 := hide3 hoj; obtain ⟨b0, b4, _⟩ := HK6.out.2; obtain ⟨aj, cj, rfl, _⟩ := hoj.sp; clear hb hoj))
          go_ret
          exact ⟨rfl, HK6.out.1.2⟩
end Go.Proofs.YthlipnnlgkmhcaaGreatDoor
