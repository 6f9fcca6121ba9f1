/- Wc2, Wb1, Wb2, laid in one text. -/
import Derived.Test.YtjpmlagofcgheaaGreatDoorMg17
namespace Go.Proofs.YtjpmlagofcgheaaGreatDoor
open Go.RowKit Go.Maps Go.WideMaps
set_option maxRecDepth 100000

theorem pn_one {w : World} {B : Nat} {v : Value} {p : Pn} (h : OwnPn w B v [p]) : ∃ g cap, v = .slice (some ⟨g, 0, none⟩) 1 cap ∧ PnIn w g 0 p := by
  obtain ⟨g, cap, _, _, e, _, hp⟩ := pn_cells h 0 (by simp)
  exact ⟨g, cap, e, by simpa using hp⟩

set_option maxHeartbeats 12800000 in
theorem known_wa {w : World} (he : Env w) (hf : FL w) : Calls Tryz.prog 24 #[] w fun e w' => e = .returned (.bool true) ∧ Below w.heap.size w w' := by
  have hs0 : (w.alloc (.cells #[.int .i64 1, .int .i64 0, .int .i64 0] 31)).heap.size = w.heap.size + 1 := by simp
  have HNW : Hid (Calls Tryz.prog 7 #[] (w.alloc (.cells #[.int .i64 1, .int .i64 0, .int .i64 0] 31)) fun e w' => e = .returned (.pointer (some ⟨w.heap.size + 2, 0, none⟩)) ∧ w' = (((w.alloc (.cells #[.int .i64 1, .int .i64 0, .int .i64 0] 31)).alloc (.map #[] 0)).alloc (.cells #[.map (some (w.heap.size + 1))] 74))) := by
    have e := new_any (w.alloc (.cells #[.int .i64 1, .int .i64 0, .int .i64 0] 31))
    rw [hs0] at e
    exact e
  have HC0 : Hid (CatAt (((w.alloc (.cells #[.int .i64 1, .int .i64 0, .int .i64 0] 31)).alloc (.map #[] 0)).alloc (.cells #[.map (some (w.heap.size + 1))] 74)) w.heap.size (w.heap.size + 2) (w.heap.size + 1) []) := by
    have e := CatAt.new (w.alloc (.cells #[.int .i64 1, .int .i64 0, .int .i64 0] 31)) w.heap.size
    rw [hs0] at e
    exact e
  have HB0 : Hid (Below w.heap.size w (((w.alloc (.cells #[.int .i64 1, .int .i64 0, .int .i64 0] 31)).alloc (.map #[] 0)).alloc (.cells #[.map (some (w.heap.size + 1))] 74))) := below_then (boxB _ _) (boxB2 _ _ _)
  have HK0 : Hid ((CatAt (((w.alloc (.cells #[.int .i64 1, .int .i64 0, .int .i64 0] 31)).alloc (.map #[] 0)).alloc (.cells #[.map (some (w.heap.size + 1))] 74)) w.heap.size (w.heap.size + 2) (w.heap.size + 1) [] ∧ Below w.heap.size w (((w.alloc (.cells #[.int .i64 1, .int .i64 0, .int .i64 0] 31)).alloc (.map #[] 0)).alloc (.cells #[.map (some (w.heap.size + 1))] 74))) ∧ (((((w.alloc (.cells #[.int .i64 1, .int .i64 0, .int .i64 0] 31)).alloc (.map #[] 0)).alloc (.cells #[.map (some (w.heap.size + 1))] 74)).cell? ⟨w.heap.size, 0, none⟩ = some (.int .i64 1) ∧ (((w.alloc (.cells #[.int .i64 1, .int .i64 0, .int .i64 0] 31)).alloc (.map #[] 0)).alloc (.cells #[.map (some (w.heap.size + 1))] 74)).cell? ⟨w.heap.size, 1, none⟩ = some (.int .i64 0) ∧ (((w.alloc (.cells #[.int .i64 1, .int .i64 0, .int .i64 0] 31)).alloc (.map #[] 0)).alloc (.cells #[.map (some (w.heap.size + 1))] 74)).cell? ⟨w.heap.size, 2, none⟩ = some (.int .i64 0)) ∧ w.heap.size < (((w.alloc (.cells #[.int .i64 1, .int .i64 0, .int .i64 0] 31)).alloc (.map #[] 0)).alloc (.cells #[.map (some (w.heap.size + 1))] 74)).heap.size)) := ⟨⟨HC0.out, HB0.out⟩, ⟨((boxB2 (w.alloc (.cells #[.int .i64 1, .int .i64 0, .int .i64 0] 31)) _ _).cell (p := ⟨w.heap.size, 0, none⟩) (by simp)).trans (by simp), ((boxB2 (w.alloc (.cells #[.int .i64 1, .int .i64 0, .int .i64 0] 31)) _ _).cell (p := ⟨w.heap.size, 1, none⟩) (by simp)).trans (by simp), ((boxB2 (w.alloc (.cells #[.int .i64 1, .int .i64 0, .int .i64 0] 31)) _ _).cell (p := ⟨w.heap.size, 2, none⟩) (by simp)).trans (by simp)⟩, Nat.lt_of_lt_of_le (by simp) (boxB2 (w.alloc (.cells #[.int .i64 1, .int .i64 0, .int .i64 0] 31)) _ _).size⟩
  have HKE : Hid (∀ a b (L : List CV), ((CatAt a w.heap.size (w.heap.size + 2) (w.heap.size + 1) L ∧ Below w.heap.size w a) ∧ ((a.cell? ⟨w.heap.size, 0, none⟩ = some (.int .i64 1) ∧ a.cell? ⟨w.heap.size, 1, none⟩ = some (.int .i64 0) ∧ a.cell? ⟨w.heap.size, 2, none⟩ = some (.int .i64 0)) ∧ w.heap.size < a.heap.size)) → Below a.heap.size a b → (CatAt b w.heap.size (w.heap.size + 2) (w.heap.size + 1) L ∧ Below w.heap.size w b) ∧ ((b.cell? ⟨w.heap.size, 0, none⟩ = some (.int .i64 1) ∧ b.cell? ⟨w.heap.size, 1, none⟩ = some (.int .i64 0) ∧ b.cell? ⟨w.heap.size, 2, none⟩ = some (.int .i64 0)) ∧ w.heap.size < b.heap.size)) := fun a b L hx hab => ⟨⟨hx.1.1.below hab, below_then hx.1.2 hab⟩, ⟨(hab.cell (p := ⟨w.heap.size, 0, none⟩) hx.2.2).trans hx.2.1.1, (hab.cell (p := ⟨w.heap.size, 1, none⟩) hx.2.2).trans hx.2.1.2.1, (hab.cell (p := ⟨w.heap.size, 2, none⟩) hx.2.2).trans hx.2.1.2.2⟩, Nat.lt_of_lt_of_le hx.2.2 hab.size⟩
  have HKG : Hid (∀ a b (L L' : List CV), ((CatAt a w.heap.size (w.heap.size + 2) (w.heap.size + 1) L ∧ Below w.heap.size w a) ∧ ((a.cell? ⟨w.heap.size, 0, none⟩ = some (.int .i64 1) ∧ a.cell? ⟨w.heap.size, 1, none⟩ = some (.int .i64 0) ∧ a.cell? ⟨w.heap.size, 2, none⟩ = some (.int .i64 0)) ∧ w.heap.size < a.heap.size)) → a.grownBy b (some (w.heap.size + 1)) → CatAt b w.heap.size (w.heap.size + 2) (w.heap.size + 1) L' → (CatAt b w.heap.size (w.heap.size + 2) (w.heap.size + 1) L' ∧ Below w.heap.size w b) ∧ ((b.cell? ⟨w.heap.size, 0, none⟩ = some (.int .i64 1) ∧ b.cell? ⟨w.heap.size, 1, none⟩ = some (.int .i64 0) ∧ b.cell? ⟨w.heap.size, 2, none⟩ = some (.int .i64 0)) ∧ w.heap.size < b.heap.size)) := fun a b L L' hx hg hc => by
    have q : ∀ j, b.cell? ⟨w.heap.size, j, none⟩ = a.cell? ⟨w.heap.size, j, none⟩ := fun j => World.cell?_of_block (a := ⟨w.heap.size, j, none⟩) (hg.block w.heap.size hx.2.2 (fun q => by have := Option.some.inj q; omega))
    exact ⟨⟨hc, hx.1.2.grown hg hx.1.2.size (fun j hj => by cases hj; omega)⟩, ⟨(q 0).trans hx.2.1.1, (q 1).trans hx.2.1.2.1, (q 2).trans hx.2.1.2.2⟩, Nat.lt_of_lt_of_le hx.2.2 hg.size⟩
  have HAL : Hid (∀ W, Calls Tryz.prog 31 #[] W fun e w' => ∃ a3 n3 c3, e = .returned (.slice a3 n3 c3) ∧ (SpansC w' (.slice a3 n3 c3) allS ∧ allS.length ≤ 9223372036854775807) ∧ Below W.heap.size W w') := fun W => (rAll_rg W).mono (by
    rintro e w' ⟨v, rfl, hv, hb⟩
    have hv2 := hv.at
    obtain ⟨a3, c3, e3, hle, _⟩ := hv
    subst e3
    exact ⟨a3, _, c3, rfl, ⟨⟨hv2, _, _, _, rfl, hle⟩, by decide⟩, hb⟩)
  have HP1 : Hid (∀ W a3 n3 c3, ((CatAt W w.heap.size (w.heap.size + 2) (w.heap.size + 1) [] ∧ Below w.heap.size w W) ∧ ((W.cell? ⟨w.heap.size, 0, none⟩ = some (.int .i64 1) ∧ W.cell? ⟨w.heap.size, 1, none⟩ = some (.int .i64 0) ∧ W.cell? ⟨w.heap.size, 2, none⟩ = some (.int .i64 0)) ∧ w.heap.size < W.heap.size)) → SpansC W (.slice a3 n3 c3) allS ∧ allS.length ≤ 9223372036854775807 → Calls Tryz.prog 10 #[.pointer (some ⟨w.heap.size + 2, 0, none⟩), .agg #[.string ⟨#[112]⟩, .int .i64 1, .int .i64 0, .int .i64 0, .slice none 0 0, .slice (some ⟨W.heap.size, 0, none⟩) 1 1, .slice none 0 0]] (W.alloc (.cells #[.string ⟨#[113]⟩, .slice a3 n3 c3] 70)) fun e w' => ∃ r u1 u2 u3, e = .returned (.int .i64 r) ∧ ((CatAt w' w.heap.size (w.heap.size + 2) (w.heap.size + 1) [⟨pP, u1, u2, u3⟩] ∧ Below w.heap.size w w') ∧ ((w'.cell? ⟨w.heap.size, 0, none⟩ = some (.int .i64 1) ∧ w'.cell? ⟨w.heap.size, 1, none⟩ = some (.int .i64 0) ∧ w'.cell? ⟨w.heap.size, 2, none⟩ = some (.int .i64 0)) ∧ w.heap.size < w'.heap.size))) := fun W a3 n3 c3 hk hs => by
    have hk2 := HKE.out _ _ _ hk (boxB W (.cells #[.string ⟨#[113]⟩, .slice a3 n3 c3] 70))
    have hd : DepsAt (W.alloc (.cells #[.string ⟨#[113]⟩, .slice a3 n3 c3] 70)) (.slice (some ⟨W.heap.size, 0, none⟩) 1 1) pP.p := ⟨some ⟨W.heap.size, 0, none⟩, 1, rfl, Nat.le_refl _, Or.inr ⟨W.heap.size, 0, rfl, by simp, fun i hi => by
      obtain rfl : i = 0 := by have h2 : i < 1 := hi; omega
      exact ⟨.slice a3 n3 c3, by simp [pP], by simp, ⟨⟨hs.1.1.below (boxB _ _), hs.1.2⟩, hs.2⟩, by simp⟩⟩⟩
    refine (put_ok (P := pP) hk2.1.1 ⟨sp_none _, hd, sp_none _⟩ (he.below hk2.1.2) (hf.below hk2.1.2) hk2.1.2.size pP_key pP_w rfl (by decide)).mono ?_
    rintro e w' ⟨rfl, u1, u2, u3, L', hp, hc, hg⟩
    exact ⟨_, u1, u2, u3, rfl, HKG.out _ _ _ _ hk2 hg (cat_one hp hc)⟩
  have HP2 : Hid (∀ W u1 u2 u3, ((CatAt W w.heap.size (w.heap.size + 2) (w.heap.size + 1) [⟨pP, u1, u2, u3⟩] ∧ Below w.heap.size w W) ∧ ((W.cell? ⟨w.heap.size, 0, none⟩ = some (.int .i64 1) ∧ W.cell? ⟨w.heap.size, 1, none⟩ = some (.int .i64 0) ∧ W.cell? ⟨w.heap.size, 2, none⟩ = some (.int .i64 0)) ∧ w.heap.size < W.heap.size)) → Calls Tryz.prog 10 #[.pointer (some ⟨w.heap.size + 2, 0, none⟩), .agg #[.string ⟨#[113]⟩, .int .i64 1, .int .i64 0, .int .i64 0, .slice none 0 0, .slice none 0 0, .slice none 0 0]] W fun e w' => ∃ r v1 v2 v3 L', e = .returned (.int .i64 r) ∧ L'.Perm [⟨qP, v1, v2, v3⟩, ⟨pP, u1, u2, u3⟩] ∧ ((CatAt w' w.heap.size (w.heap.size + 2) (w.heap.size + 1) L' ∧ Below w.heap.size w w') ∧ ((w'.cell? ⟨w.heap.size, 0, none⟩ = some (.int .i64 1) ∧ w'.cell? ⟨w.heap.size, 1, none⟩ = some (.int .i64 0) ∧ w'.cell? ⟨w.heap.size, 2, none⟩ = some (.int .i64 0)) ∧ w.heap.size < w'.heap.size))) := fun W u1 u2 u3 hk => by
    refine (put_ok (P := qP) hk.1.1 (qP_at _) (he.below hk.1.2) (hf.below hk.1.2) hk.1.2.size qP_key qP_w rfl (by simp)).mono ?_
    rintro e w' ⟨rfl, v1, v2, v3, L', hp, hc, hg⟩
    exact ⟨_, v1, v2, v3, L', rfl, hp, HKG.out _ _ _ _ hk hg hc⟩
  have HX1 : Hid (∀ W L u1 u2 u3 v1 v2 v3 bq, ((CatAt W w.heap.size (w.heap.size + 2) (w.heap.size + 1) L ∧ Below w.heap.size w W) ∧ ((W.cell? ⟨w.heap.size, 0, none⟩ = some (.int .i64 1) ∧ W.cell? ⟨w.heap.size, 1, none⟩ = some (.int .i64 0) ∧ W.cell? ⟨w.heap.size, 2, none⟩ = some (.int .i64 0)) ∧ w.heap.size < W.heap.size)) → L.Perm [⟨qP, v1, v2, v3⟩, ⟨pP, u1, u2, u3⟩] → PinsAt W (.slice (some ⟨bq, 0, none⟩) 1 1) [qN] → Calls Tryz.prog 25 #[.pointer (some ⟨w.heap.size + 2, 0, none⟩), .agg #[.slice none 0 0, .slice none 0 0, .slice none 0 0, .slice none 0 0], .slice (some ⟨bq, 0, none⟩) 1 1, .agg #[.string ⟨#[112]⟩, .int .i64 1, .int .i64 0, .int .i64 0]] W fun e w' => ∃ gc cc, e = .returned (.tuple #[.slice (some ⟨gc, 0, none⟩) 1 cc, .bool true]) ∧ PnIn w' gc 0 qN ∧ Below W.heap.size W w') := fun W L u1 u2 u3 v1 v2 v3 bq hk hp hq => by
    obtain ⟨h1, h2⟩ := cat_two hk.1.1 hp
    have e := ctx_any (x1 := none) (x2 := none) (x3 := none) (y1 := 0) (y2 := 0) (y3 := 0) (z1 := 0) (z2 := 0) (z3 := 0) hk.1.1 (by rw [hp.length_eq]; simp) (sp_none W) (by decide) (fun d hd => by cases hd) hq (by decide) (fun q hq => by rw [List.mem_singleton.1 hq]; decide) (fun q hq => by rw [List.mem_singleton.1 hq]; exact ⟨by unfold I64; decide, by unfold I64; decide, by unfold I64; decide⟩) pN pP_key
    rw [ctx_known1 h1 h2] at e
    refine e.mono ?_
    rintro e w' ⟨_, h3, h4⟩
    obtain ⟨v, ts, rfl, ⟨h5, _, _⟩, h6⟩ := h3 _ rfl
    rw [List.perm_singleton.1 h5] at h6
    obtain ⟨gc, cc, rfl, h7⟩ := pn_one h6
    exact ⟨gc, cc, rfl, h7, h4⟩
  have HX0 : Hid (∀ W L u1 u2 u3 v1 v2 v3, ((CatAt W w.heap.size (w.heap.size + 2) (w.heap.size + 1) L ∧ Below w.heap.size w W) ∧ ((W.cell? ⟨w.heap.size, 0, none⟩ = some (.int .i64 1) ∧ W.cell? ⟨w.heap.size, 1, none⟩ = some (.int .i64 0) ∧ W.cell? ⟨w.heap.size, 2, none⟩ = some (.int .i64 0)) ∧ w.heap.size < W.heap.size)) → L.Perm [⟨qP, v1, v2, v3⟩, ⟨pP, u1, u2, u3⟩] → Calls Tryz.prog 25 #[.pointer (some ⟨w.heap.size + 2, 0, none⟩), .agg #[.slice none 0 0, .slice none 0 0, .slice none 0 0, .slice none 0 0], .slice none 0 0, .agg #[.string ⟨#[112]⟩, .int .i64 1, .int .i64 0, .int .i64 0]] W fun e w' => e = .returned (.tuple #[.slice none 0 0, .bool false]) ∧ Below W.heap.size W w') := fun W L u1 u2 u3 v1 v2 v3 hk hp => by
    obtain ⟨h1, h2⟩ := cat_two hk.1.1 hp
    have e := ctx_any (x1 := none) (x2 := none) (x3 := none) (y1 := 0) (y2 := 0) (y3 := 0) (z1 := 0) (z2 := 0) (z3 := 0) (E := []) (ve := .slice none 0 0) hk.1.1 (by rw [hp.length_eq]; simp) (sp_none W) (by decide) (fun d hd => by cases hd) ⟨none, 0, rfl, Nat.le_refl _, Or.inl rfl⟩ (by decide) (fun q hq => by cases hq) (fun q hq => by cases hq) pN pP_key
    rw [ctx_known0 h1] at e
    exact e.mono fun e w' h => ⟨h.1 rfl, h.2.2⟩
  have hep : ∀ W, (binOp .eql 58 (.agg #[.string ⟨#[113]⟩, .int .i64 1, .int .i64 0, .int .i64 0]) (.agg #[.string ⟨#[113]⟩, .int .i64 1, .int .i64 0, .int .i64 0])).run Tryz.prog W = .ok (.bool true) W := fun W => by
    have e := eqlPn qN qN W
    rw [show eqPn qN qN = true from eqPn_iff.2 rfl] at e
    exact e
  have hgp := guardPn
  clear hs0 HC0
  go_enter Tryz.func24, Tryz.ntmps24
  go_wp2_with (go_at_call 7; refine HNW.out.mono ?_; rintro e w1 ⟨rfl, rfl⟩; clear HNW)
  generalize (((w.alloc (.cells #[.int .i64 1, .int .i64 0, .int .i64 0] 31)).alloc (.map #[] 0)).alloc (.cells #[.map (some (w.heap.size + 1))] 74)) = W at *
  have HKD := hide3 (HKE.out _ _ _ HK0.out (Below.refl _ _).drew)
  obtain ⟨v0, v1', v2'⟩ := HK0.out.2.1
  go_region_held3 (fun w' => w'.cell? ⟨w.heap.size, 0, none⟩ = some (.int .i64 1) ∧ w'.cell? ⟨w.heap.size, 1, none⟩ = some (.int .i64 0) ∧ w'.cell? ⟨w.heap.size, 2, none⟩ = some (.int .i64 0)) (go_keep) (first
    | (go_at_call 10; refine (HP1.out _ _ _ _ HK3.out HS3.out).mono ?_; rintro e w4 ⟨r4, u1, u2, u3, rfl, hk4⟩; have HK4 := hide3 hk4; obtain ⟨t0, t1, t2⟩ := hk4.2.1; clear hk4)
    | (go_at_call 31; refine (HAL.out _).mono ?_; rintro e w3 ⟨a3, n3, c3, rfl, hs3, hb3⟩; have HS3 := hide3 hs3; have HK3 := hide3 (HKE.out _ _ _ HKD.out hb3); obtain ⟨s0, s1, s2⟩ := HK3.out.2.1; have hlt3 := HK3.out.2.2; clear hs3 hb3))
  go_wp2_with (first
    | (go_at_call 10; refine (HP2.out _ _ _ _ HK4.out).mono ?_; rintro e w5 ⟨r5, x1, x2, x3, L, rfl, hpm, hk5⟩; have HK5 := hide3 hk5; have HPM := hide3 hpm; obtain ⟨q0, q1, q2⟩ := hk5.2.1; have hk5l := hk5.2.2; have z0 := ((boxB w5 (.cells #[.string ⟨#[112]⟩, .int .i64 1, .int .i64 0, .int .i64 0] 58)).cell (p := ⟨w.heap.size, 0, none⟩) hk5l).trans q0; have z1 := ((boxB w5 (.cells #[.string ⟨#[112]⟩, .int .i64 1, .int .i64 0, .int .i64 0] 58)).cell (p := ⟨w.heap.size, 1, none⟩) hk5l).trans q1; have z2 := ((boxB w5 (.cells #[.string ⟨#[112]⟩, .int .i64 1, .int .i64 0, .int .i64 0] 58)).cell (p := ⟨w.heap.size, 2, none⟩) hk5l).trans q2; have HB7 : Hid (Below w5.heap.size w5 (((w5.alloc (.cells #[.string ⟨#[112]⟩, .int .i64 1, .int .i64 0, .int .i64 0] 58)).alloc (.cells #[.string ⟨#[113]⟩, .int .i64 1, .int .i64 0, .int .i64 0] 58)).alloc (.cells #[.string ⟨#[113]⟩, .int .i64 1, .int .i64 0, .int .i64 0] 58))) := below_then (boxB2 _ _ _) (boxB _ _); have HK7 : Hid ((CatAt (((w5.alloc (.cells #[.string ⟨#[112]⟩, .int .i64 1, .int .i64 0, .int .i64 0] 58)).alloc (.cells #[.string ⟨#[113]⟩, .int .i64 1, .int .i64 0, .int .i64 0] 58)).alloc (.cells #[.string ⟨#[113]⟩, .int .i64 1, .int .i64 0, .int .i64 0] 58)) w.heap.size (w.heap.size + 2) (w.heap.size + 1) L ∧ Below w.heap.size w (((w5.alloc (.cells #[.string ⟨#[112]⟩, .int .i64 1, .int .i64 0, .int .i64 0] 58)).alloc (.cells #[.string ⟨#[113]⟩, .int .i64 1, .int .i64 0, .int .i64 0] 58)).alloc (.cells #[.string ⟨#[113]⟩, .int .i64 1, .int .i64 0, .int .i64 0] 58))) ∧ (((((w5.alloc (.cells #[.string ⟨#[112]⟩, .int .i64 1, .int .i64 0, .int .i64 0] 58)).alloc (.cells #[.string ⟨#[113]⟩, .int .i64 1, .int .i64 0, .int .i64 0] 58)).alloc (.cells #[.string ⟨#[113]⟩, .int .i64 1, .int .i64 0, .int .i64 0] 58)).cell? ⟨w.heap.size, 0, none⟩ = some (.int .i64 1) ∧ (((w5.alloc (.cells #[.string ⟨#[112]⟩, .int .i64 1, .int .i64 0, .int .i64 0] 58)).alloc (.cells #[.string ⟨#[113]⟩, .int .i64 1, .int .i64 0, .int .i64 0] 58)).alloc (.cells #[.string ⟨#[113]⟩, .int .i64 1, .int .i64 0, .int .i64 0] 58)).cell? ⟨w.heap.size, 1, none⟩ = some (.int .i64 0) ∧ (((w5.alloc (.cells #[.string ⟨#[112]⟩, .int .i64 1, .int .i64 0, .int .i64 0] 58)).alloc (.cells #[.string ⟨#[113]⟩, .int .i64 1, .int .i64 0, .int .i64 0] 58)).alloc (.cells #[.string ⟨#[113]⟩, .int .i64 1, .int .i64 0, .int .i64 0] 58)).cell? ⟨w.heap.size, 2, none⟩ = some (.int .i64 0)) ∧ w.heap.size < (((w5.alloc (.cells #[.string ⟨#[112]⟩, .int .i64 1, .int .i64 0, .int .i64 0] 58)).alloc (.cells #[.string ⟨#[113]⟩, .int .i64 1, .int .i64 0, .int .i64 0] 58)).alloc (.cells #[.string ⟨#[113]⟩, .int .i64 1, .int .i64 0, .int .i64 0] 58)).heap.size)) := HKE.out _ _ _ hk5 HB7.out; have HPI : Hid (PinsAt (((w5.alloc (.cells #[.string ⟨#[112]⟩, .int .i64 1, .int .i64 0, .int .i64 0] 58)).alloc (.cells #[.string ⟨#[113]⟩, .int .i64 1, .int .i64 0, .int .i64 0] 58)).alloc (.cells #[.string ⟨#[113]⟩, .int .i64 1, .int .i64 0, .int .i64 0] 58)) (.slice (some ⟨w5.heap.size + 1 + 1, 0, none⟩) 1 1) [qN]) := ⟨some ⟨w5.heap.size + 1 + 1, 0, none⟩, 1, rfl, Nat.le_refl _, Or.inr ⟨w5.heap.size + 1 + 1, 0, rfl, by simp, fun i hi => (by obtain rfl : i = 0 := (by have h2 : i < 1 := hi; omega); exact ⟨⟨(new_cell (by simp) rfl).1, (new_cell (by simp) rfl).1, (new_cell (by simp) rfl).1, (new_cell (by simp) rfl).1⟩, by simp⟩)⟩⟩; have hpb : w5.heap.size < (((w5.alloc (.cells #[.string ⟨#[112]⟩, .int .i64 1, .int .i64 0, .int .i64 0] 58)).alloc (.cells #[.string ⟨#[113]⟩, .int .i64 1, .int .i64 0, .int .i64 0] 58)).alloc (.cells #[.string ⟨#[113]⟩, .int .i64 1, .int .i64 0, .int .i64 0] 58)).heap.size := (by simp; omega); have hqb : w5.heap.size + 1 < (((w5.alloc (.cells #[.string ⟨#[112]⟩, .int .i64 1, .int .i64 0, .int .i64 0] 58)).alloc (.cells #[.string ⟨#[113]⟩, .int .i64 1, .int .i64 0, .int .i64 0] 58)).alloc (.cells #[.string ⟨#[113]⟩, .int .i64 1, .int .i64 0, .int .i64 0] 58)).heap.size := (by simp); have y0 : (((w5.alloc (.cells #[.string ⟨#[112]⟩, .int .i64 1, .int .i64 0, .int .i64 0] 58)).alloc (.cells #[.string ⟨#[113]⟩, .int .i64 1, .int .i64 0, .int .i64 0] 58)).alloc (.cells #[.string ⟨#[113]⟩, .int .i64 1, .int .i64 0, .int .i64 0] 58)).cell? ⟨w5.heap.size, 0, none⟩ = some (.string ⟨#[112]⟩) := ((boxB2 _ _ _).cell (p := ⟨w5.heap.size, 0, none⟩) (by simp)).trans (new_cell rfl rfl).1; have y1 : (((w5.alloc (.cells #[.string ⟨#[112]⟩, .int .i64 1, .int .i64 0, .int .i64 0] 58)).alloc (.cells #[.string ⟨#[113]⟩, .int .i64 1, .int .i64 0, .int .i64 0] 58)).alloc (.cells #[.string ⟨#[113]⟩, .int .i64 1, .int .i64 0, .int .i64 0] 58)).cell? ⟨w5.heap.size, 1, none⟩ = some (.int .i64 1) := ((boxB2 _ _ _).cell (p := ⟨w5.heap.size, 1, none⟩) (by simp)).trans (new_cell rfl rfl).1; have y2 : (((w5.alloc (.cells #[.string ⟨#[112]⟩, .int .i64 1, .int .i64 0, .int .i64 0] 58)).alloc (.cells #[.string ⟨#[113]⟩, .int .i64 1, .int .i64 0, .int .i64 0] 58)).alloc (.cells #[.string ⟨#[113]⟩, .int .i64 1, .int .i64 0, .int .i64 0] 58)).cell? ⟨w5.heap.size, 2, none⟩ = some (.int .i64 0) := ((boxB2 _ _ _).cell (p := ⟨w5.heap.size, 2, none⟩) (by simp)).trans (new_cell rfl rfl).1; have y3 : (((w5.alloc (.cells #[.string ⟨#[112]⟩, .int .i64 1, .int .i64 0, .int .i64 0] 58)).alloc (.cells #[.string ⟨#[113]⟩, .int .i64 1, .int .i64 0, .int .i64 0] 58)).alloc (.cells #[.string ⟨#[113]⟩, .int .i64 1, .int .i64 0, .int .i64 0] 58)).cell? ⟨w5.heap.size, 3, none⟩ = some (.int .i64 0) := ((boxB2 _ _ _).cell (p := ⟨w5.heap.size, 3, none⟩) (by simp)).trans (new_cell rfl rfl).1; have x0 : (((w5.alloc (.cells #[.string ⟨#[112]⟩, .int .i64 1, .int .i64 0, .int .i64 0] 58)).alloc (.cells #[.string ⟨#[113]⟩, .int .i64 1, .int .i64 0, .int .i64 0] 58)).alloc (.cells #[.string ⟨#[113]⟩, .int .i64 1, .int .i64 0, .int .i64 0] 58)).cell? ⟨w5.heap.size + 1, 0, none⟩ = some (.string ⟨#[113]⟩) := ((boxB _ _).cell (p := ⟨w5.heap.size + 1, 0, none⟩) (by simp)).trans (new_cell (by simp) rfl).1; have x1' : (((w5.alloc (.cells #[.string ⟨#[112]⟩, .int .i64 1, .int .i64 0, .int .i64 0] 58)).alloc (.cells #[.string ⟨#[113]⟩, .int .i64 1, .int .i64 0, .int .i64 0] 58)).alloc (.cells #[.string ⟨#[113]⟩, .int .i64 1, .int .i64 0, .int .i64 0] 58)).cell? ⟨w5.heap.size + 1, 1, none⟩ = some (.int .i64 1) := ((boxB _ _).cell (p := ⟨w5.heap.size + 1, 1, none⟩) (by simp)).trans (new_cell (by simp) rfl).1; have x2' : (((w5.alloc (.cells #[.string ⟨#[112]⟩, .int .i64 1, .int .i64 0, .int .i64 0] 58)).alloc (.cells #[.string ⟨#[113]⟩, .int .i64 1, .int .i64 0, .int .i64 0] 58)).alloc (.cells #[.string ⟨#[113]⟩, .int .i64 1, .int .i64 0, .int .i64 0] 58)).cell? ⟨w5.heap.size + 1, 2, none⟩ = some (.int .i64 0) := ((boxB _ _).cell (p := ⟨w5.heap.size + 1, 2, none⟩) (by simp)).trans (new_cell (by simp) rfl).1; have x3' : (((w5.alloc (.cells #[.string ⟨#[112]⟩, .int .i64 1, .int .i64 0, .int .i64 0] 58)).alloc (.cells #[.string ⟨#[113]⟩, .int .i64 1, .int .i64 0, .int .i64 0] 58)).alloc (.cells #[.string ⟨#[113]⟩, .int .i64 1, .int .i64 0, .int .i64 0] 58)).cell? ⟨w5.heap.size + 1, 3, none⟩ = some (.int .i64 0) := ((boxB _ _).cell (p := ⟨w5.heap.size + 1, 3, none⟩) (by simp)).trans (new_cell (by simp) rfl).1; clear hk5 hpm t0 t1 t2)
    | (have _t := HPI; go_at_call 25; refine (HX1.out _ _ _ _ _ _ _ _ _ HK7.out HPM.out HPI.out).mono ?_; rintro e w8 ⟨gc, cc, rfl, ⟨⟨g0, g1, g2, g3⟩, hgc⟩, hb8⟩; have HK8 := hide3 (HKE.out _ _ _ HK7.out hb8); have p0 := (hb8.cell (p := ⟨w5.heap.size, 0, none⟩) hpb).trans y0; have p1 := (hb8.cell (p := ⟨w5.heap.size, 1, none⟩) hpb).trans y1; have p2 := (hb8.cell (p := ⟨w5.heap.size, 2, none⟩) hpb).trans y2; have p3 := (hb8.cell (p := ⟨w5.heap.size, 3, none⟩) hpb).trans y3; have hqb8 := Nat.lt_of_lt_of_le hqb hb8.size; have f0 := (hb8.cell (p := ⟨w5.heap.size + 1, 0, none⟩) hqb).trans x0; have f1 := (hb8.cell (p := ⟨w5.heap.size + 1, 1, none⟩) hqb).trans x1'; have f2 := (hb8.cell (p := ⟨w5.heap.size + 1, 2, none⟩) hqb).trans x2'; have f3 := (hb8.cell (p := ⟨w5.heap.size + 1, 3, none⟩) hqb).trans x3'; clear hb8 HPI _t)
    | (go_at_call 25; refine (HX0.out _ _ _ _ _ _ _ _ HK8.out HPM.out).mono ?_; rintro e w9 ⟨rfl, hb9⟩; have HK9 := hide3 (HKE.out _ _ _ HK8.out hb9); have h0 := (hb9.cell (p := ⟨w5.heap.size + 1, 0, none⟩) hqb8).trans f0; have h1 := (hb9.cell (p := ⟨w5.heap.size + 1, 1, none⟩) hqb8).trans f1; have h2 := (hb9.cell (p := ⟨w5.heap.size + 1, 2, none⟩) hqb8).trans f2; have h3 := (hb9.cell (p := ⟨w5.heap.size + 1, 3, none⟩) hqb8).trans f3; have l0 := (hb9.cell (p := ⟨gc, 0, none⟩) hgc).trans g0; have l1 := (hb9.cell (p := ⟨gc, 0 + 1, none⟩) hgc).trans g1; have l2 := (hb9.cell (p := ⟨gc, 0 + 2, none⟩) hgc).trans g2; have l3 := (hb9.cell (p := ⟨gc, 0 + 3, none⟩) hgc).trans g3; simp only [Nat.zero_add, qN] at l0 l1 l2 l3; clear hb9))
  go_quiet (fail)
  go_wp2_with fail
  go_ret
  exact ⟨rfl, Go.Proofs.YtjpmlagofcgheaaGreatDoor.Below.drewN HK9.out.1.2 _⟩
end Go.Proofs.YtjpmlagofcgheaaGreatDoor
namespace Go.Proofs.YtjpmlagofcgheaaGreatDoor
open Go.RowKit Go.Maps Go.WideMaps
set_option maxRecDepth 100000

theorem find_hit {α : Type} {l : List α} {p : α → Bool} {i : Nat} (hi : i < l.length) (h : p l[i] = true) (hb : ∀ j (hj : j < l.length), j < i → p l[j] = false) : l.find? p = some l[i] := by
  rw [List.find?_eq_some_iff_getElem]
  refine ⟨h, i, hi, rfl, fun j hj => ?_⟩
  rw [hb j (by omega) hj]
  rfl
theorem find_no {α : Type} {l : List α} {p : α → Bool} (hb : ∀ j (hj : j < l.length), j < l.length → p l[j] = false) : l.find? p = none := by
  rw [List.find?_eq_none]
  intro x hx
  obtain ⟨j, hj, rfl⟩ := List.getElem_of_mem hx
  rw [hb j hj hj]
  decide

set_option maxHeartbeats 6400000 in
theorem rrange_any {w0 w : World} (hb0 : Below w0.heap.size w0 w) {O : List Dp} {x1 x2 x3 : Option Addr} {y1 y2 y3 z1 z2 z3 : Nat} {v4 : Value} (h : DepsAt w0 v4 O) (hlen : O.length ≤ 9223372036854775807) (d : Dp) {au : Option Addr} {nu cu : Nat} (hd : SpansC w0 (.slice au nu cu) d.rg) (hdl : d.rg.length ≤ 9223372036854775807) : Calls Tryz.prog 86 #[.agg #[.slice x1 y1 z1, .slice x2 y2 z2, .slice x3 y3 z3, v4], .agg #[.string d.nm, .slice au nu cu]] w fun e w' => ∃ a1 b1 c1, e = .returned (.slice a1 b1 c1) ∧ SpansC w0 (.slice a1 b1 c1) (rangeD O d) ∧ (rangeD O d).length ≤ 9223372036854775807 ∧ Below w.heap.size w w' := by
  obtain ⟨ad, cap, rfl, hcap, hel⟩ := h.el
  have HEL := hide3 hel
  have HD := hide3 hd
  have HB0 : Hid (Below w.heap.size w ((w.alloc (.cells #[.slice x1 y1 z1, .slice x2 y2 z2, .slice x3 y3 z3, .slice ad O.length cap] 54)).alloc (.cells #[.string d.nm, .slice au nu cu] 70))) := boxB2 _ _ _
  have c3 : ((w.alloc (.cells #[.slice x1 y1 z1, .slice x2 y2 z2, .slice x3 y3 z3, .slice ad O.length cap] 54)).alloc (.cells #[.string d.nm, .slice au nu cu] 70)).cell? ⟨w.heap.size, 3, none⟩ = some (.slice ad O.length cap) := by simp
  have e0 : ((w.alloc (.cells #[.slice x1 y1 z1, .slice x2 y2 z2, .slice x3 y3 z3, .slice ad O.length cap] 54)).alloc (.cells #[.string d.nm, .slice au nu cu] 70)).cell? ⟨w.heap.size + 1, 0, none⟩ = some (.string d.nm) := (new_cell (by simp) rfl).1
  have e1 : ((w.alloc (.cells #[.slice x1 y1 z1, .slice x2 y2 z2, .slice x3 y3 z3, .slice ad O.length cap] 54)).alloc (.cells #[.string d.nm, .slice au nu cu] 70)).cell? ⟨w.heap.size + 1, 1, none⟩ = some (.slice au nu cu) := (new_cell (by simp) rfl).1
  have hk0 : w.heap.size < ((w.alloc (.cells #[.slice x1 y1 z1, .slice x2 y2 z2, .slice x3 y3 z3, .slice ad O.length cap] 54)).alloc (.cells #[.string d.nm, .slice au nu cu] 70)).heap.size := by simp; omega
  have hk1 : w.heap.size + 1 < ((w.alloc (.cells #[.slice x1 y1 z1, .slice x2 y2 z2, .slice x3 y3 z3, .slice ad O.length cap] 54)).alloc (.cells #[.string d.nm, .slice au nu cu] 70)).heap.size := by simp
  clear h hel hd
  go_enter Tryz.func86, Tryz.ntmps86
  go_wp2_with fail
  generalize ((w.alloc (.cells #[.slice x1 y1 z1, .slice x2 y2 z2, .slice x3 y3 z3, .slice ad O.length cap] 54)).alloc (.cells #[.string d.nm, .slice au nu cu] 70)) = W at *
  go_loopw [5] (fun vi wr => ∃ i : Nat, i ≤ O.length ∧ vi = .int .i64 i ∧ Below W.heap.size W wr ∧ ∀ j (hj : j < O.length), j < i → isD d.nm O[j] = false) (fun vi _ => O.length - (intOf vi).toNat)
  case atStart => exact ⟨0, Nat.zero_le _, rfl, Below.refl _ _, fun j hj h => by omega⟩
  case round =>
    obtain ⟨i, hi, rfl, hbw, hno⟩ := hrel
    have HB := hide3 hbw
    have HNO := hide3 hno
    have HBX : Hid (Below w.heap.size w wr) := below_then HB0.out hbw
    have HBW : Hid (Below w0.heap.size w0 wr) := hb0.trans (HBX.out.mono hb0.size)
    have d3 := (hbw.cell (p := ⟨w.heap.size, 3, none⟩) hk0).trans c3
    have f0 := (hbw.cell (p := ⟨w.heap.size + 1, 0, none⟩) hk1).trans e0
    have f1 := (hbw.cell (p := ⟨w.heap.size + 1, 1, none⟩) hk1).trans e1
    clear hbw hno c3 e0 e1
    by_cases hlt : i < O.length
    · have hki : (i : Int) < (O.length : Int) := by omega
      obtain ⟨g, o, rfl, au2, nu2, cu2, p0, p1, hsp, hg⟩ := HEL.out i hlt
      have q0 := (HBW.out.cell (p := ⟨g, o + i * 2, none⟩) hg).trans p0
      have q1 := (HBW.out.cell (p := ⟨g, o + i * 2 + 1, none⟩) hg).trans p1
      have HYES : Hid (isD d.nm O[i] = true → rangeD O d = O[i].rg) := fun h => by
        unfold rangeD
        rw [find_hit hlt h HNO.out]
      have HNXT : Hid (isD d.nm O[i] = false → ∀ j (hj : j < O.length), j < i + 1 → isD d.nm O[j] = false) := fun h j hj hji => by
        by_cases e : j = i
        · subst e; exact h
        · exact HNO.out j hj (by omega)
      have HSP := hide3 hsp
      generalize O[i] = x at *
      clear p0 p1 hsp
      by_cases hnm : x.nm = d.nm
      · have HX := hide3 (HYES.out (decide_eq_true hnm))
        rw [hnm] at q0
        clear hnm HYES HNXT
        go_wp2_with fail
        go_quiet (fail)
        go_wp2_with fail
        go_ret
        exact ⟨_, _, _, rfl, by rw [HX.out]; exact HSP.out.1, by rw [HX.out]; exact HSP.out.2, Go.Proofs.YtjpmlagofcgheaaGreatDoor.Below.drewN HBX.out _⟩
      · have HX := hide3 (HNXT.out (decide_eq_false hnm))
        have hne : (x.nm.toList == d.nm.toList) = false := by
          rw [beq_eq_false_iff_ne]
          exact fun e => hnm (bytes_same e)
        clear hnm HYES HNXT
        go_wp2_with fail
        go_quiet (fail)
        go_wp2_with fail
        exact ⟨⟨i + 1, by omega, by go_num, Go.Proofs.YtjpmlagofcgheaaGreatDoor.Below.drewN HB.out _, HX.out⟩, by simp [intOf]; omega⟩
    · obtain rfl : i = O.length := by omega
      have hki : ¬ ((O.length : Int) < (O.length : Int)) := by omega
      have HX : Hid (rangeD O d = d.rg) := by
        unfold Hid rangeD
        rw [find_no HNO.out]
      go_wp2_with fail
      go_ret
      exact ⟨_, _, _, rfl, by rw [HX.out]; exact HD.out, by rw [HX.out]; exact hdl, HBX.out⟩

theorem set3V {w : World} {N : Nat} {x y z : Value} (j0 : w.cell? ⟨N, 0, none⟩ = some x) (j1 : w.cell? ⟨N, 1, none⟩ = some y) (j2 : w.cell? ⟨N, 2, none⟩ = some z) (u0 u1 u2 : Value) : (((w.setCell ⟨N, 0, none⟩ u0).setCell ⟨N, 1, none⟩ u1).setCell ⟨N, 2, none⟩ u2).cell? ⟨N, 0, none⟩ = some u0 ∧ (((w.setCell ⟨N, 0, none⟩ u0).setCell ⟨N, 1, none⟩ u1).setCell ⟨N, 2, none⟩ u2).cell? ⟨N, 1, none⟩ = some u1 ∧ (((w.setCell ⟨N, 0, none⟩ u0).setCell ⟨N, 1, none⟩ u1).setCell ⟨N, 2, none⟩ u2).cell? ⟨N, 2, none⟩ = some u2 := by
  exact ⟨set_far (by decide) (set_far (by decide) (World.cell?_setCell_same _ _ _ j0)), set_far (by decide) (World.cell?_setCell_same _ _ _ (set_far (by decide) j1)), World.cell?_setCell_same _ _ _ (set_far (by decide) (set_far (by decide) j2))⟩
theorem below_set3V {w w' : World} {N B : Nat} {u0 u1 u2 : Value} (hN : B ≤ N) (h : Below B w w') : Below B w (((w'.setCell ⟨N, 0, none⟩ u0).setCell ⟨N, 1, none⟩ u1).setCell ⟨N, 2, none⟩ u2) := ((h.setCell (p := ⟨N, 0, none⟩) hN _).setCell (p := ⟨N, 1, none⟩) hN _).setCell (p := ⟨N, 2, none⟩) hN _
def tellV (E : List Pn) (s : ByteArray) : Pn := match E.find? (isN s) with
  | some q => q
  | none => ⟨s, 0, 0, 0⟩

set_option maxHeartbeats 6400000 in
theorem rtells_any {w : World} {E : List Pn} {v : Value} (h : PinsAt w v E) (hlen : E.length ≤ 9223372036854775807) (s : ByteArray) : Calls Tryz.prog 56 #[v, .string s] w fun e w' => e = .returned (.tuple #[.agg #[.int .i64 (tellV E s).a, .int .i64 (tellV E s).b, .int .i64 (tellV E s).c], .bool (E.find? (isN s)).isSome]) ∧ Below w.heap.size w w' := by
  obtain ⟨ad, cap, rfl, hcap, hel⟩ := h.el
  have HEL := hide3 hel
  have HB0 : Hid (Below w.heap.size w (w.alloc (.cells #[.int .i64 0, .int .i64 0, .int .i64 0] 31))) := boxB _ _
  have r0 : (w.alloc (.cells #[.int .i64 0, .int .i64 0, .int .i64 0] 31)).cell? ⟨w.heap.size, 0, none⟩ = some (.int .i64 0) := by simp
  have r1 : (w.alloc (.cells #[.int .i64 0, .int .i64 0, .int .i64 0] 31)).cell? ⟨w.heap.size, 1, none⟩ = some (.int .i64 0) := by simp
  have r2 : (w.alloc (.cells #[.int .i64 0, .int .i64 0, .int .i64 0] 31)).cell? ⟨w.heap.size, 2, none⟩ = some (.int .i64 0) := by simp
  have t0 : (w.alloc (.cells #[.int .i64 0, .int .i64 0, .int .i64 0] 31)).frozen? ⟨w.heap.size, 0, none⟩ = false := by simp
  have t1 : (w.alloc (.cells #[.int .i64 0, .int .i64 0, .int .i64 0] 31)).frozen? ⟨w.heap.size, 1, none⟩ = false := by simp
  have t2 : (w.alloc (.cells #[.int .i64 0, .int .i64 0, .int .i64 0] 31)).frozen? ⟨w.heap.size, 2, none⟩ = false := by simp
  have hk0 : w.heap.size < (w.alloc (.cells #[.int .i64 0, .int .i64 0, .int .i64 0] 31)).heap.size := by simp
  clear h hel
  go_enter Tryz.func56, Tryz.ntmps56
  go_wp2_with fail
  generalize (w.alloc (.cells #[.int .i64 0, .int .i64 0, .int .i64 0] 31)) = W at *
  go_loopw [6] (fun vi wr => ∃ i : Nat, i ≤ E.length ∧ vi = .int .i64 i ∧ wr = W ∧ ∀ j (hj : j < E.length), j < i → isN s E[j] = false) (fun vi _ => E.length - (intOf vi).toNat)
  case atStart => exact ⟨0, Nat.zero_le _, rfl, rfl, fun j hj h => by omega⟩
  case round =>
    obtain ⟨i, hi, rfl, hwe, hno⟩ := hrel
    subst hwe
    have HNO := hide3 hno
    clear hno
    by_cases hlt : i < E.length
    · have hki : (i : Int) < (E.length : Int) := by omega
      obtain ⟨g, o, rfl, ⟨p0, p1, p2, p3⟩, hg⟩ := HEL.out i hlt
      have q0 := (HB0.out.cell (p := ⟨g, o + i * 4, none⟩) hg).trans p0
      have q1 := (HB0.out.cell (p := ⟨g, o + i * 4 + 1, none⟩) hg).trans p1
      have q2 := (HB0.out.cell (p := ⟨g, o + i * 4 + 2, none⟩) hg).trans p2
      have q3 := (HB0.out.cell (p := ⟨g, o + i * 4 + 3, none⟩) hg).trans p3
      have HYES : Hid (isN s E[i] = true → E.find? (isN s) = some E[i]) := fun h => find_hit hlt h HNO.out
      have HNXT : Hid (isN s E[i] = false → ∀ j (hj : j < E.length), j < i + 1 → isN s E[j] = false) := fun h j hj hji => by
        by_cases e : j = i
        · subst e; exact h
        · exact HNO.out j hj (by omega)
      generalize E[i] = x at *
      clear p0 p1 p2 p3
      by_cases hnm : x.nm = s
      · have HX := hide3 (HYES.out (decide_eq_true hnm))
        have HT : Hid (tellV E s = x) := by
          unfold Hid tellV
          rw [HX.out]
        rw [hnm] at q0
        clear hnm HYES HNXT
        have s3 := fun u0 u1 u2 => set3V r0 r1 r2 u0 u1 u2
        go_wp2_with fail
        all_goals try simp only [Exit.inBlock, Exit.then]
        refine bodyPost_ret (by simp [results, Tryz.results56, s3, go_sem]; try rfl) rfl ?_
        exact ⟨by rw [HT.out, HX.out]; rfl, below_set3V (Nat.le_refl _) HB0.out⟩
      · have HX := hide3 (HNXT.out (decide_eq_false hnm))
        have hne : (x.nm.toList == s.toList) = false := by
          rw [beq_eq_false_iff_ne]
          exact fun e => hnm (bytes_same e)
        clear hnm HYES HNXT
        go_wp2_with fail
        exact ⟨⟨i + 1, by omega, by go_num, by trivial, HX.out⟩, by simp [intOf]; omega⟩
    · obtain rfl : i = E.length := by omega
      have hki : ¬ ((E.length : Int) < (E.length : Int)) := by omega
      have HX : Hid (E.find? (isN s) = none) := find_no HNO.out
      have HT : Hid (tellV E s = ⟨s, 0, 0, 0⟩) := by
        unfold Hid tellV
        rw [HX.out]
      have s3 := fun u0 u1 u2 => set3V r0 r1 r2 u0 u1 u2
      go_wp2_with fail
      all_goals try simp only [Exit.inBlock, Exit.then]
      refine bodyPost_ret (by simp [results, Tryz.results56, s3, go_sem]; try rfl) rfl ?_
      exact ⟨by rw [HT.out, HX.out]; rfl, below_set3V (Nat.le_refl _) HB0.out⟩
end Go.Proofs.YtjpmlagofcgheaaGreatDoor
namespace Go.Proofs.YtjpmlagofcgheaaGreatDoor
open Go.RowKit Go.Maps Go.WideMaps
set_option maxRecDepth 100000

theorem rowD_at {w : World} {B : Nat} {v : Value} {ps : List (Dp × Value)} (h : w.ownsRow B 70 2 v ps.length (dpCells ps)) (hs : ∀ p ∈ ps, SpansC w p.2 p.1.rg ∧ p.1.rg.length ≤ 9223372036854775807) : DepsAt w v (ps.map (·.1)) := by
  have h0 := h
  rcases h.2 with ⟨rfl, hn⟩ | ⟨g, cap, cur, rfl, hB, hg, hc, hm, _⟩
  · have : ps = [] := List.eq_nil_of_length_eq_zero hn
    subst this
    exact ⟨none, 0, rfl, Nat.le_refl _, Or.inl rfl⟩
  · have hlt := (Array.getElem?_eq_some_iff.1 hg).1
    refine ⟨_, cap, by rw [List.length_map], by rw [List.length_map]; exact hc, Or.inr ⟨g, 0, rfl, hlt, fun i hi => ?_⟩⟩
    have hi' : i < ps.length := by simpa using hi
    have c0 := World.ownsRow.cellAt h0 (i * 2) (by omega)
    have c1 := World.ownsRow.cellAt h0 (i * 2 + 1) (by omega)
    rw [(dpCells_at ps i hi').1] at c0
    rw [(dpCells_at ps i hi').2] at c1
    refine ⟨ps[i].2, ?_⟩
    rw [List.getElem_map, Nat.zero_add]
    exact ⟨c0, c1, hs _ (List.getElem_mem hi'), hlt⟩
/-- A package's peers in their ranges. -/
def peersD (O : List Dp) (ds : List Dp) : List Dp := ds.map fun d => ⟨d.nm, rangeD O d⟩
/-- They lie there, in a row of one's own, their ranges where they lay. -/
def PeersAt (wb w w' : World) (v : Value) (O ds : List Dp) : Prop := ∃ us, w'.ownsRow w.heap.size 70 2 v us.length (dpCells us) ∧ (∀ q ∈ us, SpansC wb q.2 q.1.rg ∧ q.1.rg.length ≤ 9223372036854775807) ∧ us.map (·.1) = peersD O ds

set_option maxHeartbeats 12800000 in
theorem rpeers_any {wb w : World} (hbb : Below wb.heap.size wb w) {O : List Dp} {x1 x2 x3 : Option Addr} {y1 y2 y3 z1 z2 z3 : Nat} {v4 : Value} (h : DepsAt wb v4 O) (hlen : O.length ≤ 9223372036854775807) {ds : List Dp} (nm : ByteArray) (a b c : Int) {p1 p2 p3 : Option Addr} {q1 r1 r2 q3 r3 : Nat} (hp : DepsAt wb (.slice p2 ds.length r2) ds) (hl : ds.length ≤ 1000) : Calls Tryz.prog 55 #[.agg #[.string nm, .int .i64 a, .int .i64 b, .int .i64 c, .slice p1 q1 r1, .slice p2 ds.length r2, .slice p3 q3 r3], .agg #[.slice x1 y1 z1, .slice x2 y2 z2, .slice x3 y3 z3, v4]] w fun e w' => ∃ v, e = .returned v ∧ PeersAt wb w w' v O ds ∧ Below w.heap.size w w' := by
  obtain ⟨ad, cap, rfl, hcap, _⟩ := h.el
  have HO := hide3 h
  have HEL : Hid (∀ k (_ : k < ds.length), ∃ g o, p2 = some ⟨g, o, none⟩ ∧ ∃ au nu cu, DpIn wb g (o + k * 2) ds[k] (.slice au nu cu)) := by
    obtain ⟨ad', cap', e, _, hel⟩ := hp.el
    injection e with e1 _ _
    subst e1
    exact hel
  have HB0 : Hid (Below w.heap.size w ((w.alloc (.cells #[.string nm, .int .i64 a, .int .i64 b, .int .i64 c, .slice p1 q1 r1, .slice p2 ds.length r2, .slice p3 q3 r3] 34)).alloc (.cells #[.slice x1 y1 z1, .slice x2 y2 z2, .slice x3 y3 z3, .slice ad O.length cap] 54))) := boxB2 _ _ _
  have b0 : ((w.alloc (.cells #[.string nm, .int .i64 a, .int .i64 b, .int .i64 c, .slice p1 q1 r1, .slice p2 ds.length r2, .slice p3 q3 r3] 34)).alloc (.cells #[.slice x1 y1 z1, .slice x2 y2 z2, .slice x3 y3 z3, .slice ad O.length cap] 54)).cell? ⟨w.heap.size, 5, none⟩ = some (.slice p2 ds.length r2) := by simp
  have b1 : ((w.alloc (.cells #[.string nm, .int .i64 a, .int .i64 b, .int .i64 c, .slice p1 q1 r1, .slice p2 ds.length r2, .slice p3 q3 r3] 34)).alloc (.cells #[.slice x1 y1 z1, .slice x2 y2 z2, .slice x3 y3 z3, .slice ad O.length cap] 54)).cell? ⟨w.heap.size + 1, 0, none⟩ = some (.slice x1 y1 z1) := (new_cell (by simp) rfl).1
  have b2 : ((w.alloc (.cells #[.string nm, .int .i64 a, .int .i64 b, .int .i64 c, .slice p1 q1 r1, .slice p2 ds.length r2, .slice p3 q3 r3] 34)).alloc (.cells #[.slice x1 y1 z1, .slice x2 y2 z2, .slice x3 y3 z3, .slice ad O.length cap] 54)).cell? ⟨w.heap.size + 1, 1, none⟩ = some (.slice x2 y2 z2) := (new_cell (by simp) rfl).1
  have b3 : ((w.alloc (.cells #[.string nm, .int .i64 a, .int .i64 b, .int .i64 c, .slice p1 q1 r1, .slice p2 ds.length r2, .slice p3 q3 r3] 34)).alloc (.cells #[.slice x1 y1 z1, .slice x2 y2 z2, .slice x3 y3 z3, .slice ad O.length cap] 54)).cell? ⟨w.heap.size + 1, 2, none⟩ = some (.slice x3 y3 z3) := (new_cell (by simp) rfl).1
  have b4 : ((w.alloc (.cells #[.string nm, .int .i64 a, .int .i64 b, .int .i64 c, .slice p1 q1 r1, .slice p2 ds.length r2, .slice p3 q3 r3] 34)).alloc (.cells #[.slice x1 y1 z1, .slice x2 y2 z2, .slice x3 y3 z3, .slice ad O.length cap] 54)).cell? ⟨w.heap.size + 1, 3, none⟩ = some (.slice ad O.length cap) := (new_cell (by simp) rfl).1
  have hz0 : w.heap.size < ((w.alloc (.cells #[.string nm, .int .i64 a, .int .i64 b, .int .i64 c, .slice p1 q1 r1, .slice p2 ds.length r2, .slice p3 q3 r3] 34)).alloc (.cells #[.slice x1 y1 z1, .slice x2 y2 z2, .slice x3 y3 z3, .slice ad O.length cap] 54)).heap.size := by simp; omega
  have hz1 : w.heap.size + 1 < ((w.alloc (.cells #[.string nm, .int .i64 a, .int .i64 b, .int .i64 c, .slice p1 q1 r1, .slice p2 ds.length r2, .slice p3 q3 r3] 34)).alloc (.cells #[.slice x1 y1 z1, .slice x2 y2 z2, .slice x3 y3 z3, .slice ad O.length cap] 54)).heap.size := by simp
  clear h hp
  go_enter Tryz.func55, Tryz.ntmps55
  go_wp2_with fail
  generalize ((w.alloc (.cells #[.string nm, .int .i64 a, .int .i64 b, .int .i64 c, .slice p1 q1 r1, .slice p2 ds.length r2, .slice p3 q3 r3] 34)).alloc (.cells #[.slice x1 y1 z1, .slice x2 y2 z2, .slice x3 y3 z3, .slice ad O.length cap] 54)) = W at *
  have hz2 := hz1
  have hz3 := hz1
  have hz4 := hz1
  go_loopw [5, 6] (fun vo vi wr => ∃ (k : Nat) (ps : List (Dp × Value)), k ≤ ds.length ∧ vi = .int .i64 k ∧ wr.ownsRow W.heap.size 70 2 vo ps.length (dpCells ps) ∧ (∀ q ∈ ps, SpansC wb q.2 q.1.rg ∧ q.1.rg.length ≤ 9223372036854775807) ∧ ps.map (·.1) = peersD O (ds.take k) ∧ Below W.heap.size W wr) (fun _ vi _ => ds.length - (intOf vi).toNat)
  case atStart => exact ⟨0, [], Nat.zero_le _, rfl, ⟨rfl, Or.inl ⟨rfl, rfl⟩⟩, fun q hq => (by cases hq), rfl, Below.refl _ _⟩
  case round =>
    obtain ⟨k, ps, hk, rfl, how, hsp, hps, hb⟩ := hrel
    have HOW := hide3 how
    have HSP := hide3 hsp
    have HPS := hide3 hps
    have HB := hide3 hb
    have HBW : Hid (Below w.heap.size w wr) := below_then HB0.out hb
    have HBB : Hid (Below wb.heap.size wb wr) := hbb.trans (HBW.out.mono hbb.size)
    obtain ⟨ao, co, hvo⟩ := own_len how
    have hpl : ps.length = k := by have := congrArg List.length hps; rw [List.length_map] at this; unfold peersD at this; rw [List.length_map, List.length_take] at this; omega
    rw [hpl] at hvo
    subst hvo
    have HPL := hide3 hpl
    have a0 := (hb.cell (p := ⟨w.heap.size, 5, none⟩) hz0).trans b0
    have a1 := (hb.cell (p := ⟨w.heap.size + 1, 0, none⟩) hz1).trans b1
    have a2 := (hb.cell (p := ⟨w.heap.size + 1, 1, none⟩) hz1).trans b2
    have a3 := (hb.cell (p := ⟨w.heap.size + 1, 2, none⟩) hz1).trans b3
    have a4 := (hb.cell (p := ⟨w.heap.size + 1, 3, none⟩) hz1).trans b4
    clear how hsp hps hb hpl b0 b1 b2 b3 b4
    by_cases hlt : k < ds.length
    · have hki : (k : Int) < (ds.length : Int) := by omega
      obtain ⟨g, o, rfl, au, nu, cu, e0, e1, hsd, hg⟩ := HEL.out k hlt
      have a5 := (HBB.out.cell (p := ⟨g, o + k * 2, none⟩) hg).trans e0
      have a6 := (HBB.out.cell (p := ⟨g, o + k * 2 + 1, none⟩) hg).trans e1
      have HTK : Hid (peersD O (ds.take (k + 1)) = peersD O (ds.take k) ++ [⟨ds[k].nm, rangeD O ds[k]⟩]) := by
        unfold Hid peersD
        rw [List.take_succ_eq_append_getElem hlt, List.map_append]
        rfl
      have hgW : g < W.heap.size := Nat.lt_of_lt_of_le hg (Nat.le_trans hbb.size HB0.out.size)
      have hz5 := hgW
      have hz6 := hgW
      have HSD := hide3 hsd
      generalize ds[k] = d at *
      clear e0 e1 hsd
      have HRG : Hid (∀ w1, Below wb.heap.size wb w1 → Calls Tryz.prog 86 #[.agg #[.slice x1 y1 z1, .slice x2 y2 z2, .slice x3 y3 z3, .slice ad O.length cap], .agg #[.string d.nm, .slice au nu cu]] w1 fun e w' => ∃ a1 b1 c1, e = .returned (.slice a1 b1 c1) ∧ (SpansC wb (.slice a1 b1 c1) (rangeD O d) ∧ (rangeD O d).length ≤ 9223372036854775807) ∧ Below w1.heap.size w1 w') := fun w1 hb => by
        refine (rrange_any hb HO.out hlen d HSD.out.1 HSD.out.2).mono ?_
        rintro e w' ⟨a1, b1, c1, rfl, h1, h2, h3⟩
        exact ⟨a1, b1, c1, rfl, ⟨h1, h2⟩, h3⟩
      have HNE : Hid (∀ q, q < W.heap.size → some q ≠ (Value.slice ao k co).ownBlock) := fun q hq e => by have := (World.ownsRow.lt HOW.out q e.symm).1; omega
      go_wp2_with fail
      go_region_held3 (fun w' => w'.cell? ⟨w.heap.size, 5, none⟩ = some (.slice (some ⟨g, o, none⟩) ds.length r2) ∧ w'.cell? ⟨w.heap.size + 1, 0, none⟩ = some (.slice x1 y1 z1) ∧ w'.cell? ⟨w.heap.size + 1, 1, none⟩ = some (.slice x2 y2 z2) ∧ w'.cell? ⟨w.heap.size + 1, 2, none⟩ = some (.slice x3 y3 z3) ∧ w'.cell? ⟨w.heap.size + 1, 3, none⟩ = some (.slice ad O.length cap) ∧ w'.cell? ⟨g, o + k * 2, none⟩ = some (.string d.nm) ∧ w'.cell? ⟨g, o + k * 2 + 1, none⟩ = some (.slice au nu cu)) (go_keep) (first
        | (go_at_call 86; refine (HRG.out _ HBB.out.drew).mono ?_; rintro e w5 ⟨a9, b9, c9, rfl, hv5, hb5⟩; have HV5 := hide3 hv5; have HB5 : Hid (Below W.heap.size W w5) := below_then HB.out.drew hb5; have HW5 : Hid (Below wr.heap.size wr w5) := below_then (Below.refl _ _).drew hb5; have t0 := (HW5.out.cell (p := ⟨w.heap.size, 5, none⟩) (Nat.lt_of_lt_of_le hz0 HB.out.size)).trans a0; have t1 := (HW5.out.cell (p := ⟨w.heap.size + 1, 0, none⟩) (Nat.lt_of_lt_of_le hz1 HB.out.size)).trans a1; have t2 := (HW5.out.cell (p := ⟨w.heap.size + 1, 1, none⟩) (Nat.lt_of_lt_of_le hz2 HB.out.size)).trans a2; have t3 := (HW5.out.cell (p := ⟨w.heap.size + 1, 2, none⟩) (Nat.lt_of_lt_of_le hz3 HB.out.size)).trans a3; have t4 := (HW5.out.cell (p := ⟨w.heap.size + 1, 3, none⟩) (Nat.lt_of_lt_of_le hz4 HB.out.size)).trans a4; have t5 := (HW5.out.cell (p := ⟨g, o + k * 2, none⟩) (Nat.lt_of_lt_of_le hz5 HB.out.size)).trans a5; have t6 := (HW5.out.cell (p := ⟨g, o + k * 2 + 1, none⟩) (Nat.lt_of_lt_of_le hz6 HB.out.size)).trans a6; have hB5 : W.heap.size ≤ w5.heap.size := HB5.out.size; have HO5 := hide3 (own_below HOW.out HW5.out); clear hb5 hv5)
        | (refine step_own (B := W.heap.size) (M := w5.heap.size) (wx := w5) (v := .slice ao k co) (n := ps.length) infoDp Tryz.underlying32 rfl (by decide) (by decide) rfl (.tmp 14) (.tmp 29) rfl rfl HO5.out hB5 #[.string d.nm, .slice a9 b9 c9] rfl (by simp [Value.oneCell']) rfl rfl (by have := HPL.out; omega) ?_; intro v1 w7 ho hgr hat; obtain ⟨g7, cap7, rfl⟩ := own_len ho; have HO7 := hide3 ho; have HB7 : Hid (Below W.heap.size W w7) := HB5.out.grown (grown_pre (boxB _ _) hgr) HB5.out.size (fun q hq => (World.ownsRow.lt HO5.out q hq).1); have s0 := (grown_pre (boxB _ _) hgr).cell t0 (HNE.out _ hz0); have s1 := (grown_pre (boxB _ _) hgr).cell t1 (HNE.out _ hz1); have s2 := (grown_pre (boxB _ _) hgr).cell t2 (HNE.out _ hz2); have s3 := (grown_pre (boxB _ _) hgr).cell t3 (HNE.out _ hz3); have s4 := (grown_pre (boxB _ _) hgr).cell t4 (HNE.out _ hz4); have s5 := (grown_pre (boxB _ _) hgr).cell t5 (HNE.out _ hz5); have s6 := (grown_pre (boxB _ _) hgr).cell t6 (HNE.out _ hz6); clear ho hgr hat))
      all_goals go_wp2_with fail
      all_goals refine ⟨⟨k + 1, ps ++ [(⟨d.nm, rangeD O d⟩, .slice a9 b9 c9)], by omega, by go_num, ?_, ?_, ?_, HB7.out⟩, by simp [intOf]; omega⟩
      · rw [dpCells_snoc, List.length_append]
        exact HO7.out
      · intro q hq
        rcases List.mem_append.1 hq with hq | hq
        · exact HSP.out q hq
        · obtain rfl := List.mem_singleton.1 hq
          exact HV5.out
      · rw [List.map_append, HPS.out, HTK.out]
        rfl
    · obtain rfl : k = ds.length := by omega
      have hki : ¬ ((ds.length : Int) < (ds.length : Int)) := by omega
      have HPD : Hid (ps.map (·.1) = peersD O ds) := by
        unfold Hid
        rw [HPS.out, List.take_length]
      have HOE : Hid (wr.ownsRow w.heap.size 70 2 (.slice ao ds.length co) ps.length (dpCells ps)) := own_base HOW.out HB0.out.size
      go_wp2_with fail
      go_ret
      exact ⟨_, rfl, ⟨ps, HOE.out, HSP.out, HPD.out⟩, HBW.out⟩
end Go.Proofs.YtjpmlagofcgheaaGreatDoor
