/- LockAgain: of any arguments it answers true, and each argument reads as it read before (the tied card). Conditions: none but the row's own. -/
import Derived.Test.YtikplmckjcceaaaDoorMg08
namespace Go.Proofs.YtikplmckjcceaaaDoor
open Go.RowKit
open Sc (KeepP hide3 keepBelow Bs ba)
set_option maxRecDepth 100000

/-- A row that is there, whatever lies in it. -/
def RowE (w : World) (B : Nat) (e : TypeId) (z : Nat) (v : Value) (n : Nat) : Prop := ∃ xs, w.ownsRow B e z v n xs
theorem own_head {w : World} {B : Nat} {e : TypeId} {z : Nat} {v : Value} {n : Nat} {xs : List Value} (h : w.ownsRow B e z v n xs) {N : Nat} (hN : v.ownBlock = some N) : ∃ cap, v = .slice (some ⟨N, 0, none⟩) n cap := by
  rcases h.2 with ⟨rfl, _⟩ | ⟨g, cap, cur, rfl, _⟩
  · cases hN
  · cases hN
    exact ⟨cap, rfl⟩
theorem RowE.set {w : World} {B : Nat} {e : TypeId} {z : Nat} {v : Value} {n : Nat} (h : RowE w B e z v n) (N j : Nat) (u : Value) : RowE (w.setCell ⟨N, j, none⟩ u) B e z v n := by
  obtain ⟨xs, hx⟩ := h
  by_cases hN : v.ownBlock = some N
  · obtain ⟨cap, rfl⟩ := own_head hx hN
    exact ⟨_, (hx.stored j u).1⟩
  · exact ⟨xs, own_of hx fun g hg => Below.heap_setCell _ _ _ _ fun (e2 : g = N) => hN (by rw [← e2]; exact hg)⟩
theorem RowE.below {w w' : World} {B : Nat} {e : TypeId} {z : Nat} {v : Value} {n : Nat} (h : RowE w B e z v n) (hb : Below w.heap.size w w') : RowE w' B e z v n := by
  obtain ⟨xs, hx⟩ := h
  exact ⟨xs, own_below hx hb⟩
/-- Where a row's cells lie. -/
theorem RowE.cell {w : World} {B : Nat} {e : TypeId} {z : Nat} {v : Value} {n : Nat} (h : RowE w B e z v n) {k : Nat} (hk : k < n) :
    ∃ g cap, v = .slice (some ⟨g, 0, none⟩) n cap ∧ n ≤ cap ∧ B ≤ g ∧ ∀ j, j < z → (∃ x, w.cell? ⟨g, k * z + j, none⟩ = some x) ∧ w.frozen? ⟨g, k * z + j, none⟩ = false := by
  obtain ⟨xs, hx⟩ := h
  have hl := hx.1
  rcases hx.2 with ⟨_, hn⟩ | ⟨g, cap, cur, e, hB, _, hc, _⟩
  · omega
  · rw [e] at hx
    refine ⟨g, cap, e, hc, hB, fun j hj => ⟨?_, hx.frozenAt _⟩⟩
    have hlt : k * z + j < xs.length := by
      have := Nat.mul_le_mul_right z (show k + 1 ≤ n by omega)
      rw [Nat.succ_mul] at this
      omega
    rw [hx.cellAt (k * z + j) (by omega), List.getElem?_eq_getElem hlt]
    exact ⟨_, rfl⟩
/-- What the loops of LockAgain keep. -/
def InvL (w : World) (N : Nat) (v : Value) (all : List NV) (W : World) : Prop :=
  Below w.heap.size w W ∧ BxG W N v ∧
  (∃ xs, W.ownsRow w.heap.size 38 6 v all.length xs ∧ ∀ i (h : i < all.length), (∃ s, xs[i * 6]? = some s) ∧ xs[i * 6 + 4]? = some all[i].vc ∧ xs[i * 6 + 5]? = some all[i].ve) ∧
  ∀ x ∈ all, RowE W w.heap.size 42 4 x.vc x.nd.cx.length ∧ RowE W w.heap.size 40 2 x.ve x.nd.ed.length
/-- All of it lies below the variable. -/
def LowL (N : Nat) (v : Value) (all : List NV) : Prop := (∀ g, v.ownBlock = some g → g < N) ∧ ∀ x ∈ all, (∀ g, x.vc.ownBlock = some g → g < N) ∧ ∀ g, x.ve.ownBlock = some g → g < N
theorem LowL.of {W : World} {B : Nat} {v : Value} {all : List NV} (h : RA W B v all) : LowL W.heap.size v all :=
  ⟨fun g hg => (h.1.lt g hg).2, fun x hx => ⟨fun g hg => ((h.2 x hx).1.lt g hg).2, fun g hg => ((h.2 x hx).2.lt g hg).2⟩⟩
theorem InvL.start {w W : World} {N : Nat} {v : Value} {all : List NV} (hb : Below w.heap.size w W) (hx : BxG W N v) (h : RA W w.heap.size v all) : InvL w N v all W :=
  ⟨hb, hx, ⟨_, h.1, fun i hi => ⟨⟨_, flat_at (f := ndC) (k := 6) (fun _ => rfl) all i 0 hi (by decide)⟩, flat_at (f := ndC) (k := 6) (fun _ => rfl) all i 4 hi (by decide), flat_at (f := ndC) (k := 6) (fun _ => rfl) all i 5 hi (by decide)⟩⟩, fun x hx => ⟨⟨_, (h.2 x hx).1⟩, ⟨_, (h.2 x hx).2⟩⟩⟩
theorem InvL.below {w W W' : World} {N : Nat} {v : Value} {all : List NV} (h : InvL w N v all W) (hb : Below W.heap.size W W') : InvL w N v all W' := by
  obtain ⟨h1, h2, ⟨xs, hx, hxs⟩, h4⟩ := h
  exact ⟨below_then h1 hb, keepBxG _ _ _ _ h2 hb, ⟨xs, own_below hx hb, hxs⟩, fun x hx => ⟨(h4 x hx).1.below hb, (h4 x hx).2.below hb⟩⟩
theorem InvL.cell {w W : World} {N : Nat} {v : Value} {all : List NV} (h : InvL w N v all W) {i : Nat} (hi : i < all.length) :
    ∃ g cap, v = .slice (some ⟨g, 0, none⟩) all.length cap ∧ (∃ s, W.cell? ⟨g, i * 6, none⟩ = some s) ∧ W.cell? ⟨g, i * 6 + 4, none⟩ = some all[i].vc ∧ W.cell? ⟨g, i * 6 + 5, none⟩ = some all[i].ve ∧ W.frozen? ⟨g, i * 6, none⟩ = false := by
  obtain ⟨_, _, ⟨xs, hx, hxs⟩, _⟩ := h
  obtain ⟨⟨s, h1⟩, h2, h3⟩ := hxs i hi
  have hlt := hx.1
  rcases hx.2 with ⟨_, hn⟩ | ⟨g, cap, cur, rfl, hB, _⟩
  · omega
  · refine ⟨g, cap, rfl, ⟨s, ?_⟩, ?_, ?_, hx.frozenAt _⟩
    · rw [hx.cellAt (i * 6) (by omega)]; exact h1
    · rw [hx.cellAt (i * 6 + 4) (by omega)]; exact h2
    · rw [hx.cellAt (i * 6 + 5) (by omega)]; exact h3
theorem bxg_set {W : World} {N M j : Nat} {v u : Value} (h : BxG W N v) (hN : M ≠ N) : BxG (W.setCell ⟨M, j, none⟩ u) N v :=
  ⟨(World.cell?_of_block (a := ⟨N, 0, none⟩) (Below.heap_setCell _ _ _ _ (fun e => hN e.symm))).trans h.1, by simpa using h.2⟩
/-- A list's cell is written. -/
theorem InvL.setL {w W : World} {N : Nat} {v : Value} {all : List NV} (h : InvL w N v all W) {e : TypeId} {z n : Nat} {vl : Value} (hr : RowE W w.heap.size e z vl n) (hne : 38 ≠ e) {M : Nat} (hM : vl.ownBlock = some M) (hN : M < N) (j : Nat) (u : Value) :
    InvL w N v all (W.setCell ⟨M, j, none⟩ u) := by
  obtain ⟨h1, h2, ⟨xs, hx, hxs⟩, h4⟩ := h
  obtain ⟨ys, hy⟩ := hr
  have hB := (hy.lt M hM).1
  refine ⟨h1.setCell (p := ⟨M, j, none⟩) hB _, bxg_set h2 (by omega), ⟨xs, own_of hx fun g hg => Below.heap_setCell _ _ _ _ fun e => ?_, hxs⟩, fun x hx => ⟨(h4 x hx).1.set _ _ _, (h4 x hx).2.set _ _ _⟩⟩
  subst e
  exact own_ne hx hy hne hg hM
/-- A node's name is written. -/
theorem InvL.setN {w W : World} {N : Nat} {v : Value} {all : List NV} (h : InvL w N v all W) {M : Nat} (hM : v.ownBlock = some M) (hN : M < N) {i : Nat} (hi : i < all.length) (u : Value) :
    InvL w N v all (W.setCell ⟨M, i * 6, none⟩ u) := by
  obtain ⟨h1, h2, ⟨xs, hx, hxs⟩, h4⟩ := h
  have hB := (hx.lt M hM).1
  have hl := hx.1
  refine ⟨h1.setCell (p := ⟨M, i * 6, none⟩) hB _, bxg_set h2 (by omega), ⟨xs.set (i * 6) u, ?_, fun k hk => ⟨?_, ?_, ?_⟩⟩, fun x hx => ⟨(h4 x hx).1.set _ _ _, (h4 x hx).2.set _ _ _⟩⟩
  · obtain ⟨cap, e⟩ := own_head hx hM
    rw [e] at hx ⊢
    exact (hx.stored (i * 6) u).1
  · by_cases hik : i = k
    · subst hik
      exact ⟨u, List.getElem?_set_self (by omega)⟩
    · rw [List.getElem?_set_ne (by omega)]
      exact (hxs k hk).1
  · rw [List.getElem?_set_ne (by omega)]
    exact (hxs k hk).2.1
  · rw [List.getElem?_set_ne (by omega)]
    exact (hxs k hk).2.2
theorem RowE.sl {w : World} {B : Nat} {e : TypeId} {z : Nat} {v : Value} {n : Nat} (h : RowE w B e z v n) : ∃ ad cap, v = .slice ad n cap := by
  obtain ⟨xs, hx⟩ := h
  rcases hx.2 with ⟨e, hn⟩ | ⟨g, cap, cur, e, _⟩
  · exact ⟨none, 0, by rw [e, hn]⟩
  · exact ⟨_, cap, e⟩
end Go.Proofs.YtikplmckjcceaaaDoor
namespace Go.Proofs.YtikplmckjcceaaaDoor
open Go.RowKit
open Sc (KeepP hide3 keepBelow Bs ba)
set_option maxRecDepth 100000

theorem Env.spell {w : World} (he : Env w) : SpellAll w := fun W hb n h0 h1 => spells_tab he.tab W hb n h0 h1
theorem parGE_ne {t : ByteArray} (h : parG t = none) : parGE t ≠ 0 := by
  unfold parGE
  rw [h]
  split
  · decide
  · assumption
theorem lockAgain_no (t : ByteArray) {w : World} (he : Env w) (h : parG t = none) : Calls Tryd.prog 4 #[.string t] w fun e w' => e = .returned (.bool true) ∧ Below w.heap.size w w' := by
  have HPA : Hid (Calls Tryd.prog 11 #[.string t] w fun e w' => e = .returned (.tuple #[.agg #[.slice none 0 0], .int .i64 (parGE t)]) ∧ Below w.heap.size w w') := (gParse_any t w he).mono fun e w' hq => by
    obtain ⟨hb, ⟨ad, cap, all, h1, _⟩ | ⟨_, h2⟩⟩ := hq
    · rw [h] at h1; cases h1
    · exact ⟨h2, hb⟩
  have HKN : Hid (∀ w1, Below w.heap.size w w1 → Calls Tryd.prog 10 #[] w1 fun e w' => e = .returned (.bool true) ∧ Below w1.heap.size w1 w') := fun w1 hb => known_lk (he.below hb) (he.below hb).spell
  have hre : (parGE t == 0) = false := by simpa using parGE_ne h
  clear he h
  generalize parGE t = er at *
  go_enter Tryd.func4, Tryd.ntmps4
  go_wp2_with (first
    | (go_at_call 11; refine HPA.out.mono ?_; rintro e w1 ⟨rfl, ok⟩; have HB1 : Hid (Below w.heap.size w (w1.alloc (.cells #[.slice none 0 0] 24)) ∧ BxG (w1.alloc (.cells #[.slice none 0 0] 24)) w1.heap.size (.slice none 0 0)) := ⟨below_then ok (boxB _ _), BxG.new rfl _⟩; clear ok)
    | (go_at_call 10; refine (HKN.out _ HB1.out.1).mono ?_; rintro e w2 ⟨rfl, ok⟩; have HB2 := hide3 (below_then HB1.out.1 ok); have HX2 := hide3 (keepBxG _ _ _ _ HB1.out.2 ok); obtain ⟨y0, y1⟩ := HX2.out; clear ok))
  go_ret
  exact ⟨rfl, HB2.out⟩

set_option maxHeartbeats 12800000 in
theorem lockAgain_yes (t : ByteArray) {w : World} {G : List Nd} (he : Env w) (h : parG t = some G) : Calls Tryd.prog 4 #[.string t] w fun e w' => e = .returned (.bool true) ∧ Below w.heap.size w w' := by
  obtain ⟨hmg, _⟩ := par_text h
  obtain ⟨hp1, hp2⟩ := par_print h
  obtain ⟨g1, g2, g3, _⟩ := mayG_nodes hmg
  have HG3 : Hid (∀ n ∈ G, n.cx.length ≤ 128 ∧ n.ed.length ≤ 128) := fun n hn => ⟨(g3 n hn).1.1, (g3 n hn).2.1⟩
  have HPA : Hid (∀ w1, Below w.heap.size w w1 → Calls Tryd.prog 11 #[.string t] w1 fun e w' => ∃ ad cap all, all.map NV.nd = G ∧ e = .returned (.tuple #[.agg #[.slice ad all.length cap], .int .i64 0]) ∧ Below w1.heap.size w1 w' ∧ RA w' w1.heap.size (.slice ad all.length cap) all) := fun w1 hb => (gParse_any t w1 (he.below hb)).mono fun e w' hq => by
    obtain ⟨hb, ⟨ad, cap, all, h1, h2, h3⟩ | ⟨h2, _⟩⟩ := hq
    · rw [h] at h1
      exact ⟨ad, cap, all, (Option.some.inj h1).symm, h2, hb, h3⟩
    · rw [h] at h2; cases h2
  have HKN : Hid (∀ w1, Below w.heap.size w w1 → Calls Tryd.prog 10 #[] w1 fun e w' => e = .returned (.bool true) ∧ Below w1.heap.size w1 w') := fun w1 hb => known_lk (he.below hb) (he.below hb).spell
  have HPR : Hid (∀ w1 v, Below w.heap.size w w1 → NodesAt w1 v G → Calls Tryd.prog 6 #[.agg #[v]] w1 fun e w' => e = .returned (.tuple #[.string t, .int .i64 0]) ∧ Below w1.heap.size w1 w') := fun w1 v hb hn => by
    have := gPrint_any hn (he.below hb).spell
    rw [hp1, hp2] at this
    exact this
  clear he h hmg hp1 hp2 g3 g2
  have t1 : True := trivial
  go_enter Tryd.func4, Tryd.ntmps4
  go_wp2_with (first
    | (have _t := t1; go_at_call 11; refine (HPA.out _ (Below.refl _ _)).mono ?_; rintro e w1 ⟨ad, cap, all, hal, rfl, ok, hra⟩; have HLO : Hid (LowL w1.heap.size (.slice ad all.length cap) all) := LowL.of hra; have HB1 : Hid (Below w.heap.size w (w1.alloc (.cells #[.slice ad all.length cap] 24)) ∧ BxG (w1.alloc (.cells #[.slice ad all.length cap] 24)) w1.heap.size (.slice ad all.length cap) ∧ RA (w1.alloc (.cells #[.slice ad all.length cap] 24)) w.heap.size (.slice ad all.length cap) all) := ⟨below_then ok (boxB _ _), BxG.new rfl _, hra.below (boxB _ _)⟩; have HAL : Hid (all.map NV.nd = G) := hal; clear ok hra t1 hal)
    | (go_at_call 10; refine (HKN.out _ HB1.out.1).mono ?_; rintro e w2 ⟨rfl, ok⟩; have HB2 : Hid (Below w.heap.size w w2 ∧ BxG w2 w1.heap.size (.slice ad all.length cap) ∧ RA w2 w.heap.size (.slice ad all.length cap) all) := ⟨below_then HB1.out.1 ok, keepBxG _ _ _ _ HB1.out.2.1 ok, HB1.out.2.2.below ok⟩; obtain ⟨y0, y1⟩ := HB2.out.2.1; clear ok)
    | (go_at_call 6; refine (HPR.out _ _ HB2.out.1 (by rw [← HAL.out]; exact HB2.out.2.2.at)).mono ?_; rintro e w3 ⟨rfl, ok⟩; have HI0 : Hid (InvL w w1.heap.size (.slice ad all.length cap) all w3) := InvL.start (below_then HB2.out.1 ok) (keepBxG _ _ _ _ HB2.out.2.1 ok) (HB2.out.2.2.below ok); clear ok y0 y1))
  have hn128 : all.length ≤ 128 := by
    have := congrArg List.length HAL.out
    rw [List.length_map] at this
    omega
  have HSH : Hid (∀ i (hi : i < all.length), all[i].nd.cx.length ≤ 128 ∧ all[i].nd.ed.length ≤ 128) := fun i hi => HG3.out _ (by rw [← HAL.out]; exact List.mem_map_of_mem (List.getElem_mem hi))
  clear HB1 HB2
  go_loopw [7] (fun i wr => ∃ k : Nat, k ≤ all.length ∧ i = .int .i64 k ∧ InvL w w1.heap.size (.slice ad all.length cap) all wr) (fun i _ => all.length - (intOf i).toNat)
  case atStart => exact ⟨0, Nat.zero_le _, rfl, HI0.out⟩
  case round =>
    clear HI0
    obtain ⟨k, hk, rfl, hi⟩ := hrel
    have HI := hide3 hi
    obtain ⟨z0, z1⟩ := hi.2.1
    by_cases hlt : k < all.length
    · obtain ⟨gD, capD, hu1, ⟨s0, d0⟩, d1, d2, d3⟩ := hi.cell hlt
      simp only [Value.slice.injEq] at hu1
      obtain ⟨rfl, hxx, rfl⟩ := hu1
      have hgD : gD < w1.heap.size := HLO.out.1 gD rfl
      have HN : Hid (InvL w w1.heap.size (.slice (some ⟨gD, 0, none⟩) all.length cap) all (wr.setCell ⟨gD, k * 6, none⟩ (.string ⟨#[63]⟩))) := HI.out.setN rfl hgD hlt _
      obtain ⟨aP, cP, hvP⟩ := (hi.2.2.2 _ (List.getElem_mem hlt)).1.sl
      obtain ⟨aE, cE, hvE⟩ := (hi.2.2.2 _ (List.getElem_mem hlt)).2.sl
      have HVP := hide3 hvP
      have HVE := hide3 hvE
      have hl1 := (HSH.out k hlt).1
      have hl2 := (HSH.out k hlt).2
      clear hi hxx hvP hvE d1 d2
      obtain ⟨wa, rfl⟩ : ∃ x, x = wr := ⟨wr, rfl⟩
      go_wp2_with fail
      go_loopw [8] (fun j wq => ∃ m : Nat, m ≤ all[k].nd.ed.length ∧ j = .int .i64 m ∧ InvL w w1.heap.size (.slice (some ⟨gD, 0, none⟩) all.length cap) all wq) (fun j _ => all[k].nd.ed.length - (intOf j).toNat)
      case atStart => exact ⟨0, Nat.zero_le _, rfl, HN.out⟩
      case round =>
        clear HI HN z0 z1 d0 d3
        obtain ⟨m, hm, rfl, hi⟩ := hrel
        have HI := hide3 hi
        obtain ⟨z0, z1⟩ := hi.2.1
        obtain ⟨gD', capD', hu1, _, d1, d2, _⟩ := hi.cell hlt
        simp only [Value.slice.injEq, Option.some.injEq, Addr.mk.injEq, and_true] at hu1
        obtain ⟨rfl, hxx, rfl⟩ := hu1
        clear hxx
        by_cases hml : m < all[k].nd.ed.length
        · have HRE := hide3 (hi.2.2.2 _ (List.getElem_mem hlt)).2
          obtain ⟨gS, capS, hpe, hcS, _, hcl⟩ := HRE.out.cell hml
          have HOB : Hid (all[k].ve.ownBlock = some gS) := by rw [hpe]; rfl
          have hgS : gS < w1.heap.size := (HLO.out.2 _ (List.getElem_mem hlt)).2 gS HOB.out
          have HST : Hid (∀ u, InvL w w1.heap.size (.slice (some ⟨gD, 0, none⟩) all.length cap) all (wr.setCell ⟨gS, m * 2 + 1, none⟩ u)) := fun u => HI.out.setL HRE.out (by decide) HOB.out hgS _ u
          rw [hpe] at d2
          obtain ⟨⟨x1, r1⟩, f1⟩ := hcl 1 (by decide)
          clear hi hcl hpe HVE HVP HI HRE HOB
          generalize all[k].nd.ed.length = lu at *
          go_wp2
          exact ⟨⟨m + 1, by omega, by go_num, HST.out _⟩, by simp [intOf]; omega⟩
        · have hme : m = all[k].nd.ed.length := by omega
          subst hme
          rw [HVE.out] at d2
          clear hi
          obtain ⟨wb, rfl⟩ : ∃ x, x = wr := ⟨wr, rfl⟩
          go_wp2_with fail
          go_loopw [9] (fun j wq => ∃ m : Nat, m ≤ all[k].nd.cx.length ∧ j = .int .i64 m ∧ InvL w w1.heap.size (.slice (some ⟨gD, 0, none⟩) all.length cap) all wq) (fun j _ => all[k].nd.cx.length - (intOf j).toNat)
          case atStart => exact ⟨0, Nat.zero_le _, rfl, HI.out⟩
          case round =>
            clear HI z0 z1 d1 d2
            obtain ⟨m, hm, rfl, hi⟩ := hrel
            have HI := hide3 hi
            obtain ⟨z0, z1⟩ := hi.2.1
            obtain ⟨gD', capD', hu1, _, d1, d2, _⟩ := hi.cell hlt
            simp only [Value.slice.injEq, Option.some.injEq, Addr.mk.injEq, and_true] at hu1
            obtain ⟨rfl, hxx, rfl⟩ := hu1
            clear hxx
            by_cases hml : m < all[k].nd.cx.length
            · have HRE := hide3 (hi.2.2.2 _ (List.getElem_mem hlt)).1
              obtain ⟨gS, capS, hpe, hcS, _, hcl⟩ := HRE.out.cell hml
              have HOB : Hid (all[k].vc.ownBlock = some gS) := by rw [hpe]; rfl
              have hgS : gS < w1.heap.size := (HLO.out.2 _ (List.getElem_mem hlt)).1 gS HOB.out
              have HST : Hid (∀ u, InvL w w1.heap.size (.slice (some ⟨gD, 0, none⟩) all.length cap) all (wr.setCell ⟨gS, m * 4, none⟩ u)) := fun u => HI.out.setL HRE.out (by decide) HOB.out hgS _ u
              rw [hpe] at d1
              obtain ⟨⟨x1, r1⟩, f1⟩ := hcl 0 (by decide)
              rw [Nat.add_zero] at r1 f1
              clear hi hcl hpe HVE HVP HI HRE HOB
              generalize all[k].nd.cx.length = lu at *
              go_wp2
              exact ⟨⟨m + 1, by omega, by go_num, HST.out _⟩, by simp [intOf]; omega⟩
            · have hme : m = all[k].nd.cx.length := by omega
              subst hme
              rw [HVP.out] at d1
              clear hi
              go_wp2
              exact ⟨⟨k + 1, by omega, by go_num, HI.out⟩, by simp [intOf]; omega⟩
    · obtain rfl : k = all.length := by omega
      have HBE : Hid (Below w.heap.size w wr) := HI.out.1
      clear hi HI
      go_wp2_with (first
        | (go_at_call 11; refine (HPA.out _ HBE.out).mono ?_; rintro e w4 ⟨ae, ce, al2, hal, rfl, ok, hra⟩; have HB4 : Hid (Below w.heap.size w (w4.alloc (.cells #[.slice ae al2.length ce] 24)) ∧ NodesAt (w4.alloc (.cells #[.slice ae al2.length ce] 24)) (.slice ae al2.length ce) G) := ⟨below_then (below_then HBE.out ok) (boxB _ _), by rw [← hal]; exact (hra.below (boxB _ _)).at⟩; clear ok hra hal)
        | (go_at_call 6; refine (HPR.out _ _ HB4.out.1 HB4.out.2).mono ?_; rintro e w5 ⟨rfl, ok⟩; have HB5 := hide3 (below_then HB4.out.1 ok); clear ok))
      go_ret
      exact ⟨by first | rfl | simp, HB5.out⟩

theorem lockAgain_walk (t : ByteArray) {w : World} (h : Env w) : Calls Tryd.prog 4 #[.string t] w fun e w' => e = .returned (.bool true) ∧ Below w.heap.size w w' := by
  cases hp : parG t with
  | none => exact lockAgain_no t h hp
  | some G => exact lockAgain_yes t h hp
end Go.Proofs.YtikplmckjcceaaaDoor
namespace Go.Proofs.YtikplmckjcceaaaDoor
open Go.ChangeShapes Go.WideShapes Go.ChangeAt Go.RowKit
open Go.ChangeMaps (open_string shut_string)
set_option maxRecDepth 100000

theorem lockAgain_lifted (os : Os) (started : os.Started) (H : Type) (enc : TypeId × Value → H) :
    ReturnsInHanded {} Tryd.checked os 4 .any (fun w args => (Rows.lockAgainSpec.pre enc Tryd.prog Tryd.f4 [] false w args ∧ laidMetH Tryd.prog Rows.lockAgainRow.laid w) ∧ sizedMet enc Tryd.prog Tryd.f4 (OpenSpec.ofChange Rows.lockAgainSpec) false w args)
      (Rows.lockAgainSpec.post enc Tryd.prog Tryd.f4 false true false false) := by
  refine wrap_laid (C := Tryd.checked) (l := Rows.lockAgainRow.laid) own started (by kernel_rfl) Tryd.func4
    (ChangeSpec.witness_shaped (enc := enc) (C := Tryd.checked) (os := os) (X := fun w _ => laidMetH Tryd.prog Rows.lockAgainRow.laid w) false (World.laidAll Tryd.prog os Rows.lockAgainRow.laid) #[.string ByteArray.empty] 8 (World.laidAll_os _ _ _)
      (World.shaped_of_ZipB (by kernel_rfl) (by kernel_rfl)) (by kernel_rfl) (by kernel_rfl) (by kernel_rfl)
      (by rw [MakeChecks.laidMetH_plain _ _ _ (by kernel_rfl)]; exact laidMet_laidAll _ (by kernel_rfl) (by kernel_rfl))) ?_
  intro W base args ds gs before hval0 hW _ hsh hlaid
  have hval : ∀ (j : Nat) t v, Tryd.f4.params[j]? = some t → args[j]? = some v → Value.okWide Tryd.prog W .any base t v := hval0
  have hW' := hW
  obtain ⟨p, q, hA0, hV, rfl, _, _⟩ := hW
  have hA : DataW.TrodAll enc Tryd.prog W 0 (fun _ => true) true Tryd.f4.params.toList args.toList ds p := hA0
  rw [Tryd.params4] at hA hval
  rw [MakeChecks.laidMetH_plain _ _ _ (by kernel_rfl)] at hlaid
  obtain ⟨v0, vs0, d0, ds0, p0, q0, hargs, rfl, rfl, h0, r0⟩ := trodAll_cons hA
  obtain ⟨rfl, rfl, rfl⟩ := trodAll_nil r0
  obtain rfl : args = #[v0] := by cases args; simp_all
  obtain ⟨rfl, rfl⟩ := trodVars_none hV
  obtain ⟨s0, rfl, rfl, rfl, w0⟩ := open_string Tryd.underlying9 (hval 0 9 v0 rfl rfl) h0
  clear hA0 hval0
  refine (lockAgain_walk s0 (env_of hsh hlaid)).mono fun e W' ⟨he, bel⟩ => ?_
  subst he
  exact ⟨_, rfl, _, _, _, [], _, [], hW', trodAll_mk1 (shut_bool Tryd.underlying4 _), (trodAll_cons_mk (shut_string Tryd.underlying9 w0) trodAll_mk0), rfl, bel.frame _, fun h => by cases h⟩

theorem lockAgain_said : Rows.LockAgainSaid :=
  OpenClaim.holds_of_wide 4 Tryd.f4 rfl rfl rfl rfl rfl rfl rfl ⟨rfl, rfl, rfl, rfl, rfl⟩ rfl rfl rfl rfl rfl (by kernel_rfl) Tryd.func4 (by kernel_rfl)
    (of_decide_eq_true (by kernel_rfl)) (by unfold Func.isWrapper; first | (rw [if_pos (by decide +kernel)]; kernel_rfl) | (rw [if_neg (by decide +kernel)]; exact ⟨rfl, rfl⟩))
    (fun os started H enc _ => lockAgain_lifted os started H enc)

theorem lockAgain_holds : Rows.LockAgainCardSaid :=
  Claim7.holds_tied_plain_at .later [] _ _ _ _ lockAgain_said (fun _ h => by cases h) (by kernel_rfl) (fun _ h => by cases h) lockAgain_row_tie rfl ⟨rfl, rfl⟩ (by kernel_rfl) rfl
    (fun f fn hf hfn => by
      obtain rfl : f = 4 := Option.some.inj ((show Tryd.prog.funcNamed Rows.lockAgainRow.func = some 4 by kernel_rfl).symm.trans hf) |>.symm
      obtain rfl : fn = Tryd.f4 := (Option.some.inj (Tryd.func4.symm.trans hfn)).symm
      exact ⟨by kernel_rfl, fun j t ht => by
        rw [Tryd.params4] at ht
        have hm : t ∈ [9] := by simpa using Array.mem_of_getElem? ht
        have hall : ([9].all fun u => !Tryd.prog.wantsStandIn u) = true := by kernel_rfl
        exact (show Tryd.prog.wantsStandIn t = false by simpa using List.all_eq_true.1 hall t hm)⟩)
    (by kernel_rfl)
#print axioms lockAgain_holds
end Go.Proofs.YtikplmckjcceaaaDoor
