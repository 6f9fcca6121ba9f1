/- Gd0, Ct2, Ct3, Ct1, Ps1b, Ct4, ScLi1, ScNm1, ScNm2, laid in one text. -/
import Derived.Deep.RegionHeld3
import Derived.Test.YtjpmlagofcgheaaGreatDoorScA
import Derived.Lib.LazyBuf
import Derived.Deep.CutRange
import Derived.BigRegion
import Derived.DeepKeys4
import Derived.Maps.OwnSet
import Derived.Maps.RangeWalk
import Derived.Test.YtjpmlagofcgheaaGreatDoorMg05
namespace Go.Proofs.YtjpmlagofcgheaaGreatDoor
open Go.Shelf Go.RowKit Go.Lib Go.Sort
set_option maxRecDepth 100000

/-- New memory alone, and draws. -/
def Gd (w w' : World) : Prop := ∃ q os', w' = grow (w.drewN q) os'
theorem Gd.refl (w : World) : Gd w w := ⟨0, #[], by rw [grow_empty]; rfl⟩
theorem Gd.drew (w : World) : Gd w w.drew := ⟨1, #[], by rw [grow_empty]; rfl⟩
theorem Gd.box (w : World) (o : Obj) : Gd w (w.alloc o) := ⟨0, #[o], by rw [alloc_eq_grow]; rfl⟩
theorem Gd.trans {a b c : World} (h : Gd a b) (h' : Gd b c) : Gd a c := by
  obtain ⟨q, os, rfl⟩ := h
  obtain ⟨q', os', rfl⟩ := h'
  refine ⟨q + q', os ++ os', ?_⟩
  simp [grow, World.drewN, Array.append_assoc, Nat.add_assoc]
theorem Gd.box2 (w : World) (o u : Obj) : Gd w ((w.alloc o).alloc u) := (Gd.box w o).trans (Gd.box _ u)
theorem Gd.below {w w' : World} (h : Gd w w') : Below w.heap.size w w' := by
  obtain ⟨q, os, rfl⟩ := h
  refine ⟨rfl, rfl, rfl, by simp [grow, World.drewN], fun k hk => ?_⟩
  show (w.heap ++ os)[k]? = _
  rw [Array.getElem?_append_left hk]

set_option maxHeartbeats 400000 in
theorem less_gd (a b c x y z : Int) (w : World) :
    Calls Tryz.prog 111 #[.agg #[.int .i64 a, .int .i64 b, .int .i64 c], .agg #[.int .i64 x, .int .i64 y, .int .i64 z]] w fun e w' => e = .returned (.bool (lessV a b c x y z)) ∧ Gd w w' := by
  go_enter Tryz.func111, Tryz.ntmps111
  go_wp2
  all_goals
    go_ret
    exact ⟨ret_bool (by unfold lessV; simp_all), Gd.box2 _ _ _⟩

set_option maxHeartbeats 800000 in
theorem Compare_gd (a b c x y z : Int) (w : World) :
    Calls Tryz.prog 77 #[.agg #[.int .i64 a, .int .i64 b, .int .i64 c], .agg #[.int .i64 x, .int .i64 y, .int .i64 z]] w fun e w' => e = .returned (.int .i64 (cmpV a b c x y z)) ∧ Gd w w' := by
  have he := eqlV a b c x y z
  have hg := guardV
  have hl := less_gd a b c x y z
  by_cases h : a = x ∧ b = y ∧ c = z
  · have HC : Hid (cmpV a b c x y z = 0) := by unfold Hid cmpV; obtain ⟨h1, h2, h3⟩ := h; rw [if_pos h1, if_pos h2, if_pos h3]
    rw [decide_eq_true h] at he
    clear h
    go_enter Tryz.func77, Tryz.ntmps77
    go_wp2
    go_ret
    exact ⟨ret_int HC.out.symm, Gd.box2 _ _ _⟩
  · rw [decide_eq_false h] at he
    cases hc : lessV a b c x y z
    · have HC : Hid (cmpV a b c x y z = 1) := by unfold Hid cmpV; unfold lessV at hc; grind
      rw [hc] at hl
      clear h hc
      go_enter Tryz.func77, Tryz.ntmps77
      go_wp2_with (go_at_call 111; refine (hl _).mono ?_; rintro e w' ⟨rfl, hb⟩)
      go_ret
      exact ⟨ret_int HC.out.symm, (Gd.box2 _ _ _).trans hb⟩
    · have HC : Hid (cmpV a b c x y z = -1) := by unfold Hid cmpV; unfold lessV at hc; grind
      rw [hc] at hl
      clear h hc
      go_enter Tryz.func77, Tryz.ntmps77
      go_wp2_with (go_at_call 111; refine (hl _).mono ?_; rintro e w' ⟨rfl, hb⟩)
      go_ret
      exact ⟨ret_int HC.out.symm, (Gd.box2 _ _ _).trans hb⟩

theorem compare_lt : ∀ (a b : List UInt8), Lib.compareBytes a b < 0 ↔ bytesBefore a b = true
  | [], [] => by simp [Lib.compareBytes, bytesBefore]
  | [], _ :: _ => by simp [Lib.compareBytes, bytesBefore]
  | _ :: _, [] => by simp [Lib.compareBytes, bytesBefore]
  | a :: ra, b :: rb => by
    have ih := compare_lt ra rb
    unfold Lib.compareBytes bytesBefore
    by_cases h1 : a < b
    · simp [h1]
    · rw [if_neg h1]
      by_cases h2 : b < a
      · rw [if_pos h2]
        have h3 : ¬ a = b := fun e => by subst e; exact h1 h2
        simp [h1, h3]
      · rw [if_neg h2]
        have h3 : a = b := UInt8.le_antisymm (UInt8.not_lt.1 h2) (UInt8.not_lt.1 h1)
        simp [h3, ih]
theorem compare_eq : ∀ (a b : List UInt8), Lib.compareBytes a b = 0 ↔ a = b
  | [], [] => by simp [Lib.compareBytes]
  | [], _ :: _ => by simp [Lib.compareBytes]
  | _ :: _, [] => by simp [Lib.compareBytes]
  | a :: ra, b :: rb => by
    have ih := compare_eq ra rb
    unfold Lib.compareBytes
    by_cases h1 : a < b
    · rw [if_pos h1]
      have h3 : ¬ a = b := fun e => by subst e; exact absurd h1 (UInt8.lt_irrefl _)
      simp [h3]
    · rw [if_neg h1]
      by_cases h2 : b < a
      · rw [if_pos h2]
        have h3 : ¬ a = b := fun e => by subst e; exact h1 h2
        simp [h3]
      · rw [if_neg h2]
        have h3 : a = b := UInt8.le_antisymm (UInt8.not_lt.1 h2) (UInt8.not_lt.1 h1)
        simp [h3, ih]
theorem before_asymm {a b : List UInt8} (h : bytesBefore a b = true) : bytesBefore b a = false := by
  rw [Bool.eq_false_iff]
  intro k
  have := WideShapes.bytes_trans a b a h k
  rw [WideAt.bytes_irrefl] at this
  cases this
theorem not_before_trans {a b c : List UInt8} (h : bytesBefore a b = false) (k : bytesBefore b c = false) : bytesBefore a c = false := by
  rw [Bool.eq_false_iff]
  intro q
  by_cases e : b = c
  · subst e; rw [h] at q; cases q
  · rcases WideAt.bytes_total b c e with r | r
    · rw [k] at r; cases r
    · have := WideShapes.bytes_trans a c b q r
      rw [h] at this; cases this

set_option maxHeartbeats 1600000 in
theorem or_two {w : World} {g : Nat} {r1 r2 : Int} (c0 : w.cell? ⟨g, 0, none⟩ = some (.int .i64 r1)) (c1 : w.cell? ⟨g, 1, none⟩ = some (.int .i64 r2)) : Calls Tryz.prog 83 #[.slice (some ⟨g, 0, none⟩) 2 2] w fun e w' => e = .returned (.int .i64 (if r1 = 0 then r2 else r1)) ∧ w' = w := by
  have HIF : Hid ((r1 = 0 → (if r1 = 0 then r2 else r1) = r2) ∧ (¬ r1 = 0 → (if r1 = 0 then r2 else r1) = r1)) := ⟨fun h => if_pos h, fun h => if_neg h⟩
  generalize (if r1 = 0 then r2 else r1) = rr at *
  go_enter Tryz.func83, Tryz.ntmps83
  go_wp2_with fail
  go_loopw [8] (fun vi wr => wr = w ∧ (vi = .int .i64 0 ∨ (vi = .int .i64 1 ∧ r1 = 0) ∨ (vi = .int .i64 2 ∧ r1 = 0 ∧ r2 = 0))) (fun vi _ => 2 - (intOf vi).toNat)
  case atStart => exact ⟨rfl, Or.inl rfl⟩
  case round =>
    obtain ⟨hww, rfl | ⟨rfl, h1⟩ | ⟨rfl, h1, h2⟩⟩ := hrel
    · obtain rfl : w = wr := hww.symm
      by_cases hz : r1 = 0
      · have HZ := hide3 hz
        have hb : (r1 == 0) = true := by simpa using hz
        rw [hz] at c0
        clear hz hb
        go_wp2_with fail
        exact ⟨⟨trivial, Or.inr (Or.inl ⟨rfl, HZ.out⟩)⟩, by decide⟩
      · have HZ := hide3 hz
        have hb : (r1 == 0) = false := by simpa using hz
        clear hz
        go_wp2_with fail
        go_ret
        exact ⟨ret_int (HIF.out.2 HZ.out).symm, rfl⟩
    · obtain rfl : w = wr := hww.symm
      have HZ := hide3 h1
      clear h1
      by_cases hz : r2 = 0
      · have HZ2 := hide3 hz
        rw [hz] at c1
        clear hz
        go_wp2_with fail
        exact ⟨⟨trivial, Or.inr (Or.inr ⟨rfl, HZ.out, HZ2.out⟩)⟩, by decide⟩
      · have hb : (r2 == 0) = false := by simpa using hz
        clear hz
        go_wp2_with fail
        go_ret
        exact ⟨ret_int (HIF.out.1 HZ.out).symm, rfl⟩
    · obtain rfl : w = wr := hww.symm
      have HZ := hide3 h1
      have HZ2 := hide3 h2
      clear h1 h2
      go_wp2
      go_ret
      exact ⟨ret_int ((HIF.out.1 HZ.out).trans HZ2.out).symm, rfl⟩
end Go.Proofs.YtjpmlagofcgheaaGreatDoor
namespace Go.Proofs.YtjpmlagofcgheaaGreatDoor
open Go.RowKit
set_option maxRecDepth 100000

theorem strClone_any (s : ByteArray) (hs : s.size ≤ 281474976710656) (w : World) : Calls Tryz.prog 59 #[.string s] w fun e w' => e = .returned (.string s) ∧ Below w.heap.size w w' := by
  have HC := hide3 (Tryz.stringslite_Clone s w hs)
  go_enter Tryz.func59, Tryz.ntmps59
  go_wp2_with (go_at_call 87; refine HC.out.mono ?_; rintro e w1 ⟨rfl, hb⟩; have HB := hide3 hb; clear hb)
  go_ret
  exact ⟨rfl, HB.out⟩

theorem sp_news {w : World} {g o : Nat} {L : List Sp} (h : ∀ i (h : i < L.length), SpAt w g (o + i * 6) L[i]) (j : Nat) (u : Value) (hj : (spCells L)[j]? = some u) : w.cell? ⟨g, o + j, none⟩ = some u := by
  have hl : j < L.length * 6 := by rw [← spCells_length]; exact (List.getElem?_eq_some_iff.1 hj).1
  obtain ⟨i, r, hr, rfl⟩ : ∃ i r, r < 6 ∧ j = i * 6 + r := ⟨j / 6, j % 6, by omega, by omega⟩
  have hi : i < L.length := by omega
  obtain ⟨a0, a1, a2, a3, a4, a5⟩ := h i hi
  obtain ⟨b0, b1, b2, b3, b4, b5⟩ := spCells_at L i hi
  rw [← Nat.add_assoc]
  match r, hr with
  | 0, _ => exact (a0.trans b0.symm).trans hj
  | 1, _ => exact (a1.trans b1.symm).trans hj
  | 2, _ => exact (a2.trans b2.symm).trans hj
  | 3, _ => exact (a3.trans b3.symm).trans hj
  | 4, _ => exact (a4.trans b4.symm).trans hj
  | 5, _ => exact (a5.trans b5.symm).trans hj
theorem sp_one (L : List Sp) : ∀ u ∈ spCells L, u.oneCell' = true := fun u hu => by
  unfold spCells at hu
  obtain ⟨s, _, hs⟩ := List.mem_flatMap.1 hu
  simp at hs
  rcases hs with rfl | rfl | rfl | rfl | rfl | rfl <;> rfl
theorem row_empty (w : World) : (w.alloc (.cells #[] 80)).ownsRow w.heap.size 80 6 (.slice (some ⟨w.heap.size, 0, none⟩) 0 0) 0 [] :=
  ⟨rfl, Or.inr ⟨w.heap.size, 0, #[], rfl, Nat.le_refl _, by show (w.heap.push _)[w.heap.size]? = _; rw [Array.getElem?_push, if_pos rfl], Nat.le_refl _, by decide, rfl, rfl⟩⟩

set_option maxHeartbeats 1600000 in
theorem cloneS_any {L : List Sp} {v : Value} {w : World} (h : SpansC w v L) (hl : L.length ≤ 1000000) : Calls Tryz.prog 60 #[v] w fun e w' => ∃ v', e = .returned v' ∧ OwnS w' w.heap.size v' L ∧ Below w.heap.size w w' := by
  obtain ⟨⟨ad, cap, rfl, hc⟩, _⟩ := h
  cases ad with
  | none =>
    obtain rfl : L = [] := by
      rcases hc with e | ⟨_, _, q, _⟩
      · exact e
      · cases q
    rw [List.length_nil]
    have q0 : ∀ w, (binOp .eql 39 (.slice none 0 cap) (.slice none 0 0)).run Tryz.prog w = .ok (.bool true) w := fun w => run_eql_slice_nil w 39 80 none 0 cap Tryz.underlying39
    go_enter Tryz.func60, Tryz.ntmps60
    go_wp2
    go_ret
    exact ⟨_, rfl, OwnS.nil _ _, Below.refl _ _⟩
  | some a =>
    have HNW : Hid (∀ j u, (spCells L)[j]? = some u → (w.alloc (.cells #[] 80)).cell? (a.add j) = some u) := fun j u hj => by
      rcases hc with e | ⟨g, o, q, hg, hs⟩
      · subst e; simp [spCells] at hj
      · cases q
        have e := sp_news hs j u hj
        have e2 : (⟨g, o, none⟩ : Addr).add j = ⟨g, o + j, none⟩ := by simp [Addr.add]
        rw [e2]
        exact ((boxB w (.cells #[] 80)).cell (p := ⟨g, o + j, none⟩) hg).trans e
    have HRW := hide3 (row_empty w)
    clear hc
    have q0 : ∀ w, (binOp .eql 39 (.slice (some a) L.length cap) (.slice none 0 0)).run Tryz.prog w = .ok (.bool false) w := fun w => run_eql_slice_nil w 39 80 (some a) L.length cap Tryz.underlying39
    go_enter Tryz.func60, Tryz.ntmps60
    go_wp2_with (at_builtin; refine wp_ownN (B := w.heap.size) (wx := w.alloc (.cells #[] 80)) (news := spCells L) (xs := []) (n := 0) infoSpan Tryz.underlying39 rfl (by decide) (by decide) rfl (.tmp 5) (.tmp 6) rfl rfl HRW.out (by simp) rfl (spCells_length L) HNW.out (sp_one L) (by omega) ?_; intro v1 w1 ho hgr hat; have HO : Hid (OwnS w1 w.heap.size v1 L) := (by have e := ho; rw [Nat.zero_add, List.nil_append] at e; exact e); have HB : Hid (Below w.heap.size w w1) := (boxB w (.cells #[] 80)).trans (below_grown (B := w.heap.size) hgr (fun g e => by cases e; exact Nat.le_refl _) (by simp)); clear ho hgr hat)
    go_ret
    exact ⟨_, rfl, HO.out, HB.out⟩
end Go.Proofs.YtjpmlagofcgheaaGreatDoor
namespace Go.Proofs.YtjpmlagofcgheaaGreatDoor
open Go.RowKit
set_option maxRecDepth 100000

theorem infoDp : (Tryz.prog.info? 70).map (fun i => (i.zero, i.size, i.bytes)) = some (some (.agg #[.string ⟨#[]⟩, .slice none 0 0]), 2, 40) := by kernel_rfl
theorem OwnD.snoc {W w1 : World} {B : Nat} {vo v1 vs : Value} {ps : List (Dp × Value)} {d : Dp} (h : OwnD W B vo ps) (hs : OwnS W B vs d.rg) (ho : w1.ownsRow B 70 2 v1 (ps.length + 1) (dpCells ps ++ [.string d.nm, vs])) (hg : W.grownBy w1 vo.ownBlock) : OwnD w1 B v1 (ps ++ [(d, vs)]) := by
  refine ⟨?_, fun p hp => ?_⟩
  · rw [List.length_append, dpCells_snoc]
    exact ho
  · rcases List.mem_append.1 hp with hp | hp
    · exact World.ownsRow.kept (h.2 p hp) hg (own_apart (h.2 p hp) h.1 (by decide))
    · obtain rfl := List.mem_singleton.1 hp
      exact World.ownsRow.kept hs hg (own_apart hs h.1 (by decide))
/-- Lists that are not too great. -/
def SmD (L : List Dp) : Prop := L.length ≤ 1000000 ∧ ∀ d ∈ L, d.nm.size ≤ 1000000 ∧ d.rg.length ≤ 1000000

set_option maxHeartbeats 12800000 in
theorem dCopy_any {L : List Dp} {v : Value} {w : World} (h : DepsAt w v L) (hz : SmD L) : Calls Tryz.prog 68 #[v] w fun e w' => ∃ v', e = .returned v' ∧ ∃ ps, OwnD w' w.heap.size v' ps ∧ ps.map (·.1) = L ∧ Below w.heap.size w w' := by
  obtain ⟨ad, cap, rfl, hcap, hc⟩ := h
  have HCL : Hid (∀ (W : World) (u : Value) (R : List Sp), SpansC W u R → R.length ≤ 1000000 → Calls Tryz.prog 60 #[u] W fun e w' => ∃ v', e = .returned v' ∧ OwnS w' W.heap.size v' R ∧ Below W.heap.size W w') := fun W u R hu hr => cloneS_any hu hr
  have HSC : Hid (∀ (s : ByteArray) (W : World), s.size ≤ 1000000 → Calls Tryz.prog 59 #[.string s] W fun e w' => e = .returned (.string s) ∧ Below W.heap.size W w') := fun s W hs => strClone_any s (by omega) W
  have HEL : Hid (∀ i (h : i < L.length), ∃ g o u, ad = some ⟨g, o, none⟩ ∧ DpIn w g (o + i * 2) L[i] u) := fun i hi => by
    rcases hc with e | ⟨g, o, e, hg, hu⟩
    · rw [e] at hi; cases hi
    · obtain ⟨u, hu⟩ := hu i hi
      exact ⟨g, o, u, e, hu⟩
  have HSZ := hide3 hz.2
  have hLL := hz.1
  clear hc hz
  go_enter Tryz.func68, Tryz.ntmps68
  go_wp2_with fail
  go_loopw [3, 8] (fun vo vi wr => ∃ (k : Nat) (ps : List (Dp × Value)), k ≤ L.length ∧ vi = .int .i64 k ∧ OwnD wr w.heap.size vo ps ∧ ps.map (·.1) = L.take k ∧ Below w.heap.size w wr) (fun _ vi _ => L.length - (intOf vi).toNat)
  case atStart => exact ⟨0, [], Nat.zero_le _, rfl, OwnD.nil _ _, rfl, Below.refl _ _⟩
  case round =>
    obtain ⟨k, ps, hk, rfl, hod, hps, hb⟩ := hrel
    obtain ⟨ao, co, rfl⟩ := hod.len
    have HBR := hide3 hb
    have HOD := hide3 hod
    have HPS := hide3 hps
    have hpl : ps.length = k := by have := congrArg List.length hps; rw [List.length_map, List.length_take] at this; omega
    have hpz : ps.length ≤ 1000000 := by omega
    clear hb hod hps hpl
    by_cases hlt : k < L.length
    · have hki : (k : Int) < (L.length : Int) := by omega
      obtain ⟨g, o, u, rfl, c0, c1, ⟨hsp, _⟩, hg⟩ := HEL.out k hlt
      obtain ⟨hz1, hz2⟩ := HSZ.out _ (List.getElem_mem hlt)
      have HTK : Hid (L.take (k + 1) = L.take k ++ [L[k]]) := (List.take_succ_eq_append_getElem hlt)
      obtain ⟨d, hd⟩ : ∃ d, d = L[k] := ⟨_, rfl⟩
      rw [← hd] at c0 hsp hz1 hz2 HTK
      have d0 := (HBR.out.cell (p := ⟨g, o + k * 2, none⟩) hg).trans c0
      have d1 := (HBR.out.cell (p := ⟨g, o + k * 2 + 1, none⟩) hg).trans c1
      have HKD : Hid (KeepP fun W => (Below w.heap.size w W ∧ OwnD W w.heap.size (.slice ao ps.length co) ps) ∧ SpansC W u d.rg) := fun a b hx hab => ⟨⟨below_then hx.1.1 hab, hx.1.2.below hab⟩, hx.2.below hab⟩
      have HO0 : Hid ((Below w.heap.size w wr ∧ OwnD wr w.heap.size (.slice ao ps.length co) ps) ∧ SpansC wr u d.rg) := ⟨⟨HBR.out, HOD.out⟩, hsp.below HBR.out⟩
      obtain ⟨⟨a2, c2, rfl, _⟩, _⟩ := hsp
      have HO : Hid ((Below w.heap.size w (wr.alloc (.cells #[.string d.nm, .slice a2 d.rg.length c2] 70)).drew ∧ OwnD (wr.alloc (.cells #[.string d.nm, .slice a2 d.rg.length c2] 70)).drew w.heap.size (.slice ao ps.length co) ps) ∧ SpansC (wr.alloc (.cells #[.string d.nm, .slice a2 d.rg.length c2] 70)).drew (.slice a2 d.rg.length c2) d.rg) := HKD.out _ _ (HKD.out _ _ HO0.out (boxB _ _)) (Below.refl _ _).drew
      have HBX : Hid (∀ W, Below (wr.alloc (.cells #[.string d.nm, .slice a2 d.rg.length c2] 70)).heap.size (wr.alloc (.cells #[.string d.nm, .slice a2 d.rg.length c2] 70)) W → W.cell? ⟨wr.heap.size, 0, none⟩ = some (.string d.nm) ∧ W.cell? ⟨wr.heap.size, 1, none⟩ = some (.slice a2 d.rg.length c2)) := fun W hb => ⟨(hb.cell (p := ⟨wr.heap.size, 0, none⟩) (by simp)).trans (by simp), (hb.cell (p := ⟨wr.heap.size, 1, none⟩) (by simp)).trans (by simp)⟩
      have HBB : Hid (Below (wr.alloc (.cells #[.string d.nm, .slice a2 d.rg.length c2] 70)).heap.size (wr.alloc (.cells #[.string d.nm, .slice a2 d.rg.length c2] 70)) (wr.alloc (.cells #[.string d.nm, .slice a2 d.rg.length c2] 70)).drew) := (Below.refl _ _).drew
      have hle : w.heap.size ≤ wr.heap.size := HBR.out.size
      have HNE : Hid (some wr.heap.size ≠ (Value.slice ao ps.length co).ownBlock) := fun e => by have := (HOD.out.1.lt _ e.symm).2; omega
      have HFIN : Hid (∀ (w6 w7 : World) (vs v1 : Value), ((Below w.heap.size w w6 ∧ OwnD w6 w.heap.size (.slice ao ps.length co) ps) ∧ SpansC w6 (.slice a2 d.rg.length c2) d.rg) → OwnS w6 w.heap.size vs d.rg → w7.ownsRow w.heap.size 70 2 v1 (ps.length + 1) (dpCells ps ++ [.string d.nm, vs]) → w6.grownBy w7 (Value.slice ao ps.length co).ownBlock → OwnD w7 w.heap.size v1 (ps ++ [(d, vs)]) ∧ (ps ++ [(d, vs)]).map (·.1) = L.take (k + 1) ∧ Below w.heap.size w w7) := fun w6 w7 vs v1 h6 hs ho hg => ⟨OwnD.snoc h6.1.2 hs ho hg, by rw [List.map_append, HPS.out, HTK.out]; rfl, h6.1.1.trans (below_grown hg (fun g e => (h6.1.2.1.lt g e).1) h6.1.1.size)⟩
      clear hcap hd
      go_wp2_with fail
      go_region_held3 (fun w' => w'.cell? ⟨wr.heap.size, 0, none⟩ = some (.string d.nm) ∧ w'.cell? ⟨wr.heap.size, 1, none⟩ = some (.slice a2 d.rg.length c2)) (go_keep) (first
        | (go_at_call 59; refine (HSC.out _ _ hz1).mono ?_; rintro e w5 ⟨rfl, hb5⟩; have HB5 := hide3 (below_then HBB.out hb5); have HO5 := hide3 (HKD.out _ _ HO.out hb5); obtain ⟨x0, x1⟩ := HBX.out _ HB5.out; clear hb5)
        | (go_at_call 60; refine (HCL.out _ _ _ HO5.out.2 hz2).mono ?_; rintro e w6 ⟨vs, rfl, hos, hb6⟩; have HB6 := hide3 (below_then HB5.out hb6); have HO6 := hide3 (HKD.out _ _ HO5.out hb6); obtain ⟨y0, y1⟩ := HBX.out _ HB6.out; have HS6 : Hid (OwnS w6 w.heap.size vs d.rg) := hos.base HO5.out.1.1.size; obtain ⟨a6, c6, rfl, _, _⟩ := hos.sp; have hB6 : w.heap.size ≤ w6.heap.size := HO6.out.1.1.size; clear hb6 hos)
        | (refine step_own (B := w.heap.size) (M := w6.heap.size) (wx := w6) (v := .slice ao ps.length co) infoDp Tryz.underlying32 rfl (by decide) (by decide) rfl (.tmp 12) (.tmp 20) rfl rfl HO6.out.1.2.1 hB6 #[.string d.nm, .slice a6 d.rg.length c6] rfl (by simp [Value.oneCell']) rfl rfl (by omega) ?_; intro v1 w7 ho hgr hat; obtain ⟨g7, cap7, rfl, _⟩ := ho.form (by omega); have HP := hide3 (HFIN.out _ _ _ _ HO6.out HS6.out ho (grown_pre (boxB _ _) hgr)); have z0 := (grown_pre (boxB _ _) hgr).cell y0 HNE.out; have z1 := (grown_pre (boxB _ _) hgr).cell y1 HNE.out; clear ho hgr hat))
      all_goals go_wp2
      all_goals exact ⟨⟨k + 1, _, by omega, by go_num, HP.out.1, HP.out.2.1, HP.out.2.2⟩, by simp [intOf]; omega⟩
    · obtain rfl : k = L.length := by omega
      have HPL : Hid (ps.map (·.1) = L) := by
        unfold Hid
        rw [HPS.out, List.take_length]
      have hki : ¬ ((L.length : Int) < (L.length : Int)) := by omega
      clear HPS
      go_wp2
      go_ret
      exact ⟨_, rfl, ps, HOD.out, HPL.out, HBR.out⟩
end Go.Proofs.YtjpmlagofcgheaaGreatDoor
namespace Go.Proofs.YtjpmlagofcgheaaGreatDoor
open Go.RowKit Go.Maps Go.WideMaps
set_option maxRecDepth 100000

theorem keyedPin : Keyed Tryz.prog 58 := Keyed.of_law (deep_law_laid (m := 5) (by kernel_rfl) (by decide) (of_decide_eq_true (by kernel_rfl)) (by kernel_rfl) (by kernel_rfl))
theorem keyedV : Keyed Tryz.prog 31 := Keyed.of_law (deep_law_laid (m := 5) (by kernel_rfl) (by decide) (of_decide_eq_true (by kernel_rfl)) (by kernel_rfl) (by kernel_rfl))
theorem zeroPg (w : World) : (zeroValue 34).run Tryz.prog w = .ok (.agg #[.string ByteArray.empty, .int .i64 0, .int .i64 0, .int .i64 0, .slice none 0 0, .slice none 0 0, .slice none 0 0]) w := by kernel_rfl

/-- How an element reads: as itself. -/
def heldR (v : Value) : Option (DataW Value × List MemPlace) := some (.held v, [])
theorem heldR_inv {v u : Value} {ps : List MemPlace} (h : heldR v = some (.held u, ps)) : v = u := by
  unfold heldR at h
  injection h with h
  injection h with h _
  injection h

/-- A number of a machine word. -/
def I64 (a : Int) : Prop := (Lit.int .i64 a).wf = true
def pinV (s : ByteArray) (a b c : Int) : Value := .agg #[.string s, .int .i64 a, .int .i64 b, .int .i64 c]

theorem klString (d : Nat) {s : ByteArray} (hs : s.size ≤ maxLen) : Tryz.prog.keyLits (d + 1) 9 [.string s] = some [.string s.data.toList] := by
  unfold Program.keyLits
  rw [Tryz.underlying9]
  simp [hs]
theorem klInt (d : Nat) {a : Int} (ha : I64 a) : Tryz.prog.keyLits (d + 1) 3 [.int .i64 a] = some [.int .i64 a] := by
  unfold Program.keyLits
  rw [Tryz.underlying3]
  have : (Lit.int .i64 a).wf = true := ha
  simp [this]
theorem undV : Tryz.prog.underlying 31 = some (.struct (Tryz.prog.fieldsOf 31)) := by kernel_rfl
theorem undPin : Tryz.prog.underlying 58 = some (.struct (Tryz.prog.fieldsOf 58)) := by kernel_rfl
theorem fldV : (Tryz.prog.fieldsOf 31).toList.map (fun f => (f.type, f.offset, Tryz.prog.cellsOf f.type)) = [(3, 0, 1), (3, 1, 1), (3, 2, 1)] ∧ (Tryz.prog.fieldsOf 31).all (·.name != "_") = true ∧ Tryz.prog.cellsOf 31 = 3 := ⟨by kernel_rfl, by kernel_rfl, by kernel_rfl⟩
theorem fldPin : (Tryz.prog.fieldsOf 58).toList.map (fun f => (f.type, f.offset, Tryz.prog.cellsOf f.type)) = [(9, 0, 1), (31, 1, 3)] ∧ (Tryz.prog.fieldsOf 58).all (·.name != "_") = true ∧ Tryz.prog.cellsOf 58 = 4 := ⟨by kernel_rfl, by kernel_rfl, by kernel_rfl⟩
theorem mapM_tri {P : Program} {d : Nat} {cs : List Value} (fs : List Field) : (fs.mapM fun f => P.keyLits d f.type ((cs.drop f.offset).take (P.cellsOf f.type))) = ((fs.map fun f => (f.type, f.offset, P.cellsOf f.type)).mapM fun x => P.keyLits d x.1 ((cs.drop x.2.1).take x.2.2)) := by
  induction fs with
  | nil => rfl
  | cons f r ih => rw [List.mapM_cons, List.map_cons, List.mapM_cons, ih]
theorem klV (d : Nat) {a b c : Int} (ha : I64 a) (hb : I64 b) (hc : I64 c) : Tryz.prog.keyLits (d + 2) 31 [.int .i64 a, .int .i64 b, .int .i64 c] = some [.int .i64 a, .int .i64 b, .int .i64 c] := by
  unfold Program.keyLits
  rw [undV]
  simp only
  rw [if_pos ⟨by rw [fldV.2.2]; rfl, fldV.2.1⟩, mapM_tri, fldV.1]
  simp [List.mapM_cons, klInt d ha, klInt d hb, klInt d hc]
theorem klPin (d : Nat) {s : ByteArray} {a b c : Int} (hs : s.size ≤ maxLen) (ha : I64 a) (hb : I64 b) (hc : I64 c) : Tryz.prog.keyLits (d + 3) 58 [.string s, .int .i64 a, .int .i64 b, .int .i64 c] = some [.string s.data.toList, .int .i64 a, .int .i64 b, .int .i64 c] := by
  unfold Program.keyLits
  rw [undPin]
  simp only
  rw [if_pos ⟨by rw [fldPin.2.2]; rfl, fldPin.2.1⟩, mapM_tri, fldPin.1]
  simp [List.mapM_cons, klString (d + 1) hs, klV d ha hb hc]
def keyP (s : ByteArray) (a b c : Int) : Lit := .string (keyBytes [.string s.data.toList, .int .i64 a, .int .i64 b, .int .i64 c])
theorem keyOf_pin {s : ByteArray} {a b c : Int} (hs : s.size ≤ maxLen) (ha : I64 a) (hb : I64 b) (hc : I64 c) : keyOf Tryz.prog 58 (pinV s a b c) = some (keyP s a b c) := by
  unfold keyOf
  rw [undPin]
  simp only
  rw [if_pos (by
    rw [show Tryz.prog.keyType 58 = true by kernel_rfl, Bool.true_and]
    unfold Value.formed pinV
    rw [undPin]
    simp only
    rw [fldPin.2.2]
    rfl)]
  obtain ⟨d, hd⟩ : ∃ d, Tryz.prog.types.size + 1 = d + 3 := ⟨Tryz.prog.types.size - 2, by have : 2 ≤ Tryz.prog.types.size := of_decide_eq_true (by kernel_rfl); omega⟩
  rw [hd, show (pinV s a b c).cells.toList = [.string s, .int .i64 a, .int .i64 b, .int .i64 c] from rfl, klPin d hs ha hb hc]
  rfl
def keyV (a b c : Int) : Lit := .string (keyBytes [.int .i64 a, .int .i64 b, .int .i64 c])
theorem keyOf_V {a b c : Int} (ha : I64 a) (hb : I64 b) (hc : I64 c) : keyOf Tryz.prog 31 (.agg #[.int .i64 a, .int .i64 b, .int .i64 c]) = some (keyV a b c) := by
  unfold keyOf
  rw [undV]
  simp only
  rw [if_pos (by
    rw [show Tryz.prog.keyType 31 = true by kernel_rfl, Bool.true_and]
    unfold Value.formed
    rw [undV]
    simp only
    rw [fldV.2.2]
    rfl)]
  obtain ⟨d, hd⟩ : ∃ d, Tryz.prog.types.size + 1 = d + 2 := ⟨Tryz.prog.types.size - 1, by have : 2 ≤ Tryz.prog.types.size := of_decide_eq_true (by kernel_rfl); omega⟩
  rw [hd, show (Value.agg #[.int .i64 a, .int .i64 b, .int .i64 c]).cells.toList = [.int .i64 a, .int .i64 b, .int .i64 c] from rfl, klV d ha hb hc]
  rfl
/-- A key tells its name and version. -/
theorem keyP_inj {s s' : ByteArray} {a b c a' b' c' : Int} (hs : s.size ≤ maxLen) (ha : I64 a) (hb : I64 b) (hc : I64 c) (hs' : s'.size ≤ maxLen) (ha' : I64 a') (hb' : I64 b') (hc' : I64 c') (h : keyP s a b c = keyP s' a' b' c') : s = s' ∧ a = a' ∧ b = b' ∧ c = c' := by
  have e := keyedPin.inj (keyOf_pin hs ha hb hc) (h ▸ keyOf_pin hs' ha' hb' hc')
  unfold pinV at e
  simp at e
  exact e
end Go.Proofs.YtjpmlagofcgheaaGreatDoor
namespace Go.Proofs.YtjpmlagofcgheaaGreatDoor
open Go.RowKit
set_option maxRecDepth 100000

/-- A package's variable that may be written. -/
def BxPF (w : World) (N : Nat) (s : ByteArray) (a b c : Int) (v1 v2 v3 : Value) : Prop := BxP w N s a b c v1 v2 v3 ∧ ∀ i, i < 7 → w.frozen? ⟨N, i, none⟩ = false
theorem keepBxPF (N : Nat) (s : ByteArray) (a b c : Int) (v1 v2 v3 : Value) : KeepP fun w1 => BxPF w1 N s a b c v1 v2 v3 := fun _ _ h hb =>
  ⟨keepBxP _ _ _ _ _ _ _ _ _ _ h.1 hb, fun i hi => (hb.frozen (p := ⟨N, i, none⟩) h.1.2.2.2.2.2.2.2).trans (h.2 i hi)⟩
theorem BxPF.new {w : World} {N : Nat} (hN : w.heap.size = N) (s : ByteArray) (a b c : Int) (v1 v2 v3 : Value) : BxPF (w.alloc (.cells #[.string s, .int .i64 a, .int .i64 b, .int .i64 c, v1, v2, v3] 34)) N s a b c v1 v2 v3 := by
  refine ⟨BxP.new hN _ _ _ _ _ _ _, fun i hi => ?_⟩
  subst hN
  simp
theorem set_far {w : World} {N i j : Nat} {u x : Value} (h : i ≠ j) (hx : w.cell? ⟨N, j, none⟩ = some x) : (w.setCell ⟨N, i, none⟩ u).cell? ⟨N, j, none⟩ = some x := (World.cell?_setCell_other _ _ _ _ (fun e => by cases e; exact h rfl)).trans hx
theorem set7 {w : World} {N : Nat} {x0 x1 x2 x3 x4 x5 x6 : Value} (j0 : w.cell? ⟨N, 0, none⟩ = some x0) (j1 : w.cell? ⟨N, 1, none⟩ = some x1) (j2 : w.cell? ⟨N, 2, none⟩ = some x2) (j3 : w.cell? ⟨N, 3, none⟩ = some x3) (j4 : w.cell? ⟨N, 4, none⟩ = some x4) (j5 : w.cell? ⟨N, 5, none⟩ = some x5) (j6 : w.cell? ⟨N, 6, none⟩ = some x6) (u0 u1 u2 u3 u4 u5 u6 : Value) :
    (((((((w.setCell ⟨N, 0, none⟩ u0).setCell ⟨N, 1, none⟩ u1).setCell ⟨N, 2, none⟩ u2).setCell ⟨N, 3, none⟩ u3).setCell ⟨N, 4, none⟩ u4).setCell ⟨N, 5, none⟩ u5).setCell ⟨N, 6, none⟩ u6).cell? ⟨N, 0, none⟩ = some u0 ∧ (((((((w.setCell ⟨N, 0, none⟩ u0).setCell ⟨N, 1, none⟩ u1).setCell ⟨N, 2, none⟩ u2).setCell ⟨N, 3, none⟩ u3).setCell ⟨N, 4, none⟩ u4).setCell ⟨N, 5, none⟩ u5).setCell ⟨N, 6, none⟩ u6).cell? ⟨N, 1, none⟩ = some u1 ∧ (((((((w.setCell ⟨N, 0, none⟩ u0).setCell ⟨N, 1, none⟩ u1).setCell ⟨N, 2, none⟩ u2).setCell ⟨N, 3, none⟩ u3).setCell ⟨N, 4, none⟩ u4).setCell ⟨N, 5, none⟩ u5).setCell ⟨N, 6, none⟩ u6).cell? ⟨N, 2, none⟩ = some u2 ∧ (((((((w.setCell ⟨N, 0, none⟩ u0).setCell ⟨N, 1, none⟩ u1).setCell ⟨N, 2, none⟩ u2).setCell ⟨N, 3, none⟩ u3).setCell ⟨N, 4, none⟩ u4).setCell ⟨N, 5, none⟩ u5).setCell ⟨N, 6, none⟩ u6).cell? ⟨N, 3, none⟩ = some u3 ∧ (((((((w.setCell ⟨N, 0, none⟩ u0).setCell ⟨N, 1, none⟩ u1).setCell ⟨N, 2, none⟩ u2).setCell ⟨N, 3, none⟩ u3).setCell ⟨N, 4, none⟩ u4).setCell ⟨N, 5, none⟩ u5).setCell ⟨N, 6, none⟩ u6).cell? ⟨N, 4, none⟩ = some u4 ∧ (((((((w.setCell ⟨N, 0, none⟩ u0).setCell ⟨N, 1, none⟩ u1).setCell ⟨N, 2, none⟩ u2).setCell ⟨N, 3, none⟩ u3).setCell ⟨N, 4, none⟩ u4).setCell ⟨N, 5, none⟩ u5).setCell ⟨N, 6, none⟩ u6).cell? ⟨N, 5, none⟩ = some u5 ∧ (((((((w.setCell ⟨N, 0, none⟩ u0).setCell ⟨N, 1, none⟩ u1).setCell ⟨N, 2, none⟩ u2).setCell ⟨N, 3, none⟩ u3).setCell ⟨N, 4, none⟩ u4).setCell ⟨N, 5, none⟩ u5).setCell ⟨N, 6, none⟩ u6).cell? ⟨N, 6, none⟩ = some u6 := by
  exact ⟨set_far (by decide) (set_far (by decide) (set_far (by decide) (set_far (by decide) (set_far (by decide) (set_far (by decide) (World.cell?_setCell_same _ _ _ (j0))))))), set_far (by decide) (set_far (by decide) (set_far (by decide) (set_far (by decide) (set_far (by decide) (World.cell?_setCell_same _ _ _ (set_far (by decide) (j1))))))), set_far (by decide) (set_far (by decide) (set_far (by decide) (set_far (by decide) (World.cell?_setCell_same _ _ _ (set_far (by decide) (set_far (by decide) (j2))))))), set_far (by decide) (set_far (by decide) (set_far (by decide) (World.cell?_setCell_same _ _ _ (set_far (by decide) (set_far (by decide) (set_far (by decide) (j3))))))), set_far (by decide) (set_far (by decide) (World.cell?_setCell_same _ _ _ (set_far (by decide) (set_far (by decide) (set_far (by decide) (set_far (by decide) (j4))))))), set_far (by decide) (World.cell?_setCell_same _ _ _ (set_far (by decide) (set_far (by decide) (set_far (by decide) (set_far (by decide) (set_far (by decide) (j5))))))), World.cell?_setCell_same _ _ _ (set_far (by decide) (set_far (by decide) (set_far (by decide) (set_far (by decide) (set_far (by decide) (set_far (by decide) (j6)))))))⟩
theorem below_set7 {w w' : World} {N B : Nat} {u0 u1 u2 u3 u4 u5 u6 : Value} (hN : B ≤ N) (h : Below B w w') : Below B w (((((((w'.setCell ⟨N, 0, none⟩ u0).setCell ⟨N, 1, none⟩ u1).setCell ⟨N, 2, none⟩ u2).setCell ⟨N, 3, none⟩ u3).setCell ⟨N, 4, none⟩ u4).setCell ⟨N, 5, none⟩ u5).setCell ⟨N, 6, none⟩ u6) :=
  (((((((h.setCell (p := ⟨N, 0, none⟩) hN _).setCell (p := ⟨N, 1, none⟩) hN _).setCell (p := ⟨N, 2, none⟩) hN _).setCell (p := ⟨N, 3, none⟩) hN _).setCell (p := ⟨N, 4, none⟩) hN _).setCell (p := ⟨N, 5, none⟩) hN _).setCell (p := ⟨N, 6, none⟩) hN _)
theorem heap7 {w : World} {N g : Nat} {u0 u1 u2 u3 u4 u5 u6 : Value} (h : g ≠ N) : (((((((w.setCell ⟨N, 0, none⟩ u0).setCell ⟨N, 1, none⟩ u1).setCell ⟨N, 2, none⟩ u2).setCell ⟨N, 3, none⟩ u3).setCell ⟨N, 4, none⟩ u4).setCell ⟨N, 5, none⟩ u5).setCell ⟨N, 6, none⟩ u6).heap[g]? = w.heap[g]? :=
  (Below.heap_setCell _ _ _ _ h).trans ((Below.heap_setCell _ _ _ _ h).trans ((Below.heap_setCell _ _ _ _ h).trans ((Below.heap_setCell _ _ _ _ h).trans ((Below.heap_setCell _ _ _ _ h).trans ((Below.heap_setCell _ _ _ _ h).trans ((Below.heap_setCell _ _ _ _ h)))))))
end Go.Proofs.YtjpmlagofcgheaaGreatDoor
namespace Go.Proofs.YtjpmlagofcgheaaGreatDoor
open Go.RowKit
set_option maxRecDepth 100000

/-- A package of one's own. -/
def OwnG (w : World) (B : Nat) (P : Pg) (v1 v2 v3 : Value) : Prop := ∃ q1 q2 q3, (OwnD w B v1 q1 ∧ q1.map (·.1) = P.d) ∧ (OwnD w B v2 q2 ∧ q2.map (·.1) = P.p) ∧ (OwnD w B v3 q3 ∧ q3.map (·.1) = P.o)
theorem OwnG.below {w w' : World} {B : Nat} {P : Pg} {v1 v2 v3 : Value} (h : OwnG w B P v1 v2 v3) (hb : Below w.heap.size w w') : OwnG w' B P v1 v2 v3 := by
  obtain ⟨q1, q2, q3, ⟨a1, b1⟩, ⟨a2, b2⟩, a3, b3⟩ := h
  exact ⟨q1, q2, q3, ⟨a1.below hb, b1⟩, ⟨a2.below hb, b2⟩, a3.below hb, b3⟩
theorem OwnG.at {w : World} {B : Nat} {P : Pg} {v1 v2 v3 : Value} (h : OwnG w B P v1 v2 v3) : PgAt w P v1 v2 v3 := by
  obtain ⟨q1, q2, q3, ⟨a1, b1⟩, ⟨a2, b2⟩, a3, b3⟩ := h
  exact ⟨b1 ▸ a1.at, b2 ▸ a2.at, b3 ▸ a3.at⟩
theorem OwnD.of {w w' : World} {B : Nat} {v : Value} {ps : List (Dp × Value)} (h : OwnD w B v ps) (hk : ∀ g, B ≤ g → g < w.heap.size → w'.heap[g]? = w.heap[g]?) : OwnD w' B v ps :=
  ⟨own_of h.1 fun g hg => hk g (h.1.lt g hg).1 (h.1.lt g hg).2, fun p hp => own_of (h.2 p hp) fun g hg => hk g (World.ownsRow.lt (h.2 p hp) g hg).1 (World.ownsRow.lt (h.2 p hp) g hg).2⟩
/-- Packages that are not too great. -/
def SmP (P : Pg) : Prop := P.nm.size ≤ 1000000 ∧ SmD P.d ∧ SmD P.p ∧ SmD P.o

set_option maxHeartbeats 12800000 in
theorem copied_any {P : Pg} {v1 v2 v3 : Value} {w : World} (h : PgAt w P v1 v2 v3) (hz : SmP P) : Calls Tryz.prog 35 #[.agg #[.string P.nm, .int .i64 P.a, .int .i64 P.b, .int .i64 P.c, v1, v2, v3]] w fun e w' => ∃ u1 u2 u3, e = .returned (.agg #[.string P.nm, .int .i64 P.a, .int .i64 P.b, .int .i64 P.c, u1, u2, u3]) ∧ OwnG w' w.heap.size P u1 u2 u3 ∧ Below w.heap.size w w' := by
  have HCP : Hid (∀ (W : World) (u : Value) (L : List Dp), DepsAt W u L → SmD L → Calls Tryz.prog 68 #[u] W fun e w' => ∃ v', e = .returned v' ∧ ∃ ps, OwnD w' W.heap.size v' ps ∧ ps.map (·.1) = L ∧ Below W.heap.size W w') := fun W u L hu hl => dCopy_any hu hl
  have HSC : Hid (∀ (s : ByteArray) (W : World), s.size ≤ 1000000 → Calls Tryz.prog 59 #[.string s] W fun e w' => e = .returned (.string s) ∧ Below W.heap.size W w') := fun s W hs => strClone_any s (by omega) W
  have HH := hide3 h
  have HZ := hide3 hz
  obtain ⟨⟨b1, e1, rfl, _⟩, ⟨b2, e2, rfl, _⟩, b3, e3, rfl, _⟩ := h
  have HKD : Hid (KeepP fun W => (Below w.heap.size w W ∧ PgAt W P (.slice b1 P.d.length e1) (.slice b2 P.p.length e2) (.slice b3 P.o.length e3)) ∧ (BxP W w.heap.size P.nm P.a P.b P.c (.slice b1 P.d.length e1) (.slice b2 P.p.length e2) (.slice b3 P.o.length e3) ∧ BxPF W (w.heap.size + 1) ⟨#[]⟩ 0 0 0 (.slice none 0 0) (.slice none 0 0) (.slice none 0 0))) := fun a b hx hab => ⟨⟨below_then hx.1.1 hab, ⟨hx.1.2.1.below hab, hx.1.2.2.1.below hab, hx.1.2.2.2.below hab⟩⟩, keepBxP _ _ _ _ _ _ _ _ _ _ hx.2.1 hab, keepBxPF _ _ _ _ _ _ _ _ _ _ hx.2.2 hab⟩
  have HO1 : Hid ((Below w.heap.size w ((w.alloc (.cells #[.string P.nm, .int .i64 P.a, .int .i64 P.b, .int .i64 P.c, .slice b1 P.d.length e1, .slice b2 P.p.length e2, .slice b3 P.o.length e3] 34)).alloc (.cells #[.string ⟨#[]⟩, .int .i64 0, .int .i64 0, .int .i64 0, .slice none 0 0, .slice none 0 0, .slice none 0 0] 34)).drew ∧ PgAt ((w.alloc (.cells #[.string P.nm, .int .i64 P.a, .int .i64 P.b, .int .i64 P.c, .slice b1 P.d.length e1, .slice b2 P.p.length e2, .slice b3 P.o.length e3] 34)).alloc (.cells #[.string ⟨#[]⟩, .int .i64 0, .int .i64 0, .int .i64 0, .slice none 0 0, .slice none 0 0, .slice none 0 0] 34)).drew P (.slice b1 P.d.length e1) (.slice b2 P.p.length e2) (.slice b3 P.o.length e3)) ∧ (BxP ((w.alloc (.cells #[.string P.nm, .int .i64 P.a, .int .i64 P.b, .int .i64 P.c, .slice b1 P.d.length e1, .slice b2 P.p.length e2, .slice b3 P.o.length e3] 34)).alloc (.cells #[.string ⟨#[]⟩, .int .i64 0, .int .i64 0, .int .i64 0, .slice none 0 0, .slice none 0 0, .slice none 0 0] 34)).drew w.heap.size P.nm P.a P.b P.c (.slice b1 P.d.length e1) (.slice b2 P.p.length e2) (.slice b3 P.o.length e3) ∧ BxPF ((w.alloc (.cells #[.string P.nm, .int .i64 P.a, .int .i64 P.b, .int .i64 P.c, .slice b1 P.d.length e1, .slice b2 P.p.length e2, .slice b3 P.o.length e3] 34)).alloc (.cells #[.string ⟨#[]⟩, .int .i64 0, .int .i64 0, .int .i64 0, .slice none 0 0, .slice none 0 0, .slice none 0 0] 34)).drew (w.heap.size + 1) ⟨#[]⟩ 0 0 0 (.slice none 0 0) (.slice none 0 0) (.slice none 0 0))) := by
    refine HKD.out ((w.alloc (.cells #[.string P.nm, .int .i64 P.a, .int .i64 P.b, .int .i64 P.c, .slice b1 P.d.length e1, .slice b2 P.p.length e2, .slice b3 P.o.length e3] 34)).alloc (.cells #[.string ⟨#[]⟩, .int .i64 0, .int .i64 0, .int .i64 0, .slice none 0 0, .slice none 0 0, .slice none 0 0] 34)) _ ?_ (Below.refl _ _).drew
    have hb := boxB2 w (.cells #[.string P.nm, .int .i64 P.a, .int .i64 P.b, .int .i64 P.c, .slice b1 P.d.length e1, .slice b2 P.p.length e2, .slice b3 P.o.length e3] 34) (.cells #[.string ⟨#[]⟩, .int .i64 0, .int .i64 0, .int .i64 0, .slice none 0 0, .slice none 0 0, .slice none 0 0] 34)
    exact ⟨⟨hb, HH.out.1.below hb, HH.out.2.1.below hb, HH.out.2.2.below hb⟩, keepBxP _ _ _ _ _ _ _ _ _ _ (BxP.new rfl _ _ _ _ _ _ _) (boxB _ _), BxPF.new (by simp) _ _ _ _ _ _ _⟩
  have HOK : Hid (∀ w' x1 k1 y1 q1 x2 k2 y2 q2 x3 k3 y3 q3, OwnD w' w.heap.size (.slice x1 k1 y1) q1 → q1.map (·.1) = P.d → OwnD w' w.heap.size (.slice x2 k2 y2) q2 → q2.map (·.1) = P.p → OwnD w' w.heap.size (.slice x3 k3 y3) q3 → q3.map (·.1) = P.o → Below w.heap.size w w' → ∃ u1 u2 u3, Ending.returned (.agg #[.string P.nm, .int .i64 P.a, .int .i64 P.b, .int .i64 P.c, .slice x1 k1 y1, .slice x2 k2 y2, .slice x3 k3 y3]) = .returned (.agg #[.string P.nm, .int .i64 P.a, .int .i64 P.b, .int .i64 P.c, u1, u2, u3]) ∧ OwnG w' w.heap.size P u1 u2 u3 ∧ Below w.heap.size w w') := fun w' x1 k1 y1 q1 x2 k2 y2 q2 x3 k3 y3 q3 h1 h2 h3 h4 h5 h6 hb => ⟨_, _, _, rfl, ⟨q1, q2, q3, ⟨h1, h2⟩, ⟨h3, h4⟩, h5, h6⟩, hb⟩
  have HBX := HO1.out.2.1
  obtain ⟨k0, k1, k2, k3, k4, k5, k6, _⟩ := HBX
  clear hz
  go_enter Tryz.func35, Tryz.ntmps35
  go_wp2_with fail
  generalize ((w.alloc (.cells #[.string P.nm, .int .i64 P.a, .int .i64 P.b, .int .i64 P.c, .slice b1 P.d.length e1, .slice b2 P.p.length e2, .slice b3 P.o.length e3] 34)).alloc (.cells #[.string ⟨#[]⟩, .int .i64 0, .int .i64 0, .int .i64 0, .slice none 0 0, .slice none 0 0, .slice none 0 0] 34)) = W1 at *
  go_region_held3 (fun w' => w'.cell? ⟨w.heap.size, 0, none⟩ = some (.string P.nm) ∧ w'.cell? ⟨w.heap.size, 1, none⟩ = some (.int .i64 P.a) ∧ w'.cell? ⟨w.heap.size, 2, none⟩ = some (.int .i64 P.b) ∧ w'.cell? ⟨w.heap.size, 3, none⟩ = some (.int .i64 P.c) ∧ w'.cell? ⟨w.heap.size, 4, none⟩ = some (.slice b1 P.d.length e1) ∧ w'.cell? ⟨w.heap.size, 5, none⟩ = some (.slice b2 P.p.length e2) ∧ w'.cell? ⟨w.heap.size, 6, none⟩ = some (.slice b3 P.o.length e3)) (go_keep) (first
    | (go_at_call 59; refine (HSC.out _ _ HZ.out.1).mono ?_; rintro e w2 ⟨rfl, hb⟩; have HO2 := hide3 (HKD.out _ _ HO1.out hb); obtain ⟨k0, k1, k2, k3, k4, k5, k6, _⟩ := HO2.out.2.1; clear hb)
    | (go_at_call 68; refine (HCP.out _ _ _ HO4.out.1.2.2.2 HZ.out.2.2.2).mono ?_; rintro e w5 ⟨u3, rfl, q3, ho, hq3, hb⟩; have HO5 := hide3 (HKD.out _ _ HO4.out hb); have HQ1 := hide3 (HQ1.out.below hb); have HQ2 := hide3 (HQ2.out.below hb); have HQ3 : Hid (OwnD w5 (w.heap.size + 2) u3 q3) := ho.base (Nat.succ_le_of_lt HO4.out.2.2.1.2.2.2.2.2.2.2); have HM3 := hide3 hq3; obtain ⟨x3, y3, rfl⟩ := ho.len; obtain ⟨k0, k1, k2, k3, k4, k5, k6, _⟩ := HO5.out.2.1; obtain ⟨⟨r0, r1, r2, r3, r4, r5, r6, r7⟩, hfz⟩ := HO5.out.2.2; have f0 := hfz 0 (by decide); have f1 := hfz 1 (by decide); have f2 := hfz 2 (by decide); have f3 := hfz 3 (by decide); have f4 := hfz 4 (by decide); have f5 := hfz 5 (by decide); have f6 := hfz 6 (by decide); clear hfz; have s7 := fun u0 u1 u2 u3 u4 u5 u6 => set7 r0 r1 r2 r3 r4 r5 r6 u0 u1 u2 u3 u4 u5 u6; clear ho hb hq3)
    | (go_at_call 68; refine (HCP.out _ _ _ HO3.out.1.2.2.1 HZ.out.2.2.1).mono ?_; rintro e w4 ⟨u2, rfl, q2, ho, hq2, hb⟩; have HO4 := hide3 (HKD.out _ _ HO3.out hb); have HQ1 := hide3 (HQ1.out.below hb); have HQ2 : Hid (OwnD w4 (w.heap.size + 2) u2 q2) := ho.base (Nat.succ_le_of_lt HO3.out.2.2.1.2.2.2.2.2.2.2); have HM2 := hide3 hq2; obtain ⟨x2, y2, rfl⟩ := ho.len; obtain ⟨k0, k1, k2, k3, k4, k5, k6, _⟩ := HO4.out.2.1; clear ho hb hq2)
    | (go_at_call 68; refine (HCP.out _ _ _ HO2.out.1.2.1 HZ.out.2.1).mono ?_; rintro e w3 ⟨u1, rfl, q1, ho, hq1, hb⟩; have HO3 := hide3 (HKD.out _ _ HO2.out hb); have HQ1 : Hid (OwnD w3 (w.heap.size + 2) u1 q1) := ho.base (Nat.succ_le_of_lt HO2.out.2.2.1.2.2.2.2.2.2.2); have HM1 := hide3 hq1; obtain ⟨x1, y1, rfl⟩ := ho.len; obtain ⟨k0, k1, k2, k3, k4, k5, k6, _⟩ := HO3.out.2.1; clear ho hb hq1))
  all_goals go_wp2
  all_goals try simp only [Exit.inBlock, Exit.then]
  all_goals refine bodyPost_ret (by simp [results, Tryz.results35, s7, go_sem]; try rfl) rfl ?_
  all_goals exact HOK.out _ _ _ _ q1 _ _ _ q2 _ _ _ q3 ((HQ1.out.of fun g hg _ => heap7 (by omega)).base (by omega)) HM1.out ((HQ2.out.of fun g hg _ => heap7 (by omega)).base (by omega)) HM2.out ((HQ3.out.of fun g hg _ => heap7 (by omega)).base (by omega)) HM3.out (below_set7 (by omega) HO5.out.1.1)

theorem key_any {s : ByteArray} {a b c : Int} {v1 v2 v3 : Value} {w : World} (ha : ∃ ad n cap, v1 = .slice ad n cap) (hb : ∃ ad n cap, v2 = .slice ad n cap) (hc : ∃ ad n cap, v3 = .slice ad n cap) : Calls Tryz.prog 34 #[.agg #[.string s, .int .i64 a, .int .i64 b, .int .i64 c, v1, v2, v3]] w fun e w' => e = .returned (.agg #[.string s, .int .i64 a, .int .i64 b, .int .i64 c]) ∧ Below w.heap.size w w' := by
  obtain ⟨a1, n1, c1, rfl⟩ := ha
  obtain ⟨a2, n2, c2, rfl⟩ := hb
  obtain ⟨a3, n3, c3, rfl⟩ := hc
  have HB : Hid (Below w.heap.size w ((w.alloc (.cells #[.string s, .int .i64 a, .int .i64 b, .int .i64 c, .slice a1 n1 c1, .slice a2 n2 c2, .slice a3 n3 c3] 34)).alloc (.cells #[.string s, .int .i64 a, .int .i64 b, .int .i64 c] 58))) := boxB2 _ _ _
  go_enter Tryz.func34, Tryz.ntmps34
  go_wp2
  try simp only [Exit.inBlock, Exit.then]
  refine bodyPost_ret (by simp [results, Tryz.results34, go_sem]; try rfl) rfl ?_
  exact ⟨rfl, HB.out⟩

theorem new_any (w : World) : Calls Tryz.prog 7 #[] w fun e w' => e = .returned (.pointer (some ⟨w.heap.size + 1, 0, none⟩)) ∧ w' = (w.alloc (.map #[] 0)).alloc (.cells #[.map (some w.heap.size)] 74) := by
  have hmm := @run_makeMap Tryz.prog
  go_enter Tryz.func7, Tryz.ntmps7
  go_wp2
  go_ret
  exact ⟨rfl, rfl⟩
end Go.Proofs.YtjpmlagofcgheaaGreatDoor
namespace Go.Proofs.YtjpmlagofcgheaaGreatDoor.Sc
open Go.RowKit
set_option maxRecDepth 100000

end Go.Proofs.YtjpmlagofcgheaaGreatDoor.Sc
namespace Go.Proofs.YtjpmlagofcgheaaGreatDoor.Sc
open Go.RowKit
set_option maxRecDepth 100000

def ltB (b : UInt8) : Bool := decide (97 ≤ b.toNat) && decide (b.toNat ≤ 122)
def dgB (b : UInt8) : Bool := decide (48 ≤ b.toNat) && decide (b.toNat ≤ 57)
def nmB (b : UInt8) : Bool := ltB b || dgB b || decide (b.toNat = 45)
/-- A name. -/
def nameR : Bs → Bool
  | [] => false
  | b :: r => ltB b && r.all nmB && decide (r.length < 16)

theorem letter_any (b : UInt8) (w : World) : Calls Tryz.prog 142 #[.int .u8 (b.toNat : Int)] w fun e w' => e = .returned (.bool (ltB b)) ∧ w' = w := by
  go_enter Tryz.func142, Tryz.ntmps142
  go_wp2
  all_goals
    go_ret
    refine ⟨ret_bool ?_, rfl⟩
    rw [Bool.eq_iff_iff]
    simp [ltB]
    omega
theorem digit_any (b : UInt8) (w : World) : Calls Tryz.prog 143 #[.int .u8 (b.toNat : Int)] w fun e w' => e = .returned (.bool (dgB b)) ∧ w' = w := by
  go_enter Tryz.func143, Tryz.ntmps143
  go_wp2
  all_goals
    go_ret
    refine ⟨ret_bool ?_, rfl⟩
    rw [Bool.eq_iff_iff]
    simp [dgB]
    omega
end Go.Proofs.YtjpmlagofcgheaaGreatDoor.Sc
namespace Go.Proofs.YtjpmlagofcgheaaGreatDoor.Sc
open Go.RowKit
set_option maxRecDepth 100000

def headB : Bs → Bool
  | [] => false
  | b :: _ => ltB b
/-- A name. -/
def nameA (t : Bs) : Bool := headB t && t.all nmB && decide (t.length ≤ 16)
theorem empty_is {p : ByteArray} : p.toList.isEmpty = p.data.toList.isEmpty := by rw [ByteArray.toList_eq]
theorem nameA_empty {t : Bs} (h : t.isEmpty = true) : nameA t = false := by cases t <;> simp_all [nameA, headB]
theorem head_at {s : ByteArray} (h : 0 < s.size) : headB s.data.toList = ltB s[0] := by
  have : s.data.toList = s[0] :: s.data.toList.drop 1 := by
    have := List.drop_eq_getElem_cons (l := s.data.toList) (i := 0) (by rw [list_size]; exact h)
    rw [List.drop_zero] at this
    exact this
  rw [this]
  rfl
theorem size_pos {s : ByteArray} (h : s.toList.isEmpty = false) : 0 < s.size := by
  rw [empty_is] at h
  rw [← list_size]
  cases hs : s.data.toList with
  | nil => rw [hs] at h; cases h
  | cons _ _ => simp
theorem all_bad {s : ByteArray} {k : Nat} (hk : k < s.size) {f : UInt8 → Bool} (h : f s[k] = false) : s.data.toList.all f = false := by
  rw [Bool.eq_false_iff]
  intro ha
  rw [List.all_eq_true] at ha
  have := ha s[k] (List.getElem_mem (l := s.data.toList) (n := k) (by rw [list_size]; exact hk))
  rw [h] at this; cases this
theorem all_more {s : ByteArray} {k : Nat} (hk : k < s.size) {f : UInt8 → Bool} (h : (s.data.toList.take k).all f = true) (hb : f s[k] = true) : (s.data.toList.take (k + 1)).all f = true := by
  rw [List.take_succ_eq_append_getElem (by rw [list_size]; exact hk), List.all_append, h]
  simp only [List.all_cons, List.all_nil, Bool.and_true, Bool.true_and]
  exact hb
theorem all_end {s : ByteArray} {f : UInt8 → Bool} (h : (s.data.toList.take s.size).all f = true) : s.data.toList.all f = true := by
  rw [List.take_of_length_le (by rw [list_size]; exact Nat.le_refl _)] at h
  exact h

set_option maxHeartbeats 3200000 in
theorem Name_any (s : ByteArray) (w : World) : Calls Tryz.prog 125 #[.string s] w fun e w' => e = .returned (.bool (nameA s.data.toList)) ∧ w' = w := by
  cases he : s.toList.isEmpty
  · have h0 := size_pos he
    by_cases h16 : s.size ≤ 16
    · have HH := hide3 (head_at h0)
      have HL := hide3 (letter_any s[0])
      cases hl : ltB s[0]
      · have HR : Hid (nameA s.data.toList = false) := by unfold Hid nameA; rw [HH.out, hl]; rfl
        rw [hl] at HL
        clear hl
        go_enter Tryz.func125, Tryz.ntmps125
        go_wp2_with (go_at_call 142; refine (HL.out _).mono ?_; rintro e w1 ⟨rfl, hw1⟩; subst hw1)
        go_ret
        exact ⟨ret_bool HR.out.symm, rfl⟩
      · rw [hl] at HL HH
        clear hl
        have HLT : Hid (∀ b : UInt8, ∀ w1, Calls Tryz.prog 142 #[.int .u8 (b.toNat : Int)] w1 fun e w' => e = .returned (.bool (ltB b)) ∧ w' = w1) := letter_any
        have HDG : Hid (∀ b : UInt8, ∀ w1, Calls Tryz.prog 143 #[.int .u8 (b.toNat : Int)] w1 fun e w' => e = .returned (.bool (dgB b)) ∧ w' = w1) := digit_any
        go_enter Tryz.func125, Tryz.ntmps125
        go_wp2_with (go_at_call 142; refine (HL.out _).mono ?_; rintro e w1 ⟨rfl, hw1⟩; subst hw1; clear HL)
        go_loop [19] (fun i => ∃ k : Nat, k ≤ s.size ∧ i = .int .i64 k ∧ (s.data.toList.take k).all nmB = true) (fun i => s.size - (intOf i).toNat)
        case atStart => exact ⟨0, Nat.zero_le _, rfl, rfl⟩
        case round =>
          obtain ⟨k, hk, rfl, hal⟩ := hrel
          have HA := hide3 hal
          clear hal
          by_cases hlt : k < s.size
          · have HLk := hide3 (HLT.out s[k])
            have HDk := hide3 (HDG.out s[k])
            cases h1 : ltB s[k]
            · cases h2 : dgB s[k]
              · by_cases h3 : s[k].toNat = 45
                · have hn : nmB s[k] = true := by unfold nmB; rw [h1, h2, decide_eq_true h3]; rfl
                  have HA2 := hide3 (all_more hlt HA.out hn)
                  have e3 : ((s[k].toNat : Int) == 45) = true := by rw [beq_iff_eq]; omega
                  rw [h1] at HLk
                  rw [h2] at HDk
                  clear h1 h2 h3 hn
                  go_wp2_with (first | (go_at_call 142; refine (HLk.out _).mono ?_; rintro e w1 ⟨rfl, hw1⟩; subst hw1) | (go_at_call 143; refine (HDk.out _).mono ?_; rintro e w1 ⟨rfl, hw1⟩; subst hw1))
                  exact ⟨⟨k + 1, by omega, by go_num, HA2.out⟩, by simp [intOf]; omega⟩
                · have hn : nmB s[k] = false := by unfold nmB; rw [h1, h2, decide_eq_false h3]; rfl
                  have HR : Hid (nameA s.data.toList = false) := by unfold Hid nameA; rw [all_bad hlt hn]; simp
                  have e3 : ((s[k].toNat : Int) == 45) = false := by rw [beq_eq_false_iff_ne]; omega
                  rw [h1] at HLk
                  rw [h2] at HDk
                  clear h1 h2 h3 hn
                  go_wp2_with (first | (go_at_call 142; refine (HLk.out _).mono ?_; rintro e w1 ⟨rfl, hw1⟩; subst hw1) | (go_at_call 143; refine (HDk.out _).mono ?_; rintro e w1 ⟨rfl, hw1⟩; subst hw1))
                  go_ret
                  exact ⟨ret_bool HR.out.symm, rfl⟩
              · have hn : nmB s[k] = true := by unfold nmB; rw [h1, h2]; rfl
                have HA2 := hide3 (all_more hlt HA.out hn)
                rw [h1] at HLk
                rw [h2] at HDk
                clear h1 h2 hn
                go_wp2_with (first | (go_at_call 142; refine (HLk.out _).mono ?_; rintro e w1 ⟨rfl, hw1⟩; subst hw1) | (go_at_call 143; refine (HDk.out _).mono ?_; rintro e w1 ⟨rfl, hw1⟩; subst hw1))
                exact ⟨⟨k + 1, by omega, by go_num, HA2.out⟩, by simp [intOf]; omega⟩
            · have hn : nmB s[k] = true := by unfold nmB; rw [h1]; rfl
              have HA2 := hide3 (all_more hlt HA.out hn)
              rw [h1] at HLk
              clear h1 hn
              go_wp2_with (go_at_call 142; refine (HLk.out _).mono ?_; rintro e w1 ⟨rfl, hw1⟩; subst hw1)
              exact ⟨⟨k + 1, by omega, by go_num, HA2.out⟩, by simp [intOf]; omega⟩
          · have hke : k = s.size := by omega
            subst hke
            have HR : Hid (nameA s.data.toList = true) := by unfold Hid nameA; rw [HH.out, all_end HA.out, list_size, decide_eq_true h16]; rfl
            go_wp2
            go_ret
            exact ⟨ret_bool HR.out.symm, rfl⟩
    · have HR : Hid (nameA s.data.toList = false) := by unfold Hid nameA; rw [list_size, decide_eq_false h16]; simp
      go_enter Tryz.func125, Tryz.ntmps125
      go_wp2
      go_ret
      exact ⟨ret_bool HR.out.symm, rfl⟩
  · have HR : Hid (nameA s.data.toList = false) := nameA_empty (by rw [← empty_is]; exact he)
    go_enter Tryz.func125, Tryz.ntmps125
    go_wp2
    go_ret
    exact ⟨ret_bool HR.out.symm, rfl⟩
end Go.Proofs.YtjpmlagofcgheaaGreatDoor.Sc
