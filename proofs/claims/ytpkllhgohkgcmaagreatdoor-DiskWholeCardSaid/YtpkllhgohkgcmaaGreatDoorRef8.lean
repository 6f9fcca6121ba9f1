/- The reference's noted: a raw write is put behind those that were done, and one write fewer is left, if any count runs. -/
import Derived.Test.YtpkllhgohkgcmaaGreatDoorRef7
namespace Go.Proofs.YtpkllhgohkgcmaaGreatDoor
open Go.RowKit Go.Maps
set_option maxRecDepth 100000

theorem infoRawR : (Tryz.prog.info? 56).map (fun i => (i.zero, i.size, i.bytes)) = some (some (.agg #[.int .i64 0, .string ByteArray.empty, .string ByteArray.empty]), 3, 40) := by kernel_rfl

def leftNext (l : Int) : Int := if 0 < l then l - 1 else l

set_option maxHeartbeats 1000000 in
theorem noted_walk {B : Nat} {w : World} {e : Nat} {lv rv : Value} {fs : List Fl} {rs : List (Int × ByteArray × ByteArray)} {left : Int} (h : IsRef B w e lv rv fs rs left) (k : Int) (p t : ByteArray) (hlen : rs.length < 2199023255552) (hl0 : -1 ≤ left) (hl1 : left ≤ 9223372036854775807) (hB : B ≤ w.heap.size) :
    Calls Tryz.prog 64 #[.pointer (some ⟨e, 0, none⟩), .int .i64 k, .string p, .string t] w fun e' w' => e' = .returned (.int .i64 0) ∧
      ∃ g cap w1, w1.ownsRow B 56 3 (.slice (some ⟨g, 0, none⟩) (rs.length + 1) cap) (rs.length + 1) (rawCells rs ++ [.int .i64 k, .string p, .string t]) ∧
        (w.alloc (rawObj k p t)).grownBy w1 rv.ownBlock ∧ (rv.ownBlock = some g ∨ g = w.heap.size + 1) ∧ g < w1.heap.size ∧
        (w' = (w1.setCell ⟨e, 1, none⟩ (.slice (some ⟨g, 0, none⟩) (rs.length + 1) cap)) ∧ left ≤ 0 ∨
         w' = (w1.setCell ⟨e, 1, none⟩ (.slice (some ⟨g, 0, none⟩) (rs.length + 1) cap)).setCell ⟨e, 2, none⟩ (.int .i64 (left - 1)) ∧ 0 < left) := by
  obtain ⟨i0, hi, hz0, hz1, hz2⟩ := info_parts infoRawR
  have c1 := h.c1
  have f1 := h.f1
  have hbx := alloc_below w (rawObj k p t)
  have HR : Hid ((w.alloc (rawObj k p t)).ownsRow B 56 3 rv rs.length (rawCells rs)) := ownsRow_upd h.rrow (Upd.of_below (F := fun _ => False) hbx) (fun _ _ f => f)
  have HN : Hid (∀ j u, [Value.int .i64 k, .string p, .string t][j]? = some u → (w.alloc (rawObj k p t)).cell? ((⟨w.heap.size, 0, none⟩ : Addr).add j) = some u) := World.news_of_block (cs := #[.int .i64 k, .string p, .string t]) (t := 56) (fr := (0, 0)) (by
        show (w.heap.push _)[w.heap.size]? = _
        rw [Array.getElem?_push, if_pos rfl]; rfl)
  have HF : Hid (∀ w1, (w.alloc (rawObj k p t)).grownBy w1 rv.ownBlock → w1.cell? ⟨e, 1, none⟩ = some rv ∧ w1.frozen? ⟨e, 1, none⟩ = false ∧ w1.cell? ⟨e, 2, none⟩ = some (.int .i64 left) ∧ w1.frozen? ⟨e, 2, none⟩ = false) := by
    intro w1 hg
    have q1 := grown_far hg (Nat.lt_of_lt_of_le h.lt hbx.size) h.re 1
    have q2 := grown_far hg (Nat.lt_of_lt_of_le h.lt hbx.size) h.re 2
    have p1 := hbx.cell (p := ⟨e, 1, none⟩) h.lt
    have p2 := hbx.cell (p := ⟨e, 2, none⟩) h.lt
    have p3 := hbx.frozen (p := ⟨e, 1, none⟩) h.lt
    have p4 := hbx.frozen (p := ⟨e, 2, none⟩) h.lt
    exact ⟨by rw [q1.1, p1]; exact h.c1, by rw [q1.2, p3]; exact h.f1, by rw [q2.1, p2]; exact h.c2, by rw [q2.2, p4]; exact h.f2⟩
  clear h hbx
  by_cases h0 : 0 < left
  · go_enter Tryz.func64, Tryz.ntmps64
    go_wp2_with (first | (at_builtin; refine wpList_append_lies _ rfl _ _ 31 rfl B 56 i0 (.agg #[.int .i64 0, .string ByteArray.empty, .string ByteArray.empty]) 3 40 Tryz.underlying31 hi hz0 hz1 hz2 rfl (by decide) rv rs.length (rawCells rs) rfl HR.out ⟨w.heap.size, 0, none⟩ 1 1 [.int .i64 k, .string p, .string t] rfl rfl HN.out (by simp [Value.oneCell']) (by decide) (by unfold maxLen; omega) (by omega) (by simp; omega) (w.heap.size + 1) (by simp) ?_; intro g cap w1 hown hgrow hat hlt; obtain ⟨k1, k2, k3, k4⟩ := HF.out _ hgrow) | fail)
    go_ret
    exact ⟨rfl, g, cap, w1, hown, hgrow, hat, hlt, Or.inr ⟨rfl, h0⟩⟩
  · go_enter Tryz.func64, Tryz.ntmps64
    go_wp2_with (first | (at_builtin; refine wpList_append_lies _ rfl _ _ 31 rfl B 56 i0 (.agg #[.int .i64 0, .string ByteArray.empty, .string ByteArray.empty]) 3 40 Tryz.underlying31 hi hz0 hz1 hz2 rfl (by decide) rv rs.length (rawCells rs) rfl HR.out ⟨w.heap.size, 0, none⟩ 1 1 [.int .i64 k, .string p, .string t] rfl rfl HN.out (by simp [Value.oneCell']) (by decide) (by unfold maxLen; omega) (by omega) (by simp; omega) (w.heap.size + 1) (by simp) ?_; intro g cap w1 hown hgrow hat hlt; obtain ⟨k1, k2, k3, k4⟩ := HF.out _ hgrow) | fail)
    go_ret
    exact ⟨rfl, g, cap, w1, hown, hgrow, hat, hlt, Or.inl rfl⟩

theorem IsRef.setLeft {B : Nat} {w : World} {e : Nat} {lv rv : Value} {fs : List Fl} {rs : List (Int × ByteArray × ByteArray)} {left : Int} (h : IsRef B w e lv rv fs rs left) (l : Int) : IsRef B (w.setCell ⟨e, 2, none⟩ (.int .i64 l)) e lv rv fs rs l := by
  have o0 : (w.setCell ⟨e, 2, none⟩ (.int .i64 l)).cell? ⟨e, 0, none⟩ = w.cell? ⟨e, 0, none⟩ := World.cell?_setCell_other _ _ _ _ (by simp)
  have o1 : (w.setCell ⟨e, 2, none⟩ (.int .i64 l)).cell? ⟨e, 1, none⟩ = w.cell? ⟨e, 1, none⟩ := World.cell?_setCell_other _ _ _ _ (by simp)
  have hu := Upd.setCell w ⟨e, 2, none⟩ (.int .i64 l)
  exact { c0 := by rw [o0]; exact h.c0, c1 := by rw [o1]; exact h.c1, c2 := World.cell?_setCell_same _ _ _ h.c2, f0 := by rw [World.frozen?_setCell]; exact h.f0, f1 := by rw [World.frozen?_setCell]; exact h.f1, f2 := by rw [World.frozen?_setCell]; exact h.f2,
          lrow := ownsRow_upd h.lrow hu (fun k hk hk' => h.le (by rw [hk]; exact congrArg some hk')), rrow := ownsRow_upd h.rrow hu (fun k hk hk' => h.re (by rw [hk]; exact congrArg some hk')),
          le := h.le, re := h.re, be := h.be, lt := by simp [World.setCell]; exact h.lt }

/-- The two rows lie apart: the one holds files, the other one raw writes. -/
theorem IsRef.apart {B : Nat} {w : World} {e : Nat} {lv rv : Value} {fs : List Fl} {rs : List (Int × ByteArray × ByteArray)} {left : Int} (h : IsRef B w e lv rv fs rs left) {j : Nat} (hl : lv.ownBlock = some j) (hr : rv.ownBlock = some j) : False := by
  rcases h.lrow.2 with ⟨rfl, _⟩ | ⟨g, cap, cur, rfl, _, hb, _⟩
  · cases hl
  · cases hl
    rcases h.rrow.2 with ⟨rfl, _⟩ | ⟨g', cap', cur', rfl, _, hb', _⟩
    · cases hr
    · have : g' = g := by simpa [Value.ownBlock] using hr
      subst this
      rw [hb] at hb'
      have := Option.some.inj hb'
      simp at this

theorem noted_is {B : Nat} {w w1 : World} {e : Nat} {lv rv : Value} {fs : List Fl} {rs : List (Int × ByteArray × ByteArray)} {left : Int} (h : IsRef B w e lv rv fs rs left) {k : Int} {p t : ByteArray} {g cap : Nat}
    (hown : w1.ownsRow B 56 3 (.slice (some ⟨g, 0, none⟩) (rs.length + 1) cap) (rs.length + 1) (rawCells rs ++ [.int .i64 k, .string p, .string t]))
    (hgrow : (w.alloc (rawObj k p t)).grownBy w1 rv.ownBlock) (hat : rv.ownBlock = some g ∨ g = w.heap.size + 1) :
    IsRef B (w1.setCell ⟨e, 1, none⟩ (.slice (some ⟨g, 0, none⟩) (rs.length + 1) cap)) e lv (.slice (some ⟨g, 0, none⟩) (rs.length + 1) cap) fs (rs ++ [(k, p, t)]) left ∧
      Upd (FootR e lv rv) w (w1.setCell ⟨e, 1, none⟩ (.slice (some ⟨g, 0, none⟩) (rs.length + 1) cap)) := by
  have hb := alloc_below w (rawObj k p t)
  have hu : Upd (fun j => rv.ownBlock = some j) w w1 := (Upd.of_below hb).trans (Upd.of_grown hgrow) (fun _ _ f => f)
  have q : ∀ i, w1.cell? ⟨e, i, none⟩ = w.cell? ⟨e, i, none⟩ ∧ w1.frozen? ⟨e, i, none⟩ = w.frozen? ⟨e, i, none⟩ := fun i =>
    ⟨World.cell?_of_block (w := w) (hu.block e h.lt h.re), World.frozen?_of_block (w := w) (hu.block e h.lt h.re)⟩
  have hge : g ≠ e := by
    rcases hat with e' | e'
    · intro e''; exact h.re (by rw [e', e''])
    · have := h.lt; omega
  have o0 : (w1.setCell ⟨e, 1, none⟩ (.slice (some ⟨g, 0, none⟩) (rs.length + 1) cap)).cell? ⟨e, 0, none⟩ = w1.cell? ⟨e, 0, none⟩ := World.cell?_setCell_other _ _ _ _ (by simp)
  have o2 : (w1.setCell ⟨e, 1, none⟩ (.slice (some ⟨g, 0, none⟩) (rs.length + 1) cap)).cell? ⟨e, 2, none⟩ = w1.cell? ⟨e, 2, none⟩ := World.cell?_setCell_other _ _ _ _ (by simp)
  have c1' : w1.cell? ⟨e, 1, none⟩ = some rv := by rw [(q 1).1]; exact h.c1
  have hs := Upd.setCell w1 ⟨e, 1, none⟩ (.slice (some ⟨g, 0, none⟩) (rs.length + 1) cap)
  refine ⟨?_, (hu.mono (fun _ _ f => Or.inr (Or.inr f))).trans hs (fun i _ f => Or.inl f)⟩
  exact { c0 := by rw [o0, (q 0).1]; exact h.c0, c1 := World.cell?_setCell_same _ _ _ c1', c2 := by rw [o2, (q 2).1]; exact h.c2, f0 := by rw [World.frozen?_setCell, (q 0).2]; exact h.f0, f1 := by rw [World.frozen?_setCell, (q 1).2]; exact h.f1, f2 := by rw [World.frozen?_setCell, (q 2).2]; exact h.f2,
          lrow := ownsRow_upd (ownsRow_upd h.lrow hu (fun j hj hr => h.apart hj hr)) hs (fun j hj hj' => h.le (by rw [hj]; exact congrArg some hj')),
          rrow := by
            rw [rawCells_snoc, List.length_append]
            exact ownsRow_upd hown hs (fun j hj e' => by cases hj; exact hge e')
          le := h.le, re := by simp only [Value.ownBlock]; intro e'; exact hge (Option.some.inj e'), be := h.be, lt := by have := h.lt; have := hu.size; simp [World.setCell]; omega }

theorem noted_any {B : Nat} {w : World} {e : Nat} {lv rv : Value} {fs : List Fl} {rs : List (Int × ByteArray × ByteArray)} {left : Int} (h : IsRef B w e lv rv fs rs left) (k : Int) (p t : ByteArray) (hlen : rs.length < 2199023255552) (hl0 : -1 ≤ left) (hl1 : left ≤ 9223372036854775807) (hB : B ≤ w.heap.size) :
    Calls Tryz.prog 64 #[.pointer (some ⟨e, 0, none⟩), .int .i64 k, .string p, .string t] w fun e' w' => e' = .returned (.int .i64 0) ∧ AfterR B w w' e lv rv fs (rs ++ [(k, p, t)]) (leftNext left) := by
  refine (noted_walk h k p t hlen hl0 hl1 hB).mono ?_
  rintro e' w' ⟨rfl, g, cap, w1, hown, hgrow, hat, _, hw⟩
  obtain ⟨hd, hu⟩ := noted_is h hown hgrow hat
  have hj : ∀ j, FootR e lv (.slice (some ⟨g, 0, none⟩) (rs.length + 1) cap) j → FootR e lv rv j ∨ w.heap.size ≤ j := by
    rintro j (rfl | hj | hj)
    · exact Or.inl (Or.inl rfl)
    · exact Or.inl (Or.inr (Or.inl hj))
    · cases hj
      rcases hat with e' | e'
      · exact Or.inl (Or.inr (Or.inr e'))
      · exact Or.inr (by simp only; omega)
  refine ⟨rfl, lv, .slice (some ⟨g, 0, none⟩) (rs.length + 1) cap, ?_⟩
  rcases hw with ⟨rfl, h0⟩ | ⟨rfl, h0⟩
  · refine ⟨?_, hu, hj⟩
    unfold leftNext; rw [if_neg (by omega)]; exact hd
  · refine ⟨?_, hu.trans (Upd.setCell _ ⟨e, 2, none⟩ _) (fun i _ f => Or.inl f), hj⟩
    unfold leftNext; rw [if_pos h0]; exact hd.setLeft (left - 1)

end Go.Proofs.YtpkllhgohkgcmaaGreatDoor
