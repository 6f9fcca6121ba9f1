/- The walk of note: a raw write is put behind those that were done, and one write fewer is left, if any count runs. -/
import Derived.Test.YtpkllhgohkgcmaaGreatDoorDisk5
import Derived.Deep.AppendLies
import Derived.Deep.RegionLaw
namespace Go.Proofs.YtpkllhgohkgcmaaGreatDoor
open Go.RowKit Go.Maps Go.WideMaps Go.WideElems
set_option maxRecDepth 100000

theorem infoRaw : (Tryz.prog.info? 56).map (fun i => (i.zero, i.size, i.bytes)) = some (some (.agg #[.int .i64 0, .string ByteArray.empty, .string ByteArray.empty]), 3, 40) := by kernel_rfl

def rawObj (k : Int) (p t : ByteArray) : Obj := .cells #[.int .i64 k, .string p, .string t] 56

theorem raw_block (w : World) (k : Int) (p t : ByteArray) : ((w.alloc (rawObj k p t)).alloc (rawObj k p t)).drew.heap[w.heap.size + 1]? = some (.cells #[.int .i64 k, .string p, .string t] 56 (0, 0)) := by
  show ((w.heap.push _).push _)[w.heap.size + 1]? = _
  rw [Array.getElem?_push, if_pos (by simp)]; rfl

theorem raw_below (w : World) (o1 o2 : Obj) : Below w.heap.size w ((w.alloc o1).alloc o2).drew := (((Below.refl _ _).alloc (Nat.le_refl _) _).alloc (by simp) _).drew

theorem grown_far {w w' : World} {row : Option Nat} (hg : w.grownBy w' row) {d : Nat} (hd : d < w.heap.size) (hr : row ≠ some d) (i : Nat) : w'.cell? ⟨d, i, none⟩ = w.cell? ⟨d, i, none⟩ ∧ w'.frozen? ⟨d, i, none⟩ = w.frozen? ⟨d, i, none⟩ :=
  ⟨World.cell?_of_block (w := w) (hg.block d hd (fun e => hr e.symm)), World.frozen?_of_block (w := w) (hg.block d hd (fun e => hr e.symm))⟩

set_option maxHeartbeats 1000000 in
theorem note_walk {B : Nat} {w : World} {d mb n : Nat} {rv : Value} {x : Ab} (h : IsDisk B w d mb n rv x) (k : Int) (p t : ByteArray) (hlen : x.rs.length < 2199023255552) (hl0 : -1 ≤ x.left) (hl1 : x.left ≤ 9223372036854775807) (hB : B ≤ w.heap.size) :
    Calls Tryz.prog 59 #[.pointer (some ⟨d, 0, none⟩), .agg #[.int .i64 k, .string p, .string t]] w fun e w' => e = .returned (.tuple #[]) ∧
      ∃ g cap w1, w1.ownsRow B 56 3 (.slice (some ⟨g, 0, none⟩) (x.rs.length + 1) cap) (x.rs.length + 1) (rawCells x.rs ++ [.int .i64 k, .string p, .string t]) ∧
        ((w.alloc (rawObj k p t)).alloc (rawObj k p t)).drew.grownBy w1 rv.ownBlock ∧ (rv.ownBlock = some g ∨ g = w.heap.size + 2) ∧ g < w1.heap.size ∧
        (w' = (w1.setCell ⟨d, 1, none⟩ (.slice (some ⟨g, 0, none⟩) (x.rs.length + 1) cap)) ∧ x.left ≤ 0 ∨
         w' = (w1.setCell ⟨d, 1, none⟩ (.slice (some ⟨g, 0, none⟩) (x.rs.length + 1) cap)).setCell ⟨d, 2, none⟩ (.int .i64 (x.left - 1)) ∧ 0 < x.left) := by
  obtain ⟨i0, hi, hz0, hz1, hz2⟩ := info_parts infoRaw
  have c1 := h.c1
  have f1 := h.f1
  have ld := h.ld
  have HR : Hid (((w.alloc (rawObj k p t)).alloc (rawObj k p t)).drew.ownsRow B 56 3 rv x.rs.length (rawCells x.rs)) := ownsRow_upd h.row (Upd.of_below (F := fun _ => False) (raw_below w _ _)) (fun _ _ f => f)
  have HN : Hid (∀ j u, [Value.int .i64 k, .string p, .string t][j]? = some u → ((w.alloc (rawObj k p t)).alloc (rawObj k p t)).drew.cell? ((⟨w.heap.size + 1, 0, none⟩ : Addr).add j) = some u) := World.news_of_block (raw_block w k p t)
  have HF : Hid (∀ w1, ((w.alloc (rawObj k p t)).alloc (rawObj k p t)).drew.grownBy w1 rv.ownBlock → w1.cell? ⟨d, 1, none⟩ = some rv ∧ w1.frozen? ⟨d, 1, none⟩ = false ∧ w1.cell? ⟨d, 2, none⟩ = some (.int .i64 x.left) ∧ w1.frozen? ⟨d, 2, none⟩ = false) := by
    intro w1 hg
    have hb := raw_below w (rawObj k p t) (rawObj k p t)
    have q1 := grown_far hg (Nat.lt_of_lt_of_le h.ld hb.size) h.rd 1
    have q2 := grown_far hg (Nat.lt_of_lt_of_le h.ld hb.size) h.rd 2
    have p1 := hb.cell (p := ⟨d, 1, none⟩) h.ld
    have p2 := hb.cell (p := ⟨d, 2, none⟩) h.ld
    have p3 := hb.frozen (p := ⟨d, 1, none⟩) h.ld
    have p4 := hb.frozen (p := ⟨d, 2, none⟩) h.ld
    exact ⟨by rw [q1.1, p1]; exact h.c1, by rw [q1.2, p3]; exact h.f1, by rw [q2.1, p2]; exact h.c2, by rw [q2.2, p4]; exact h.f2⟩
  clear h
  by_cases h0 : 0 < x.left
  · go_enter Tryz.func59, Tryz.ntmps59
    go_wp2
    go_region_law (refine step_append_lies _ rfl (.tmp 8) (.tmp 10) 31 rfl B 56 i0 (.agg #[.int .i64 0, .string ByteArray.empty, .string ByteArray.empty]) 3 40 Tryz.underlying31 hi hz0 hz1 hz2 rfl (by decide) rv x.rs.length (rawCells x.rs) (by simp [Act.eval]) HR.out ⟨w.heap.size + 1, 0, none⟩ 1 1 [.int .i64 k, .string p, .string t] (by simp [Act.eval]) rfl HN.out (by simp [Value.oneCell']) (by decide) (by unfold maxLen; omega) (by omega) (by simp; omega) (w.heap.size + 2) (by simp) ?_; intro g cap w1 hown hgrow hat hlt; obtain ⟨k1, k2, k3, k4⟩ := HF.out _ hgrow)
    all_goals
      go_wp2
      go_end0
      exact ⟨rfl, g, cap, w1, hown, hgrow, hat, hlt, Or.inr ⟨rfl, h0⟩⟩
  · go_enter Tryz.func59, Tryz.ntmps59
    go_wp2
    go_region_law (refine step_append_lies _ rfl (.tmp 8) (.tmp 10) 31 rfl B 56 i0 (.agg #[.int .i64 0, .string ByteArray.empty, .string ByteArray.empty]) 3 40 Tryz.underlying31 hi hz0 hz1 hz2 rfl (by decide) rv x.rs.length (rawCells x.rs) (by simp [Act.eval]) HR.out ⟨w.heap.size + 1, 0, none⟩ 1 1 [.int .i64 k, .string p, .string t] (by simp [Act.eval]) rfl HN.out (by simp [Value.oneCell']) (by decide) (by unfold maxLen; omega) (by omega) (by simp; omega) (w.heap.size + 2) (by simp) ?_; intro g cap w1 hown hgrow hat hlt; obtain ⟨k1, k2, k3, k4⟩ := HF.out _ hgrow)
    all_goals
      go_wp2
      go_end0
      exact ⟨rfl, g, cap, w1, hown, hgrow, hat, hlt, Or.inl ⟨rfl, by omega⟩⟩

end Go.Proofs.YtpkllhgohkgcmaaGreatDoor
