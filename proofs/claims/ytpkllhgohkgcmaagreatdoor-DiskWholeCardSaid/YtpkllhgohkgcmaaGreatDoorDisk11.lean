/- The walks of pick and Raws: a number below n; a copy of the raw writes in memory of the call's own. -/
import Derived.Test.YtpkllhgohkgcmaaGreatDoorDisk9
import Derived.Test.YtpkllhgohkgcmaaGreatDoorDisk10
namespace Go.Proofs.YtpkllhgohkgcmaaGreatDoor
open Go.RowKit Go.Maps Go.WideMaps Go.WideElems
set_option maxRecDepth 100000

/-- One of n. -/
def pickD (c n : Int) : Int := if c < 0 then (-(c + 1)).tmod n else c.tmod n

theorem pickD_bd (c n : Int) (hn : 0 < n) : 0 ≤ pickD c n ∧ pickD c n < n := by
  unfold pickD
  split
  · exact ⟨Int.tmod_nonneg _ (by omega), Int.tmod_lt_of_pos _ hn⟩
  · exact ⟨Int.tmod_nonneg _ (by omega), Int.tmod_lt_of_pos _ hn⟩

set_option maxHeartbeats 400000 in
theorem pick_any (c n : Int) (w : World) (h0 : -9223372036854775808 ≤ c) (h1 : c ≤ 9223372036854775807) (hn : 0 < n) (hn1 : n ≤ 1000) :
    Calls Tryz.prog 22 #[.int .i64 c, .int .i64 n] w fun e w' => e = .returned (.int .i64 (pickD c n)) ∧ w' = w := by
  by_cases h : c < 0
  · have HP : Hid (pickD c n = (-(c + 1)).tmod n) := by unfold Hid pickD; rw [if_pos h]
    go_enter Tryz.func22, Tryz.ntmps22
    go_wp2
    go_ret
    refine ⟨ret_int ?_, rfl⟩
    rw [HP.out]
    exact (Int.neg_tmod _ _).symm
  · have HP : Hid (pickD c n = c.tmod n) := by unfold Hid pickD; rw [if_neg h]
    go_enter Tryz.func22, Tryz.ntmps22
    go_wp2
    go_ret
    refine ⟨ret_int ?_, rfl⟩
    rw [HP.out]
    exact (Int.tmod_eq_emod_of_nonneg (by omega)).symm

theorem Fit.below {B : Nat} {w w' : World} {d mb n : Nat} {rv : Value} {x : Ab} {m : Int} (h : Fit B w d mb n rv x m) (hb : Below w.heap.size w w') : Fit B w' d mb n rv x m :=
  { disk := h.disk.below hb, max := cell_below h.max hb, room := h.room, len := h.len, lo := h.lo, hi := h.hi, base := Nat.le_trans h.base hb.size }

theorem After.ahead {B : Nat} {w w1 w' : World} {d mb n : Nat} {rv : Value} {x' : Ab} (hb : Below w.heap.size w w1) (h : After B w1 w' d mb n rv x') : After B w w' d mb n rv x' := by
  obtain ⟨n', rv', h1, h2, h3, h4⟩ := h
  exact ⟨n', rv', h1, h2, (Upd.of_below hb).trans h3 (fun _ _ f => f), fun j hj => (h4 j hj).imp id (fun q => Nat.le_trans hb.size q)⟩

theorem row_cells {w : World} {B : Nat} {e : TypeId} {size n g cap : Nat} {xs : List Value} (h : w.ownsRow B e size (.slice (some ⟨g, 0, none⟩) n cap) n xs) : ∀ j u, xs[j]? = some u → w.cell? ⟨g, j, none⟩ = some u := by
  intro j u hu
  rcases h.2 with ⟨hc, _⟩ | ⟨g', cap', cur, hv, _, hh, _, _, _, ht⟩
  · cases hc
  · cases hv
    rw [← ht] at hu
    have hj : j < n * size := by
      have := (List.getElem?_eq_some_iff.1 hu).1
      rw [List.length_take] at this; omega
    rw [List.getElem?_take_of_lt hj] at hu
    unfold World.cell?
    simp only [hh]
    rw [← Array.getElem?_toList]; exact hu

theorem rawCells_length (rs : List (Int × ByteArray × ByteArray)) : (rawCells rs).length = rs.length * 3 := by
  induction rs with
  | nil => rfl
  | cons r rs ih => unfold rawCells at *; simp only [List.flatMap_cons, List.length_append, List.length_cons, List.length_nil, ih]; omega

theorem rawCells_one {rs : List (Int × ByteArray × ByteArray)} : ∀ u ∈ rawCells rs, u.oneCell' = true := by
  intro u hu
  unfold rawCells at hu
  rw [List.mem_flatMap] at hu
  obtain ⟨r, _, hu⟩ := hu
  simp only [List.mem_cons, List.not_mem_nil, or_false] at hu
  rcases hu with rfl | rfl | rfl <;> rfl

set_option maxHeartbeats 400000 in
theorem Raws_any {B : Nat} {w : World} {d mb n : Nat} {rv : Value} {x : Ab} (h : IsDisk B w d mb n rv x) (hlen : x.rs.length ≤ 2199023255552) :
    Calls Tryz.prog 12 #[.pointer (some ⟨d, 0, none⟩)] w fun e w' => ∃ ao cap, e = .returned (.slice ao x.rs.length cap) ∧ w'.ownsRow w.heap.size 56 3 (.slice ao x.rs.length cap) x.rs.length (rawCells x.rs) ∧ Below w.heap.size w w' := by
  have c1 := h.c1
  rcases h.row.2 with ⟨rfl, h0⟩ | ⟨g, cap, cur, rfl, _, _, _, _, _, _⟩
  · have hc : Calls Tryz.prog 35 #[.slice none 0 0] w fun e w' => e = .returned (.slice none 0 0) ∧ w' = w := AnyE.slices_Clone_nil Tryz.cloneRaw 0 0 w
    have HR := h.row
    clear h
    go_enter Tryz.func12, Tryz.ntmps12
    go_wp2_with (go_at_call 35; refine hc.mono ?_; rintro e w1 ⟨rfl, rfl⟩)
    go_ret
    rw [h0] at HR ⊢
    exact ⟨none, 0, rfl, ⟨HR.1, Or.inl ⟨rfl, rfl⟩⟩, Below.refl _ _⟩
  · obtain ⟨i0, hi, hz0, hz1, hz2⟩ := info_parts infoRaw
    have hc : Calls Tryz.prog 35 #[.slice (some ⟨g, 0, none⟩) x.rs.length cap] w fun e w' => ∃ v', e = .returned v' ∧ w'.ownsRow w.heap.size 56 3 v' x.rs.length (rawCells x.rs) ∧ v' ≠ .slice none 0 0 ∧ Below w.heap.size w w' :=
      AnyE.slices_Clone Tryz.cloneRaw i0 _ 3 40 hi hz0 hz1 hz2 rfl (by decide) Tryz.sizeOf56 g 0 x.rs.length cap (rawCells x.rs) w (rawCells_length _) (by unfold maxLen; omega) (by omega)
        (fun j u hu => by rw [Nat.zero_add]; exact row_cells h.row j u hu) rawCells_one
    clear h
    go_enter Tryz.func12, Tryz.ntmps12
    go_wp2_with (go_at_call 35; refine hc.mono ?_; rintro e w1 ⟨v, rfl, hr, hn, hb⟩)
    go_ret
    rcases hr.2 with ⟨hv, _⟩ | ⟨g', cap', cur', hv, _⟩
    · exact absurd hv hn
    · exact ⟨some ⟨g', 0, none⟩, cap', by rw [hv]; rfl, by rw [← hv]; exact hr, hb⟩

end Go.Proofs.YtpkllhgohkgcmaaGreatDoor
