/- The reference's Remove and Rename. -/
import Derived.Test.YtpkllhgohkgcmaaGreatDoorRef11
import Derived.Deep.RegionHeld3
namespace Go.Proofs.YtpkllhgohkgcmaaGreatDoor
open Go.RowKit Go.Maps
set_option maxRecDepth 100000

set_option maxHeartbeats 1000000 in
theorem rRemove_any {B : Nat} {w : World} {e : Nat} {lv rv : Value} {x : Ab} (h : FitR B w e lv rv x) (hP : Plain x.D) (hS : Sound x.D) (s : ByteArray) (hs : s.size ≤ maxLen) :
    Calls Tryz.prog 51 #[.pointer (some ⟨e, 0, none⟩), .string s] w fun e' w' => e' = .returned (.int .i64 (removeD x s).1) ∧ AfterR B w w' e lv rv (filesD (removeD x s).2.D) (removeD x s).2.rs (removeD x s).2.left := by
  have hm := may_any h.ref s hs
  by_cases h0 : (writeD x.left [s] != 0) = true
  · have HE : Hid (removeD x s = (writeD x.left [s], x)) := by unfold Hid removeD; rw [if_pos h0]
    have HA := hide3 (AfterR.same h.ref)
    clear h hP hS
    generalize writeD x.left [s] = e0 at *
    go_enter Tryz.func51, Tryz.ntmps51
    go_wp2_with (go_at_call 62; refine hm.mono ?_; rintro e w1 ⟨rfl, rfl⟩)
    go_ret
    rw [HE.out]
    exact ⟨rfl, HA.out⟩
  rw [Bool.not_eq_true] at h0
  have hok : okPath s = true := by simpa using writeD_ok h0
  have hk := rKind_any h.ref h.good s (Nat.le_of_lt h.room)
  by_cases h1 : (kindD x.D s == 0) = true
  · have HE : Hid (removeD x s = (12, x)) := by unfold Hid removeD; rw [if_neg (by rw [h0]; decide), if_pos h1]
    have HA := hide3 (AfterR.same h.ref)
    clear h hP hS
    generalize writeD x.left [s] = e0 at *
    generalize kindD x.D s = e2 at *
    go_enter Tryz.func51, Tryz.ntmps51
    go_wp2_with (first
      | (go_at_call 62; refine hm.mono ?_; rintro e w1 ⟨rfl, rfl⟩)
      | (go_at_call 27; refine hk.mono ?_; rintro e w1 ⟨rfl, rfl⟩))
    go_ret
    rw [HE.out]
    exact ⟨rfl, HA.out⟩
  have hu : (kindD x.D s == 2 && usedD x.D s) = usedD x.D s := by
    by_cases h2 : kindD x.D s = 2
    · rw [h2]; rfl
    · rw [not_used hS hP.strKeys h2]; simp
  have he : removeD x s = if usedD x.D s = true then (14, x) else (0, noteAb { D := x.D.del (keyD s), rs := x.rs, left := x.left } (4, s, ByteArray.empty)) := by
    unfold removeD; rw [if_neg (by rw [h0]; decide), if_neg h1, hu]
  rw [used_files hP] at he
  rw [Bool.not_eq_true] at h1
  have HE := hide3 he
  have HA := hide3 (AfterR.same h.ref)
  have HPN := hide3 (put_noted h s false ByteArray.empty true 4 s ByteArray.empty _ (del_files (f := (s, false, ByteArray.empty)) h.good (hP.del _).good))
  have c0 := h.ref.c0
  have hlen := h.room
  have HO : Hid (∀ f ∈ filesD x.D, okPath f.1 = true) := fun f hf => by
    obtain ⟨s', hs', hok'⟩ := h.good.keys _ ((h.good.mem f).1 hf).1
    rw [keyD_inj hs']; exact hok'
  rcases h.ref.lrow.2 with ⟨rfl, hz⟩ | ⟨g, cap, cur, rfl, _, _, _, _, _, _⟩
  · have hF : filesD x.D = [] := List.eq_nil_of_length_eq_zero hz
    have HN : Hid (((filesD x.D).any fun f => (parentOf f.1).toList == s.toList) = false) := by unfold Hid; rw [hF]; rfl
    clear h hP hS hu he hF
    generalize writeD x.left [s] = e0 at *
    generalize kindD x.D s = e2 at *
    go_enter Tryz.func51, Tryz.ntmps51
    go_wp2_with (first
      | (go_at_call 62; refine hm.mono ?_; rintro e w1 ⟨rfl, rfl⟩)
      | (go_at_call 27; refine hk.mono ?_; rintro e w1 ⟨rfl, rfl⟩))
    go_loop [7] (fun i => i = .int .i64 0) (fun _ => 0)
    case atStart => rfl
    case round =>
      subst hrel
      go_wp2_with (first
        | (go_at_call 45; refine HPN.out.mono ?_; rintro e w2 ⟨rfl, hnt⟩; have HNT := hide3 hnt; clear hnt)
        | (go_at_call 64; refine HNT.out.mono ?_; rintro e w3 ⟨rfl, ha⟩))
      go_ret
      rw [HE.out, HN.out]
      exact ⟨rfl, ha⟩
  · have HL := hide3 h.ref.lrow
    have HPA : Hid (∀ (q : ByteArray) , okPath q = true → Calls Tryz.prog 21 #[.string q] w fun e w' => e = .returned (.string (parentOf q)) ∧ w' = w) := fun q hq => rParent_any q w (okPath_size hq) (okPath_parts hq).2
    clear h hP hS hu he
    generalize writeD x.left [s] = e0 at *
    generalize kindD x.D s = e2 at *
    generalize hfs : filesD x.D = fs at *
    have HFS := hide3 hfs
    clear hfs
    go_enter Tryz.func51, Tryz.ntmps51
    go_wp2_with (first
      | (go_at_call 62; refine hm.mono ?_; rintro e w1 ⟨rfl, rfl⟩)
      | (go_at_call 27; refine hk.mono ?_; rintro e w1 ⟨rfl, rfl⟩))
    go_loop [7] (fun i => ∃ k : Nat, k ≤ fs.length ∧ i = .int .i64 k ∧ ∀ j (hj : j < k) (hj' : j < fs.length), ((parentOf fs[j].1).toList == s.toList) = false) (fun i => fs.length - (intOf i).toNat)
    case atStart => exact ⟨0, Nat.zero_le _, rfl, fun j hj => absurd hj (Nat.not_lt_zero _)⟩
    case round =>
      obtain ⟨k, hk', rfl, hall⟩ := hrel
      have HALL := hide3 hall
      clear hall
      by_cases hlt : k < fs.length
      · obtain ⟨a0, _, _⟩ := file_cells HL.out k hlt
        have hpa := HPA.out fs[k].1 (HO.out _ (List.getElem_mem hlt))
        by_cases hc : ((parentOf fs[k].1).toList == s.toList) = true
        · have HN : Hid ((fs.any fun f => (parentOf f.1).toList == s.toList) = true) := List.any_eq_true.2 ⟨_, List.getElem_mem hlt, hc⟩
          generalize parentOf fs[k].1 = pq at *
          generalize fs[k].1 = fp at *
          go_wp2_with (go_at_call 21; refine hpa.mono ?_; rintro e w1 ⟨rfl, rfl⟩)
          go_ret
          rw [HE.out, HN.out, if_pos rfl, HFS.out]
          exact ⟨rfl, HA.out⟩
        · rw [Bool.not_eq_true] at hc
          have HC := hide3 hc
          obtain ⟨pq, hpq⟩ : ∃ pq, pq = parentOf fs[k].1 := ⟨_, rfl⟩
          obtain ⟨fp, hfp⟩ : ∃ fp, fp = fs[k].1 := ⟨_, rfl⟩
          rw [← hpq] at hc hpa
          rw [← hfp] at a0 hpa
          clear hfp hpq
          go_wp2_with (go_at_call 21; refine hpa.mono ?_; rintro e w1 ⟨rfl, rfl⟩)
          refine ⟨⟨k + 1, by omega, by go_num, fun j hj hj' => ?_⟩, by simp [intOf]; omega⟩
          by_cases ej : j = k
          · subst ej; exact HC.out
          · exact HALL.out j (by omega) hj'
      · have HN : Hid ((fs.any fun f => (parentOf f.1).toList == s.toList) = false) := by
          unfold Hid
          rw [Bool.eq_false_iff]
          intro hany
          obtain ⟨f, hf, hc⟩ := List.any_eq_true.1 hany
          obtain ⟨j, hj, rfl⟩ := List.getElem_of_mem hf
          have := HALL.out j (by omega) hj
          rw [hc] at this
          cases this
        go_wp2_with (first
          | (go_at_call 45; refine HPN.out.mono ?_; rintro e w2 ⟨rfl, hnt⟩; have HNT := hide3 hnt; clear hnt)
          | (go_at_call 64; refine HNT.out.mono ?_; rintro e w3 ⟨rfl, ha⟩))
        go_ret
        rw [HE.out, HN.out]
        exact ⟨rfl, ha⟩

/-- put, a store into the variable, put, then noted: as Rename does it. -/
theorem move_noted {B : Nat} {w : World} {e : Nat} {lv rv : Value} {x : Ab} (h : FitR B w e lv rv x) (hP : Plain x.D) (s t : ByteArray) (c : Bool) (u : ByteArray) (hG : Good ((x.D.del (keyD s)).put (keyD t) (itemD c u))) :
    Calls Tryz.prog 45 #[.pointer (some ⟨e, 0, none⟩), .agg #[.string s, .bool c, .string u], .bool true] (w.alloc (.cells #[.string s, .bool c, .string u] 49)).drew fun e' w1 => e' = .returned (.tuple #[]) ∧
      (w1.cell? ⟨w.heap.size, 0, none⟩ = some (.string s) ∧ w1.cell? ⟨w.heap.size, 1, none⟩ = some (.bool c) ∧ w1.cell? ⟨w.heap.size, 2, none⟩ = some (.string u) ∧ w1.frozen? ⟨w.heap.size, 0, none⟩ = false) ∧
      Calls Tryz.prog 45 #[.pointer (some ⟨e, 0, none⟩), .agg #[.string t, .bool c, .string u], .bool false] (w1.setCell ⟨w.heap.size, 0, none⟩ (.string t)) fun e' w2 => e' = .returned (.tuple #[]) ∧
        Calls Tryz.prog 64 #[.pointer (some ⟨e, 0, none⟩), .int .i64 3, .string s, .string t] w2 fun e' w' => e' = .returned (.int .i64 0) ∧ AfterR B w w' e lv rv (filesD ((x.D.del (keyD s)).put (keyD t) (itemD c u))) (x.rs ++ [(3, s, t)]) (leftNext x.left) := by
  have hd := hP.del (keyD s)
  have hdf := del_files (f := (s, c, u)) h.good hd.good
  have hb : Below w.heap.size w (w.alloc (.cells #[.string s, .bool c, .string u] 49)).drew := (alloc_below w _).drew
  have hblk : (w.alloc (.cells #[.string s, .bool c, .string u] 49)).drew.heap[w.heap.size]? = some (.cells #[.string s, .bool c, .string u] 49 (0, 0)) := by
    show (w.heap.push _)[w.heap.size]? = _
    rw [Array.getElem?_push, if_pos rfl]
  have hsz : (w.alloc (.cells #[.string s, .bool c, .string u] 49)).drew.heap.size = w.heap.size + 1 := by
    show (w.heap.push _).size = _
    simp
  generalize (w.alloc (.cells #[.string s, .bool c, .string u] 49)).drew = W at *
  refine (put_any (h.ref.below hb) s c u true h.room (Nat.le_trans h.base hb.size)).mono ?_
  rintro e' w1 ⟨rfl, lv1, rv1, h1, hu, hj⟩
  have hfn : ¬ FootR e lv rv w.heap.size := fun hf => by have := (h.ref.foot_lt hf).1; omega
  have hfn1 : ¬ FootR e lv1 rv1 w.heap.size := fun hf => (hj _ hf).elim hfn (fun q => by omega)
  have hblk1 : w1.heap[w.heap.size]? = some (.cells #[.string s, .bool c, .string u] 49 (0, 0)) := by
    rw [hu.block w.heap.size (by omega) hfn]; exact hblk
  refine ⟨rfl, ⟨?_, ?_, ?_, ?_⟩, ?_⟩
  · unfold World.cell?; simp only [hblk1]; rfl
  · unfold World.cell?; simp only [hblk1]; rfl
  · unfold World.cell?; simp only [hblk1]; rfl
  · unfold World.frozen?; simp only [hblk1]; simp
  have hlen : (putD (filesD x.D) (s, c, u) true).length ≤ (filesD x.D).length := by rw [putD_del]; exact List.length_filter_le _ _
  rw [hdf] at h1 hlen
  have hu2 := Upd.setCell w1 ⟨w.heap.size, 0, none⟩ (.string t)
  have h2 := h1.upd hu2 (fun k hk e' => hfn1 (by rw [← (show k = w.heap.size from e')]; exact hk))
  have hf1 : FitR B (w1.setCell ⟨w.heap.size, 0, none⟩ (.string t)) e lv1 rv1 { D := x.D.del (keyD s), rs := x.rs, left := x.left } :=
    { ref := h2, good := hd.good, map := hd.isMap, room := Nat.lt_of_le_of_lt hlen h.room, len := h.len, lo := h.lo, hi := h.hi, base := Nat.le_trans (Nat.le_trans h.base hb.size) (Nat.le_trans hu.size hu2.size) }
  have hu3 : Upd (FootR e lv rv) w (w1.setCell ⟨w.heap.size, 0, none⟩ (.string t)) :=
    ((Upd.of_below hb).trans hu (fun i _ f => f)).trans hu2 (fun i hi f => by have : i = w.heap.size := f; omega)
  refine (put_noted hf1 t c u false 3 s t _ (put_files hd.good hd.isMap hG)).mono ?_
  rintro e' w2 ⟨rfl, hn⟩
  refine ⟨rfl, hn.mono ?_⟩
  rintro e' w' ⟨rfl, ha⟩
  exact ⟨rfl, AfterR.trans hu3 (fun j hf => (hj j hf).imp id (fun q => by have := hb.size; omega)) ha⟩

theorem readE_kind {D : DataW Unit} {s : ByteArray} (h : okPath s = true) : readE D s = if (kindD D s == 0) = true then 12 else if (kindD D s == 2) = true then 13 else 0 := by
  unfold readE
  rw [if_pos (by unfold okPath at h; simp only [Bool.and_eq_true] at h; exact h.1)]

theorem writeD_two (l : Int) (s t : ByteArray) : writeD l [s, t] = if (writeD l [s] != 0) = true then writeD l [s] else writeD l [t] := by
  unfold writeD
  by_cases h0 : (l == 0) = true
  · simp [h0]
  · simp only [h0, List.all_cons, List.all_nil, Bool.and_true]
    cases okPath s <;> simp

end Go.Proofs.YtpkllhgohkgcmaaGreatDoor
