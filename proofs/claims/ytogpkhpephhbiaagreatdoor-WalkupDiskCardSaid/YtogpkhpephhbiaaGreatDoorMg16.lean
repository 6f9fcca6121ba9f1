/- Tw8, laid in one text. -/
import Derived.Test.YtogpkhpephhbiaaGreatDoorShelfM
import Derived.Laws.CopyOwn
import Derived.OwnWalk
import Derived.Laws.OwnMore
import Derived.BigRegion
import Derived.Test.YtogpkhpephhbiaaGreatDoorMg15
namespace Go.Proofs.YtogpkhpephhbiaaGreatDoor
open Go.RowKit
set_option maxRecDepth 100000

/-- The first m of n numbers are laid. -/
def repM (m n : Nat) : List Value := List.replicate m (.int .i64 (-1)) ++ List.replicate (n - m) (.int .i64 0)
theorem repM_length {m n : Nat} (h : m ≤ n) : (repM m n).length = n := by simp [repM]; omega
theorem repM_full (n : Nat) : repM n n = List.replicate n (.int .i64 (-1)) := by simp [repM]
theorem repM_splice {m n k : Nat} : splice (repM m n) m (List.replicate k (.int .i64 (-1))) = repM (m + k) n := by
  unfold splice repM
  rw [List.length_replicate, List.take_append_of_le_length (by simp), List.take_of_length_le (by simp), List.drop_append, List.drop_replicate, List.drop_replicate, List.length_replicate, ← List.append_assoc, List.replicate_append_replicate]
  have e1 : m - (m + k) = 0 := by omega
  have e2 : m + k - m = k := by omega
  have e3 : n - m - k = n - (m + k) := by omega
  rw [e1, e2, e3]
  simp
theorem infoI8 : (Tryz.prog.info? 3).map (fun i => (i.zero, i.size, i.bytes)) = some (some (.int .i64 0), 1, 8) := by kernel_rfl
theorem sizeI8 : (Tryz.prog.info? 3).map (·.size) = some 1 := by kernel_rfl

theorem rep_one {k : Nat} : ∀ u ∈ List.replicate k (Value.int .i64 (-1)), u.oneCell' = true := fun u hu => by
  rw [(List.mem_replicate.1 hu).2]
  rfl
theorem rep_src {w : World} {g m n : Nat} {k : Nat} (hk : k ≤ m) (hg : w.heap[g]? = some (.cells (repM m n).toArray 3 (0, 0))) : ∀ j v, (List.replicate k (Value.int .i64 (-1)))[j]? = some v → w.cell? ((⟨g, 0, none⟩ : Addr).add j) = some v := fun j v hj => by
  have hj' : j < k := by
    have := (List.getElem?_eq_some_iff.1 hj).1
    simpa using this
  have ad : (⟨g, 0, none⟩ : Addr).add j = ⟨g, j, none⟩ := by unfold Addr.add; split <;> simp_all
  have hv : v = .int .i64 (-1) := by
    rw [List.getElem?_replicate, if_pos hj'] at hj
    exact (Option.some.inj hj).symm
  rw [ad, Lib.cell_of_heap hg, hv]
  show (repM m n).toArray[j]? = _
  rw [List.getElem?_toArray]
  unfold repM
  rw [List.getElem?_append_left (by simp; omega), List.getElem?_replicate, if_pos (by omega)]

set_option maxHeartbeats 6400000 in
theorem repeat_any {g0 n : Nat} {w : World} (h0 : w.cell? ⟨g0, 0, none⟩ = some (.int .i64 (-1))) (hn : 1 ≤ n) (hn2 : n ≤ 1000) :
    Calls Tryz.prog 40 #[.slice (some ⟨g0, 0, none⟩) 1 1, .int .i64 n] w fun e w' => e = .returned (.slice (some ⟨w.heap.size, 0, none⟩) n n) ∧ w'.heap[w.heap.size]? = some (.cells (List.replicate n (Value.int .i64 (-1))).toArray 3 (0, 0)) ∧ Below w.heap.size w w' := by
  have HM : Hid (∀ w1, Calls Tryz.prog 54 #[.int .u64 1, .int .u64 n] w1 fun e w' => e = .returned (.tuple #[.int .u64 0, .int .u64 n]) ∧ w' = w1) := fun w1 => by
    have h := Tryz.bits_Mul 1 n (by decide) (by omega) w1
    have e1 : (1 * n / 18446744073709551616 : Nat) = 0 := by omega
    have e2 : (1 * n % 18446744073709551616 : Nat) = n := by omega
    rw [e1, e2] at h
    exact h
  obtain ⟨i0, hi, hz0, hz1, hz2⟩ := Sc.info_parts infoI8
  have hlt0 : g0 < w.heap.size := Sc.cell_in h0
  have HC0 : Hid (∀ w1, Below w.heap.size w w1 → ∀ j v, [Value.int .i64 (-1)][j]? = some v → w1.cell? ((⟨g0, 0, none⟩ : Addr).add j) = some v) := fun w1 hb j v hj => by
    obtain rfl : j = 0 := by
      have := (List.getElem?_eq_some_iff.1 hj).1
      simpa using this
    have ad : (⟨g0, 0, none⟩ : Addr).add 0 = ⟨g0, 0, none⟩ := by unfold Addr.add; split <;> simp_all
    rw [ad, ← hj]
    exact (hb.cell (p := ⟨g0, 0, none⟩) hlt0).trans h0
  have hnn : ¬ ((n : Int) < 0) := by omega
  have hnu : ¬ ((n : Int) > 9223372036854775807) := by omega
  have q1 : decide ((n : Int) > 9223372036854775807) = false := decide_eq_false hnu
  have q2 : decide ((n : Int) < 0) = false := decide_eq_false hnn
  have HMK : Hid (∀ w1 : World, w1.ownsRow w.heap.size 3 1 (.slice (some ⟨w.heap.size, 0, none⟩) n n) n (madeCells (Value.int .i64 0).cells (n * 1)).toList → w1.heap[w.heap.size]? = some (.cells (repM 0 n).toArray 3 (0, 0))) := fun w1 ho => by
    have e : (madeCells (Value.int .i64 0).cells (n * 1)).toList = List.replicate n (.int .i64 0) := by rw [Nat.mul_one]; exact toList_madeCells_one _ _
    rw [e] at ho
    rcases ho.2 with ⟨h', _⟩ | ⟨g', cap', cur, h', _, hg, _, _, hcs, htk⟩
    · cases h'
    · injection h' with e1 e2 e3
      cases e1
      subst e3
      rw [hg]
      have : cur = (repM 0 n).toArray := by
        apply Array.ext'
        rw [Nat.mul_one, List.take_of_length_le (by rw [Array.length_toList]; omega)] at htk
        rw [htk]
        simp [repM]
      rw [this]
  have HCP : Hid (∀ w2 : World, w2.heap[w.heap.size]? = some (.cells (repM 0 n).toArray 3 (0, 0)) → Below w.heap.size w w2 → ∃ w3 : World, (Builtin.copy_ #[77, 77] 3 #[.slice (some ⟨w.heap.size, 0, none⟩) n n, .slice (some ⟨g0, 0, none⟩) 1 1]).run Tryz.prog w2 = .ok (.int .i64 1) w3 ∧ w3.heap[w.heap.size]? = some (.cells (repM 1 n).toArray 3 (0, 0)) ∧ Below w.heap.size w w3) := fun w2 hg hb => by
    have hr := run_copy_row (P := Tryz.prog) w2 77 77 3 3 w.heap.size 0 n n ⟨g0, 0, none⟩ 1 1 _ 3 [Value.int .i64 (-1)] Tryz.underlying77 sizeI8 hg (Nat.min_eq_left hn).symm (HC0.out w2 hb) (by show 0 + 1 ≤ (repM 0 n).toArray.size; rw [List.size_toArray, repM_length (Nat.zero_le _)]; omega) (fun u hu => by rw [List.mem_singleton.1 hu]; rfl)
    refine ⟨_, hr, ?_, below_setRow hb (Nat.le_refl _) _⟩
    rw [setRow_heap w2 _ _ _ _ _ hg]
    have e := repM_splice (m := 0) (n := n) (k := 1)
    unfold splice at e
    rw [Nat.zero_add] at e
    rw [← e]
    rfl
  clear h0
  go_enter Tryz.func40, Tryz.ntmps40
  go_wp2_with (first
    | (go_at_call 54; refine (HM.out _).mono ?_; rintro e w1 ⟨rfl, hw1⟩; subst w1)
    | (at_make; refine wpList_make_full _ rfl _ _ 77 rfl w.heap.size 3 i0 _ 1 Tryz.underlying77 hi hz0 hz1 _ _ _ _ n rfl rfl (by first | rfl | omega) (by first | rfl | omega) (by rw [hz2]; omega) (by unfold maxLen; omega) (Nat.le_refl _) ?_; intro w2 ho2 hg2; have HG2 := hide3 (HMK.out _ ho2); have HB2 : Hid (Below w.heap.size w w2) := ⟨hg2.os, hg2.tape, hg2.output, hg2.size, fun k hk => hg2.block k hk (by simp)⟩; obtain ⟨w3, hcp, hg3, hb3⟩ := HCP.out w2 HG2.out HB2.out; have HG3 := hide3 hg3; have HB3 := hide3 hb3; clear ho2 hg2 hg3 hb3))
  clear HC0 HMK HM q1 q2 hnu
  go_loopw [8] (fun i wr => ∃ m : Nat, (1 ≤ m ∧ m ≤ n) ∧ i = .int .i64 m ∧ wr.heap[w.heap.size]? = some (.cells (repM m n).toArray 3 (0, 0)) ∧ Below w.heap.size w wr) (fun i _ => n - (intOf i).toNat)
  case atStart => exact ⟨1, ⟨Nat.le_refl _, hn⟩, rfl, HG3.out, HB3.out⟩
  case round =>
    obtain ⟨m, ⟨hm1, hm2⟩, rfl, hg, hb⟩ := hrel
    have HG := hide3 hg
    have HB := hide3 hb
    clear hg hb
    by_cases hlt : m < n
    · obtain ⟨kk, hkk⟩ : ∃ kk, kk = Nat.min m (n - m) := ⟨_, rfl⟩
      have hk1 : 1 ≤ kk := by rw [hkk]; exact Nat.le_min.2 ⟨hm1, by omega⟩
      have hk2 : kk ≤ m := by rw [hkk]; exact Nat.min_le_left _ _
      have hk3 : kk ≤ n - m := by rw [hkk]; exact Nat.min_le_right _ _
      have HSP : Hid (splice (repM m n) m (List.replicate kk (Value.int .i64 (-1))) = repM (m + kk) n) := repM_splice
      have HKK := hide3 hkk
      have HRL : Hid ((repM m n).length = n) := repM_length hm2
      have hci : ¬ (n = m) := by omega
      have hci2 : ¬ ((n : Int) = (m : Int)) := by omega
      clear hkk
      obtain ⟨w4, hcp4, hg4, hb4⟩ : ∃ w4 : World, (Builtin.copy_ #[77, 77] 3 #[.slice (some ⟨w.heap.size, m, none⟩) (n - m) (n - m), .slice (some ⟨w.heap.size, 0, none⟩) m n]).run Tryz.prog wr.drew = .ok (.int .i64 kk) w4 ∧ w4.heap[w.heap.size]? = some (.cells (repM (m + kk) n).toArray 3 (0, 0)) ∧ Below w.heap.size w w4 := by
        have hr := run_copy_row (P := Tryz.prog) wr.drew 77 77 3 3 w.heap.size m (n - m) (n - m) ⟨w.heap.size, 0, none⟩ m n _ 3 (List.replicate kk (Value.int .i64 (-1))) Tryz.underlying77 sizeI8 HG.out (by rw [List.length_replicate]; exact HKK.out) (rep_src (w := wr.drew) hk2 HG.out) (by rw [List.length_replicate, List.size_toArray, HRL.out]; omega) rep_one
        rw [List.length_replicate] at hr
        refine ⟨_, hr, ?_, below_setRow HB.out.drew (Nat.le_refl _) _⟩
        rw [setRow_heap wr.drew _ _ _ _ _ HG.out, ← HSP.out]
        unfold splice
        rw [List.length_replicate, List.append_assoc]
      have HG4 := hide3 hg4
      have HB4 := hide3 hb4
      have hmc : m ≤ n := hm2
      have hkb : m + kk ≤ n := by omega
      clear hg4 hb4 HSP HKK HRL
      go_wp2_with fail
      go_region
      go_wp2
      exact ⟨⟨m + kk, ⟨by omega, hkb⟩, by go_num, HG4.out, HB4.out⟩, by simp [intOf]; omega⟩
    · obtain rfl : m = n := by omega
      have HR : Hid (wr.heap[w.heap.size]? = some (.cells (List.replicate m (Value.int .i64 (-1))).toArray 3 (0, 0))) := by have e := HG.out; rw [repM_full] at e; exact e
      go_wp2
      go_ret
      exact ⟨rfl, HR.out, HB.out⟩
end Go.Proofs.YtogpkhpephhbiaaGreatDoor
