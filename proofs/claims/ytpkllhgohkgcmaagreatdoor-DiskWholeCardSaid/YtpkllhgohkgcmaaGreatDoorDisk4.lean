/- The walk of writeFault: of a disk in memory and a row of texts, it answers as the plain function says and leaves old memory as it was. -/
import Derived.Test.YtpkllhgohkgcmaaGreatDoorDisk3
namespace Go.Proofs.YtpkllhgohkgcmaaGreatDoor
open Go.RowKit Go.Maps Go.WideMaps Go.WideElems
set_option maxRecDepth 100000

theorem cell_lt {w : World} {a : Addr} {v : Value} (h : w.cell? a = some v) : a.block < w.heap.size := by
  rcases Nat.lt_or_ge a.block w.heap.size with h1 | h1
  · exact h1
  · exfalso
    unfold World.cell? at h
    rw [Array.getElem?_eq_none h1] at h
    cases h

theorem cell_below {w w' : World} {a : Addr} {v : Value} (h : w.cell? a = some v) (hb : Below w.heap.size w w') : w'.cell? a = some v := by
  rw [hb.cell (cell_lt h)]; exact h

/-- What is wrong with a raw write, whatever its kind. -/
def writeD (left : Int) (ps : List ByteArray) : Int := if (left == 0) = true then 15 else if ps.all okPath = true then 0 else 10

set_option maxHeartbeats 600000 in
theorem writeFault_any {B : Nat} {w : World} {d mb n : Nat} {rv : Value} {x : Ab} (h : IsDisk B w d mb n rv x) (m : Int) (hm : w.cell? ⟨0, 0, none⟩ = some (.int .i64 m)) (g cap : Nat) (ps : List ByteArray)
    (hlen : ps.length ≤ 2) (hc : ∀ k (hk : k < ps.length), w.cell? ⟨g, k, none⟩ = some (.string ps[k])) :
    Calls Tryz.prog 58 #[.pointer (some ⟨d, 0, none⟩), .slice (some ⟨g, 0, none⟩) ps.length cap] w fun e w' => e = .returned (.int .i64 (writeD x.left ps)) ∧ Below w.heap.size w w' := by
  have hd := Down_any h
  clear h
  by_cases h0 : (x.left == 0) = true
  · have HP : Hid (writeD x.left ps = 15) := by unfold Hid writeD; rw [if_pos h0]
    go_enter Tryz.func58, Tryz.ntmps58
    go_wp2_with (go_at_call 13; refine hd.mono ?_; rintro e w1 ⟨rfl, rfl⟩)
    go_ret
    exact ⟨ret_int HP.out.symm, Below.refl _ _⟩
  rw [Bool.not_eq_true] at h0
  have HP : Hid (writeD x.left ps = if ps.all okPath = true then 0 else 10) := by unfold Hid writeD; rw [if_neg (by rw [h0]; decide)]
  have HC : Hid (∀ k (hk : k < ps.length), w.cell? ⟨g, k, none⟩ = some (.string ps[k])) := hc
  have HM : Hid (w.cell? ⟨0, 0, none⟩ = some (.int .i64 m)) := hm
  clear hc hm
  go_enter Tryz.func58, Tryz.ntmps58
  go_wp2_with (go_at_call 13; refine hd.mono ?_; rintro e w1 ⟨rfl, rfl⟩)
  go_loopw [11] (fun i wr => ∃ k : Nat, k ≤ ps.length ∧ i = .int .i64 k ∧ (∀ j (hj : j < k) (hj' : j < ps.length), okPath ps[j] = true) ∧ Below w1.heap.size w1 wr) (fun i _ => ps.length - (intOf i).toNat)
  case atStart => exact ⟨0, Nat.zero_le _, rfl, fun j hj => absurd hj (Nat.not_lt_zero _), Below.refl _ _⟩
  case round =>
    obtain ⟨k, hk, rfl, hall, hb⟩ := hrel
    have HA : Hid (∀ j (hj : j < k) (hj' : j < ps.length), okPath ps[j] = true) := hall
    clear hall
    by_cases hlt : k < ps.length
    · obtain ⟨P, hP⟩ : ∃ P, P = ps[k] := ⟨_, rfl⟩
      have hck := cell_below (HC.out k hlt) hb
      rw [← hP] at hck
      have HPe : Hid (P = ps[k]) := hP
      have hp := isPath_any P m wr (cell_below HM.out hb)
      clear hP
      by_cases h1 : (P.toList == [47]) = true
      · go_wp2_with (go_at_call 52; refine hp.mono ?_; rintro e w2 ⟨rfl, hb2⟩)
        go_ret
        exact ⟨ret_int (by rw [HP.out, all_not' k hlt (by rw [← HPe.out]; unfold okPath; rw [h1]; simp)]; rfl), hb⟩
      · rw [Bool.not_eq_true] at h1
        by_cases h2 : pathB P = true
        · go_wp2_with (go_at_call 52; refine hp.mono ?_; rintro e w2 ⟨rfl, hb2⟩)
          go_roundw
          case rel =>
            refine ⟨k + 1, by omega, by go_num, fun j hj hj' => ?_, hb.trans (hb2.mono hb.size)⟩
            by_cases e : j = k
            · subst e; rw [← HPe.out]; unfold okPath; rw [h1, h2]; rfl
            · exact HA.out j (by omega) hj'
          case measure => simp [intOf]; omega
        · rw [Bool.not_eq_true] at h2
          go_wp2_with (go_at_call 52; refine hp.mono ?_; rintro e w2 ⟨rfl, hb2⟩)
          go_ret
          exact ⟨ret_int (by rw [HP.out, all_not' k hlt (by rw [← HPe.out]; unfold okPath; rw [h2]; rfl)]; rfl), hb.trans (hb2.mono hb.size)⟩
    · go_wp2
      go_ret
      exact ⟨ret_int (by rw [HP.out, all_get' (fun j hj => HA.out j (by omega) hj)]; rfl), hb⟩

end Go.Proofs.YtpkllhgohkgcmaaGreatDoor
