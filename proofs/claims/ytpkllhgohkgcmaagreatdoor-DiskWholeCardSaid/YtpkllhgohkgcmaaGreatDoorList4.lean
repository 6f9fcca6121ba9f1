/- The reference's List, whatever its path; texts: two lists of texts that are the same. -/
import Derived.Test.YtpkllhgohkgcmaaGreatDoorList3
namespace Go.Proofs.YtpkllhgohkgcmaaGreatDoor
open Go.RowKit Go.Maps Go.WideMaps Go.WideElems Go.Sort Go.Shelf
set_option maxRecDepth 100000

set_option maxHeartbeats 1000000 in
theorem rList_any {B : Nat} {w : World} {e : Nat} {lv rv : Value} {D : DataW Unit} {rs : List (Int × ByteArray × ByteArray)} {left : Int} (h : IsRef B w e lv rv (filesD D) rs left) (hP : Plain D) (s : ByteArray) (hs : s.size ≤ maxLen) (hlen : (filesD D).length < 2199023255552) :
    Calls Tryz.prog 28 #[.pointer (some ⟨e, 0, none⟩), .string s] w fun e' w' => ∃ ao cap, e' = .returned (.tuple #[.slice ao (listT D s).length cap, .int .i64 (listE D s)]) ∧
      w'.ownsRow w.heap.size 9 1 (.slice ao (listT D s).length cap) (listT D s).length ((listT D s).map encStr) ∧ Below w.heap.size w w' := by
  by_cases h2 : pathB s = false
  · have h1 : (s.toList == [47]) = false := by
      rw [Bool.eq_false_iff]; intro hr; rw [pathB_root s hr] at h2; cases h2
    have hp := rPath_any s w hs
    rw [okPath_not_root s h1, h2] at hp
    have HE : Hid (listE D s = 10) := by unfold Hid listE; rw [if_neg (by rw [h2]; decide)]
    have HT : Hid (listT D s = []) := by unfold Hid listT; rw [HE.out]; rfl
    clear h hP
    go_enter Tryz.func28, Tryz.ntmps28
    go_wp2_with (go_at_call 43; refine hp.mono ?_; rintro e w1 ⟨rfl, rfl⟩)
    go_ret2
    rw [HE.out, HT.out]
    exact ⟨none, 0, rfl, ⟨rfl, Or.inl ⟨rfl, rfl⟩⟩, Below.refl _ _⟩
  rw [Bool.not_eq_false] at h2
  have he : listE D s = if (kindD D s == 0) = true then 12 else if (kindD D s == 1) = true then 13 else 0 := by unfold listE; rw [if_pos h2]
  by_cases k2 : kindD D s = 2
  · have hE : listE D s = 0 := by rw [he, k2]; rfl
    have hT : listT D s = namesD D s := by unfold listT; rw [hE]; rfl
    rw [hE, hT]
    by_cases h1 : (s.toList == [47]) = true
    · exact rList_root h hP s hs hlen h2 k2 h1
    · rw [Bool.not_eq_true] at h1
      exact rList_deep h hP s hs hlen h2 k2 h1
  have h1 : (s.toList == [47]) = false := by
    rw [Bool.eq_false_iff]; intro hr; exact k2 (kindD_root D s hr)
  have hp := rPath_any s w hs
  rw [okPath_not_root s h1, h2] at hp
  have hk := rKind_any h hP.good s (Nat.le_of_lt hlen)
  rcases kindD_cases D s with k0 | k0 | k0
  · have HE : Hid (listE D s = 12) := by unfold Hid; rw [he, k0]; rfl
    have HT : Hid (listT D s = []) := by unfold Hid listT; rw [HE.out]; rfl
    rw [k0] at hk
    clear h hP he k2
    go_enter Tryz.func28, Tryz.ntmps28
    go_wp2_with (first
      | (go_at_call 43; refine hp.mono ?_; rintro e w1 ⟨rfl, rfl⟩)
      | (go_at_call 27; refine hk.mono ?_; rintro e w1 ⟨rfl, rfl⟩))
    go_ret2
    rw [HE.out, HT.out]
    exact ⟨none, 0, rfl, ⟨rfl, Or.inl ⟨rfl, rfl⟩⟩, Below.refl _ _⟩
  · have HE : Hid (listE D s = 13) := by unfold Hid; rw [he, k0]; rfl
    have HT : Hid (listT D s = []) := by unfold Hid listT; rw [HE.out]; rfl
    rw [k0] at hk
    clear h hP he k2
    go_enter Tryz.func28, Tryz.ntmps28
    go_wp2_with (first
      | (go_at_call 43; refine hp.mono ?_; rintro e w1 ⟨rfl, rfl⟩)
      | (go_at_call 27; refine hk.mono ?_; rintro e w1 ⟨rfl, rfl⟩))
    go_ret2
    rw [HE.out, HT.out]
    exact ⟨none, 0, rfl, ⟨rfl, Or.inl ⟨rfl, rfl⟩⟩, Below.refl _ _⟩
  · exact absurd k0 k2

set_option maxHeartbeats 1000000 in
theorem texts_walk (ts : List (List UInt8)) (g h ca cb : Nat) (w : World) (hlen : ts.length ≤ 2199023255552)
    (ha : ∀ j u, (ts.map encStr)[j]? = some u → w.cell? ⟨g, j, none⟩ = some u) (hb : ∀ j u, (ts.map encStr)[j]? = some u → w.cell? ⟨h, j, none⟩ = some u) :
    Calls Tryz.prog 29 #[.slice (some ⟨g, 0, none⟩) ts.length ca, .slice (some ⟨h, 0, none⟩) ts.length cb] w fun e w' => e = .returned (.bool true) ∧ ∃ q, w' = w.drewN q := by
  have HA : Hid (∀ j u, (ts.map encStr)[j]? = some u → w.cell? ⟨g, j, none⟩ = some u) := ha
  have HB : Hid (∀ j u, (ts.map encStr)[j]? = some u → w.cell? ⟨h, j, none⟩ = some u) := hb
  clear ha hb
  have hne : ((ts.length : Int) != (ts.length : Int)) = false := by simp
  go_enter Tryz.func29, Tryz.ntmps29
  go_wp2_with fail
  go_loopw [5] (fun i wr => ∃ k : Nat, k ≤ ts.length ∧ i = .int .i64 k ∧ ∃ q, wr = w.drewN q) (fun i _ => ts.length - (intOf i).toNat)
  case atStart => exact ⟨0, Nat.zero_le _, rfl, 0, rfl⟩
  case round =>
    obtain ⟨k, hk, rfl, q, rfl⟩ := hrel
    by_cases hlt : k < ts.length
    · have g0 : (ts.map encStr)[k]? = some (.string ⟨ts[k].toArray⟩) := by
        rw [List.getElem?_map, List.getElem?_eq_getElem hlt]; rfl
      have a0 := HA.out _ _ g0
      have b0 := HB.out _ _ g0
      clear g0
      generalize (⟨ts[k].toArray⟩ : ByteArray) = v0 at *
      have hnv : (v0.toList != v0.toList) = false := by simp
      go_wp2_with fail
      go_quiet (fail)
      go_wp2
      exact ⟨⟨k + 1, by omega, by go_num, q + nq, rfl⟩, by simp [intOf]; omega⟩
    · go_wp2
      go_ret
      exact ⟨rfl, q, rfl⟩

set_option maxHeartbeats 400000 in
theorem texts_nil (ao bo : Option Addr) (ca cb : Nat) (w : World) :
    Calls Tryz.prog 29 #[.slice ao 0 ca, .slice bo 0 cb] w fun e w' => e = .returned (.bool true) ∧ ∃ q, w' = w.drewN q := by
  go_enter Tryz.func29, Tryz.ntmps29
  go_wp2_with fail
  go_loop [5] (fun i => i = .int .i64 0) (fun _ => 0)
  case atStart => rfl
  case round =>
    subst hrel
    go_wp2
    go_ret
    exact ⟨rfl, 0, rfl⟩

theorem row_cells1 {w : World} {B g n cap : Nat} {xs : List Value} (h : w.ownsRow B 9 1 (.slice (some ⟨g, 0, none⟩) n cap) n xs) : ∀ j u, xs[j]? = some u → w.cell? ⟨g, j, none⟩ = some u := fun j u hu => row_cells h j u hu

theorem texts_any {w : World} {B1 B2 : Nat} {ao bo : Option Addr} {ca cb : Nat} (ts : List (List UInt8)) (hlen : ts.length ≤ 2199023255552)
    (ha : w.ownsRow B1 9 1 (.slice ao ts.length ca) ts.length (ts.map encStr)) (hb : w.ownsRow B2 9 1 (.slice bo ts.length cb) ts.length (ts.map encStr)) :
    Calls Tryz.prog 29 #[.slice ao ts.length ca, .slice bo ts.length cb] w fun e w' => e = .returned (.bool true) ∧ ∃ q, w' = w.drewN q := by
  rcases Nat.eq_zero_or_pos ts.length with h0 | h0
  · rw [h0]; exact texts_nil ao bo ca cb w
  · obtain ⟨g, rfl⟩ := row_shape ha h0
    obtain ⟨h, rfl⟩ := row_shape hb h0
    exact texts_walk ts g h ca cb w hlen (row_cells ha) (row_cells hb)

end Go.Proofs.YtpkllhgohkgcmaaGreatDoor
