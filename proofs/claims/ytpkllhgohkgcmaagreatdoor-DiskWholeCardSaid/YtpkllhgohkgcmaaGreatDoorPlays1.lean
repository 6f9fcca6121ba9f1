/- The walk of DiskPlays: of any row of deeds in memory it answers true, and leaves old memory as it was. -/
import Derived.Test.YtpkllhgohkgcmaaGreatDoorBoth5
import Derived.Deep.RegionHeld3
namespace Go.Proofs.YtpkllhgohkgcmaaGreatDoor
open Go.RowKit Go.Maps Go.WideMaps Go.WideElems Go.Sort Go.Shelf
set_option maxRecDepth 100000

theorem row_form {w : World} {B t sz n : Nat} {v : Value} {xs : List Value} (h : w.ownsRow B t sz v n xs) : ∃ ao cap, v = .slice ao n cap := by
  rcases h.2 with ⟨rfl, h0⟩ | ⟨g, cap, cur, rfl, _⟩
  · exact ⟨none, 0, by rw [h0]⟩
  · exact ⟨some ⟨g, 0, none⟩, cap, rfl⟩

theorem two_raws {B : Nat} {w : World} {d e : Nat} {x : Ab} {m : Int} {k : Nat} (h : Two B w d e x m k) (hk : k ≤ 2199023255552) :
    ∃ ro rc, (∀ W, Below w.heap.size w W → W.cell? ⟨e, 1, none⟩ = some (.slice ro x.rs.length rc)) ∧
      (∀ W, Below w.heap.size w W → Calls Tryz.prog 12 #[.pointer (some ⟨d, 0, none⟩)] W fun e w' => ∃ ao cap, e = .returned (.slice ao x.rs.length cap) ∧ w'.ownsRow W.heap.size 56 3 (.slice ao x.rs.length cap) x.rs.length (rawCells x.rs) ∧ Below W.heap.size W w') ∧
      (∀ W ao cap b, Below w.heap.size w W → W.ownsRow b 56 3 (.slice ao x.rs.length cap) x.rs.length (rawCells x.rs) → Calls Tryz.prog 11 #[.slice ao x.rs.length cap, .slice ro x.rs.length rc] W fun e w' => e = .returned (.bool true) ∧ ∃ q, w' = W.drewN q) := by
  obtain ⟨mb, n, rv, lv, rw', hdk, hrf, hap, hn⟩ := h.ex
  obtain ⟨ro, rc, rfl⟩ := row_form hrf.rrow
  have hl := h.len
  exact ⟨ro, rc, fun W hb => (hrf.below hb).c1, fun W hb => Raws_any (hdk.below hb) (by omega), fun W ao cap b hb hrow => raws_any x.rs (by omega) hrow (hrf.below hb).rrow⟩

theorem two_files {B : Nat} {w : World} {d e : Nat} {x : Ab} {m : Int} {k : Nat} (h : Two B w d e x m k) (hk : k ≤ 2199023255552) :
    ∃ lo lc, (∀ W, Below w.heap.size w W → W.cell? ⟨e, 0, none⟩ = some (.slice lo (filesD x.D).length lc)) ∧
      (∀ W, Below w.heap.size w W → Calls Tryz.prog 16 #[.pointer (some ⟨d, 0, none⟩)] W fun e w' => ∃ ao cap, e = .returned (.slice ao (filesD x.D).length cap) ∧ w'.ownsRow W.heap.size 49 3 (.slice ao (filesD x.D).length cap) (filesD x.D).length (fileCells (filesD x.D)) ∧ Below W.heap.size W w') ∧
      (∀ W ao cap b, Below w.heap.size w W → W.ownsRow b 49 3 (.slice ao (filesD x.D).length cap) (filesD x.D).length (fileCells (filesD x.D)) → Calls Tryz.prog 15 #[.slice ao (filesD x.D).length cap, .slice lo (filesD x.D).length lc] W fun e w' => e = .returned (.bool true) ∧ ∃ q, w' = W.drewN q) := by
  have hf := h.files
  obtain ⟨mb, n, rv, lv, rw', hdk, hrf, hap, hn⟩ := h.ex
  obtain ⟨lo, lc, rfl⟩ := row_form hrf.lrow
  exact ⟨lo, lc, fun W hb => (hrf.below hb).c0, fun W hb => All_any (hdk.below hb) (by omega), fun W ao cap b hb hrow => files_any (filesD x.D) (by omega) hrow (hrf.below hb).lrow⟩

theorem two_down {B : Nat} {w : World} {d e : Nat} {x : Ab} {m : Int} {k : Nat} (h : Two B w d e x m k) :
    (∀ W, Below w.heap.size w W → Calls Tryz.prog 13 #[.pointer (some ⟨d, 0, none⟩)] W fun e w' => e = .returned (.bool (x.left == 0)) ∧ w' = W) ∧
      (∀ W, Below w.heap.size w W → Calls Tryz.prog 14 #[.pointer (some ⟨e, 0, none⟩)] W fun e w' => e = .returned (.bool (x.left == 0)) ∧ w' = W) := by
  obtain ⟨mb, n, rv, lv, rw', hdk, hrf, hap, hn⟩ := h.ex
  exact ⟨fun W hb => Down_any (hdk.below hb), fun W hb => rDown_any (hrf.below hb)⟩

theorem below_draws {B : Nat} {a w : World} (h : Below B a w) (n : Nat) : Below B a (w.drewN n) := ⟨h.os, h.tape, h.output, h.size, h.block⟩

set_option maxHeartbeats 4000000 in
theorem plays_walk (w : World) (m : Int) (hm : w.cell? ⟨0, 0, none⟩ = some (.int .i64 m)) (g off len cap : Nat) (hlen : len * 64 ≤ 140737488351232) (hg : g < w.heap.size) (hl : ∀ i, i < len → DeedAt w g (off + i * 5)) :
    Calls Tryz.prog 3 #[.slice (some ⟨g, off, none⟩) len cap] w fun e w' => e = .returned (.bool true) ∧ Below w.heap.size w w' := by
  have HL := hide3 hl
  have HST := hide3 (start_two w m hm)
  have h0 : 0 < w.heap.size := cell_lt hm
  have HRN := hide3 (rNew_any w)
  have hsz := size_wNew w
  clear hl hm
  go_enter Tryz.func3, Tryz.ntmps3
  go_wp2_with (first
    | (go_at_call 8; refine (New_any _).mono ?_; rintro e w1 ⟨rfl, rfl⟩)
    | (go_at_call 9; refine HRN.out.mono ?_; rintro e w1 ⟨rfl, rfl⟩))
  go_loopw [5] (fun i wr => ∃ k : Nat, k ≤ len ∧ i = .int .i64 k ∧ ∃ x, Two w.heap.size wr (w.heap.size + 1) (w.heap.size + 2) x m k ∧ Below w.heap.size w wr) (fun i _ => len - (intOf i).toNat)
  case atStart => exact ⟨0, Nat.zero_le _, rfl, newAb, HST.out.1, HST.out.2⟩
  case round =>
    obtain ⟨k, hk, rfl, x, htw, hbe⟩ := hrel
    have HB := hide3 hbe
    by_cases hlt : k < len
    · obtain ⟨kd, p, t, u, z, d0, d1, d2, d3, d4, e0, e1, e2, e3, e4, _, e6⟩ := (HL.out k hlt).below hbe hg
      have hc := asks_any htw (by omega) kd p t u z e2 e3 e4 e0 e1 e6
      clear htw hbe
      generalize asksD x (pickD kd 11) p t u z = x1 at *
      go_wp2_with (go_at_call 10; refine hc.mono ?_; rintro e w1 ⟨rfl, h1, hb1⟩)
      have HB1 := hide3 (HB.out.trans hb1)
      have HT1 := hide3 h1
      obtain ⟨ro, rc, r1, r2, r3⟩ := two_raws h1 (by omega)
      obtain ⟨s1, s2⟩ := two_down h1
      have q0 := r1 w1 (Below.refl _ _)
      have HR1 := hide3 r1
      have HR2 := hide3 (r2 w1.drew (Below.refl _ _).drew)
      have HR3 := hide3 r3
      have HS1 := hide3 s1
      have HS2 := hide3 s2
      clear hc h1 hb1 r1 r2 r3 s1 s2
      have hdn : ((x1.left == 0) != (x1.left == 0)) = false := by simp
      generalize (x1.left == 0) = dn at *
      go_region_held3 (fun w' => w'.cell? ⟨w.heap.size + 2, 1, none⟩ = some (.slice ro x1.rs.length rc)) (go_keep)
        (first
          | (go_at_call 12; refine HR2.out.mono ?_; rintro e w2 ⟨ao2, cap2, rfl, hr2, hb2⟩; have HB2 := hide3 ((Below.refl _ w1).drew.trans hb2); have q1 := HR1.out _ HB2.out; have HRW := hide3 hr2; clear hb2 hr2)
          | (go_at_call 11; refine (HR3.out _ _ _ _ HB2.out HRW.out).mono ?_; rintro e w3 ⟨rfl, q, rfl⟩))
      all_goals go_wp2_with (first
        | (go_at_call 13; refine (HS1.out _ (below_draws HB2.out q)).mono ?_; rintro e w4 ⟨rfl, rfl⟩)
        | (go_at_call 14; refine (HS2.out _ (below_draws HB2.out q)).mono ?_; rintro e w4 ⟨rfl, rfl⟩))
      all_goals
        have hbq := below_draws HB2.out q
        exact ⟨⟨k + 1, by omega, by go_num, x1, HT1.out.below hbq, HB1.out.trans (hbq.mono HB1.out.size)⟩, by simp [intOf]; omega⟩
    · obtain ⟨lo, lc, r1, r2, r3⟩ := two_files htw (by omega)
      have q0 := r1 wr (Below.refl _ _)
      have HR1 := hide3 r1
      have HR2 := hide3 (r2 wr.drew (Below.refl _ _).drew)
      have HR3 := hide3 r3
      have HLV : Hid (∀ W, Below wr.heap.size wr W → Calls Tryz.prog 17 #[] W fun e w' => e = .returned (.bool true) ∧ Below W.heap.size W w') := fun W hb => lives_any W m (cell_below htw.max hb)
      clear htw hbe r1 r2 r3
      go_wp2_with fail
      go_region_held3 (fun w' => w'.cell? ⟨w.heap.size + 2, 0, none⟩ = some (.slice lo (filesD x.D).length lc)) (go_keep)
        (first
          | (go_at_call 16; refine HR2.out.mono ?_; rintro e w2 ⟨ao2, cap2, rfl, hr2, hb2⟩; have HB2 := hide3 ((Below.refl _ wr).drew.trans hb2); have q1 := HR1.out _ HB2.out; have HRW := hide3 hr2; clear hb2 hr2)
          | (go_at_call 15; refine (HR3.out _ _ _ _ HB2.out HRW.out).mono ?_; rintro e w3 ⟨rfl, q, rfl⟩))
      all_goals go_wp2_with (go_at_call 17; refine (HLV.out _ (below_draws HB2.out q)).mono ?_; rintro e w4 ⟨rfl, hb4⟩)
      all_goals
        go_ret
        have hbq := below_draws HB2.out q
        exact ⟨rfl, (HB.out.trans (hbq.mono HB.out.size)).trans (hb4.mono (Nat.le_trans HB.out.size hbq.size))⟩

set_option maxHeartbeats 4000000 in
theorem plays_nil (w : World) (m : Int) (hm : w.cell? ⟨0, 0, none⟩ = some (.int .i64 m)) (ao : Option Addr) (cap : Nat) :
    Calls Tryz.prog 3 #[.slice ao 0 cap] w fun e w' => e = .returned (.bool true) ∧ Below w.heap.size w w' := by
  have HST := hide3 (start_two w m hm)
  have h0 : 0 < w.heap.size := cell_lt hm
  have HRN := hide3 (rNew_any w)
  have hsz := size_wNew w
  clear hm
  go_enter Tryz.func3, Tryz.ntmps3
  go_wp2_with (first
    | (go_at_call 8; refine (New_any _).mono ?_; rintro e w1 ⟨rfl, rfl⟩)
    | (go_at_call 9; refine HRN.out.mono ?_; rintro e w1 ⟨rfl, rfl⟩))
  go_loopw [5] (fun i wr => ∃ k : Nat, k ≤ 0 ∧ i = .int .i64 k ∧ ∃ x, Two w.heap.size wr (w.heap.size + 1) (w.heap.size + 2) x m k ∧ Below w.heap.size w wr) (fun i _ => 0 - (intOf i).toNat)
  case atStart => exact ⟨0, Nat.zero_le _, rfl, newAb, HST.out.1, HST.out.2⟩
  case round =>
    obtain ⟨k, hk, rfl, x, htw, hbe⟩ := hrel
    have HB := hide3 hbe
    obtain rfl : k = 0 := by omega
    obtain ⟨lo, lc, r1, r2, r3⟩ := two_files htw (by omega)
    have q0 := r1 wr (Below.refl _ _)
    have HR1 := hide3 r1
    have HR2 := hide3 (r2 wr.drew (Below.refl _ _).drew)
    have HR3 := hide3 r3
    have HLV : Hid (∀ W, Below wr.heap.size wr W → Calls Tryz.prog 17 #[] W fun e w' => e = .returned (.bool true) ∧ Below W.heap.size W w') := fun W hb => lives_any W m (cell_below htw.max hb)
    clear htw hbe r1 r2 r3
    go_wp2_with fail
    go_region_held3 (fun w' => w'.cell? ⟨w.heap.size + 2, 0, none⟩ = some (.slice lo (filesD x.D).length lc)) (go_keep)
      (first
        | (go_at_call 16; refine HR2.out.mono ?_; rintro e w2 ⟨ao2, cap2, rfl, hr2, hb2⟩; have HB2 := hide3 ((Below.refl _ wr).drew.trans hb2); have q1 := HR1.out _ HB2.out; have HRW := hide3 hr2; clear hb2 hr2)
        | (go_at_call 15; refine (HR3.out _ _ _ _ HB2.out HRW.out).mono ?_; rintro e w3 ⟨rfl, q, rfl⟩))
    all_goals go_wp2_with (go_at_call 17; refine (HLV.out _ (below_draws HB2.out q)).mono ?_; rintro e w4 ⟨rfl, hb4⟩)
    all_goals
      go_ret
      have hbq := below_draws HB2.out q
      exact ⟨rfl, (HB.out.trans (hbq.mono HB.out.size)).trans (hb4.mono (Nat.le_trans HB.out.size hbq.size))⟩

end Go.Proofs.YtpkllhgohkgcmaaGreatDoor
