/- The walk of DiskOwns at a row of no deed, a nil one too. -/
import Derived.Test.YtlhoikmgeafgbaaGreatDoorOwns2
namespace Go.Proofs.YtlhoikmgeafgbaaGreatDoor
open Go.RowKit Go.Maps Go.WideMaps Go.WideElems Go.Sort Go.Shelf
set_option maxRecDepth 100000

set_option maxHeartbeats 4000000 in
theorem owns_nil (w : World) (m : Int) (hm : w.cell? ⟨0, 0, none⟩ = some (.int .i64 m)) (ao : Option Addr) (cap : Nat) :
    Calls Tryz.prog 7 #[.slice ao 0 cap] w fun e w' => e = .returned (.bool true) ∧ Below w.heap.size w w' := by
  have HST := hide3 (start_two w m hm)
  have h0 : 0 < w.heap.size := cell_lt hm
  have HRN := hide3 (rNew_any w)
  have hsz := size_wNew w
  clear hm
  go_enter Tryz.func7, Tryz.ntmps7
  go_wp2_with (first
    | (go_at_call 8; refine (New_any _).mono ?_; rintro e w1 ⟨rfl, rfl⟩)
    | (go_at_call 9; refine HRN.out.mono ?_; rintro e w1 ⟨rfl, rfl⟩))
  go_loopw [5] (fun i wr => ∃ k : Nat, k ≤ 0 ∧ i = .int .i64 k ∧ ∃ x, Two w.heap.size wr (w.heap.size + 1) (w.heap.size + 2) x m k ∧ Below w.heap.size w wr) (fun i _ => 0 - (intOf i).toNat)
  case atStart => exact ⟨0, Nat.zero_le _, rfl, newAb, HST.out.1, HST.out.2⟩
  case round =>
    obtain ⟨k, hk, rfl, x, htw, hbe⟩ := hrel
    have HB := hide3 hbe
    by_cases hlt : k < 0
    · omega
    · obtain ⟨wo, rfl⟩ : ∃ wo : World, wo = wr := ⟨_, rfl⟩
      have HT0 := hide3 htw
      clear htw hbe
      go_wp2_with fail
      go_loopw [6] (fun i wr => ∃ j : Nat, j ≤ 2 ∧ i = .int .i64 j ∧ Two w.heap.size wr (w.heap.size + 1) (w.heap.size + 2) x m k ∧ Below w.heap.size w wr) (fun i _ => 2 - (intOf i).toNat)
      case atStart => exact ⟨0, Nat.zero_le _, rfl, HT0.out, HB.out⟩
      case round =>
        obtain ⟨j, hj, rfl, htw, hbe⟩ := hrel
        by_cases hj2 : j < 2
        · obtain ⟨lo, lc, r1, r2, r3⟩ := two_files htw (by omega)
          obtain ⟨ro, rc, t1, t2, t3⟩ := two_raws htw (by omega)
          have HLI := hide3 (two_list htw (by omega) (⟨#[47]⟩ : ByteArray) (by decide))
          have HR1 := hide3 r1
          have HR2 := hide3 r2
          have HR3 := hide3 r3
          have HT1 := hide3 t1
          have HT2 := hide3 t2
          have HT3 := hide3 t3
          have HTW := hide3 htw
          have HBE := hide3 hbe
          clear htw hbe r1 r2 r3 t1 t2 t3
          generalize (filesD x.D).length = nf at *
          go_wp2_with (first
            | (go_at_call 16; refine (HR2.out _ (Below.refl _ _)).mono ?_; rintro e wa ⟨aa, ca, rfl, hra, hba⟩; have HRA := hide3 hra; have HBA := hide3 hba; clear hra hba)
            | (go_at_call 12; refine (HT2.out _ HBA.out).mono ?_; rintro e wb ⟨ab, cb, rfl, hrb, hbb⟩; have HRB := hide3 hrb; have HBB0 := hide3 hbb; have HBB := hide3 (HBA.out.trans (hbb.mono HBA.out.size)); clear hrb hbb)
            | (go_at_call 24; refine (HLI.out _ HBB.out).mono ?_; rintro e wc ⟨ac, nc, cc, er, rfl, ⟨xc, hrc⟩, hbc⟩; have HRC := hide3 hrc; have HBC0 := hide3 hbc; have HBC := hide3 (HBB.out.trans (hbc.mono HBB.out.size)); have q0 := HR1.out _ HBC.out; clear hrc hbc)
            | (go_at_call 15; refine (HR3.out _ _ _ _ HBC.out (ownsRow_upd (ownsRow_upd HRA.out (Upd.of_below (F := fun _ => False) HBB0.out) (fun _ _ f => f)) (Upd.of_below (F := fun _ => False) HBC0.out) (fun _ _ f => f))).mono ?_; rintro e wd ⟨rfl, qd, rfl⟩; have q1 := HT1.out _ (below_draws HBC.out qd))
            | (go_at_call 11; refine (HT3.out _ _ _ _ (below_draws HBC.out qd) (ownsRow_upd (ownsRow_upd HRB.out (Upd.of_below (F := fun _ => False) HBC0.out) (fun _ _ f => f)) (Upd.of_below (F := fun _ => False) (below_draws (Below.refl _ _) qd)) (fun _ _ f => f))).mono ?_; rintro e we ⟨rfl, qe, rfl⟩)
            | fail)
          obtain ⟨sa, la1, _, la3, _⟩ := scr_of HRA.out
          obtain ⟨sb, lb1, _, lb3, _⟩ := scr_of HRB.out
          obtain ⟨sc, lc1, _, lc3, _⟩ := scr_of HRC.out
          have uab : Upd (fun _ => False) wa wb := Upd.of_below HBB0.out
          have ubc : Upd (fun _ => False) wb wc := Upd.of_below HBC0.out
          have ucd : Upd (fun _ => False) wc (wc.drewN (qd + qe)) := Upd.of_below (below_draws (Below.refl _ _) (qd + qe))
          have HSA := hide3 (((sa.upd uab (fun _ _ f => f)).upd ubc (fun _ _ f => f)).upd ucd (fun _ _ f => f))
          have HSB := hide3 ((sb.upd ubc (fun _ _ f => f)).upd ucd (fun _ _ f => f))
          have HSC := hide3 (sc.upd ucd (fun _ _ f => f))
          have HBV := hide3 (below_draws HBC.out (qd + qe))
          have HLA := hide3 la3
          have HLB := hide3 lb3
          have HLC := hide3 lc3
          have hza := HBA.out.size
          have hzb := HBB0.out.size
          unfold maxLen at la1 lb1 lc1
          clear sa sb sc la3 lb3 lc3 uab ubc ucd q0 q1
          generalize wc.drewN (qd + qe) = V at *
          obtain ⟨wp, rfl⟩ : ∃ wp : World, wp = wr := ⟨_, rfl⟩
          go_loopw [13] (fun i wr => ∃ a : Nat, a ≤ ca ∧ i = .int .i64 a ∧ Scr wr aa ca 49 3 ∧ Upd (Bl aa) V wr) (fun i _ => ca - (intOf i).toNat)
          case atStart => exact ⟨0, Nat.zero_le _, rfl, HSA.out, Upd.refl _ _⟩
          case round =>
            obtain ⟨a, ha, rfl, hs, hu⟩ := hrel
            by_cases hlt1 : a < ca
            · obtain ⟨ga, rfl, hcs⟩ := hs.cells hlt1
              obtain ⟨⟨v0, y0⟩, z0⟩ := hcs 0 (by decide)
              obtain ⟨⟨v1, y1⟩, z1⟩ := hcs 1 (by decide)
              obtain ⟨⟨v2, y2⟩, z2⟩ := hcs 2 (by decide)
              have HS := hide3 hs
              have HU := hide3 hu
              rw [Nat.add_zero] at y0 z0
              clear hcs hs hu
              go_wp2
              refine ⟨⟨a + 1, by omega, by go_num, ((HS.out.setCell _ _ _).setCell _ _ _).setCell _ _ _, ?_⟩, by simp [intOf]; omega⟩
              exact ((HU.out.trans (Upd.setCell _ ⟨ga, a * 3, none⟩ _) (fun i _ f => ⟨_, rfl, Eq.symm f⟩)).trans (Upd.setCell _ ⟨ga, a * 3 + 1, none⟩ _) (fun i _ f => ⟨_, rfl, Eq.symm f⟩)).trans (Upd.setCell _ ⟨ga, a * 3 + 2, none⟩ _) (fun i _ f => ⟨_, rfl, Eq.symm f⟩)
            · have HSB1 := hide3 (HSB.out.upd hu (fun q hq hf => by have := (HLA.out q hf).2; have := (HLB.out q hq).1; omega))
              have HSC1 := hide3 (HSC.out.upd hu (fun q hq hf => by have := (HLA.out q hf).2; have := (HLC.out q hq).1; omega))
              have HBV1 := hide3 (HBV.out.trans (hu.below HBV.out.size (fun q hq => (HLA.out q hq).1)))
              clear hs hu
              obtain ⟨V1, rfl⟩ : ∃ V1 : World, V1 = wr := ⟨_, rfl⟩
              go_wp2_with fail
              go_loopw [14] (fun i wr => ∃ a : Nat, a ≤ cb ∧ i = .int .i64 a ∧ Scr wr ab cb 56 3 ∧ Upd (Bl ab) V1 wr) (fun i _ => cb - (intOf i).toNat)
              case atStart => exact ⟨0, Nat.zero_le _, rfl, HSB1.out, Upd.refl _ _⟩
              case round =>
                obtain ⟨a2, ha2, rfl, hs, hu⟩ := hrel
                by_cases hlt2 : a2 < cb
                · obtain ⟨gb, rfl, hcs⟩ := hs.cells hlt2
                  obtain ⟨⟨v0, y0⟩, z0⟩ := hcs 0 (by decide)
                  obtain ⟨⟨v1, y1⟩, z1⟩ := hcs 1 (by decide)
                  obtain ⟨⟨v2, y2⟩, z2⟩ := hcs 2 (by decide)
                  have HS := hide3 hs
                  have HU := hide3 hu
                  rw [Nat.add_zero] at y0 z0
                  clear hcs hs hu
                  go_wp2
                  refine ⟨⟨a2 + 1, by omega, by go_num, ((HS.out.setCell _ _ _).setCell _ _ _).setCell _ _ _, ?_⟩, by simp [intOf]; omega⟩
                  exact ((HU.out.trans (Upd.setCell _ ⟨gb, a2 * 3, none⟩ _) (fun i _ f => ⟨_, rfl, Eq.symm f⟩)).trans (Upd.setCell _ ⟨gb, a2 * 3 + 1, none⟩ _) (fun i _ f => ⟨_, rfl, Eq.symm f⟩)).trans (Upd.setCell _ ⟨gb, a2 * 3 + 2, none⟩ _) (fun i _ f => ⟨_, rfl, Eq.symm f⟩)
                · have HSC2 := hide3 (HSC1.out.upd hu (fun q hq hf => by have := (HLB.out q hf).2; have := (HLC.out q hq).1; omega))
                  have HBV2 := hide3 (HBV1.out.trans (hu.below HBV1.out.size (fun q hq => by have := (HLB.out q hq).1; omega)))
                  clear hs hu
                  obtain ⟨V2, rfl⟩ : ∃ V2 : World, V2 = wr := ⟨_, rfl⟩
                  go_wp2_with fail
                  go_loopw [15] (fun i wr => ∃ a : Nat, a ≤ cc ∧ i = .int .i64 a ∧ Scr wr ac cc 9 1 ∧ Upd (Bl ac) V2 wr) (fun i _ => cc - (intOf i).toNat)
                  case atStart => exact ⟨0, Nat.zero_le _, rfl, HSC2.out, Upd.refl _ _⟩
                  case round =>
                    obtain ⟨a3, ha3, rfl, hs, hu⟩ := hrel
                    by_cases hlt3 : a3 < cc
                    · obtain ⟨gc, rfl, hcs⟩ := hs.cells hlt3
                      obtain ⟨⟨v0, y0⟩, z0⟩ := hcs 0 (by decide)
                      have HS := hide3 hs
                      have HU := hide3 hu
                      rw [Nat.add_zero, Nat.mul_one] at y0 z0
                      clear hcs hs hu
                      go_wp2
                      refine ⟨⟨a3 + 1, by omega, by go_num, HS.out.setCell _ _ _, ?_⟩, by simp [intOf]; omega⟩
                      exact HU.out.trans (Upd.setCell _ ⟨gc, a3, none⟩ _) (fun i _ f => ⟨_, rfl, Eq.symm f⟩)
                    · have HBV3 := hide3 (HBV2.out.trans (hu.below HBV2.out.size (fun q hq => by have := (HLC.out q hq).1; omega)))
                      clear hs hu
                      go_wp2
                      exact ⟨⟨j + 1, by omega, by go_num, HTW.out.below HBV3.out, HBE.out.trans (HBV3.out.mono HBE.out.size)⟩, by simp [intOf]; omega⟩
        · have HLV := hide3 (lives_any wr m htw.max)
          have HBE := hide3 hbe
          clear htw hbe
          go_wp2_with (go_at_call 17; refine HLV.out.mono ?_; rintro e w4 ⟨rfl, hb4⟩)
          go_ret
          exact ⟨rfl, HBE.out.trans (hb4.mono HBE.out.size)⟩

end Go.Proofs.YtlhoikmgeafgbaaGreatDoor
