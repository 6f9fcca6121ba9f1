/- DiskAgain, the second form: of any arguments of bulk at most 1048576 it answers true, and each argument reads as it read before (the tied card). Conditions: the row's own. -/
import Derived.Test.YthijkdphlmogjaaGreatDoorTie
import Derived.Test.YthijkdphlmogjaaGreatDoorCards
import Derived.Test.YthijkdphlmogjaaGreatDoorMg08
namespace Go.Proofs.YthijkdphlmogjaaGreatDoor
open Go.RowKit Go.Maps Go.WideMaps Go.WideElems Go.Sort Go.Shelf
set_option maxRecDepth 100000

/-- A deed's variable. -/
def BxD (w : World) (N : Nat) (k : Int) (p t u : ByteArray) (z : Int) : Prop := (w.cell? ⟨N, 0, none⟩ = some (.int .i64 k) ∧ w.cell? ⟨N, 1, none⟩ = some (.string p) ∧ w.cell? ⟨N, 2, none⟩ = some (.string t) ∧ w.cell? ⟨N, 3, none⟩ = some (.string u) ∧ w.cell? ⟨N, 4, none⟩ = some (.int .i64 z)) ∧ N < w.heap.size
theorem keepBxD (N : Nat) (k : Int) (p t u : ByteArray) (z : Int) : KeepP fun w1 => BxD w1 N k p t u z := fun w w' h hb => by
  obtain ⟨⟨h0, h1, h2, h3, h4⟩, hg⟩ := h
  have q : ∀ i, w'.cell? ⟨N, i, none⟩ = w.cell? ⟨N, i, none⟩ := fun i => hb.cell (p := ⟨N, i, none⟩) hg
  exact ⟨⟨by rw [q]; exact h0, by rw [q]; exact h1, by rw [q]; exact h2, by rw [q]; exact h3, by rw [q]; exact h4⟩, Nat.lt_of_lt_of_le hg hb.size⟩
theorem BxD.new {w : World} {N : Nat} (hN : w.heap.size = N) (k : Int) (p t u : ByteArray) (z : Int) : BxD (w.alloc (.cells #[.int .i64 k, .string p, .string t, .string u, .int .i64 z] 36)) N k p t u z := by
  subst hN
  refine ⟨⟨?_, ?_, ?_, ?_, ?_⟩, ?_⟩ <;> simp
theorem BxD.of {w w' : World} {N : Nat} {k : Int} {p t u : ByteArray} {z : Int} (h : BxD w N k p t u z) (q : ∀ i, w'.cell? ⟨N, i, none⟩ = w.cell? ⟨N, i, none⟩) (hg : N < w'.heap.size) : BxD w' N k p t u z := by
  obtain ⟨⟨h0, h1, h2, h3, h4⟩, _⟩ := h
  exact ⟨⟨by rw [q]; exact h0, by rw [q]; exact h1, by rw [q]; exact h2, by rw [q]; exact h3, by rw [q]; exact h4⟩, hg⟩

set_option maxHeartbeats 12800000 in
theorem again_walk (w : World) (m : Int) (hm : w.cell? ⟨0, 0, none⟩ = some (.int .i64 m)) (a : Option Addr) (len cap : Nat) (a2 : Option Addr) (len2 cap2 : Nat) (hlen : len + len2 ≤ 1048576) (hd : IsDeeds w a len) (hd2 : IsDeeds w a2 len2) :
    Calls Tryz.prog 5 #[.slice a len cap, .slice a2 len2 cap2] w fun e w' => e = .returned (.bool true) ∧ Below w.heap.size w w' := by
  have HL := hide3 hd
  have HL2 := hide3 hd2
  have HST := hide3 (start_two w m hm)
  have h0 : 0 < w.heap.size := cell_lt hm
  have HRN := hide3 (rNew_any w)
  have hsz := size_wNew w
  clear hd hd2 hm
  go_enter Tryz.func5, Tryz.ntmps5
  go_wp2_with (first
    | (go_at_call 14; refine (New_any _).mono ?_; rintro e w1 ⟨rfl, rfl⟩)
    | (go_at_call 15; refine HRN.out.mono ?_; rintro e w1 ⟨rfl, rfl⟩))
  go_loopw [7] (fun i wr => ∃ k : Nat, k ≤ len ∧ i = .int .i64 k ∧ ∃ x, (Two w.heap.size wr (w.heap.size + 1) (w.heap.size + 2) x m k ∧ DirE x.D) ∧ Below w.heap.size w wr) (fun i _ => len - (intOf i).toNat)
  case atStart => exact ⟨0, Nat.zero_le _, rfl, newAb, ⟨HST.out.1, dirE_new⟩, HST.out.2⟩
  case round =>
    obtain ⟨k, hk, rfl, x, ⟨htw, hde⟩, hbe⟩ := hrel
    have HB := hide3 hbe
    have HE := hide3 hde
    clear hde
    by_cases hlt : k < len
    · rcases HL.out with rfl | ⟨g, off, rfl, hg, hl⟩
      · exact absurd hlt (Nat.not_lt_zero _)
      obtain ⟨kd, p, t, u, z, d0, d1, d2, d3, d4, e0, e1, e2, e3, e4, _, e6⟩ := (hl k hlt).below hbe hg
      have hc := asks_any htw (by omega) kd p t u z e2 e3 e4 e0 e1 e6
      have HDE : Hid (Plain (asksD x (pickD kd 11) p t u z).D → DirE (asksD x (pickD kd 11) p t u z).D) := dirE_asks htw.plain HE.out _ _ _ _ _
      clear htw hbe hl
      generalize asksD x (pickD kd 11) p t u z = x1 at *
      go_wp2_with (go_at_call 11; refine hc.mono ?_; rintro e w1 ⟨rfl, h1, hb1⟩)
      exact ⟨⟨k + 1, by omega, by go_num, x1, ⟨h1, HDE.out h1.plain⟩, HB.out.trans hb1⟩, by simp [intOf]; omega⟩
    · obtain ⟨wa, rfl⟩ : ∃ x, x = wr := ⟨wr, rfl⟩
      obtain ⟨lo, lc, r1, r2, r3⟩ := two_files htw (by omega)
      have hfl := htw.files
      have HSD := hide3 htw.sound
      have hmw := htw.max
      obtain ⟨mb, n, rv, lv, rw', hdk, _, _, hn⟩ := htw.ex
      have HG := hide3 hdk.good
      have HZ := hide3 (files_size hdk)
      have HDK := hide3 hdk
      have HAL := hide3 (r2 wa (Below.refl _ _))
      have HMX : Hid (∀ W, Below wa.heap.size wa W → W.cell? ⟨0, 0, none⟩ = some (.int .i64 m)) := fun W hb => cell_below hmw hb
      have HLO := hide3 (loads_all HG.out HSD.out HE.out)
      have HDQ : Hid (∀ B' W c mc nc rv', IsDisk B' W c mc nc rv' ⟨loadD (filesD x.D), [], -1⟩ → loadD (filesD x.D) = x.D) := fun B' W c mc nc rv' h => disk_eq h HDK.out (files_load HG.out h.good)
      clear htw hbe r1 r2 r3 hdk hmw HG HSD
      have HLD : Hid (∀ W ao cp, Below wa.heap.size wa W → IsFiles W ao (filesD x.D) → Calls Tryz.prog 6 #[.slice ao (filesD x.D).length cp] W (LoadQ W (filesD x.D))) := fun W ao cp hb hf => Load_any (filesD x.D) ao cp m W (HMX.out _ hb) (by omega) hf HZ.out
      have HTS : Hid (∀ W w5, Below wa.heap.size wa W → Below W.heap.size W w5 → (∃ n5, n5 ≤ (filesD x.D).length ∧ IsDisk W.heap.size w5 (W.heap.size + 1) W.heap.size n5 (.slice none 0 0) ⟨loadD (filesD x.D), [], -1⟩) → Twin w.heap.size ((w5.setCell ⟨w.heap.size + 1, 2, none⟩ (.int .i64 (-1))).setCell ⟨w.heap.size + 1, 1, none⟩ (.slice none 0 0)) (W.heap.size + 1) (w.heap.size + 1) ⟨x.D, [], -1⟩ m len ∧ Below w.heap.size w5 ((w5.setCell ⟨w.heap.size + 1, 2, none⟩ (.int .i64 (-1))).setCell ⟨w.heap.size + 1, 1, none⟩ (.slice none 0 0))) := fun W w5 hb1 hb2 ⟨n5, hn5, hd5⟩ => by
        have hb12 := below_then hb1 hb2
        have hbs := HB.out.size
        rw [HDQ.out _ _ _ _ _ _ hd5] at hd5
        refine twin_start (HDK.out.below hb12) hd5 (Nat.le_trans hbs hb1.size) (fun j hj hj' => ?_) (HMX.out _ hb12) h0 (by omega) (by omega) (by omega) (Nat.le_trans hbs hb12.size)
        have h1 := (HDK.out.foot_lt hj').1
        have h2 := hb1.size
        rcases hj with e | e | e
        · omega
        · omega
        · cases e
      have HUP : Hid (∀ W, Below wa.heap.size wa W → Calls Tryz.prog 18 #[.pointer (some ⟨w.heap.size + 1, 0, none⟩)] W fun e w' => e = .returned (.tuple #[]) ∧ w' = W.setCell ⟨w.heap.size + 1, 2, none⟩ (.int .i64 (-1))) := fun W hb => Up_any (HDK.out.below hb)
      have HCL : Hid (∀ W, Below wa.heap.size wa W → Calls Tryz.prog 19 #[.pointer (some ⟨w.heap.size + 1, 0, none⟩)] (W.setCell ⟨w.heap.size + 1, 2, none⟩ (.int .i64 (-1))) fun e w' => e = .returned (.tuple #[]) ∧ w' = (W.setCell ⟨w.heap.size + 1, 2, none⟩ (.int .i64 (-1))).setCell ⟨w.heap.size + 1, 1, none⟩ (.slice none 0 0)) := fun W hb => Clear_walk ((HDK.out.below hb).setLeft (-1))
      go_wp2_with (first
        | (go_at_call 13; refine HAL.out.mono ?_; rintro e w2 ⟨ao2, cp2, rfl, hr2, hb2⟩; have HB2 := hide3 hb2; have HFR := hide3 (files_row hr2); clear hb2 hr2)
        | (go_at_call 6; refine (HLD.out _ _ _ HB2.out HFR.out).mono ?_; rintro e w5 ⟨hb5, hq5⟩; obtain ⟨_, rfl, hd5⟩ := hq5.resolve_right (fun h => h.1 HLO.out); have HB5 := hide3 (below_then HB2.out hb5); have HT0 := hide3 (HTS.out _ _ HB2.out hb5 hd5); clear hq5 hd5 hb5)
        | (go_at_call 18; refine (HUP.out _ HB5.out).mono ?_; rintro e w6 ⟨rfl, hw6⟩; subst hw6)
        | (go_at_call 19; refine (HCL.out _ HB5.out).mono ?_; rintro e w7 ⟨rfl, hw7⟩; have HT1 : Hid (Twin w.heap.size w7 (w2.heap.size + 1) (w.heap.size + 1) ⟨x.D, [], -1⟩ m len ∧ Below w.heap.size w w7) := (by rw [hw7]; exact ⟨HT0.out.1, (HB.out.trans (HB5.out.mono HB.out.size)).trans HT0.out.2⟩); clear hw7))
      clear HAL HLD HTS HUP HCL HT0
      go_loopw [10] (fun i wr => ∃ (j : Nat) (y : Ab), j ≤ len2 ∧ i = .int .i64 j ∧ Twin w.heap.size wr (w2.heap.size + 1) (w.heap.size + 1) y m (len + j) ∧ Below w.heap.size w wr) (fun i _ => len2 - (intOf i).toNat)
      case atStart => exact ⟨0, _, Nat.zero_le _, rfl, HT1.out.1, HT1.out.2⟩
      case round =>
        obtain ⟨j, y, hj, rfl, htn, hbn⟩ := hrel
        have HTN := hide3 htn
        have HBN := hide3 hbn
        by_cases hlt2 : j < len2
        · rcases HL2.out with rfl | ⟨g, off, rfl, hg, hl⟩
          · exact absurd hlt2 (Nat.not_lt_zero _)
          obtain ⟨kd, p, t, u, z, d0, d1, d2, d3, d4, e0, e1, e2, e3, e4, _, _⟩ := (hl j hlt2).below hbn hg
          have HWD : Hid (Below wr.heap.size wr (wr.alloc (.cells #[.int .i64 kd, .string p, .string t, .string u, .int .i64 z] 36)).drew) := (alloc_below wr _).drew
          have HBX : Hid (BxD (wr.alloc (.cells #[.int .i64 kd, .string p, .string t, .string u, .int .i64 z] 36)).drew wr.heap.size kd p t u z) := (keepBxD _ _ _ _ _ _).drew (BxD.new rfl _ _ _ _ _)
          have HS1 := hide3 (twin_step htn (by omega) kd p t u z e4 _ HWD.out)
          have HE2 := hide3 e2
          have HE3 := hide3 e3
          clear htn hbn hl e0 e1 e2 e3 e4
          generalize (askD y kd p t u).2 = y2 at *
          generalize (askD y kd p t u).1 = r at *
          have hrr : (r == r) = true := by simp
          have hji : (j : Int) < (len2 : Int) := by omega
          go_wp2_with fail
          go_region_held3 (fun w' => w'.cell? ⟨wr.heap.size, 0, none⟩ = some (.int .i64 kd) ∧ w'.cell? ⟨wr.heap.size, 1, none⟩ = some (.string p) ∧ w'.cell? ⟨wr.heap.size, 2, none⟩ = some (.string t) ∧ w'.cell? ⟨wr.heap.size, 3, none⟩ = some (.string u) ∧ w'.cell? ⟨wr.heap.size, 4, none⟩ = some (.int .i64 z)) (go_keep)
            (first
              | (have _h := HS1; go_at_call 20; refine HS1.out.mono ?_; rintro e w3 ⟨rfl, hc3, hs3⟩; have HS2 := hide3 hs3; obtain ⟨⟨q0, q1, q2, q3, q4⟩, _⟩ := HBX.out.of (w' := w3) (fun i => hc3 _ i (Nat.le_refl _) HBX.out.2) (cell_lt ((hc3 _ 0 (Nat.le_refl _) HBX.out.2).trans HBX.out.1.1)); clear hc3 hs3 HS1)
              | (have _h := HS2; go_at_call 20; refine HS2.out.mono ?_; rintro e w4 ⟨rfl, ht4, hb4, hc4⟩; have HBX4 := hide3 (HBX.out.of (w' := w4) (fun i => (hc4 _ i (Nat.le_refl _) HBX.out.2).1) (hc4 _ 0 (Nat.le_refl _) HBX.out.2).2); have HT4 := hide3 ht4; have HB4 := hide3 hb4; clear q0 q1 q2 q3 q4; obtain ⟨⟨q0, q1, q2, q3, q4⟩, _⟩ := HBX4.out; clear hc4 ht4 hb4 HS2))
          all_goals
            obtain ⟨hr1, hr2⟩ := twin_reads HT4.out p HE2.out
            obtain ⟨hk1, hk2⟩ := twin_kinds HT4.out t HE3.out
            have HR1 := hide3 (hr1 w4 (Below.refl _ _))
            have HR2 := hide3 hr2
            have HK1 := hide3 hk1
            have HK2 := hide3 hk2
            clear hr1 hr2 hk1 hk2
            generalize readT y2.D p = T at *
            generalize readE y2.D p = E at *
            generalize kindD y2.D t = kk at *
            have hTT : (T.toList == T.toList) = true := by simp
            have hEE : (E == E) = true := by simp
            have hkk : (kk == kk) = true := by simp
            go_wp2_with (first
              | (have _h := HR1; go_at_call 21; refine HR1.out.mono ?_; rintro e w5 ⟨rfl, hb5⟩; have HB5 := hide3 hb5; have HBX5 := hide3 (keepBxD _ _ _ _ _ _ _ _ HBX4.out hb5); clear q0 q1 q2 q3 q4; obtain ⟨⟨q0, q1, q2, q3, q4⟩, _⟩ := HBX5.out; have HR3 := hide3 (HR2.out w5 hb5); clear hb5 HR1)
              | (have _h := HR3; go_at_call 21; refine HR3.out.mono ?_; rintro e w6 ⟨rfl, hb6⟩; have HB6 := hide3 (below_then HB5.out hb6); have HBX6 := hide3 (keepBxD _ _ _ _ _ _ _ _ HBX5.out hb6); clear q0 q1 q2 q3 q4; clear hb6 HR3))
            have HK : Hid (KeepP fun W => Below w4.heap.size w4 W ∧ BxD W wr.heap.size kd p t u z) := (keepBelow w4).and (keepBxD _ _ _ _ _ _)
            have HO : Hid (Below w4.heap.size w4 w6 ∧ BxD w6 wr.heap.size kd p t u z) := ⟨HB6.out, HBX6.out⟩
            have HKC : Hid (∀ W, (Below w4.heap.size w4 W ∧ BxD W wr.heap.size kd p t u z) → Calls Tryz.prog 16 #[.pointer (some ⟨w2.heap.size + 1, 0, none⟩), .string t] W fun e w' => e = .returned (.int .i64 kk) ∧ Below W.heap.size W w') := fun W h => HK1.out W h.1
            have HKE : Hid (∀ W, (Below w4.heap.size w4 W ∧ BxD W wr.heap.size kd p t u z) → Calls Tryz.prog 16 #[.pointer (some ⟨w.heap.size + 1, 0, none⟩), .string t] W fun e w' => e = .returned (.int .i64 kk) ∧ Below W.heap.size W w') := fun W h => HK2.out W h.1
            refine wp_region_keep HK.out (by kernel_rfl) (by kernel_rfl) (by first | exact HO.out | exact HK.out.drew HO.out) ?_
            intro C hin hout
            have HIN := hide3 hin
            have HOUT := hide3 hout
            clear hin hout HO
            repeat
              (with_reducible refine wpQuiet_step (fun K hK => ?_)
               go_simp
               first
                 | (refine hK _ ?_; clear hK K)
                 | (apply Exists.intro; refine ⟨fun w1 hC => ?_, hK _ ?_⟩; (focus ((first | (go_at_call 16; with_reducible exact callC' HIN.out HOUT.out HK.out HKC.out w1 hC) | (go_at_call 16; with_reducible exact callC' HIN.out HOUT.out HK.out HKE.out w1 hC) | (exact rfl) | (obtain ⟨hbx, ⟨p0, p1, p2, p3, p4⟩, p5⟩ := HOUT.out w1 hC; clear hC; go_simp; first | done | exact rfl)); done)); clear hK K))
            refine wpQuiet_nil ?_
            intro wn hC
            have HO := hide3 (HOUT.out _ hC)
            clear hC HIN HOUT C
            obtain ⟨hbx, ⟨p0, p1, p2, p3, p4⟩, p5⟩ := HO.out
            go_wp2
            exact ⟨⟨j + 1, y2, by omega, by go_num, HT4.out.below hbx, (HBN.out.trans HB4.out).trans (hbx.mono (HBN.out.trans HB4.out).size)⟩, by simp [intOf]; omega⟩
        · obtain rfl : j = len2 := by omega
          obtain ⟨ha1, ha2, hfl2⟩ := twin_all htn (by omega)
          obtain ⟨hw1, hw2⟩ := twin_raws htn (by omega)
          have hrl : y.rs.length ≤ 2199023255552 := by have := htn.len; omega
          have hfl3 : (filesD y.D).length ≤ 2199023255552 := by omega
          have HA1 := hide3 (ha1 wr (Below.refl _ _))
          have HA2 := hide3 ha2
          have HW1 := hide3 hw1
          have HW2 := hide3 hw2
          obtain ⟨mc, nc, rc, md, nd, rd, fc, _⟩ := htn.ex
          have hmx := fc.max
          have HLV : Hid (∀ W, Below wr.heap.size wr W → Calls Tryz.prog 8 #[] W fun e w' => e = .returned (.bool true) ∧ Below W.heap.size W w') := fun W hb => lives_any W m (cell_below hmx hb)
          clear htn hbn ha1 ha2 hw1 hw2 fc hmx
          generalize filesD y.D = L at *
          generalize y.rs = RS at *
          go_wp2_with (first
            | (have _h := HA1; go_at_call 13; refine HA1.out.mono ?_; rintro e w10 ⟨ao, cp, rfl, hr, hb⟩; have HR10 := hide3 hr; have HB10 := hide3 hb; have HA3 := hide3 (HA2.out w10 hb); clear hr hb HA1)
            | (have _h := HA3; go_at_call 13; refine HA3.out.mono ?_; rintro e w11 ⟨ao', cp', rfl, hr, hb⟩; have HB11 := hide3 (below_then HB10.out hb); have HFI := hide3 (files_any L hfl3 (ownsRow_below HR10.out hb) hr); clear hr hb HA3)
            | (go_at_call 12; refine HFI.out.mono ?_; rintro e w12 ⟨rfl, q, rfl⟩; have HB12 := hide3 (below_draws HB11.out q))
            | (have _h := HW1; go_at_call 10; refine (HW1.out _ HB12.out).mono ?_; rintro e w13 ⟨ao3, cp3, rfl, hr, hb⟩; have HR13 := hide3 hr; have HB13 := hide3 (below_then HB12.out hb); have HW3 := hide3 (HW2.out w13 HB13.out); clear hr hb HW1)
            | (have _h := HW3; go_at_call 10; refine HW3.out.mono ?_; rintro e w14 ⟨ao4, cp4, rfl, hr, hb⟩; have HB14 := hide3 (below_then HB13.out hb); have HRI := hide3 (raws_any RS hrl (ownsRow_below HR13.out hb) hr); clear hr hb HW3)
            | (go_at_call 22; refine HRI.out.mono ?_; rintro e w15 ⟨rfl, q', rfl⟩; have HB15 := hide3 (below_draws HB14.out q'))
            | (go_at_call 8; refine (HLV.out _ HB15.out).mono ?_; rintro e w16 ⟨rfl, hb16⟩))
          go_ret
          have hall := HBN.out.trans ((below_then HB15.out hb16).mono HBN.out.size)
          exact ⟨rfl, hall⟩
end Go.Proofs.YthijkdphlmogjaaGreatDoor
namespace Go.Proofs.YthijkdphlmogjaaGreatDoor
open Go.ChangeShapes Go.WideShapes Go.ChangeAt Go.RowKit Go.ChangeMaps
set_option maxRecDepth 100000

theorem diskAgain_contract (H : Type) (enc : TypeId × Value → H) (W : World) (base : Nat) (args : Array Value) (ds gs : List (DataW H)) (before : List MemPlace)
    (hval0 : ∀ (j : Nat) t v, Tryz.f5.params[j]? = some t → args[j]? = some v → Value.okWide Tryz.prog W .any base t v)
    (hW : DataW.Whole enc Tryz.prog Tryz.f5.params.toList Rows.diskAgainSpec.vars false W args.toList ds gs before) (hk : Rows.uptoSmall H (ds ++ gs) = true) (hsh : W.ShapedOpen Tryz.prog) :
    Calls Tryz.prog 5 args W fun e W' => ∃ v, e = .returned v ∧ Rows.diskAgainSpec.post enc Tryz.prog Tryz.f5 false true false false W args v W' := by
  have hval : ∀ (j : Nat) t v, Tryz.f5.params[j]? = some t → args[j]? = some v → Value.okWide Tryz.prog W .any base t v := hval0
  have hW' := hW
  obtain ⟨p, q, hA0, hV, rfl, _, _⟩ := hW
  have hA : DataW.TrodAll enc Tryz.prog W 0 (fun _ => true) true Tryz.f5.params.toList args.toList ds p := hA0
  rw [Tryz.params5] at hA hval
  obtain ⟨v0, vs0, d0, ds0, p0, q0, hargs, rfl, rfl, h0, r0⟩ := trodAll_cons hA
  obtain ⟨v1, vs1, d1, ds1, p1, q1, rfl, rfl, rfl, h1, r1⟩ := trodAll_cons r0
  obtain ⟨rfl, rfl, rfl⟩ := trodAll_nil r1
  obtain rfl : args = #[v0, v1] := by cases args; simp_all
  obtain ⟨rfl, rfl⟩ := trodVars_none hV
  obtain ⟨a0, len0, cap0, rfl⟩ := okWide_slice Tryz.underlying23 (hval 0 23 v0 rfl rfl)
  have k0 := h0
  have lt0 : ∀ x ∈ p0, x.block < W.heap.size := by obtain ⟨m, hm⟩ := k0; exact DataW.trod_lt m _ _ _ hm
  obtain ⟨hdd0, hln0⟩ : IsDeeds W a0 len0 ∧ (len0 = 0 ∨ ∃ el sp, d0 = .slice el sp ∧ len0 ≤ el.length + sp.length) := by
    obtain ⟨fuel, hf⟩ := h0
    exact open_deeds (x := (d0, p0)) (by simpa [Value.cells] using hf)
  have hb0 := deeds_bulk hln0
  obtain ⟨a1, len1, cap1, rfl⟩ := okWide_slice Tryz.underlying23 (hval 1 23 v1 rfl rfl)
  have k1 := h1
  have lt1 : ∀ x ∈ p1, x.block < W.heap.size := by obtain ⟨m, hm⟩ := k1; exact DataW.trod_lt m _ _ _ hm
  obtain ⟨hdd1, hln1⟩ : IsDeeds W a1 len1 ∧ (len1 = 0 ∨ ∃ el sp, d1 = .slice el sp ∧ len1 ≤ el.length + sp.length) := by
    obtain ⟨fuel, hf⟩ := h1
    exact open_deeds (x := (d1, p1)) (by simpa [Value.cells] using hf)
  have hb1 := deeds_bulk hln1
  have hbulk := of_decide_eq_true hk
  simp only [List.append_nil, Rows.uptoBulkAll] at hbulk
  obtain ⟨m, hm⟩ := max_cell (W := W) hsh
  clear hA0 hval0
  refine (again_walk W m hm a0 len0 cap0 a1 len1 cap1 (by omega) hdd0 hdd1).mono fun e W' ⟨he, bel⟩ => ?_
  subst he
  exact ⟨_, rfl, _, _, _, [], _, [], hW', trodAll_mk1 (shut_bool Tryz.underlying4 _), (trodAll_cons_mk (Below.trod laidOut (by kernel_rfl) (of_decide_eq_true (by kernel_rfl)) k0 bel lt0) (trodAll_cons_mk (Below.trod laidOut (by kernel_rfl) (of_decide_eq_true (by kernel_rfl)) k1 bel lt1) trodAll_mk0)), rfl, bel.frame _, fun h => by cases h⟩

theorem diskAgain_reads (os : Os) {H : Type} (enc : TypeId × Value → H) : ∃ places, DataW.whole enc Tryz.prog ((World.laidAll Tryz.prog os Rows.diskAgainUptoRow.laid).forCall (fun _ _ => 0) ⟨#[], #[.slice none 0 0, .slice none 0 0], []⟩).memory Tryz.f5.params.toList Rows.diskAgainSpec.vars false (#[.slice none 0 0, .slice none 0 0] : Array Value).toList 8 = some ([.nil, .nil], [], places) :=
  ⟨[], by kernel_rfl⟩

theorem diskAgain_lifted (os : Os) (started : os.Started) (H : Type) (enc : TypeId × Value → H) (F : Stop.Interp) :
    ReturnsInHanded {} Tryz.checked os 5 .any ((Rows.OpenSpec.upto Rows.diskAgainSpec).preRow enc Tryz.prog Tryz.f5 Rows.diskAgainUptoRow.domain false Rows.diskAgainUptoRow.laid) (((Rows.OpenSpec.upto Rows.diskAgainSpec).at F).post enc Tryz.prog Tryz.f5 false true false false) := by
  obtain ⟨places, hx⟩ := diskAgain_reads os enc
  refine returnsInHanded_of_row (C := Tryz.checked) (s := Rows.OpenSpec.upto Rows.diskAgainSpec) own started (by kernel_rfl) Tryz.func5
    (witness_row_atRef (enc := enc) (C := Tryz.checked) false (World.laidAll Tryz.prog os Rows.diskAgainUptoRow.laid) #[.slice none 0 0, .slice none 0 0] (World.laidAll_os _ _ _) (by kernel_rfl) (by kernel_rfl) (by kernel_rfl)
      (OpenSpec.preRow_of_cond 8 hx (by kernel_rfl) (fun k hk => by cases hk; kernel_rfl) (by kernel_rfl) (laidMet_laidAll _ (by kernel_rfl) (by kernel_rfl)))) ?_
  intro W base args ds gs before hval hW _ hcond _ _ hsh _
  exact diskAgain_contract H enc W base args ds gs before hval hW (hcond _ rfl) hsh

theorem diskAgain_said : Rows.DiskAgainUptoSaid :=
  OpenClaim.holds_of_cond 5 Tryz.f5 rfl rfl rfl rfl rfl rfl rfl ⟨rfl, rfl, rfl, rfl, rfl⟩ rfl rfl rfl rfl rfl (by kernel_rfl) Tryz.func5 (by kernel_rfl)
    (of_decide_eq_true (by kernel_rfl)) (by unfold Func.isWrapper; first | (rw [if_pos (by decide +kernel)]; kernel_rfl) | (rw [if_neg (by decide +kernel)]; exact ⟨rfl, rfl⟩))
    (fun os started H enc _ F => by rw [OpenClaim.pre_eq_preRow]; exact diskAgain_lifted os started H enc F)

theorem diskAgainUpto_holds : Rows.DiskAgainUptoCardSaid :=
  Claim7.holds_tied_plain_at .later [] _ _ _ _ diskAgain_said (fun _ h => by cases h) (by kernel_rfl) (fun _ h => by cases h) diskAgainUpto_row_tie rfl ⟨rfl, rfl⟩ (by kernel_rfl) rfl
    (fun f fn hf hfn => by
      obtain rfl : f = 5 := Option.some.inj ((show Tryz.prog.funcNamed Rows.diskAgainUptoRow.func = some 5 by kernel_rfl).symm.trans hf) |>.symm
      obtain rfl : fn = Tryz.f5 := (Option.some.inj (Tryz.func5.symm.trans hfn)).symm
      exact ⟨by kernel_rfl, fun j t ht => by
        rw [Tryz.params5] at ht
        have hm : t ∈ [23, 23] := by simpa using Array.mem_of_getElem? ht
        have hall : ([23, 23].all fun u => !Tryz.prog.wantsStandIn u) = true := by kernel_rfl
        exact (show Tryz.prog.wantsStandIn t = false by simpa using List.all_eq_true.1 hall t hm)⟩)
    (by kernel_rfl)
#print axioms diskAgainUpto_holds
end Go.Proofs.YthijkdphlmogjaaGreatDoor
