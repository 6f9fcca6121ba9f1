/- PlanAgain: the walk. Conditions: sizes. -/
import Derived.Test.YtefcndfeemnglaaGreatDoorPh3
import Derived.Test.YtefcndfeemnglaaGreatDoorPf1
namespace Go.Proofs.YtefcndfeemnglaaGreatDoor
open Go.RowKit Go.Maps Go.WideMaps Go.WideElems Dk
set_option maxRecDepth 100000

/-- Two files loaded. -/
def LdQ17 (w : World) (fs : List Fl) (e : Ending) (w' : World) : Prop := ∃ n, e = .returned (.tuple #[.pointer (some ⟨w.heap.size + 1, 0, none⟩), .int .i64 0]) ∧ Below w.heap.size w w' ∧ n ≤ fs.length ∧ IsDisk w.heap.size w' (w.heap.size + 1) w.heap.size n (.slice none 0 0) ⟨loadD fs, [], -1⟩

theorem duo_can {B : Nat} {w : World} {c d : Nat} {DA DB : DataW Unit} {m : Int} {k : Nat} (h : Duo B w c d DA DB m k) (hP : Plain DA) (x : De) (hx : OkX x) : Calls Tryz.prog 7 #[.pointer (some ⟨c, 0, none⟩), .agg #[.int .i64 x.kd, .string x.pa, .string x.da]] w fun e w' => e = .returned (.bool (canD DA x)) ∧ Below w.heap.size w w' := by
  obtain ⟨mc, nc, rc, rsa, md, nd, rd, rsb, h1, _⟩ := h
  exact can17_any h1 hP x hx
theorem duo_kind {B : Nat} {w : World} {c d : Nat} {DA DB : DataW Unit} {m : Int} {k : Nat} (h : Duo B w c d DA DB m k) (s : ByteArray) (hs : s.size ≤ maxLen) : Calls Tryz.prog 9 #[.pointer (some ⟨c, 0, none⟩), .string s] w fun e w' => e = .returned (.int .i64 (kindD DA s)) ∧ Below w.heap.size w w' := by
  obtain ⟨mc, nc, rc, rsa, md, nd, rd, rsb, h1, _⟩ := h
  exact Kind_any h1.disk s hs
/-- All files of a disk. -/
def AllQ17 (w : World) (fl : List Fl) (e : Ending) (w' : World) : Prop := ∃ ao n cap, e = .returned (.slice ao n cap) ∧ n = fl.length ∧ w'.ownsRow w.heap.size 45 3 (.slice ao n cap) n (fileCells fl) ∧ Below w.heap.size w w'
theorem duo_all {B : Nat} {w : World} {c d : Nat} {DA DB : DataW Unit} {m : Int} {k : Nat} (h : Duo B w c d DA DB m k) (hk : k ≤ 2199023255552) : Calls Tryz.prog 11 #[.pointer (some ⟨c, 0, none⟩)] w (AllQ17 w (filesD DA)) := by
  obtain ⟨mc, nc, rc, rsa, md, nd, rd, rsb, h1, _, _, h4, _⟩ := h
  refine (All_any h1.disk (by omega)).mono ?_
  rintro e w' ⟨ao, cap, rfl, h2, h3⟩
  exact ⟨ao, _, cap, rfl, rfl, h2, h3⟩
theorem duo_len {B : Nat} {w : World} {c d : Nat} {DA DB : DataW Unit} {m : Int} {k : Nat} (h : Duo B w c d DA DB m k) (hk : k ≤ 2199023255552) : (filesD DA).length ≤ 2199023255552 := by
  obtain ⟨mc, nc, rc, rsa, md, nd, rd, rsb, h1, _, _, h4, _⟩ := h
  obtain ⟨es, e, _, hn, _⟩ := own_entries h1.disk.own
  simp only at e
  rw [e]
  show (es.map _).length ≤ _
  rw [List.length_map]
  omega
theorem files17 {w : World} {B1 B2 : Nat} {ao bo : Option Addr} {ca cb : Nat} (rs : List (ByteArray × Bool × ByteArray)) (hlen : rs.length ≤ 2199023255552)
    (ha : w.ownsRow B1 45 3 (.slice ao rs.length ca) rs.length (fileCells rs)) (hb : w.ownsRow B2 45 3 (.slice bo rs.length cb) rs.length (fileCells rs)) :
    Calls Tryz.prog 10 #[.slice ao rs.length ca, .slice bo rs.length cb] w fun e w' => e = .returned (.bool true) ∧ Below w.heap.size w w' := by
  refine (files_any rs hlen ha hb).mono ?_
  rintro e w' ⟨rfl, q, rfl⟩
  exact ⟨rfl, below_drewP (Below.refl _ _) q⟩

set_option maxHeartbeats 32000000 in
theorem planAgain_walk (l : List De) (a : Option Addr) (cap : Nat) (fs : List Fl) (b : Option Addr) (cb : Nat) (far : Int) (m : Int) (w : World) (hm : w.cell? ⟨0, 0, none⟩ = some (.int .i64 m)) (hc : IsDes w a l) (hz : ∀ d ∈ l, d.pa.size ≤ maxLen ∧ d.da.size ≤ maxLen) (hlen : l.length ≤ 1048576) (hcf : IsFiles w b fs) (hzf : ∀ f ∈ fs, f.1.size ≤ maxLen ∧ f.2.2.size ≤ maxLen) (hlf : fs.length ≤ 1048576) :
    Calls Tryz.prog 3 #[.slice a l.length cap, .slice b fs.length cb, .int .i64 far] w fun e w' => e = .returned (.bool true) ∧ Below w.heap.size w w' := by
  have HMW : Hid (∀ W, Below w.heap.size w W → W.cell? ⟨0, 0, none⟩ = some (.int .i64 m)) := fun W hb => (hb.cell (p := ⟨0, 0, none⟩) (cell_lt hm)).trans hm
  have HDW : Hid (∀ W, Below w.heap.size w W → IsDes W a l) := fun W hb => hc.below hb
  have HK := hide3 (known17_any m w hm)
  have HCH : Hid (∀ W, Below w.heap.size w W → Calls Tryz.prog 6 #[.slice a l.length cap] W fun e w' => e = .returned (.int .i64 (prnE l)) ∧ Below W.heap.size W w') := fun W hb => Check_is l a cap m W (HMW.out W hb) (by omega) (HDW.out W hb) fun d hd => (hz d hd).1
  have HLD : Hid (∀ W, Below w.heap.size w W → Calls Tryz.prog 5 #[.slice b fs.length cb] W (LoadQ W fs)) := fun W hb => Load_any fs b cb m W (HMW.out W hb) (by omega) (hcf.below hb) hzf
  have h0B : 0 < w.heap.size := cell_lt hm
  by_cases hL : Loads fs
  · have HLY : Hid (∀ W, Below w.heap.size w W → Calls Tryz.prog 5 #[.slice b fs.length cb] W (LdQ17 W fs)) := fun W hb => (HLD.out W hb).mono fun e w' ⟨h1, h2⟩ => by
      rcases h2 with ⟨_, h3, n, h4, h5⟩ | ⟨h3, _⟩
      · exact ⟨n, h3, h1, h4, h5⟩
      · exact absurd hL h3
    clear HLD hcf hzf
    by_cases hp : Plan l
    · rw [(prn_yes hp).2] at HCH
      have HPL := hide3 hp
      have HOX : Hid (∀ i (hi : i < l.length), OkX l[i] ∧ l[i].da.size ≤ maxLen ∧ l[i].pa.size ≤ maxLen) := fun i hi => by
        have hpp := hp.parts l[i] (List.getElem_mem hi)
        exact ⟨⟨hpp.1, hpp.2.1, hpp.2.2.2⟩, (hz l[i] (List.getElem_mem hi)).2, (hz l[i] (List.getElem_mem hi)).1⟩
      obtain ⟨D0, hD0⟩ : ∃ D0, D0 = loadD fs := ⟨_, rfl⟩
      have HD0 : Hid (OkD D0) := by rw [hD0]; exact ⟨loadsP_plain hL, load_sound hL⟩
      have HDS : Hid (∀ w1 w2 w3 n1 n2, Below w.heap.size w w1 → Below w1.heap.size w1 w2 → Below w2.heap.size w2 w3 → n1 ≤ fs.length → n2 ≤ fs.length → IsDisk w1.heap.size w2 (w1.heap.size + 1) w1.heap.size n1 (.slice none 0 0) ⟨loadD fs, [], -1⟩ → IsDisk w2.heap.size w3 (w2.heap.size + 1) w2.heap.size n2 (.slice none 0 0) ⟨loadD fs, [], -1⟩ → Duo w.heap.size w3 (w1.heap.size + 1) (w2.heap.size + 1) D0 D0 m fs.length) := fun w1 w2 w3 n1 n2 hb1 hb2 hb3 h1 h2 ha hb => by rw [hD0]; exact duo_start h0B hb1.size (HMW.out w1 hb1) hb2 hb3 h1 h2 hlf ha hb
      clear hp hL hm hc hz HMW hD0
      obtain ⟨F, HF⟩ : ∃ F : Nat, Hid (∀ i : Nat, ((i : Int) < far ↔ i < F)) := by
        by_cases hf : 0 ≤ far
        · exact ⟨far.toNat, fun i => by omega⟩
        · exact ⟨0, fun i => by omega⟩
      go_enter Tryz.func3, Tryz.ntmps3
      go_wp2_with (first
        | (go_at_call 6; have _t := HD3; refine (HCH.out _ HB3.out).mono ?_; rintro e w4 ⟨rfl, hb4⟩; have HD4 := hide3 (HD3.out.below hb4); have HB4 : Hid (Below w.heap.size w w4) := HB3.out.trans (hb4.mono HB3.out.size); clear hb4)
        | (go_at_call 5; have _t := HI2; refine (HLY.out _ HB2.out).mono ?_; intro e w3 hq; obtain ⟨n3, rfl, hb3, hn3, hi3⟩ := hq; have HD3 := hide3 (HDS.out _ _ _ _ _ HB1.out HC2.out hb3 HN2.out hn3 HI2.out hi3); have HB3 : Hid (Below w.heap.size w w3) := HB2.out.trans (hb3.mono HB2.out.size); clear hb3 hi3 hn3)
        | (go_at_call 5; have _t := HB1; refine (HLY.out _ HB1.out).mono ?_; intro e w2 hq; obtain ⟨n2, rfl, hb2, hn2, hi2⟩ := hq; have HC2 := hide3 hb2; have HN2 := hide3 hn2; have HI2 := hide3 hi2; have HB2 : Hid (Below w.heap.size w w2) := HB1.out.trans (hb2.mono HB1.out.size); clear hb2 hi2 hn2)
        | (go_at_call 4; refine HK.out.mono ?_; rintro e w1 ⟨rfl, hb1⟩; have HB1 := hide3 hb1; clear hb1))
      clear HD3 HI2 HC2 HN2 HDS HLY HK HCH HB3 HB2 HB1
      generalize w1.heap.size + 1 = c at *
      generalize w2.heap.size + 1 = d at *
      go_loopw [11] (fun v11 wr => ∃ i : Nat, i ≤ l.length ∧ v11 = .int .i64 i ∧ RunI D0 l i ∧ Duo w.heap.size wr c d (runD D0 l i) (runD D0 l (min i F)) m (fs.length + 2 * i) ∧ Below w.heap.size w wr) (fun v11 _ => l.length - (intOf v11).toNat)
      case atStart => exact ⟨0, Nat.zero_le _, rfl, RunI.start HD0.out l, by rw [Nat.zero_min]; exact HD4.out, HB4.out⟩
      case round =>
        obtain ⟨i, hi, rfl, hrun, hduo, hbr⟩ := hrel
        have HRI := hide3 hrun
        have HDU := hide3 hduo
        have HBR := hide3 hbr
        clear hrun hduo hbr HD4 HB4
        by_cases hlt : i < l.length
        · obtain ⟨g, off, rfl, hg, hcs⟩ : ∃ g off, a = some ⟨g, off, none⟩ ∧ g < w.heap.size ∧ DesIn w g off l := by
            rcases HDW.out w (Below.refl _ _) with h | h
            · rw [h] at hlt; exact absurd hlt (Nat.not_lt_zero _)
            · exact h
          have HCW : Hid (∀ W, Below w.heap.size w W → W.cell? ⟨g, off + i * 3, none⟩ = some (.int .i64 l[i].kd) ∧ W.cell? ⟨g, off + i * 3 + 1, none⟩ = some (.string l[i].pa) ∧ W.cell? ⟨g, off + i * 3 + 1 + 1, none⟩ = some (.string l[i].da)) := fun W hb => by
            obtain ⟨a0, a1, a2⟩ := hcs i hlt
            exact ⟨(hb.cell (p := ⟨g, off + i * 3, none⟩) hg).trans a0, (hb.cell (p := ⟨g, off + i * 3 + 1, none⟩) hg).trans a1, (hb.cell (p := ⟨g, off + i * 3 + 1 + 1, none⟩) hg).trans a2⟩
          obtain ⟨hx1, hx2, hx3⟩ := HOX.out i hlt
          have HNX : Hid (canD (runD D0 l i) l[i] = true → wasD (dD (runD D0 l i) l[i]) l[i] = true → RunI D0 l (i + 1)) := fun h1 h2 => HRI.out.next HPL.out hlt h1 h2
          have HCN := hide3 (duo_can HDU.out (HRI.out.ok i (Nat.le_refl _)).pl l[i] hx1)
          have HDA : Hid (∀ W, Duo w.heap.size W c d (runD D0 l i) (runD D0 l (min i F)) m (fs.length + 2 * i) → Calls Tryz.prog 8 #[.pointer (some ⟨c, 0, none⟩), .agg #[.int .i64 l[i].kd, .string l[i].pa, .string l[i].da]] W fun e w' => e = .returned (.tuple #[]) ∧ Duo w.heap.size w' c d (dD (runD D0 l i) l[i]) (runD D0 l (min i F)) m (fs.length + 2 * i + 1) ∧ Below w.heap.size W w') := fun W hu => duo_does hu (by omega) l[i] hx1 hx2
          have HKI : Hid (∀ W, Duo w.heap.size W c d (dD (runD D0 l i) l[i]) (runD D0 l (min i F)) m (fs.length + 2 * i + 1) → Calls Tryz.prog 9 #[.pointer (some ⟨c, 0, none⟩), .string l[i].pa] W fun e w' => e = .returned (.int .i64 (kindD (dD (runD D0 l i) l[i]) l[i].pa)) ∧ Below W.heap.size W w') := fun W hu => duo_kind hu l[i].pa hx3
          have hii : (i : Int) < (l.length : Int) := by omega
          have hi0 : (0 : Int) ≤ (i : Int) := by omega
          obtain ⟨b0, b1, b2⟩ := HCW.out wr HBR.out
          clear hcs
          generalize hxe : l[i] = x at *
          generalize hE : dD (runD D0 l i) x = E at *
          have HWD : Hid (wasD E x = !((x.kd == 3 && kindD E x.pa != 2) || (x.kd == 4 && kindD E x.pa != 1))) := rfl
          generalize hcd : canD (runD D0 l i) x = cd at *
          generalize hwd : wasD E x = wd at *
          generalize kindD E x.pa = kk at *
          clear hcd hwd
          cases cd
          · clear HWD
            clear HNX hE hxe
            go_wp2_with (first
              | (go_at_call 9; have _t := HU6; refine (HKI.out _ HU6.out).mono ?_; rintro e w7 ⟨rfl, hb7⟩; have HU7 := hide3 (HU6.out.below hb7); have HB7 : Hid (Below w.heap.size w w7) := HB6.out.trans (hb7.mono HB6.out.size); obtain ⟨p0, p1, p2⟩ := HCW.out w7 HB7.out; clear hb7)
              | (go_at_call 8; have _t := HU5; refine (HDA.out _ HU5.out).mono ?_; rintro e w6 ⟨rfl, hu6, hb6⟩; have HU6 := hide3 hu6; have HB6 : Hid (Below w.heap.size w w6) := HB5.out.trans hb6; obtain ⟨q0, q1, q2⟩ := HCW.out w6 HB6.out; clear hu6 hb6)
              | (go_at_call 7; refine HCN.out.mono ?_; rintro e w5 ⟨rfl, hb5⟩; have HU5 := hide3 (HDU.out.below hb5); have HB5 : Hid (Below w.heap.size w w5) := HBR.out.trans (hb5.mono HBR.out.size); obtain ⟨r0, r1, r2⟩ := HCW.out w5 HB5.out; clear hb5))
            go_ret
            exact ⟨rfl, HB5.out⟩
          · cases h3 : (x.kd == 3)
            · cases h4 : (x.kd == 4)
              · have hw : wd = true := by rw [HWD.out, h3, h4]; rfl
                clear HWD
                have HN := hide3 (HNX.out rfl hw)
                have HST : Hid (E = runD D0 l (i + 1)) := by rw [← hE, ← hxe]; exact HN.out.step i hlt (Nat.lt_succ_self _)
                by_cases hfi : i < F
                · have hff : (i : Int) < far := (HF.out i).2 hfi
                  have HDB : Hid (∀ W, Duo w.heap.size W c d E (runD D0 l (min i F)) m (fs.length + 2 * i + 1) → Calls Tryz.prog 8 #[.pointer (some ⟨d, 0, none⟩), .agg #[.int .i64 x.kd, .string x.pa, .string x.da]] W fun e w' => e = .returned (.tuple #[]) ∧ Duo w.heap.size w' c d (runD D0 l (i + 1)) (runD D0 l (min (i + 1) F)) m (fs.length + 2 * (i + 1)) ∧ Below w.heap.size W w') := fun W hu => by
                    refine (duo_does hu.symm (by omega) x hx1 hx2).mono ?_
                    rintro e w' ⟨rfl, h1, h2⟩
                    refine ⟨rfl, ?_, h2⟩
                    rw [Nat.min_eq_left (by omega : i ≤ F), hE, HST.out] at h1
                    rw [Nat.min_eq_left (by omega : i + 1 ≤ F), show fs.length + 2 * (i + 1) = fs.length + 2 * i + 1 + 1 by omega]
                    exact h1.symm
                  clear hw HNX HST hE hxe hfi
                  go_wp2_with (first
                    | (go_at_call 8; have _t := HU7; refine (HDB.out _ HU7.out).mono ?_; rintro e w8 ⟨rfl, hu8, hb8⟩; have HU8 := hide3 hu8; have HB8 : Hid (Below w.heap.size w w8) := HB7.out.trans hb8; clear hu8 hb8)
                    | (go_at_call 9; have _t := HU6; refine (HKI.out _ HU6.out).mono ?_; rintro e w7 ⟨rfl, hb7⟩; have HU7 := hide3 (HU6.out.below hb7); have HB7 : Hid (Below w.heap.size w w7) := HB6.out.trans (hb7.mono HB6.out.size); obtain ⟨p0, p1, p2⟩ := HCW.out w7 HB7.out; clear hb7)
                    | (go_at_call 8; have _t := HU5; refine (HDA.out _ HU5.out).mono ?_; rintro e w6 ⟨rfl, hu6, hb6⟩; have HU6 := hide3 hu6; have HB6 : Hid (Below w.heap.size w w6) := HB5.out.trans hb6; obtain ⟨q0, q1, q2⟩ := HCW.out w6 HB6.out; clear hu6 hb6)
                    | (go_at_call 7; refine HCN.out.mono ?_; rintro e w5 ⟨rfl, hb5⟩; have HU5 := hide3 (HDU.out.below hb5); have HB5 : Hid (Below w.heap.size w w5) := HBR.out.trans (hb5.mono HBR.out.size); obtain ⟨r0, r1, r2⟩ := HCW.out w5 HB5.out; clear hb5))
                  exact ⟨⟨i + 1, by omega, by go_num, HN.out, HU8.out, HB8.out⟩, by simp [intOf]; omega⟩
                · have hff : ¬ ((i : Int) < far) := fun q => hfi ((HF.out i).1 q)
                  have HMN : Hid (min (i + 1) F = min i F) := by unfold Hid; omega
                  clear hw HNX hE hxe hfi
                  go_wp2_with (first
                    | (go_at_call 9; have _t := HU6; refine (HKI.out _ HU6.out).mono ?_; rintro e w7 ⟨rfl, hb7⟩; have HU7 := hide3 (HU6.out.below hb7); have HB7 : Hid (Below w.heap.size w w7) := HB6.out.trans (hb7.mono HB6.out.size); obtain ⟨p0, p1, p2⟩ := HCW.out w7 HB7.out; clear hb7)
                    | (go_at_call 8; have _t := HU5; refine (HDA.out _ HU5.out).mono ?_; rintro e w6 ⟨rfl, hu6, hb6⟩; have HU6 := hide3 hu6; have HB6 : Hid (Below w.heap.size w w6) := HB5.out.trans hb6; obtain ⟨q0, q1, q2⟩ := HCW.out w6 HB6.out; clear hu6 hb6)
                    | (go_at_call 7; refine HCN.out.mono ?_; rintro e w5 ⟨rfl, hb5⟩; have HU5 := hide3 (HDU.out.below hb5); have HB5 : Hid (Below w.heap.size w w5) := HBR.out.trans (hb5.mono HBR.out.size); obtain ⟨r0, r1, r2⟩ := HCW.out w5 HB5.out; clear hb5))
                  exact ⟨⟨i + 1, by omega, by go_num, HN.out, by rw [HMN.out, ← HST.out]; exact HU7.out.more (by omega), HB7.out⟩, by simp [intOf]; omega⟩
              · cases hk1 : (kk != 1)
                · have hw : wd = true := by rw [HWD.out, h3, h4, hk1]; rfl
                  clear HWD
                  have HN := hide3 (HNX.out rfl hw)
                  have HST : Hid (E = runD D0 l (i + 1)) := by rw [← hE, ← hxe]; exact HN.out.step i hlt (Nat.lt_succ_self _)
                  by_cases hfi : i < F
                  · have hff : (i : Int) < far := (HF.out i).2 hfi
                    have HDB : Hid (∀ W, Duo w.heap.size W c d E (runD D0 l (min i F)) m (fs.length + 2 * i + 1) → Calls Tryz.prog 8 #[.pointer (some ⟨d, 0, none⟩), .agg #[.int .i64 x.kd, .string x.pa, .string x.da]] W fun e w' => e = .returned (.tuple #[]) ∧ Duo w.heap.size w' c d (runD D0 l (i + 1)) (runD D0 l (min (i + 1) F)) m (fs.length + 2 * (i + 1)) ∧ Below w.heap.size W w') := fun W hu => by
                      refine (duo_does hu.symm (by omega) x hx1 hx2).mono ?_
                      rintro e w' ⟨rfl, h1, h2⟩
                      refine ⟨rfl, ?_, h2⟩
                      rw [Nat.min_eq_left (by omega : i ≤ F), hE, HST.out] at h1
                      rw [Nat.min_eq_left (by omega : i + 1 ≤ F), show fs.length + 2 * (i + 1) = fs.length + 2 * i + 1 + 1 by omega]
                      exact h1.symm
                    clear hw HNX HST hE hxe hfi
                    go_wp2_with (first
                      | (go_at_call 8; have _t := HU7; refine (HDB.out _ HU7.out).mono ?_; rintro e w8 ⟨rfl, hu8, hb8⟩; have HU8 := hide3 hu8; have HB8 : Hid (Below w.heap.size w w8) := HB7.out.trans hb8; clear hu8 hb8)
                      | (go_at_call 9; have _t := HU6; refine (HKI.out _ HU6.out).mono ?_; rintro e w7 ⟨rfl, hb7⟩; have HU7 := hide3 (HU6.out.below hb7); have HB7 : Hid (Below w.heap.size w w7) := HB6.out.trans (hb7.mono HB6.out.size); obtain ⟨p0, p1, p2⟩ := HCW.out w7 HB7.out; clear hb7)
                      | (go_at_call 8; have _t := HU5; refine (HDA.out _ HU5.out).mono ?_; rintro e w6 ⟨rfl, hu6, hb6⟩; have HU6 := hide3 hu6; have HB6 : Hid (Below w.heap.size w w6) := HB5.out.trans hb6; obtain ⟨q0, q1, q2⟩ := HCW.out w6 HB6.out; clear hu6 hb6)
                      | (go_at_call 7; refine HCN.out.mono ?_; rintro e w5 ⟨rfl, hb5⟩; have HU5 := hide3 (HDU.out.below hb5); have HB5 : Hid (Below w.heap.size w w5) := HBR.out.trans (hb5.mono HBR.out.size); obtain ⟨r0, r1, r2⟩ := HCW.out w5 HB5.out; clear hb5))
                    exact ⟨⟨i + 1, by omega, by go_num, HN.out, HU8.out, HB8.out⟩, by simp [intOf]; omega⟩
                  · have hff : ¬ ((i : Int) < far) := fun q => hfi ((HF.out i).1 q)
                    have HMN : Hid (min (i + 1) F = min i F) := by unfold Hid; omega
                    clear hw HNX hE hxe hfi
                    go_wp2_with (first
                      | (go_at_call 9; have _t := HU6; refine (HKI.out _ HU6.out).mono ?_; rintro e w7 ⟨rfl, hb7⟩; have HU7 := hide3 (HU6.out.below hb7); have HB7 : Hid (Below w.heap.size w w7) := HB6.out.trans (hb7.mono HB6.out.size); obtain ⟨p0, p1, p2⟩ := HCW.out w7 HB7.out; clear hb7)
                      | (go_at_call 8; have _t := HU5; refine (HDA.out _ HU5.out).mono ?_; rintro e w6 ⟨rfl, hu6, hb6⟩; have HU6 := hide3 hu6; have HB6 : Hid (Below w.heap.size w w6) := HB5.out.trans hb6; obtain ⟨q0, q1, q2⟩ := HCW.out w6 HB6.out; clear hu6 hb6)
                      | (go_at_call 7; refine HCN.out.mono ?_; rintro e w5 ⟨rfl, hb5⟩; have HU5 := hide3 (HDU.out.below hb5); have HB5 : Hid (Below w.heap.size w w5) := HBR.out.trans (hb5.mono HBR.out.size); obtain ⟨r0, r1, r2⟩ := HCW.out w5 HB5.out; clear hb5))
                    exact ⟨⟨i + 1, by omega, by go_num, HN.out, by rw [HMN.out, ← HST.out]; exact HU7.out.more (by omega), HB7.out⟩, by simp [intOf]; omega⟩
                · clear HWD
                  clear HNX hE hxe
                  go_wp2_with (first
                    | (go_at_call 9; have _t := HU6; refine (HKI.out _ HU6.out).mono ?_; rintro e w7 ⟨rfl, hb7⟩; have HU7 := hide3 (HU6.out.below hb7); have HB7 : Hid (Below w.heap.size w w7) := HB6.out.trans (hb7.mono HB6.out.size); obtain ⟨p0, p1, p2⟩ := HCW.out w7 HB7.out; clear hb7)
                    | (go_at_call 8; have _t := HU5; refine (HDA.out _ HU5.out).mono ?_; rintro e w6 ⟨rfl, hu6, hb6⟩; have HU6 := hide3 hu6; have HB6 : Hid (Below w.heap.size w w6) := HB5.out.trans hb6; obtain ⟨q0, q1, q2⟩ := HCW.out w6 HB6.out; clear hu6 hb6)
                    | (go_at_call 7; refine HCN.out.mono ?_; rintro e w5 ⟨rfl, hb5⟩; have HU5 := hide3 (HDU.out.below hb5); have HB5 : Hid (Below w.heap.size w w5) := HBR.out.trans (hb5.mono HBR.out.size); obtain ⟨r0, r1, r2⟩ := HCW.out w5 HB5.out; clear hb5))
                  go_ret
                  exact ⟨rfl, HB7.out⟩
            · cases hk2 : (kk != 2)
              · have h4 : (x.kd == 4) = false := by rw [beq_iff_eq.1 h3]; rfl
                have hw : wd = true := by rw [HWD.out, h3, h4, hk2]; rfl
                clear HWD
                have HN := hide3 (HNX.out rfl hw)
                have HST : Hid (E = runD D0 l (i + 1)) := by rw [← hE, ← hxe]; exact HN.out.step i hlt (Nat.lt_succ_self _)
                by_cases hfi : i < F
                · have hff : (i : Int) < far := (HF.out i).2 hfi
                  have HDB : Hid (∀ W, Duo w.heap.size W c d E (runD D0 l (min i F)) m (fs.length + 2 * i + 1) → Calls Tryz.prog 8 #[.pointer (some ⟨d, 0, none⟩), .agg #[.int .i64 x.kd, .string x.pa, .string x.da]] W fun e w' => e = .returned (.tuple #[]) ∧ Duo w.heap.size w' c d (runD D0 l (i + 1)) (runD D0 l (min (i + 1) F)) m (fs.length + 2 * (i + 1)) ∧ Below w.heap.size W w') := fun W hu => by
                    refine (duo_does hu.symm (by omega) x hx1 hx2).mono ?_
                    rintro e w' ⟨rfl, h1, h2⟩
                    refine ⟨rfl, ?_, h2⟩
                    rw [Nat.min_eq_left (by omega : i ≤ F), hE, HST.out] at h1
                    rw [Nat.min_eq_left (by omega : i + 1 ≤ F), show fs.length + 2 * (i + 1) = fs.length + 2 * i + 1 + 1 by omega]
                    exact h1.symm
                  clear hw HNX HST hE hxe hfi
                  go_wp2_with (first
                    | (go_at_call 8; have _t := HU7; refine (HDB.out _ HU7.out).mono ?_; rintro e w8 ⟨rfl, hu8, hb8⟩; have HU8 := hide3 hu8; have HB8 : Hid (Below w.heap.size w w8) := HB7.out.trans hb8; clear hu8 hb8)
                    | (go_at_call 9; have _t := HU6; refine (HKI.out _ HU6.out).mono ?_; rintro e w7 ⟨rfl, hb7⟩; have HU7 := hide3 (HU6.out.below hb7); have HB7 : Hid (Below w.heap.size w w7) := HB6.out.trans (hb7.mono HB6.out.size); obtain ⟨p0, p1, p2⟩ := HCW.out w7 HB7.out; clear hb7)
                    | (go_at_call 8; have _t := HU5; refine (HDA.out _ HU5.out).mono ?_; rintro e w6 ⟨rfl, hu6, hb6⟩; have HU6 := hide3 hu6; have HB6 : Hid (Below w.heap.size w w6) := HB5.out.trans hb6; obtain ⟨q0, q1, q2⟩ := HCW.out w6 HB6.out; clear hu6 hb6)
                    | (go_at_call 7; refine HCN.out.mono ?_; rintro e w5 ⟨rfl, hb5⟩; have HU5 := hide3 (HDU.out.below hb5); have HB5 : Hid (Below w.heap.size w w5) := HBR.out.trans (hb5.mono HBR.out.size); obtain ⟨r0, r1, r2⟩ := HCW.out w5 HB5.out; clear hb5))
                  exact ⟨⟨i + 1, by omega, by go_num, HN.out, HU8.out, HB8.out⟩, by simp [intOf]; omega⟩
                · have hff : ¬ ((i : Int) < far) := fun q => hfi ((HF.out i).1 q)
                  have HMN : Hid (min (i + 1) F = min i F) := by unfold Hid; omega
                  clear hw HNX hE hxe hfi
                  go_wp2_with (first
                    | (go_at_call 9; have _t := HU6; refine (HKI.out _ HU6.out).mono ?_; rintro e w7 ⟨rfl, hb7⟩; have HU7 := hide3 (HU6.out.below hb7); have HB7 : Hid (Below w.heap.size w w7) := HB6.out.trans (hb7.mono HB6.out.size); obtain ⟨p0, p1, p2⟩ := HCW.out w7 HB7.out; clear hb7)
                    | (go_at_call 8; have _t := HU5; refine (HDA.out _ HU5.out).mono ?_; rintro e w6 ⟨rfl, hu6, hb6⟩; have HU6 := hide3 hu6; have HB6 : Hid (Below w.heap.size w w6) := HB5.out.trans hb6; obtain ⟨q0, q1, q2⟩ := HCW.out w6 HB6.out; clear hu6 hb6)
                    | (go_at_call 7; refine HCN.out.mono ?_; rintro e w5 ⟨rfl, hb5⟩; have HU5 := hide3 (HDU.out.below hb5); have HB5 : Hid (Below w.heap.size w w5) := HBR.out.trans (hb5.mono HBR.out.size); obtain ⟨r0, r1, r2⟩ := HCW.out w5 HB5.out; clear hb5))
                  exact ⟨⟨i + 1, by omega, by go_num, HN.out, by rw [HMN.out, ← HST.out]; exact HU7.out.more (by omega), HB7.out⟩, by simp [intOf]; omega⟩
              · clear HWD
                clear HNX hE hxe
                go_wp2_with (first
                  | (go_at_call 9; have _t := HU6; refine (HKI.out _ HU6.out).mono ?_; rintro e w7 ⟨rfl, hb7⟩; have HU7 := hide3 (HU6.out.below hb7); have HB7 : Hid (Below w.heap.size w w7) := HB6.out.trans (hb7.mono HB6.out.size); obtain ⟨p0, p1, p2⟩ := HCW.out w7 HB7.out; clear hb7)
                  | (go_at_call 8; have _t := HU5; refine (HDA.out _ HU5.out).mono ?_; rintro e w6 ⟨rfl, hu6, hb6⟩; have HU6 := hide3 hu6; have HB6 : Hid (Below w.heap.size w w6) := HB5.out.trans hb6; obtain ⟨q0, q1, q2⟩ := HCW.out w6 HB6.out; clear hu6 hb6)
                  | (go_at_call 7; refine HCN.out.mono ?_; rintro e w5 ⟨rfl, hb5⟩; have HU5 := hide3 (HDU.out.below hb5); have HB5 : Hid (Below w.heap.size w w5) := HBR.out.trans (hb5.mono HBR.out.size); obtain ⟨r0, r1, r2⟩ := HCW.out w5 HB5.out; clear hb5))
                go_ret
                exact ⟨rfl, HB7.out⟩
        · obtain rfl : i = l.length := by omega
          have hii : ¬ ((l.length : Int) < (l.length : Int)) := by omega
          obtain ⟨G, hG⟩ : ∃ G, G = min l.length F := ⟨_, rfl⟩
          have hGl : G ≤ l.length := by omega
          rw [← hG] at HDU
          have HBR2 := hide3 HBR.out
          clear hG HF
          go_wp2_with fail
          go_loopw [13] (fun v13 wr => ∃ j : Nat, j ≤ l.length ∧ v13 = .int .i64 j ∧ Duo w.heap.size wr c d (runD D0 l l.length) (runD D0 l (max G j)) m (fs.length + 2 * l.length + j) ∧ Below w.heap.size w wr) (fun v13 _ => l.length - (intOf v13).toNat)
          case atStart => exact ⟨0, Nat.zero_le _, rfl, by rw [Nat.max_eq_left (Nat.zero_le _)]; exact HDU.out, HBR2.out⟩
          case round =>
            clear HDU HBR HBR2
            obtain ⟨j, hj, rfl, hduo, hbr⟩ := hrel
            have HDU := hide3 hduo
            have HBR := hide3 hbr
            clear hduo hbr
            by_cases hjl : j < l.length
            · obtain ⟨g, off, rfl, hg, hcs⟩ : ∃ g off, a = some ⟨g, off, none⟩ ∧ g < w.heap.size ∧ DesIn w g off l := by
                rcases HDW.out w (Below.refl _ _) with h | h
                · rw [h] at hjl; exact absurd hjl (Nat.not_lt_zero _)
                · exact h
              obtain ⟨b0, b1, b2⟩ : wr.cell? ⟨g, off + j * 3, none⟩ = some (.int .i64 l[j].kd) ∧ wr.cell? ⟨g, off + j * 3 + 1, none⟩ = some (.string l[j].pa) ∧ wr.cell? ⟨g, off + j * 3 + 1 + 1, none⟩ = some (.string l[j].da) := by
                obtain ⟨a0, a1, a2⟩ := hcs j hjl
                exact ⟨(HBR.out.cell (p := ⟨g, off + j * 3, none⟩) hg).trans a0, (HBR.out.cell (p := ⟨g, off + j * 3 + 1, none⟩) hg).trans a1, (HBR.out.cell (p := ⟨g, off + j * 3 + 1 + 1, none⟩) hg).trans a2⟩
              obtain ⟨hx1, hx2, _⟩ := HOX.out j hjl
              have HDB : Hid (Calls Tryz.prog 8 #[.pointer (some ⟨d, 0, none⟩), .agg #[.int .i64 l[j].kd, .string l[j].pa, .string l[j].da]] wr fun e w' => e = .returned (.tuple #[]) ∧ Duo w.heap.size w' c d (runD D0 l l.length) (runD D0 l (max G (j + 1))) m (fs.length + 2 * l.length + (j + 1)) ∧ Below w.heap.size wr w') := by
                refine (duo_does HDU.out.symm (by omega) l[j] hx1 hx2).mono ?_
                rintro e w' ⟨rfl, h1, h2⟩
                rw [HRI.out.again hGl hjl] at h1
                exact ⟨rfl, h1.symm, h2⟩
              have hji : (j : Int) < (l.length : Int) := by omega
              have hj0 : (0 : Int) ≤ (j : Int) := by omega
              clear hcs hx1 hx2
              generalize l[j].kd = kd at *
              generalize l[j].pa = p at *
              generalize l[j].da = t at *
              go_wp2_with (go_at_call 8; refine HDB.out.mono ?_; rintro e w8 ⟨rfl, hu8, hb8⟩; have HU8 := hide3 hu8; have HB8 : Hid (Below w.heap.size w w8) := HBR.out.trans hb8; clear hu8 hb8)
              exact ⟨⟨j + 1, by omega, by go_num, HU8.out, HB8.out⟩, by simp [intOf]; omega⟩
            · obtain rfl : j = l.length := by omega
              have hji : ¬ ((l.length : Int) < (l.length : Int)) := by omega
              rw [Nat.max_eq_right hGl] at HDU
              have HA1 := hide3 (duo_all HDU.out (by omega))
              have HA2 : Hid (∀ W, Below wr.heap.size wr W → Calls Tryz.prog 11 #[.pointer (some ⟨d, 0, none⟩)] W (AllQ17 W (filesD (runD D0 l l.length)))) := fun W hb => duo_all (HDU.out.below hb).symm (by omega)
              have HFL : Hid ((filesD (runD D0 l l.length)).length ≤ 2199023255552) := duo_len HDU.out (by omega)
              generalize filesD (runD D0 l l.length) = fl at *
              clear HRI HDU
              go_wp2_with (first
                | (go_at_call 10; have _t := HR6; refine (files17 fl HFL.out HR5.out HR6.out).mono ?_; rintro e w7 ⟨rfl, hb7⟩; have HB7 : Hid (Below w.heap.size w w7) := HB6.out.trans (hb7.mono HB6.out.size); clear hb7)
                | (go_at_call 11; have _t := HR4; refine (HA2.out _ HC4.out).mono ?_; intro e w6 hq; obtain ⟨a6, n6, c6, rfl, hn6, hr6, hb6⟩ := hq; obtain rfl := hn6; have HR6 := hide3 hr6; have HR5 := hide3 (rowP_below HR4.out hb6); have HB6 : Hid (Below w.heap.size w w6) := HB5.out.trans (hb6.mono HB5.out.size); clear hb6 hr6)
                | (go_at_call 11; refine HA1.out.mono ?_; intro e w5 hq; obtain ⟨a5, n5, c5, rfl, hn5, hr5, hb5⟩ := hq; obtain rfl := hn5; have HC4 := hide3 hb5; have HR4 := hide3 hr5; have HB5 : Hid (Below w.heap.size w w5) := HBR.out.trans (hb5.mono HBR.out.size); clear hb5 hr5))
              go_ret
              exact ⟨rfl, HB7.out⟩
    · rw [(prn_no hp).2] at HCH
      clear hp hL hm hc hz HMW HDW
      generalize l.length = n at *
      go_enter Tryz.func3, Tryz.ntmps3
      go_wp2_with (first
        | (go_at_call 6; have _t := HB3; refine (HCH.out _ HB3.out).mono ?_; rintro e w4 ⟨rfl, hb4⟩; have HB4 : Hid (Below w.heap.size w w4) := HB3.out.trans (hb4.mono HB3.out.size); clear hb4)
        | (go_at_call 5; have _t := HB2; refine (HLY.out _ HB2.out).mono ?_; intro e w3 hq; obtain ⟨n3, rfl, hb3, hn3, hi3⟩ := hq; have HB3 : Hid (Below w.heap.size w w3) := HB2.out.trans (hb3.mono HB2.out.size); clear hb3 hi3 hn3)
        | (go_at_call 5; have _t := HB1; refine (HLY.out _ HB1.out).mono ?_; intro e w2 hq; obtain ⟨n2, rfl, hb2, hn2, hi2⟩ := hq; have HB2 : Hid (Below w.heap.size w w2) := HB1.out.trans (hb2.mono HB1.out.size); clear hb2 hi2 hn2)
        | (go_at_call 4; refine HK.out.mono ?_; rintro e w1 ⟨rfl, hb1⟩; have HB1 := hide3 hb1; clear hb1))
      go_ret
      exact ⟨rfl, HB4.out⟩
  · have HLN : Hid (∀ W, Below w.heap.size w W → Calls Tryz.prog 5 #[.slice b fs.length cb] W fun e w' => e = .returned (.tuple #[.pointer none, .int .i64 1]) ∧ Below W.heap.size W w') := fun W hb => (HLD.out W hb).mono fun e w' ⟨h1, h2⟩ => by
      rcases h2 with ⟨h3, _⟩ | ⟨_, h3⟩
      · exact absurd h3 hL
      · exact ⟨h3, h1⟩
    clear HLD hcf hzf hL hm hc hz HMW HDW HCH
    generalize fs.length = n at *
    go_enter Tryz.func3, Tryz.ntmps3
    go_wp2_with (first
      | (go_at_call 5; have _t := HB2; refine (HLN.out _ HB2.out).mono ?_; rintro e w3 ⟨rfl, hb3⟩; have HB3 : Hid (Below w.heap.size w w3) := HB2.out.trans (hb3.mono HB2.out.size); clear hb3)
      | (go_at_call 5; have _t := HB1; refine (HLN.out _ HB1.out).mono ?_; rintro e w2 ⟨rfl, hb2⟩; have HB2 : Hid (Below w.heap.size w w2) := HB1.out.trans (hb2.mono HB1.out.size); clear hb2)
      | (go_at_call 4; refine HK.out.mono ?_; rintro e w1 ⟨rfl, hb1⟩; have HB1 := hide3 hb1; clear hb1))
    go_ret
    exact ⟨rfl, HB3.out⟩
end Go.Proofs.YtefcndfeemnglaaGreatDoor
