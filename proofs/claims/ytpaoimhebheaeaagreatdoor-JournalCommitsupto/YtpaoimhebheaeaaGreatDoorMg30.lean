/- Jl8, laid in one text. -/
import Derived.Test.YtpaoimhebheaeaaGreatDoorMg29
namespace Go.Proofs.YtpaoimhebheaeaaGreatDoor
open Go.RowKit Go.Maps Go.WideMaps Go.WideElems Dk
set_option maxRecDepth 100000

/-- Numbers in memory. -/
def IsInts (w : World) (a : Option Addr) (cs : List Int) : Prop := cs = [] ∨ ∃ g off, a = some ⟨g, off, none⟩ ∧ g < w.heap.size ∧ ∀ i (hi : i < cs.length), w.cell? ⟨g, off + i, none⟩ = some (.int .i64 cs[i])
theorem IsInts.below {w w' : World} {a : Option Addr} {cs : List Int} (h : IsInts w a cs) (hb : Below w.heap.size w w') : IsInts w' a cs := by
  rcases h with h | ⟨g, off, rfl, hg, hc⟩
  · exact Or.inl h
  · exact Or.inr ⟨g, off, rfl, Nat.lt_of_lt_of_le hg hb.size, fun i hi => (hb.cell (p := ⟨g, off + i, none⟩) hg).trans (hc i hi)⟩
/-- The plan's text is of an ordinary size. -/
def Ord18 (x : Ab) : Prop := (readT x.D pP).size ≤ 4194304 ∧ (parO (readT x.D pP)).2.length ≤ 1048576
theorem ord_empty {x : Ab} (h : readT x.D pP = ByteArray.empty) : Ord18 x := by
  unfold Ord18
  rw [h, par_empty]
  exact ⟨by decide, by decide⟩
theorem ord_rec {x : Ab} (h : Ord18 x) : Ord18 (recA x).2 := by
  rcases rec_read x with e | e
  · unfold Ord18; rw [e]; exact h
  · exact ord_empty e
theorem commit_bad {l : List De} {x : Ab} (h : ¬ Plan l) : (commitA l x).2 = x := by
  unfold commitA
  split
  · rfl
  · split
    · rfl
    · rw [if_pos (canR_no h)]
theorem ord_commit {l : List De} {x : Ab} (hf : Fine x) (h : Ord18 x) (h1 : (textD l).size ≤ 4194304) (h2 : l.length ≤ 1048576) : Ord18 (commitA l x).2 := by
  by_cases hp : Plan l
  · rcases commit_read (l := l) hf with e | e | e
    · unfold Ord18; rw [e]; exact h
    · exact ord_empty e
    · unfold Ord18
      rw [e, parO_text hp]
      exact ⟨h1, h2⟩
  · rw [commit_bad hp]; exact h
theorem commit_KL {B : Nat} {w : World} {e : Nat} {lv rv : Value} {x : Ab} {k : Nat} (h : RefK B w e lv rv x k) (l : List De) (a : Option Addr) (cap : Nat) (hd : ∀ W, Upd (FootR e lv rv) w W → IsDes W a l) (hz : ∀ d ∈ l, d.pa.size ≤ maxLen ∧ d.da.size ≤ 100000000) (hsz : (textD l).size ≤ 4194304) (hl : l.length ≤ 8388608) (hk : k + l.length + 8 < 2199023255552) :
    Calls Tryz.prog 13 #[.pointer (some ⟨e, 0, none⟩), .slice a l.length cap] w fun e' w' => e' = .returned (.int .i64 (commitA l x).1) ∧ RefT B w e lv rv (commitA l x).2 (k + l.length + 6) w' := commit_K h l a cap hd hz (by omega) hl hk
theorem Bth.commit {w0 w : World} {d e : Nat} {x : Ab} {m : Int} {k : Nat} (h : Bth w0.heap.size w d e x m k) (l : List De) (a : Option Addr) (cap : Nat) (hd : IsDes w0 a l) (hb : Below w0.heap.size w0 w) (hz : ∀ d ∈ l, d.pa.size ≤ maxLen ∧ d.da.size ≤ 100000000) (hsz : (textD l).size ≤ 4194304) (hl : l.length ≤ 8388608) (hk : k + l.length + 8 < 2199023255552) :
    Calls Tryz.prog 12 #[.pointer (some ⟨d, 0, none⟩), .slice a l.length cap] w fun e1 w1 => e1 = .returned (.int .i64 (commitA l x).1) ∧ Calls Tryz.prog 13 #[.pointer (some ⟨e, 0, none⟩), .slice a l.length cap] w1 fun e2 w2 => e2 = .returned (.int .i64 (commitA l x).1) ∧ Bth w0.heap.size w2 d e (commitA l x).2 m (k + l.length + 6) ∧ Below w0.heap.size w w2 :=
  h.call (fun _ _ _ hp => commit_P hp l a cap (des_old hd hb rfl hp) hz hsz hl hk) (fun _ _ _ hb2 hr => commit_KL hr l a cap (fun _ hu => hd.below ((hb.trans hb2).trans (hu.below hr.base fun _ hi => (hr.ref.foot_lt hi).2))) hz hsz hl hk)

/-- The same call on both, with what lies between. -/
theorem Bth.callb {B : Nat} {w : World} {d e : Nat} {x y : Ab} {m : Int} {k k2 : Nat} (h : Bth B w d e x m k) {fd fr : Nat} {ad ar : Array Value} {Ed Er : Ending}
    (hd : ∀ mb n rv, PrgK B w d mb n rv x m k → Calls Tryz.prog fd ad w fun e' w' => e' = Ed ∧ PrgT B w d mb rv y m k2 w')
    (hr : ∀ W lv rw', Below B w W → RefK B W e lv rw' x k → Calls Tryz.prog fr ar W fun e' w' => e' = Er ∧ RefT B W e lv rw' y k2 w') :
    Calls Tryz.prog fd ad w fun e1 w1 => e1 = Ed ∧ Below B w w1 ∧ Calls Tryz.prog fr ar w1 fun e2 w2 => e2 = Er ∧ Bth B w2 d e y m k2 ∧ Below B w w2 := by
  obtain ⟨mb, n, rv, lv, rw', h1, h2, h3⟩ := h
  refine (hd mb n rv h1).mono ?_
  rintro e1 w1 ⟨he1, n1, rv1, p1, u1, j1⟩
  have hb1 : Below B w w1 := u1.below h1.base fun i hi => (h1.disk.foot_lt hi).2
  have r1 : RefK B w1 e lv rw' x k := ⟨h2.ref.upd u1 fun j q f => h3 j f q, h2.fine, h2.lf, h2.lr, Nat.le_trans h2.base u1.size⟩
  refine ⟨he1, hb1, (hr w1 lv rw' hb1 r1).mono ?_⟩
  rintro e2 w2 ⟨he2, lv2, rw2, p2, u2, j2⟩
  have hb2 : Below B w1 w2 := u2.below r1.base fun i hi => (r1.ref.foot_lt hi).2
  have hnf : ∀ j, Foot d mb rv1 j → ¬ FootR e lv rw' j := fun j f g => by
    rcases j1 j f with q | q
    · exact h3 j q g
    · have := (h2.ref.foot_lt g).1
      omega
  refine ⟨he2, ⟨mb, n1, rv1, lv2, rw2, ⟨p1.disk.upd u2 hnf, p1.fine, p1.de, p1.lf, p1.lr, (hb2.cell (p := ⟨0, 0, none⟩) h1.zero).trans p1.max, Nat.le_trans p1.base u2.size, p1.zero⟩, p2, fun j f g => ?_⟩, hb1.trans hb2⟩
  rcases j2 j g with q | q
  · exact hnf j f q
  · have := (p1.disk.foot_lt f).1
    omega
theorem Bth.cutb {B : Nat} {w : World} {d e : Nat} {x : Ab} {m : Int} {k : Nat} (h : Bth B w d e x m k) (z : Int) (hz : z ≤ 9223372036854775807) :
    Calls Tryz.prog 10 #[.pointer (some ⟨d, 0, none⟩), .int .i64 z] w fun e1 w1 => e1 = .returned (.int .i64 (cutE x.left z)) ∧ Below B w w1 ∧ Calls Tryz.prog 11 #[.pointer (some ⟨e, 0, none⟩), .int .i64 z] w1 fun e2 w2 => e2 = .returned (.int .i64 (cutE x.left z)) ∧ Bth B w2 d e { x with left := cutL x.left z } m (k + 1) ∧ Below B w w2 :=
  h.callb (fun _ _ _ hp => pCut hp z hz) (fun _ _ _ _ hr => rCutK hr z hz)

set_option maxHeartbeats 4000000 in
theorem journalCommits_walk (fs : List Fl) (a : Option Addr) (cap : Nat) (l : List De) (al : Option Addr) (capl : Nat) (cs : List Int) (ac : Option Addr) (capc : Nat) (m : Int) (w : World) (hm : w.cell? ⟨0, 0, none⟩ = some (.int .i64 m)) (hlen : fs.length ≤ 1048576) (hc : IsFiles w a fs) (hz : ∀ f ∈ fs, f.1.size ≤ maxLen ∧ f.2.2.size ≤ 1048576) (hd : IsDes w al l) (hzd : ∀ d ∈ l, d.pa.size ≤ maxLen ∧ d.da.size ≤ 100000000) (hsz : (textD l).size ≤ 4194304) (hl : l.length ≤ 1048576) (hi : IsInts w ac cs) (hci : ∀ z ∈ cs, z ≤ 9223372036854775807) (hcl : cs.length ≤ 1048576) :
    Calls Tryz.prog 3 #[.slice a fs.length cap, .slice al l.length capl, .slice ac cs.length capc] w fun e' w' => e' = .returned (.bool true) ∧ Below w.heap.size w w' := by
  have HDK := hide3 (disks_any fs a cap m w hm hlen hc fun f hf => ⟨(hz f hf).1, Nat.le_trans (hz f hf).2 (by decide)⟩)
  have HLV : Hid (∀ W, Below w.heap.size w W → Calls Tryz.prog 9 #[] W fun e' w' => e' = .returned (.bool true) ∧ Below W.heap.size W w') := fun W hb => lives18_any m W ((hb.cell (p := ⟨0, 0, none⟩) (cell_lt hm)).trans hm)
  by_cases hL : Loads fs
  · have hf0 := (loads_fine hL).1
    have hrd : (readT (loadD fs) pP).size ≤ 1048576 := read_load hL (fun f hf => (hz f hf).2) pP
    have ho0 : ∀ lz, Ord18 ⟨loadD fs, [], lz⟩ := fun lz => ⟨Nat.le_trans hrd (by decide), Nat.le_trans (parO_sizes _).1 hrd⟩
    have HCM : Hid (∀ W d e lz, -1 ≤ lz ∧ lz ≤ 9223372036854775807 → Below w.heap.size w W → Bth w.heap.size W d e ⟨loadD fs, [], lz⟩ m 1048577 → Calls Tryz.prog 12 #[.pointer (some ⟨d, 0, none⟩), .slice al l.length capl] W fun e1 w1 => e1 = .returned (.int .i64 (commitA l ⟨loadD fs, [], lz⟩).1) ∧ Calls Tryz.prog 13 #[.pointer (some ⟨e, 0, none⟩), .slice al l.length capl] w1 fun e2 w2 => e2 = .returned (.int .i64 (commitA l ⟨loadD fs, [], lz⟩).1) ∧ (Bth w.heap.size w2 d e (commitA l ⟨loadD fs, [], lz⟩).2 m 2097160 ∧ Ord18 (commitA l ⟨loadD fs, [], lz⟩).2) ∧ Below w.heap.size W w2) := fun W d e lz hlz hb hB => by
      refine (hB.commit l al capl hd hb hzd hsz (by omega) (by omega)).mono ?_
      rintro e1 w1 ⟨he, hc⟩
      refine ⟨he, hc.mono ?_⟩
      rintro e2 w2 ⟨he2, hb2, hb3⟩
      exact ⟨he2, ⟨hb2.more (by omega), ord_commit ⟨hf0.pl, hf0.so, hlz.1, hlz.2⟩ (ho0 lz) hsz (by omega)⟩, hb3⟩
    have HRC : Hid (∀ W d e x k, k + 1048580 < 2199023255552 → Ord18 x → Bth w.heap.size W d e x m k → Calls Tryz.prog 17 #[.pointer (some ⟨d, 0, none⟩)] W fun e1 w1 => e1 = .returned (.int .i64 (recA x).1) ∧ Calls Tryz.prog 18 #[.pointer (some ⟨e, 0, none⟩)] w1 fun e2 w2 => e2 = .returned (.int .i64 (recA x).1) ∧ (Bth w.heap.size w2 d e (recA x).2 m (k + 1048579) ∧ Ord18 (recA x).2) ∧ Below w.heap.size W w2) := fun W d e x k hk ho hB => by
      obtain ⟨o1, o2⟩ := ho
      refine (hB.recov o1 (by omega)).mono ?_
      rintro e1 w1 ⟨he, hc⟩
      refine ⟨he, hc.mono ?_⟩
      rintro e2 w2 ⟨he2, hb2, hb3⟩
      exact ⟨he2, ⟨hb2.more (by omega), ord_rec ⟨o1, o2⟩⟩, hb3⟩
    have HLE : Hid (fs.length ≤ 1048576) := hlen
    have HIN : Hid (∀ W, Below w.heap.size w W → IsInts W ac cs) := fun W hb => hi.below hb
    have HCI := hide3 hci
    have HLL := hide3 hL
    clear hL hc hz hd hzd hsz hf0 hrd ho0 hi hci
    have hcl2 : cs.length ≤ 1048576 := hcl
    by_cases hc0 : cs.length = 0
    · have hcd : decide (0 < (cs.length : Int)) = false := by rw [hc0]; rfl
      have hcn : decide (0 < cs.length) = false := by rw [hc0]; rfl
      have HCM2 := hide3 (fun W d e => HCM.out W d e (-1) ⟨by decide, by decide⟩)
      clear HCM hc0
      generalize commitA l ⟨loadD fs, [], -1⟩ = Y1 at *
      obtain ⟨c1, y1⟩ := Y1
      simp only at HCM2
      have hcc1 : (c1 != c1) = false := by simp
      go_enter Tryz.func3, Tryz.ntmps3
      go_wp2_with (go_at_call 8; refine HDK.out.mono ?_; rintro e1 w1 ⟨hb1, hq1⟩; obtain ⟨_, d1, r1, rfl, ht1⟩ := hq1.resolve_right (fun h => h.1 HLL.out); have HB1 := hide3 hb1; have HT1 := hide3 ((ht1.more HLE.out).more (Nat.le_succ _)); clear hb1 ht1 hq1)
      go_quiet (fail)
      have HBX := hide3 (below_draws18 HB1.out nq)
      have HTX := hide3 (HT1.out.below (below_draws18 (Below.refl _ _) nq))
      clear HB1 HT1
      generalize w1.drewN nq = WX at *
      go_wp2_with (first
        | (go_at_call 14; have _t := HB3; refine (alike_any HT3.out.1 (by decide)).mono ?_; rintro e4 w4 ⟨rfl, hb4⟩; have HB4 := hide3 (HB3.out.trans (hb4.mono HB3.out.size)); have HT4 := hide3 (HT3.out.1.below hb4); have HO4 := hide3 HT3.out.2; clear hb4)
        | (go_at_call 13; have _t := HC2; refine HC2.out.mono ?_; rintro e3 w3 ⟨rfl, ht3, hb3⟩; have HT3 := hide3 ht3; have HB3 := hide3 (HBX.out.trans hb3); clear ht3 hb3)
        | (go_at_call 12; refine (HCM2.out _ _ _ HBX.out HTX.out).mono ?_; rintro e2 w2 ⟨rfl, hc2⟩; have HC2 := hide3 hc2; clear hc2))
      clear HCM2 HTX HC2 HT3 HB3 HBX
      go_loopw [11] (fun v11 wr => ∃ i : Nat, 1 ≤ i ∧ i ≤ cs.length + 1 ∧ v11 = .int .i64 i ∧ Below w.heap.size w wr ∧ ∃ x, Bth w.heap.size wr d1 r1 x m (2097160 + i * 1048600) ∧ Ord18 x) (fun v11 _ => cs.length + 1 - (intOf v11).toNat)
      case atStart => exact ⟨1, Nat.le_refl _, by omega, rfl, HB4.out, y1, HT4.out.more (by omega), HO4.out⟩
      case round =>
        obtain ⟨i, hi1, hi2, rfl, hbr, x, htx, hox⟩ := hrel
        have HBR := hide3 hbr
        have HTR := hide3 htx
        have HOR := hide3 hox
        clear hbr htx hox HB4 HT4 HO4
        by_cases hle : i ≤ cs.length
        · have hii : (i : Int) ≤ (cs.length : Int) := by omega
          have hid : decide ((i : Int) ≤ (cs.length : Int)) = true := decide_eq_true hii
          have HUP := hide3 HTR.out.up
          have HO2 : Hid (Ord18 { x with left := -1 }) := HOR.out
          generalize ({ x with left := -1 } : Ab) = x2 at *
          by_cases hlt : i < cs.length
          · obtain ⟨g, off, hgo, hg, hcs⟩ : ∃ g off, ac = some ⟨g, off, none⟩ ∧ g < w.heap.size ∧ ∀ j (hj : j < cs.length), w.cell? ⟨g, off + j, none⟩ = some (.int .i64 cs[j]) := by
              rcases HIN.out w (Below.refl _ _) with q | q
              · rw [q] at hlt; exact absurd hlt (Nat.not_lt_zero _)
              · exact q
            cases hgo
            have HCE : Hid (∀ W, Below w.heap.size w W → W.cell? ⟨g, off + i, none⟩ = some (.int .i64 cs[i])) := fun W hb => (hb.cell (p := ⟨g, off + i, none⟩) hg).trans (hcs i hlt)
            have HZI : Hid (cs[i] ≤ 9223372036854775807) := HCI.out _ (List.getElem_mem hlt)
            have hlti : (i : Int) < (cs.length : Int) := by omega
            have hltd : decide ((i : Int) < (cs.length : Int)) = true := decide_eq_true hlti
            have hltn : decide (i < cs.length) = true := decide_eq_true hlt
            have hi0 : (0 : Int) ≤ (i : Int) := by omega
            clear hcs hg
            generalize cs[i] = z at *
            go_wp2_with (first
              | (go_at_call 16; have _t := HC5; refine HC5.out.mono ?_; rintro e6 w6 ⟨rfl, ht6, hb6⟩; have HT6 := hide3 ht6; have HB6 := hide3 (HBR.out.trans hb6); clear ht6 hb6)
              | (go_at_call 15; refine HUP.out.mono ?_; rintro e5 w5 ⟨rfl, hc5⟩; have HC5 := hide3 hc5; clear hc5))
            have q0 := HCE.out w6 HB6.out
            have HCU := hide3 ((HT6.out.below (Below.refl _ _).drew).cutb z HZI.out)
            have HO3 : Hid (Ord18 { x2 with left := cutL x2.left z }) := HO2.out
            generalize ({ x2 with left := cutL x2.left z } : Ab) = x3 at *
            have hce : (cutE x2.left z != cutE x2.left z) = false := by simp
            generalize cutE x2.left z = ce at *
            have HRC3 := hide3 (fun W => HRC.out W d1 r1 x3 (2097160 + i * 1048600 + 1 + 1) (by omega) HO3.out)
            generalize recA x3 = R3 at *
            obtain ⟨c7, y7⟩ := R3
            simp only at HRC3
            have hcc : (c7 != c7) = false := by simp
            go_region_held3 (fun w' => w'.cell? ⟨g, off + i, none⟩ = some (.int .i64 z)) (go_keep)
              (first
                | (go_at_call 11; have _t := HC7; refine HC7.out.mono ?_; rintro e8 w8 ⟨rfl, ht8, hb8⟩; have HT8 := hide3 ht8; have HB8 := hide3 (HB6.out.drew.trans hb8); have q2 := HCE.out w8 HB8.out; clear ht8 hb8)
                | (go_at_call 10; refine HCU.out.mono ?_; rintro e7 w7 ⟨rfl, hb7, hc7⟩; have HC7 := hide3 hc7; have q1 := HCE.out w7 (HB6.out.drew.trans hb7); clear hc7 hb7))
            have HBY := HB8
            have HTY := HT8
            go_wp2_with (first
              | (go_at_call 14; have _t := HB10; refine (alike_any HT10.out.1 (by omega)).mono ?_; rintro e11 w11 ⟨rfl, hb11⟩; have HB11 := hide3 (HB10.out.trans (hb11.mono HB10.out.size)); have HT11 := hide3 (HT10.out.1.below hb11); have HO11 := hide3 HT10.out.2; clear hb11)
              | (go_at_call 18; have _t := HC9; refine HC9.out.mono ?_; rintro e10 w10 ⟨rfl, ht10, hb10⟩; have HT10 := hide3 ht10; have HB10 := hide3 (HBY.out.trans hb10); clear ht10 hb10)
              | (go_at_call 17; refine (HRC3.out _ HTY.out).mono ?_; rintro e9 w9 ⟨rfl, hc9⟩; have HC9 := hide3 hc9; clear hc9))
            exact ⟨⟨i + 1, by omega, by omega, by go_num, HB11.out, y7, HT11.out.more (by omega), HO11.out⟩, by first | (simp [intOf]; done) | (simp [intOf]; omega)⟩
          · obtain rfl : i = cs.length := by omega
            have hlti : ¬ ((cs.length : Int) < (cs.length : Int)) := by omega
            have hltd : decide ((cs.length : Int) < (cs.length : Int)) = false := decide_eq_false hlti
            have hltn : decide (cs.length < cs.length) = false := decide_eq_false (Nat.lt_irrefl _)
            have HRC3 := hide3 (fun W => HRC.out W d1 r1 x2 (2097160 + cs.length * 1048600 + 1) (by omega) HO2.out)
            generalize recA x2 = R3 at *
            obtain ⟨c7, y7⟩ := R3
            simp only at HRC3
            have hcc : (c7 != c7) = false := by simp
            go_wp2_with (first
              | (go_at_call 16; have _t := HC5; refine HC5.out.mono ?_; rintro e6 w6 ⟨rfl, ht6, hb6⟩; have HT6 := hide3 ht6; have HB6 := hide3 (HBR.out.trans hb6); clear ht6 hb6)
              | (go_at_call 15; refine HUP.out.mono ?_; rintro e5 w5 ⟨rfl, hc5⟩; have HC5 := hide3 hc5; clear hc5))
            go_quiet (fail)
            have HBY := hide3 (below_draws18 HB6.out nq)
            have HTY := hide3 (HT6.out.below (below_draws18 (Below.refl _ _) nq))
            clear HB6 HT6
            generalize w6.drewN nq = WY at *
            go_wp2_with (first
              | (go_at_call 14; have _t := HB10; refine (alike_any HT10.out.1 (by omega)).mono ?_; rintro e11 w11 ⟨rfl, hb11⟩; have HB11 := hide3 (HB10.out.trans (hb11.mono HB10.out.size)); have HT11 := hide3 (HT10.out.1.below hb11); have HO11 := hide3 HT10.out.2; clear hb11)
              | (go_at_call 18; have _t := HC9; refine HC9.out.mono ?_; rintro e10 w10 ⟨rfl, ht10, hb10⟩; have HT10 := hide3 ht10; have HB10 := hide3 (HBY.out.trans hb10); clear ht10 hb10)
              | (go_at_call 17; refine (HRC3.out _ HTY.out).mono ?_; rintro e9 w9 ⟨rfl, hc9⟩; have HC9 := hide3 hc9; clear hc9))
            exact ⟨⟨cs.length + 1, by omega, by omega, by go_num, HB11.out, y7, HT11.out.more (by omega), HO11.out⟩, by first | (simp [intOf]; done) | (simp [intOf]; omega)⟩
        · obtain rfl : i = cs.length + 1 := by omega
          have hii : ¬ (((cs.length + 1 : Nat) : Int) ≤ (cs.length : Int)) := by omega
          have hid : decide (((cs.length + 1 : Nat) : Int) ≤ (cs.length : Int)) = false := decide_eq_false hii
          go_wp2_with (go_at_call 9; refine (HLV.out _ HBR.out).mono ?_; rintro e9 w9 ⟨rfl, hb9⟩; have HB9 := hide3 (HBR.out.trans (hb9.mono HBR.out.size)); clear hb9)
          go_ret
          exact ⟨rfl, HB9.out⟩
    · have hcd : decide (0 < (cs.length : Int)) = true := decide_eq_true (by omega)
      have hcn : decide (0 < cs.length) = true := decide_eq_true (by omega)
      have hc1 : (0 : Int) < (cs.length : Int) := by omega
      have hc2 : 0 < cs.length := by omega
      obtain ⟨g0, off0, hac, hg0, hcs0⟩ : ∃ g off, ac = some ⟨g, off, none⟩ ∧ g < w.heap.size ∧ ∀ j (hj : j < cs.length), w.cell? ⟨g, off + j, none⟩ = some (.int .i64 cs[j]) := by
        rcases HIN.out w (Below.refl _ _) with q | q
        · rw [q] at hc0; exact absurd rfl hc0
        · exact q
      have HCE0 : Hid (∀ W, Below w.heap.size w W → W.cell? ⟨g0, off0, none⟩ = some (.int .i64 (cs[0]'(by omega)))) := fun W hb => (hb.cell (p := ⟨g0, off0, none⟩) hg0).trans (hcs0 0 (by omega))
      have HZ0 : Hid (cs[0]'(by omega) ≤ 9223372036854775807) := HCI.out _ (List.getElem_mem _)
      clear hcs0 hg0
      generalize cs[0]'(by omega) = z0 at *
      have HLZ : Hid (-1 ≤ cutL (-1) z0 ∧ cutL (-1) z0 ≤ 9223372036854775807) := cut_bd (by decide) (by decide) HZ0.out
      have HCM2 := hide3 (fun W d e => HCM.out W d e (cutL (-1) z0) HLZ.out)
      have HCU0 : Hid (∀ W d e, Bth w.heap.size W d e ⟨loadD fs, [], -1⟩ m 1048576 → Calls Tryz.prog 10 #[.pointer (some ⟨d, 0, none⟩), .int .i64 z0] W fun e1 w1 => e1 = .returned (.int .i64 (cutE (-1) z0)) ∧ Below w.heap.size W w1 ∧ Calls Tryz.prog 11 #[.pointer (some ⟨e, 0, none⟩), .int .i64 z0] w1 fun e2 w2 => e2 = .returned (.int .i64 (cutE (-1) z0)) ∧ Bth w.heap.size w2 d e ⟨loadD fs, [], cutL (-1) z0⟩ m 1048577 ∧ Below w.heap.size W w2) := fun W d e hB => hB.cutb z0 HZ0.out
      have hce0 : (cutE (-1) z0 != cutE (-1) z0) = false := by simp
      clear HCM hc0 HLZ HZ0
      generalize cutE (-1) z0 = ce0 at *
      generalize commitA l ⟨loadD fs, [], cutL (-1) z0⟩ = Y1 at *
      obtain ⟨c1, y1⟩ := Y1
      simp only at HCM2
      have hcc1 : (c1 != c1) = false := by simp
      subst hac
      go_enter Tryz.func3, Tryz.ntmps3
      go_wp2_with (go_at_call 8; refine HDK.out.mono ?_; rintro e1 w1 ⟨hb1, hq1⟩; obtain ⟨_, d1, r1, rfl, ht1⟩ := hq1.resolve_right (fun h => h.1 HLL.out); have HB1 := hide3 hb1; have HT1 := hide3 (ht1.more HLE.out); clear hb1 ht1 hq1)
      have q0 := HCE0.out w1 HB1.out
      have HCU1 := hide3 (HCU0.out w1.drew d1 r1 (HT1.out.below (Below.refl _ _).drew))
      go_region_held3 (fun w' => w'.cell? ⟨g0, off0, none⟩ = some (.int .i64 z0)) (go_keep)
        (first
          | (go_at_call 11; have _t := HC0; refine HC0.out.mono ?_; rintro e0 wx ⟨rfl, htx, hbx⟩; have HTX := hide3 htx; have HBX := hide3 (HB1.out.drew.trans hbx); have q2 := HCE0.out wx HBX.out; clear htx hbx)
          | (go_at_call 10; refine HCU1.out.mono ?_; rintro e0 w0 ⟨rfl, hb0, hc0⟩; have HC0 := hide3 hc0; have q1 := HCE0.out w0 (HB1.out.drew.trans hb0); clear hc0 hb0))
      clear HCU0 HCU1 HC0 HB1 HT1 q0 q1 q2
      go_wp2_with (first
        | (go_at_call 14; have _t := HB3; refine (alike_any HT3.out.1 (by decide)).mono ?_; rintro e4 w4 ⟨rfl, hb4⟩; have HB4 := hide3 (HB3.out.trans (hb4.mono HB3.out.size)); have HT4 := hide3 (HT3.out.1.below hb4); have HO4 := hide3 HT3.out.2; clear hb4)
        | (go_at_call 13; have _t := HC2; refine HC2.out.mono ?_; rintro e3 w3 ⟨rfl, ht3, hb3⟩; have HT3 := hide3 ht3; have HB3 := hide3 (HBX.out.trans hb3); clear ht3 hb3)
        | (go_at_call 12; refine (HCM2.out _ _ _ HBX.out HTX.out).mono ?_; rintro e2 w2 ⟨rfl, hc2⟩; have HC2 := hide3 hc2; clear hc2))
      clear HCM2 HTX HC2 HT3 HB3 HBX
      go_loopw [11] (fun v11 wr => ∃ i : Nat, 1 ≤ i ∧ i ≤ cs.length + 1 ∧ v11 = .int .i64 i ∧ Below w.heap.size w wr ∧ ∃ x, Bth w.heap.size wr d1 r1 x m (2097160 + i * 1048600) ∧ Ord18 x) (fun v11 _ => cs.length + 1 - (intOf v11).toNat)
      case atStart => exact ⟨1, Nat.le_refl _, by omega, rfl, HB4.out, y1, HT4.out.more (by omega), HO4.out⟩
      case round =>
        obtain ⟨i, hi1, hi2, rfl, hbr, x, htx, hox⟩ := hrel
        have HBR := hide3 hbr
        have HTR := hide3 htx
        have HOR := hide3 hox
        clear hbr htx hox HB4 HT4 HO4
        by_cases hle : i ≤ cs.length
        · have hii : (i : Int) ≤ (cs.length : Int) := by omega
          have hid : decide ((i : Int) ≤ (cs.length : Int)) = true := decide_eq_true hii
          have HUP := hide3 HTR.out.up
          have HO2 : Hid (Ord18 { x with left := -1 }) := HOR.out
          generalize ({ x with left := -1 } : Ab) = x2 at *
          by_cases hlt : i < cs.length
          · obtain ⟨g, off, hgo, hg, hcs⟩ : ∃ g off, (some ⟨g0, off0, none⟩ : Option Addr) = some ⟨g, off, none⟩ ∧ g < w.heap.size ∧ ∀ j (hj : j < cs.length), w.cell? ⟨g, off + j, none⟩ = some (.int .i64 cs[j]) := by
              rcases HIN.out w (Below.refl _ _) with q | q
              · rw [q] at hlt; exact absurd hlt (Nat.not_lt_zero _)
              · exact q
            cases hgo
            have HCE : Hid (∀ W, Below w.heap.size w W → W.cell? ⟨g0, off0 + i, none⟩ = some (.int .i64 cs[i])) := fun W hb => (hb.cell (p := ⟨g0, off0 + i, none⟩) hg).trans (hcs i hlt)
            have HZI : Hid (cs[i] ≤ 9223372036854775807) := HCI.out _ (List.getElem_mem hlt)
            have hlti : (i : Int) < (cs.length : Int) := by omega
            have hltd : decide ((i : Int) < (cs.length : Int)) = true := decide_eq_true hlti
            have hltn : decide (i < cs.length) = true := decide_eq_true hlt
            have hi0 : (0 : Int) ≤ (i : Int) := by omega
            clear hcs hg
            generalize cs[i] = z at *
            go_wp2_with (first
              | (go_at_call 16; have _t := HC5; refine HC5.out.mono ?_; rintro e6 w6 ⟨rfl, ht6, hb6⟩; have HT6 := hide3 ht6; have HB6 := hide3 (HBR.out.trans hb6); clear ht6 hb6)
              | (go_at_call 15; refine HUP.out.mono ?_; rintro e5 w5 ⟨rfl, hc5⟩; have HC5 := hide3 hc5; clear hc5))
            have q0 := HCE.out w6 HB6.out
            have HCU := hide3 ((HT6.out.below (Below.refl _ _).drew).cutb z HZI.out)
            have HO3 : Hid (Ord18 { x2 with left := cutL x2.left z }) := HO2.out
            generalize ({ x2 with left := cutL x2.left z } : Ab) = x3 at *
            have hce : (cutE x2.left z != cutE x2.left z) = false := by simp
            generalize cutE x2.left z = ce at *
            have HRC3 := hide3 (fun W => HRC.out W d1 r1 x3 (2097160 + i * 1048600 + 1 + 1) (by omega) HO3.out)
            generalize recA x3 = R3 at *
            obtain ⟨c7, y7⟩ := R3
            simp only at HRC3
            have hcc : (c7 != c7) = false := by simp
            go_region_held3 (fun w' => w'.cell? ⟨g0, off0 + i, none⟩ = some (.int .i64 z)) (go_keep)
              (first
                | (go_at_call 11; have _t := HC7; refine HC7.out.mono ?_; rintro e8 w8 ⟨rfl, ht8, hb8⟩; have HT8 := hide3 ht8; have HB8 := hide3 (HB6.out.drew.trans hb8); have q2 := HCE.out w8 HB8.out; clear ht8 hb8)
                | (go_at_call 10; refine HCU.out.mono ?_; rintro e7 w7 ⟨rfl, hb7, hc7⟩; have HC7 := hide3 hc7; have q1 := HCE.out w7 (HB6.out.drew.trans hb7); clear hc7 hb7))
            have HBY := HB8
            have HTY := HT8
            go_wp2_with (first
              | (go_at_call 14; have _t := HB10; refine (alike_any HT10.out.1 (by omega)).mono ?_; rintro e11 w11 ⟨rfl, hb11⟩; have HB11 := hide3 (HB10.out.trans (hb11.mono HB10.out.size)); have HT11 := hide3 (HT10.out.1.below hb11); have HO11 := hide3 HT10.out.2; clear hb11)
              | (go_at_call 18; have _t := HC9; refine HC9.out.mono ?_; rintro e10 w10 ⟨rfl, ht10, hb10⟩; have HT10 := hide3 ht10; have HB10 := hide3 (HBY.out.trans hb10); clear ht10 hb10)
              | (go_at_call 17; refine (HRC3.out _ HTY.out).mono ?_; rintro e9 w9 ⟨rfl, hc9⟩; have HC9 := hide3 hc9; clear hc9))
            exact ⟨⟨i + 1, by omega, by omega, by go_num, HB11.out, y7, HT11.out.more (by omega), HO11.out⟩, by first | (simp [intOf]; done) | (simp [intOf]; omega)⟩
          · obtain rfl : i = cs.length := by omega
            have hlti : ¬ ((cs.length : Int) < (cs.length : Int)) := by omega
            have hltd : decide ((cs.length : Int) < (cs.length : Int)) = false := decide_eq_false hlti
            have hltn : decide (cs.length < cs.length) = false := decide_eq_false (Nat.lt_irrefl _)
            have HRC3 := hide3 (fun W => HRC.out W d1 r1 x2 (2097160 + cs.length * 1048600 + 1) (by omega) HO2.out)
            generalize recA x2 = R3 at *
            obtain ⟨c7, y7⟩ := R3
            simp only at HRC3
            have hcc : (c7 != c7) = false := by simp
            go_wp2_with (first
              | (go_at_call 16; have _t := HC5; refine HC5.out.mono ?_; rintro e6 w6 ⟨rfl, ht6, hb6⟩; have HT6 := hide3 ht6; have HB6 := hide3 (HBR.out.trans hb6); clear ht6 hb6)
              | (go_at_call 15; refine HUP.out.mono ?_; rintro e5 w5 ⟨rfl, hc5⟩; have HC5 := hide3 hc5; clear hc5))
            go_quiet (fail)
            have HBY := hide3 (below_draws18 HB6.out nq)
            have HTY := hide3 (HT6.out.below (below_draws18 (Below.refl _ _) nq))
            clear HB6 HT6
            generalize w6.drewN nq = WY at *
            go_wp2_with (first
              | (go_at_call 14; have _t := HB10; refine (alike_any HT10.out.1 (by omega)).mono ?_; rintro e11 w11 ⟨rfl, hb11⟩; have HB11 := hide3 (HB10.out.trans (hb11.mono HB10.out.size)); have HT11 := hide3 (HT10.out.1.below hb11); have HO11 := hide3 HT10.out.2; clear hb11)
              | (go_at_call 18; have _t := HC9; refine HC9.out.mono ?_; rintro e10 w10 ⟨rfl, ht10, hb10⟩; have HT10 := hide3 ht10; have HB10 := hide3 (HBY.out.trans hb10); clear ht10 hb10)
              | (go_at_call 17; refine (HRC3.out _ HTY.out).mono ?_; rintro e9 w9 ⟨rfl, hc9⟩; have HC9 := hide3 hc9; clear hc9))
            exact ⟨⟨cs.length + 1, by omega, by omega, by go_num, HB11.out, y7, HT11.out.more (by omega), HO11.out⟩, by first | (simp [intOf]; done) | (simp [intOf]; omega)⟩
        · obtain rfl : i = cs.length + 1 := by omega
          have hii : ¬ (((cs.length + 1 : Nat) : Int) ≤ (cs.length : Int)) := by omega
          have hid : decide (((cs.length + 1 : Nat) : Int) ≤ (cs.length : Int)) = false := decide_eq_false hii
          go_wp2_with (go_at_call 9; refine (HLV.out _ HBR.out).mono ?_; rintro e9 w9 ⟨rfl, hb9⟩; have HB9 := hide3 (HBR.out.trans (hb9.mono HBR.out.size)); clear hb9)
          go_ret
          exact ⟨rfl, HB9.out⟩
  · have HLL := hide3 hL
    clear hL hm hc hz hd hzd hi hci
    go_enter Tryz.func3, Tryz.ntmps3
    go_wp2_with (first
      | (go_at_call 9; have _t := HB1; refine (HLV.out _ HB1.out).mono ?_; rintro e7 w7 ⟨rfl, hb7⟩; have HB7 := hide3 (HB1.out.trans (hb7.mono HB1.out.size)); clear hb7)
      | (go_at_call 8; refine HDK.out.mono ?_; rintro e1 w1 ⟨hb1, hq1⟩; obtain ⟨_, rfl⟩ := hq1.resolve_left (fun h => HLL.out h.1); have HB1 := hide3 hb1; clear hb1 hq1))
    go_ret
    exact ⟨rfl, HB7.out⟩
end Go.Proofs.YtpaoimhebheaeaaGreatDoor
