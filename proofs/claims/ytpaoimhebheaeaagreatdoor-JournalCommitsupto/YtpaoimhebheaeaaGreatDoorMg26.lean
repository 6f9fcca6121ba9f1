/- Jl4, laid in one text. -/
import Derived.Test.YtpaoimhebheaeaaGreatDoorMg25
namespace Go.Proofs.YtpaoimhebheaeaaGreatDoor
open Go.RowKit Go.Maps Go.WideMaps Go.WideElems Dk
set_option maxRecDepth 100000

theorem read_mem {D : DataW Unit} (hP : Plain D) (s : ByteArray) : readT D s = ByteArray.empty ∨ ∃ f ∈ filesD D, f.1 = s ∧ f.2.1 = false ∧ readT D s = f.2.2 := by
  by_cases he : (readE D s == 0) = true
  · right
    have h0 := beq_iff_eq.1 he
    obtain ⟨k0, k2⟩ := read_kind h0
    have hr : (s.toList == [47]) = false := by
      cases q : (s.toList == [47])
      · rfl
      · exfalso
        apply k2
        unfold kindD
        rw [if_pos q]
    have hh : Maps.has D (keyD s) = true := by
      cases q : Maps.has D (keyD s)
      · exact absurd (kind_none hr q) k0
      · rfl
    obtain ⟨y, hy, rfl⟩ := (has_mem hP s).1 hh
    obtain ⟨_, hat⟩ := (hP.good.mem y).1 hy
    refine ⟨y, hy, rfl, ?_, ?_⟩
    · cases q : y.2.1
      · rfl
      · exfalso
        apply k2
        rw [kindP_in hP hy, q]
        rfl
    · unfold readT
      rw [he, if_pos rfl, hat, itData_mk, bytes_mk]
  · left
    unfold readT
    rw [if_neg he]
theorem read_load {fs : List Fl} (hL : Loads fs) {b : Nat} (hz : ∀ f ∈ fs, f.2.2.size ≤ b) (s : ByteArray) : (readT (loadD fs) s).size ≤ b := by
  have hP := loads_plainJ hL
  rcases read_mem hP s with e | ⟨f, hf, _, _, e⟩
  · rw [e]; exact Nat.zero_le _
  · rw [e]; exact hz f ((mem_files_load (loads_apart hL.1) hP.good f).1 hf)
theorem rec_KL {B : Nat} {w : World} {e : Nat} {lv rv : Value} {x : Ab} {k : Nat} (h : RefK B w e lv rv x k) (ht : (readT x.D pP).size ≤ 4194304) (hk : k + (parO (readT x.D pP)).2.length + 4 < 2199023255552) :
    Calls Tryz.prog 18 #[.pointer (some ⟨e, 0, none⟩)] w fun e' w' => e' = .returned (.int .i64 (recA x).1) ∧ RefT B w e lv rv (recA x).2 (k + (parO (readT x.D pP)).2.length + 3) w' := by
  have h1 := parO_sizes (readT x.D pP)
  exact rec_K h (fun n q => Nat.le_trans (list_sizes h.fine.pl jn n q) (by decide)) ht (fun d q => Nat.le_trans (h1.2 d q).1 (Nat.le_trans ht (by decide))) hk (by have := h.lf; have := list_len (D := x.D) jn; omega)
/-- Recover of both disks. -/
theorem Bth.recov {B : Nat} {w : World} {d e : Nat} {x : Ab} {m : Int} {k : Nat} (h : Bth B w d e x m k) (ht : (readT x.D pP).size ≤ 4194304) (hk : k + (parO (readT x.D pP)).2.length + 4 < 2199023255552) :
    Calls Tryz.prog 17 #[.pointer (some ⟨d, 0, none⟩)] w fun e1 w1 => e1 = .returned (.int .i64 (recA x).1) ∧ Calls Tryz.prog 18 #[.pointer (some ⟨e, 0, none⟩)] w1 fun e2 w2 => e2 = .returned (.int .i64 (recA x).1) ∧ Bth B w2 d e (recA x).2 m (k + (parO (readT x.D pP)).2.length + 3) ∧ Below B w w2 :=
  h.call (fun _ _ _ hp => rec_P hp ht hk) (fun _ _ _ _ hr => rec_KL hr ht hk)
theorem Bth.cut {B : Nat} {w : World} {d e : Nat} {x : Ab} {m : Int} {k : Nat} (h : Bth B w d e x m k) (z : Int) (hz : z ≤ 9223372036854775807) :
    Calls Tryz.prog 10 #[.pointer (some ⟨d, 0, none⟩), .int .i64 z] w fun e1 w1 => e1 = .returned (.int .i64 (cutE x.left z)) ∧ Calls Tryz.prog 11 #[.pointer (some ⟨e, 0, none⟩), .int .i64 z] w1 fun e2 w2 => e2 = .returned (.int .i64 (cutE x.left z)) ∧ Bth B w2 d e { x with left := cutL x.left z } m (k + 1) ∧ Below B w w2 :=
  h.call (fun _ _ _ hp => pCut hp z hz) (fun _ _ _ _ hr => rCutK hr z hz)
theorem Bth.up {B : Nat} {w : World} {d e : Nat} {x : Ab} {m : Int} {k : Nat} (h : Bth B w d e x m k) :
    Calls Tryz.prog 15 #[.pointer (some ⟨d, 0, none⟩)] w fun e1 w1 => e1 = .returned (.tuple #[]) ∧ Calls Tryz.prog 16 #[.pointer (some ⟨e, 0, none⟩)] w1 fun e2 w2 => e2 = .returned (.tuple #[]) ∧ Bth B w2 d e { x with left := -1 } m (k + 1) ∧ Below B w w2 :=
  h.call (fun _ _ _ hp => pUp hp) (fun _ _ _ _ hr => rUpK hr)

set_option maxHeartbeats 8000000 in
theorem journalAny_walk (fs : List Fl) (a : Option Addr) (cap : Nat) (z : Int) (m : Int) (w : World) (hm : w.cell? ⟨0, 0, none⟩ = some (.int .i64 m)) (hlen : fs.length ≤ 1048576) (hc : IsFiles w a fs) (hz : ∀ f ∈ fs, f.1.size ≤ maxLen ∧ f.2.2.size ≤ 1048576) (hz1 : z ≤ 9223372036854775807) :
    Calls Tryz.prog 4 #[.slice a fs.length cap, .int .i64 z] w fun e' w' => e' = .returned (.bool true) ∧ Below w.heap.size w w' := by
  have HDK := hide3 (disks_any fs a cap m w hm hlen hc fun f hf => ⟨(hz f hf).1, Nat.le_trans (hz f hf).2 (by decide)⟩)
  have HLV : Hid (∀ W, Below w.heap.size w W → Calls Tryz.prog 9 #[] W fun e' w' => e' = .returned (.bool true) ∧ Below W.heap.size W w') := fun W hb => lives18_any m W ((hb.cell (p := ⟨0, 0, none⟩) (cell_lt hm)).trans hm)
  by_cases hL : Loads fs
  · have hrd : ∀ l : Int, (readT (⟨loadD fs, [], l⟩ : Ab).D pP).size ≤ 1048576 := fun l => read_load hL (fun f hf => (hz f hf).2) pP
    have HCU : Hid (∀ W d e, Bth w.heap.size W d e ⟨loadD fs, [], -1⟩ m fs.length → Calls Tryz.prog 10 #[.pointer (some ⟨d, 0, none⟩), .int .i64 z] W fun e1 w1 => e1 = .returned (.int .i64 (cutE (-1) z)) ∧ Calls Tryz.prog 11 #[.pointer (some ⟨e, 0, none⟩), .int .i64 z] w1 fun e2 w2 => e2 = .returned (.int .i64 (cutE (-1) z)) ∧ Bth w.heap.size w2 d e ⟨loadD fs, [], cutL (-1) z⟩ m (fs.length + 1) ∧ Below w.heap.size W w2) := fun W d e hB => hB.cut z hz1
    have HRC : Hid (∀ l W d e, Bth w.heap.size W d e ⟨loadD fs, [], l⟩ m (fs.length + 1) → Calls Tryz.prog 17 #[.pointer (some ⟨d, 0, none⟩)] W fun e1 w1 => e1 = .returned (.int .i64 (recA ⟨loadD fs, [], l⟩).1) ∧ Calls Tryz.prog 18 #[.pointer (some ⟨e, 0, none⟩)] w1 fun e2 w2 => e2 = .returned (.int .i64 (recA ⟨loadD fs, [], l⟩).1) ∧ Bth w.heap.size w2 d e (recA ⟨loadD fs, [], l⟩).2 m 2097160 ∧ Below w.heap.size W w2) := fun l W d e hB => by
      have h1 := hrd l
      have h2 := (parO_sizes (readT (⟨loadD fs, [], l⟩ : Ab).D pP)).1
      refine (hB.recov (by omega) (by omega)).mono ?_
      rintro e1 w1 ⟨he, hc⟩
      refine ⟨he, hc.mono ?_⟩
      rintro e2 w2 ⟨he2, hb2, hb3⟩
      exact ⟨he2, hb2.more (by omega), hb3⟩
    have HLL := hide3 hL
    clear hL hrd hm hc hz hz1
    by_cases h0 : 0 ≤ z
    · have HR2 := hide3 (HRC.out (cutL (-1) z))
      clear HRC
      generalize recA ⟨loadD fs, [], cutL (-1) z⟩ = R at *
      obtain ⟨c, y⟩ := R
      simp only at HR2
      have hce : cutE (-1) z = 0 := by unfold cutE; rw [if_neg (by decide), if_neg (by omega)]
      rw [hce] at HCU
      have hcc : (c != c) = false := by simp
      clear hce
      go_enter Tryz.func4, Tryz.ntmps4
      go_wp2_with (first
        | (go_at_call 9; have _t := HB6; refine (HLV.out _ HB6.out).mono ?_; rintro e7 w7 ⟨rfl, hb7⟩; have HB7 := hide3 (HB6.out.trans (hb7.mono HB6.out.size)); clear hb7)
        | (go_at_call 14; have _t := HB5; refine (alike_any HT5.out (by decide)).mono ?_; rintro e6 w6 ⟨rfl, hb6⟩; have HB6 := hide3 (HB5.out.trans (hb6.mono HB5.out.size)); clear hb6)
        | (go_at_call 18; have _t := HC4; refine HC4.out.mono ?_; rintro e5 w5 ⟨rfl, ht5, hb5⟩; have HT5 := hide3 ht5; have HB5 := hide3 (HB3.out.trans hb5); clear ht5 hb5)
        | (go_at_call 17; have _t := HB3; refine (HR2.out _ _ _ HT3.out).mono ?_; rintro e4 w4 ⟨rfl, hc4⟩; have HC4 := hide3 hc4; clear hc4)
        | (go_at_call 11; have _t := HC2; refine HC2.out.mono ?_; rintro e3 w3 ⟨rfl, ht3, hb3⟩; have HT3 := hide3 ht3; have HB3 := hide3 (HB1.out.trans hb3); clear ht3 hb3)
        | (go_at_call 10; have _t := HB1; refine (HCU.out _ _ _ HT1.out).mono ?_; rintro e2 w2 ⟨rfl, hc2⟩; have HC2 := hide3 hc2; clear hc2)
        | (go_at_call 8; refine HDK.out.mono ?_; rintro e1 w1 ⟨hb1, hq1⟩; obtain ⟨_, d1, r1, rfl, ht1⟩ := hq1.resolve_right (fun h => h.1 HLL.out); have HB1 := hide3 hb1; have HT1 := hide3 ht1; clear hb1 ht1 hq1))
      go_ret
      exact ⟨rfl, HB7.out⟩
    · have HR2 := hide3 (HRC.out (-1))
      clear HRC HCU
      generalize recA ⟨loadD fs, [], -1⟩ = R at *
      obtain ⟨c, y⟩ := R
      simp only at HR2
      have hcc : (c != c) = false := by simp
      have h0d : decide (0 ≤ z) = false := by simp; omega
      go_enter Tryz.func4, Tryz.ntmps4
      go_wp2_with (first
        | (go_at_call 9; have _t := HB6; refine (HLV.out _ HB6.out).mono ?_; rintro e7 w7 ⟨rfl, hb7⟩; have HB7 := hide3 (HB6.out.trans (hb7.mono HB6.out.size)); clear hb7)
        | (go_at_call 14; have _t := HB5; refine (alike_any HT5.out (by decide)).mono ?_; rintro e6 w6 ⟨rfl, hb6⟩; have HB6 := hide3 (HB5.out.trans (hb6.mono HB5.out.size)); clear hb6)
        | (go_at_call 18; have _t := HC4; refine HC4.out.mono ?_; rintro e5 w5 ⟨rfl, ht5, hb5⟩; have HT5 := hide3 ht5; have HB5 := hide3 (HB1.out.trans hb5); clear ht5 hb5)
        | (go_at_call 17; have _t := HB1; refine (HR2.out _ _ _ HT1.out).mono ?_; rintro e4 w4 ⟨rfl, hc4⟩; have HC4 := hide3 hc4; clear hc4)
        | (go_at_call 8; refine HDK.out.mono ?_; rintro e1 w1 ⟨hb1, hq1⟩; obtain ⟨_, d1, r1, rfl, ht1⟩ := hq1.resolve_right (fun h => h.1 HLL.out); have HB1 := hide3 hb1; have HT1 := hide3 (ht1.more (Nat.le_succ _)); clear hb1 ht1 hq1))
      go_ret
      exact ⟨rfl, HB7.out⟩
  · have HLL := hide3 hL
    clear hL hm hc hz hz1
    go_enter Tryz.func4, Tryz.ntmps4
    go_wp2_with (first
      | (go_at_call 9; have _t := HB1; refine (HLV.out _ HB1.out).mono ?_; rintro e7 w7 ⟨rfl, hb7⟩; have HB7 := hide3 (HB1.out.trans (hb7.mono HB1.out.size)); clear hb7)
      | (go_at_call 8; refine HDK.out.mono ?_; rintro e1 w1 ⟨hb1, hq1⟩; obtain ⟨_, rfl⟩ := hq1.resolve_left (fun h => HLL.out h.1); have HB1 := hide3 hb1; clear hb1 hq1))
    go_ret
    exact ⟨rfl, HB7.out⟩
end Go.Proofs.YtpaoimhebheaeaaGreatDoor
