/- Ct20, laid in one text. -/
import Derived.Test.YthlipnnlgkmhcaaGreatDoorMg17
namespace Go.Proofs.YthlipnnlgkmhcaaGreatDoor
open Go.RowKit Go.Maps Go.WideMaps
set_option maxRecDepth 100000

/-- A package without wants in a variable. -/
def PBx (W : World) (N : Nat) (s : ByteArray) (a b c : Int) : Prop := W.heap[N]? = some (.cells #[.string s, .int .i64 a, .int .i64 b, .int .i64 c, .slice none 0 0, .slice none 0 0, .slice none 0 0] 34 (0, 0))
theorem PBx.below {W W' : World} {N : Nat} {s : ByteArray} {a b c : Int} (h : PBx W N s a b c) (hb : Below W.heap.size W W') : PBx W' N s a b c := (hb.block N (Array.getElem?_eq_some_iff.1 h).1).trans h
theorem PBx.cells {W : World} {N : Nat} {s : ByteArray} {a b c : Int} (h : PBx W N s a b c) : (W.cell? ⟨N, 0, none⟩ = some (.string s) ∧ W.cell? ⟨N, 1, none⟩ = some (.int .i64 a) ∧ W.cell? ⟨N, 2, none⟩ = some (.int .i64 b) ∧ W.cell? ⟨N, 3, none⟩ = some (.int .i64 c) ∧ W.cell? ⟨N, 4, none⟩ = some (.slice none 0 0) ∧ W.cell? ⟨N, 5, none⟩ = some (.slice none 0 0) ∧ W.cell? ⟨N, 6, none⟩ = some (.slice none 0 0)) ∧ W.frozen? ⟨N, 1, none⟩ = false ∧ W.frozen? ⟨N, 2, none⟩ = false ∧ W.frozen? ⟨N, 3, none⟩ = false := by
  unfold PBx at h
  refine ⟨⟨?_, ?_, ?_, ?_, ?_, ?_, ?_⟩, ?_, ?_, ?_⟩ <;> simp [World.cell?, World.frozen?, h]
theorem set_grown (W : World) (a : Addr) (v : Value) : W.grownBy (W.setCell a v) (some a.block) := ⟨rfl, rfl, rfl, (KeepsWalks.setCell W a v).size, fun k _ hk => Below.heap_setCell _ _ _ k (fun e => hk (by rw [e]))⟩
theorem grown_same {a b c : World} {r : Option Nat} (h : a.grownBy b r) (h' : b.grownBy c r) : a.grownBy c r := ⟨h'.os.trans h.os, h'.tape.trans h.tape, h'.output.trans h.output, Nat.le_trans h.size h'.size, fun k hk hn => (h'.block k (Nat.lt_of_lt_of_le hk h.size) hn).trans (h.block k hk hn)⟩
theorem PBx.set {W : World} {N : Nat} {s : ByteArray} {a b c : Int} (h : PBx W N s a b c) (x y z : Int) : PBx (((W.setCell ⟨N, 1, none⟩ (.int .i64 x)).setCell ⟨N, 2, none⟩ (.int .i64 y)).setCell ⟨N, 3, none⟩ (.int .i64 z)) N s x y z ∧ W.grownBy (((W.setCell ⟨N, 1, none⟩ (.int .i64 x)).setCell ⟨N, 2, none⟩ (.int .i64 y)).setCell ⟨N, 3, none⟩ (.int .i64 z)) (some N) := by
  refine ⟨?_, grown_same (grown_same (set_grown _ _ _) (set_grown _ _ _)) (set_grown _ _ _)⟩
  unfold PBx at h ⊢
  obtain ⟨hlt, hk⟩ := Array.getElem?_eq_some_iff.1 h
  simp [World.setCell, Array.getElem?_modify, h]
theorem PBx.new (W : World) (s : ByteArray) : PBx (W.alloc (.cells #[.string s, .int .i64 0, .int .i64 0, .int .i64 0, .slice none 0 0, .slice none 0 0, .slice none 0 0] 34)) W.heap.size s 0 0 0 := World.alloc_heap_new W _
theorem bare_at (W : World) (s : ByteArray) (a b c : Int) : PgAt W ⟨s, a, b, c, [], [], []⟩ (.slice none 0 0) (.slice none 0 0) (.slice none 0 0) := ⟨⟨none, 0, rfl, Nat.le_refl _, Or.inl rfl⟩, ⟨none, 0, rfl, Nat.le_refl _, Or.inl rfl⟩, ⟨none, 0, rfl, Nat.le_refl _, Or.inl rfl⟩⟩

theorem zero_not : writtenB ⟨ByteArray.empty, 0, 0, 0, [], [], []⟩ = false := by
  unfold writtenB soundB
  have e : Sc.nameA (ByteArray.empty : ByteArray).data.toList = false := by decide
  simp only [e, Bool.false_and]

set_option maxHeartbeats 12800000 in
theorem catalogFull_walk {w : World} (he : Env w) (hf : FL w) (s : ByteArray) (hs : s.size ≤ 9223372036854775807) (from0 : Int) : Calls Tryz.prog 5 #[.string s, .int .i64 from0] w fun e w' => e = .returned (.bool true) ∧ Below w.heap.size w w' := by
  have HNW : Hid (Calls Tryz.prog 8 #[] w fun e w' => e = .returned (.pointer (some ⟨w.heap.size + 1, 0, none⟩)) ∧ w' = ((w.alloc (.map #[] 0)).alloc (.cells #[.map (some w.heap.size)] 68))) := new_any w
  have HB1 : Hid (Below w.heap.size w ((w.alloc (.map #[] 0)).alloc (.cells #[.map (some w.heap.size)] 68))) := boxB2 w (.map #[] 0) (.cells #[.map (some w.heap.size)] 68)
  have HC1 : Hid (CatAt ((w.alloc (.map #[] 0)).alloc (.cells #[.map (some w.heap.size)] 68)) w.heap.size (w.heap.size + 1) w.heap.size []) := CatAt.new w w.heap.size
  have HKN : Hid (Calls Tryz.prog 9 #[] ((w.alloc (.map #[] 0)).alloc (.cells #[.map (some w.heap.size)] 68)) fun e w' => e = .returned (.bool true) ∧ Below ((w.alloc (.map #[] 0)).alloc (.cells #[.map (some w.heap.size)] 68)).heap.size ((w.alloc (.map #[] 0)).alloc (.cells #[.map (some w.heap.size)] 68)) w') := known_ct (he.below HB1.out) (hf.below HB1.out)
  have HMY : Hid (∀ W, Calls Tryz.prog 26 #[.agg #[.string s, .int .i64 0, .int .i64 0, .int .i64 0, .slice none 0 0, .slice none 0 0, .slice none 0 0]] W fun e w' => e = .returned (.bool (writtenB ⟨s, 0, 0, 0, [], [], []⟩)) ∧ Below W.heap.size W w') := fun W => by
    have e := rMay_pk (P := ⟨s, 0, 0, 0, [], [], []⟩) (bare_at W s 0 0 0) ⟨by simp, by simp, by simp⟩ ⟨hs, (fun d hd => by cases hd), (fun d hd => by cases hd), (fun d hd => by cases hd)⟩
    rw [doc_is] at e
    exact e
  have HAT : Hid (∀ n W, Calls Tryz.prog 27 #[.int .i64 n] W fun e w' => e = .returned (.tuple #[.agg #[.int .i64 (atA n), .int .i64 (atB n), .int .i64 (atC n)], .bool (hasV n)]) ∧ Below W.heap.size W w') := fun n W => rAt_any n W
  cases hw : writtenB ⟨s, 0, 0, 0, [], [], []⟩
  · rw [hw] at HMY
    have HPN : Hid (∀ W, CatAt W w.heap.size (w.heap.size + 1) w.heap.size [] → Below w.heap.size w W → Calls Tryz.prog 11 #[.pointer (some ⟨w.heap.size + 1, 0, none⟩), .agg #[.string s, .int .i64 0, .int .i64 0, .int .i64 0, .slice none 0 0, .slice none 0 0, .slice none 0 0]] W fun e w' => e = .returned (.int .i64 24) ∧ Below W.heap.size W w') := fun W hc hb => put_no (P := ⟨s, 0, 0, 0, [], [], []⟩) hc (bare_at _ _ _ _ _) (he.below hb) (hf.below hb) hw
    have HAL : Hid (∀ W, CatAt W w.heap.size (w.heap.size + 1) w.heap.size [] → Calls Tryz.prog 23 #[.pointer (some ⟨w.heap.size + 1, 0, none⟩)] W fun e w' => ∃ a c, e = .returned (.slice a 0 c) ∧ Below W.heap.size W w') := fun W hc => by
      refine (all_any hc (by simp)).mono ?_
      rintro e w' ⟨v, rfl, xs, ts, ht, hx, ho, hb⟩
      obtain ⟨a, c, e⟩ := ho.len
      have hl : xs.length = 0 := by
        have h1 := congrArg List.length hx
        rw [List.length_map, List.length_map, ht.1.length_eq] at h1
        exact h1
      rw [hl] at e
      exact ⟨a, c, by rw [e], hb⟩
    clear he hf hw
    go_enter Tryz.func5, Tryz.ntmps5
    go_wp2_with (first
      | (go_at_call 8; refine HNW.out.mono ?_; rintro e w1 ⟨rfl, rfl⟩; clear HNW)
      | (go_at_call 9; refine HKN.out.mono ?_; rintro e w2 ⟨rfl, hb⟩; have HB2 := hide3 (below_then HB1.out hb); have HC2 := hide3 (HC1.out.below hb); have HC3 := hide3 (HC2.out.below (boxB w2 (.cells #[.string s, .int .i64 0, .int .i64 0, .int .i64 0, .slice none 0 0, .slice none 0 0, .slice none 0 0] 34))); have HB3 := hide3 (below_then HB2.out (boxB w2 (.cells #[.string s, .int .i64 0, .int .i64 0, .int .i64 0, .slice none 0 0, .slice none 0 0, .slice none 0 0] 34))); have HP3 := hide3 (PBx.new w2 s); clear hb HKN)
      | (go_at_call 26; refine (HMY.out _).mono ?_; rintro e w4 ⟨rfl, hb⟩; have HC4 := hide3 (HC3.out.below hb); have HB4 := hide3 (below_then HB3.out hb); obtain ⟨⟨k0, k1, k2, k3, k4, k5, k6⟩, _⟩ := (HP3.out.below hb).cells; clear hb HMY)
      | (go_at_call 11; refine (HPN.out _ HC4.out HB4.out).mono ?_; rintro e w5 ⟨rfl, hb⟩; have HC5 := hide3 (HC4.out.below hb); have HB5 := hide3 (below_then HB4.out hb); clear hb HPN k0 k1 k2 k3 k4 k5 k6)
      | (go_at_call 23; refine (HAL.out _ HC5.out).mono ?_; rintro e w6 ⟨aa, ca, rfl, hb⟩; have HB6 := hide3 (below_then HB5.out hb); clear hb))
    go_ret
    exact ⟨rfl, HB6.out⟩
  · rw [hw] at HMY
    have hs16 := bare_name hw
    have HWR : Hid (∀ n, 0 ≤ n → n < 1000000000 → writtenB (pgN s n) = true) := fun n h0 h1 => bare_written hw (may_at (has_in h0 h1)).1
    clear hw
    go_enter Tryz.func5, Tryz.ntmps5
    go_wp2_with (first
      | (go_at_call 8; refine HNW.out.mono ?_; rintro e w1 ⟨rfl, rfl⟩; clear HNW)
      | (go_at_call 9; refine HKN.out.mono ?_; rintro e w2 ⟨rfl, hb⟩; have HB2 := hide3 (below_then HB1.out hb); have HC2 := hide3 (HC1.out.below hb); have HC3 := hide3 (HC2.out.below (boxB w2 (.cells #[.string s, .int .i64 0, .int .i64 0, .int .i64 0, .slice none 0 0, .slice none 0 0, .slice none 0 0] 34))); have HB3 := hide3 (below_then HB2.out (boxB w2 (.cells #[.string s, .int .i64 0, .int .i64 0, .int .i64 0, .slice none 0 0, .slice none 0 0, .slice none 0 0] 34))); have HP3 := hide3 (PBx.new w2 s); have hN : w.heap.size + 1 < w2.heap.size := HC2.out.1.2.1; clear hb HKN)
      | (go_at_call 26; refine (HMY.out _).mono ?_; rintro e w4 ⟨rfl, hb⟩; have HC4 := hide3 (HC3.out.below hb); have HB4 := hide3 (below_then HB3.out hb); have HP4 := hide3 (HP3.out.below hb); clear hb HMY))
    · have hneg : from0.tmod 999000000 < 0 := by assumption
      have hlo : -999000000 < from0.tmod 999000000 := Int.lt_tmod_of_pos from0 (by decide)
      have hwr : wrap64 (-from0.tmod 999000000) = -from0.tmod 999000000 := by unfold wrap64; omega
      have h0 : 0 ≤ wrap64 (-from0.tmod 999000000) := by rw [hwr]; omega
      have h1 : wrap64 (-from0.tmod 999000000) < 999000000 := by rw [hwr]; omega
      have hdm : decide (from0.tmod 999000000 < 0) = true := decide_eq_true hneg
      rw [hdm]
      clear hwr hlo hdm
      generalize wrap64 (-from0.tmod 999000000) = n at *
      generalize from0.tmod 999000000 = m at *
      clear hneg
      go_loopw [8] (fun vi wr => ∃ (i : Nat) (L : List CV) (a b c : Int), i ≤ 130 ∧ vi = .int .i64 i ∧ CatAt wr w.heap.size (w.heap.size + 1) w.heap.size L ∧ Filled s n (min i 128) L ∧ PBx wr w2.heap.size s a b c ∧ Below w.heap.size w wr) (fun vi _ => 130 - (intOf vi).toNat)
      case atStart => exact ⟨0, [], 0, 0, 0, by decide, rfl, HC4.out, List.Perm.refl _, HP4.out, HB4.out⟩
      case round =>
        obtain ⟨i, L, a, b, c, hi130, rfl, hct, hfl, hpb, hbw⟩ := hrel
        have HCT := hide3 hct
        have HFL := hide3 hfl
        have HPB := hide3 hpb
        have HBW := hide3 hbw
        clear hct hfl hpb hbw
        by_cases hlt : i < 130
        · have hki : (i : Int) < 130 := by omega
          have hn1 : n + (i : Int) < 1000000000 := by omega
          go_upto_region 15 with (go_at_call 27; refine (HAT.out _ _).mono ?_; rintro e w5 ⟨rfl, hb⟩; have HP5 := hide3 ((HPB.out.below hb).below (boxB w5 (.cells #[.int .i64 (atA (n + (i : Int))), .int .i64 (atB (n + (i : Int))), .int .i64 (atC (n + (i : Int)))] 31))); have HC5 := hide3 ((HCT.out.below hb).below (boxB w5 (.cells #[.int .i64 (atA (n + (i : Int))), .int .i64 (atB (n + (i : Int))), .int .i64 (atC (n + (i : Int)))] 31))); have HB5 := hide3 (below_then (below_then HBW.out hb) (boxB w5 (.cells #[.int .i64 (atA (n + (i : Int))), .int .i64 (atB (n + (i : Int))), .int .i64 (atC (n + (i : Int)))] 31))); obtain ⟨⟨k0, k1, k2, k3, k4, k5, k6⟩, z1, z2, z3⟩ := HP5.out.cells; clear hb)
          have HP6 := hide3 (HP5.out.set (atA (n + (i : Int))) (atB (n + (i : Int))) (atC (n + (i : Int)))).1
          have hg6 := (HP5.out.set (atA (n + (i : Int))) (atB (n + (i : Int))) (atC (n + (i : Int)))).2
          have HC6 := hide3 (HC5.out.over HP5.out (by decide) (by decide) (by omega) hg6)
          have HB6 := hide3 (HB5.out.grown hg6 HB5.out.size (fun k hk => by cases hk; omega))
          clear hg6 k0 k1 k2 k3 k4 k5 k6 z1 z2 z3
          generalize ((((w5.alloc (.cells #[.int .i64 (atA (n + (i : Int))), .int .i64 (atB (n + (i : Int))), .int .i64 (atC (n + (i : Int)))] 31)).setCell ⟨w2.heap.size, 1, none⟩ (.int .i64 (atA (n + (i : Int))))).setCell ⟨w2.heap.size, 2, none⟩ (.int .i64 (atB (n + (i : Int))))).setCell ⟨w2.heap.size, 3, none⟩ (.int .i64 (atC (n + (i : Int))))) = w6 at *
          obtain ⟨⟨k0, k1, k2, k3, k4, k5, k6⟩, _⟩ := HP6.out.cells
          by_cases h8 : i < 128
          · have hki2 : ¬ (128 : Int) ≤ (i : Int) := by omega
            have HMN : Hid (min i 128 = i ∧ min (i + 1) 128 = i + 1) := ⟨by omega, by omega⟩
            have HPK : Hid (Calls Tryz.prog 11 #[.pointer (some ⟨w.heap.size + 1, 0, none⟩), .agg #[.string s, .int .i64 (atA (n + (i : Int))), .int .i64 (atB (n + (i : Int))), .int .i64 (atC (n + (i : Int))), .slice none 0 0, .slice none 0 0, .slice none 0 0]] w6 fun e w' => e = .returned (.int .i64 0) ∧ ∃ u1 u2 u3 L', L'.Perm (⟨pgN s (n + (i : Int)), u1, u2, u3⟩ :: L) ∧ CatAt w' w.heap.size (w.heap.size + 1) w.heap.size L' ∧ w6.grownBy w' (some w.heap.size)) := by
              have hF := HFL.out
              rw [HMN.out.1] at hF
              exact put_ok (P := pgN s (n + (i : Int))) HC6.out (bare_at _ _ _ _ _) (he.below HB6.out) (hf.below HB6.out) HB6.out.size (pgN_key hs16 (has_in (by omega) hn1)) (HWR.out _ (by omega) hn1) (hF.none h0 (Nat.le_refl _) hn1) (by rw [hF.len]; exact h8)
            go_wp2_with (go_at_call 11; refine HPK.out.mono ?_; rintro e w7 ⟨rfl, u1, u2, u3, L', hp, hc, hg⟩; have HQ7 : Hid (CatAt w7 w.heap.size (w.heap.size + 1) w.heap.size L' ∧ Filled s n (min (i + 1) 128) L' ∧ PBx w7 w2.heap.size s (atA (n + (i : Int))) (atB (n + (i : Int))) (atC (n + (i : Int))) ∧ Below w.heap.size w w7) := ⟨hc, (by have hF := HFL.out; rw [HMN.out.1] at hF; rw [HMN.out.2]; exact hF.put hp), (hg.block w2.heap.size (Array.getElem?_eq_some_iff.1 HP6.out).1 (fun q => by have := Option.some.inj q; omega)).trans HP6.out, HB6.out.grown hg HB6.out.size (fun k hk => by cases hk; exact Nat.le_refl _)⟩; clear hp hc hg HPK)
            exact ⟨⟨i + 1, L', _, _, _, by omega, by go_num, HQ7.out.1, HQ7.out.2.1, HQ7.out.2.2.1, HQ7.out.2.2.2⟩, by simp [intOf]; omega⟩
          · have hki2 : (128 : Int) ≤ (i : Int) := by omega
            have HMN : Hid (min i 128 = 128 ∧ min (i + 1) 128 = 128) := ⟨by omega, by omega⟩
            have HPK : Hid (Calls Tryz.prog 11 #[.pointer (some ⟨w.heap.size + 1, 0, none⟩), .agg #[.string s, .int .i64 (atA (n + (i : Int))), .int .i64 (atB (n + (i : Int))), .int .i64 (atC (n + (i : Int))), .slice none 0 0, .slice none 0 0, .slice none 0 0]] w6 fun e w' => e = .returned (.int .i64 26) ∧ Below w6.heap.size w6 w') := by
              have hF := HFL.out
              rw [HMN.out.1] at hF
              exact put_full (P := pgN s (n + (i : Int))) HC6.out (bare_at _ _ _ _ _) (he.below HB6.out) (hf.below HB6.out) (pgN_key hs16 (has_in (by omega) hn1)) (HWR.out _ (by omega) hn1) (hF.none h0 (by omega) hn1) (by rw [hF.len]; exact Nat.le_refl _)
            go_wp2_with (go_at_call 11; refine HPK.out.mono ?_; rintro e w7 ⟨rfl, hb⟩; have HQ7 : Hid (CatAt w7 w.heap.size (w.heap.size + 1) w.heap.size L ∧ Filled s n (min (i + 1) 128) L ∧ PBx w7 w2.heap.size s (atA (n + (i : Int))) (atB (n + (i : Int))) (atC (n + (i : Int))) ∧ Below w.heap.size w w7) := ⟨HC6.out.below hb, (by have hF := HFL.out; rw [HMN.out.1] at hF; rw [HMN.out.2]; exact hF), HP6.out.below hb, below_then HB6.out hb⟩; clear hb HPK)
            exact ⟨⟨i + 1, L, _, _, _, by omega, by go_num, HQ7.out.1, HQ7.out.2.1, HQ7.out.2.2.1, HQ7.out.2.2.2⟩, by simp [intOf]; omega⟩
        · obtain rfl : i = 130 := by omega
          have HFB : Hid (Filled s n 128 L) := HFL.out
          have hki : ¬ ((130 : Nat) : Int) < 130 := by decide
          clear HFL
          go_upto_region 22 with (go_at_call 27; refine (HAT.out _ _).mono ?_; rintro e w5 ⟨rfl, hb⟩; have HP5 := hide3 ((HPB.out.below hb).below (boxB w5 (.cells #[.int .i64 (atA n), .int .i64 (atB n), .int .i64 (atC n)] 31))); have HC5 := hide3 ((HCT.out.below hb).below (boxB w5 (.cells #[.int .i64 (atA n), .int .i64 (atB n), .int .i64 (atC n)] 31))); have HB5 := hide3 (below_then (below_then HBW.out hb) (boxB w5 (.cells #[.int .i64 (atA n), .int .i64 (atB n), .int .i64 (atC n)] 31))); obtain ⟨⟨k0, k1, k2, k3, k4, k5, k6⟩, z1, z2, z3⟩ := HP5.out.cells; clear hb)
          have HP6 := hide3 (HP5.out.set (atA n) (atB n) (atC n)).1
          have hg6 := (HP5.out.set (atA n) (atB n) (atC n)).2
          have HC6 := hide3 (HC5.out.over HP5.out (by decide) (by decide) (by omega) hg6)
          have HB6 := hide3 (HB5.out.grown hg6 HB5.out.size (fun k hk => by cases hk; omega))
          clear hg6 k0 k1 k2 k3 k4 k5 k6 z1 z2 z3
          generalize ((((w5.alloc (.cells #[.int .i64 (atA n), .int .i64 (atB n), .int .i64 (atC n)] 31)).setCell ⟨w2.heap.size, 1, none⟩ (.int .i64 (atA n))).setCell ⟨w2.heap.size, 2, none⟩ (.int .i64 (atB n))).setCell ⟨w2.heap.size, 3, none⟩ (.int .i64 (atC n))) = w6 at *
          obtain ⟨⟨k0, k1, k2, k3, k4, k5, k6⟩, _⟩ := HP6.out.cells
          have hn9 : n < 1000000000 := by omega
          have HPT : Hid (Calls Tryz.prog 11 #[.pointer (some ⟨w.heap.size + 1, 0, none⟩), .agg #[.string s, .int .i64 (atA n), .int .i64 (atB n), .int .i64 (atC n), .slice none 0 0, .slice none 0 0, .slice none 0 0]] w6 fun e w' => e = .returned (.int .i64 11) ∧ Below w6.heap.size w6 w') := by
            obtain ⟨x, hx⟩ := HFB.out.some (j := 0) (by decide)
            rw [show n + ((0 : Nat) : Int) = n by omega] at hx
            exact put_there (P := pgN s n) HC6.out (bare_at _ _ _ _ _) (he.below HB6.out) (hf.below HB6.out) (pgN_key hs16 (has_in h0 hn9)) (HWR.out _ h0 hn9) hx
          have HPZ : Hid (∀ W, CatAt W w.heap.size (w.heap.size + 1) w.heap.size L → Below w.heap.size w W → Calls Tryz.prog 11 #[.pointer (some ⟨w.heap.size + 1, 0, none⟩), .agg #[.string ByteArray.empty, .int .i64 0, .int .i64 0, .int .i64 0, .slice none 0 0, .slice none 0 0, .slice none 0 0]] W fun e w' => e = .returned (.int .i64 24) ∧ Below W.heap.size W w') := fun W hc hb => put_no (P := ⟨ByteArray.empty, 0, 0, 0, [], [], []⟩) hc (bare_at _ _ _ _ _) (he.below hb) (hf.below hb) zero_not
          have HAL : Hid (∀ W, CatAt W w.heap.size (w.heap.size + 1) w.heap.size L → Calls Tryz.prog 23 #[.pointer (some ⟨w.heap.size + 1, 0, none⟩)] W fun e w' => ∃ a c, e = .returned (.slice a 128 c) ∧ Below W.heap.size W w') := fun W hc => by
            refine (all_any hc (by rw [HFB.out.len]; decide)).mono ?_
            rintro e w' ⟨v, rfl, xs, ts, ht, hx, ho, hb⟩
            obtain ⟨a, c, e⟩ := ho.len
            have hl : xs.length = 128 := by
              have h1 := congrArg List.length hx
              rw [List.length_map, List.length_map, ht.1.length_eq, HFB.out.len] at h1
              exact h1
            rw [hl] at e
            exact ⟨a, c, by rw [e], hb⟩
          have HVS : Hid (∀ W, CatAt W w.heap.size (w.heap.size + 1) w.heap.size L → Calls Tryz.prog 18 #[.pointer (some ⟨w.heap.size + 1, 0, none⟩), .string s] W fun e w' => ∃ a c, e = .returned (.slice a 128 c) ∧ Below W.heap.size W w') := fun W hc => by
            refine (versions_any hc (by rw [HFB.out.len]; decide) s).mono ?_
            rintro e w' ⟨v, ts, rfl, ht, ho, hb⟩
            obtain ⟨a, c, e⟩ := ho.len
            rw [ht.1.length_eq, HFB.out.vers] at e
            exact ⟨a, c, by rw [e], hb⟩
          go_wp2_with (first
            | (have _t := HPT; go_at_call 11; refine HPT.out.mono ?_; rintro e w7 ⟨rfl, hb⟩; have HC7 := hide3 (HC6.out.below hb); have HB7 := hide3 (below_then HB6.out hb); clear hb HPT _t k0 k1 k2 k3 k4 k5 k6)
            | (go_at_call 11; refine (HPZ.out _ HC7.out HB7.out).mono ?_; rintro e w8 ⟨rfl, hb⟩; have HC8 := hide3 (HC7.out.below hb); have HB8 := hide3 (below_then HB7.out hb); clear hb HPZ)
            | (go_at_call 23; refine (HAL.out _ HC8.out).mono ?_; rintro e w9 ⟨a9, c9, rfl, hb⟩; have HC9 := hide3 (HC8.out.below hb); have HB9 := hide3 (below_then HB8.out hb); clear hb HAL)
            | (go_at_call 18; refine (HVS.out _ HC9.out).mono ?_; rintro e w10 ⟨a10, c10, rfl, hb⟩; have HBX := hide3 (below_then HB9.out hb); clear hb HVS))
          go_ret
          exact ⟨rfl, HBX.out⟩
    · have hneg : 0 ≤ from0.tmod 999000000 := by assumption
      have hhi : from0.tmod 999000000 < 999000000 := Int.tmod_lt_of_pos from0 (by decide)
      have hdm : decide (from0.tmod 999000000 < 0) = false := decide_eq_false (by omega)
      rw [hdm]
      clear hdm
      generalize from0.tmod 999000000 = n at *
      have h0 : 0 ≤ n := hneg
      have h1 : n < 999000000 := hhi
      clear hneg hhi
      go_loopw [8] (fun vi wr => ∃ (i : Nat) (L : List CV) (a b c : Int), i ≤ 130 ∧ vi = .int .i64 i ∧ CatAt wr w.heap.size (w.heap.size + 1) w.heap.size L ∧ Filled s n (min i 128) L ∧ PBx wr w2.heap.size s a b c ∧ Below w.heap.size w wr) (fun vi _ => 130 - (intOf vi).toNat)
      case atStart => exact ⟨0, [], 0, 0, 0, by decide, rfl, HC4.out, List.Perm.refl _, HP4.out, HB4.out⟩
      case round =>
        obtain ⟨i, L, a, b, c, hi130, rfl, hct, hfl, hpb, hbw⟩ := hrel
        have HCT := hide3 hct
        have HFL := hide3 hfl
        have HPB := hide3 hpb
        have HBW := hide3 hbw
        clear hct hfl hpb hbw
        by_cases hlt : i < 130
        · have hki : (i : Int) < 130 := by omega
          have hn1 : n + (i : Int) < 1000000000 := by omega
          go_upto_region 15 with (go_at_call 27; refine (HAT.out _ _).mono ?_; rintro e w5 ⟨rfl, hb⟩; have HP5 := hide3 ((HPB.out.below hb).below (boxB w5 (.cells #[.int .i64 (atA (n + (i : Int))), .int .i64 (atB (n + (i : Int))), .int .i64 (atC (n + (i : Int)))] 31))); have HC5 := hide3 ((HCT.out.below hb).below (boxB w5 (.cells #[.int .i64 (atA (n + (i : Int))), .int .i64 (atB (n + (i : Int))), .int .i64 (atC (n + (i : Int)))] 31))); have HB5 := hide3 (below_then (below_then HBW.out hb) (boxB w5 (.cells #[.int .i64 (atA (n + (i : Int))), .int .i64 (atB (n + (i : Int))), .int .i64 (atC (n + (i : Int)))] 31))); obtain ⟨⟨k0, k1, k2, k3, k4, k5, k6⟩, z1, z2, z3⟩ := HP5.out.cells; clear hb)
          have HP6 := hide3 (HP5.out.set (atA (n + (i : Int))) (atB (n + (i : Int))) (atC (n + (i : Int)))).1
          have hg6 := (HP5.out.set (atA (n + (i : Int))) (atB (n + (i : Int))) (atC (n + (i : Int)))).2
          have HC6 := hide3 (HC5.out.over HP5.out (by decide) (by decide) (by omega) hg6)
          have HB6 := hide3 (HB5.out.grown hg6 HB5.out.size (fun k hk => by cases hk; omega))
          clear hg6 k0 k1 k2 k3 k4 k5 k6 z1 z2 z3
          generalize ((((w5.alloc (.cells #[.int .i64 (atA (n + (i : Int))), .int .i64 (atB (n + (i : Int))), .int .i64 (atC (n + (i : Int)))] 31)).setCell ⟨w2.heap.size, 1, none⟩ (.int .i64 (atA (n + (i : Int))))).setCell ⟨w2.heap.size, 2, none⟩ (.int .i64 (atB (n + (i : Int))))).setCell ⟨w2.heap.size, 3, none⟩ (.int .i64 (atC (n + (i : Int))))) = w6 at *
          obtain ⟨⟨k0, k1, k2, k3, k4, k5, k6⟩, _⟩ := HP6.out.cells
          by_cases h8 : i < 128
          · have hki2 : ¬ (128 : Int) ≤ (i : Int) := by omega
            have HMN : Hid (min i 128 = i ∧ min (i + 1) 128 = i + 1) := ⟨by omega, by omega⟩
            have HPK : Hid (Calls Tryz.prog 11 #[.pointer (some ⟨w.heap.size + 1, 0, none⟩), .agg #[.string s, .int .i64 (atA (n + (i : Int))), .int .i64 (atB (n + (i : Int))), .int .i64 (atC (n + (i : Int))), .slice none 0 0, .slice none 0 0, .slice none 0 0]] w6 fun e w' => e = .returned (.int .i64 0) ∧ ∃ u1 u2 u3 L', L'.Perm (⟨pgN s (n + (i : Int)), u1, u2, u3⟩ :: L) ∧ CatAt w' w.heap.size (w.heap.size + 1) w.heap.size L' ∧ w6.grownBy w' (some w.heap.size)) := by
              have hF := HFL.out
              rw [HMN.out.1] at hF
              exact put_ok (P := pgN s (n + (i : Int))) HC6.out (bare_at _ _ _ _ _) (he.below HB6.out) (hf.below HB6.out) HB6.out.size (pgN_key hs16 (has_in (by omega) hn1)) (HWR.out _ (by omega) hn1) (hF.none h0 (Nat.le_refl _) hn1) (by rw [hF.len]; exact h8)
            go_wp2_with (go_at_call 11; refine HPK.out.mono ?_; rintro e w7 ⟨rfl, u1, u2, u3, L', hp, hc, hg⟩; have HQ7 : Hid (CatAt w7 w.heap.size (w.heap.size + 1) w.heap.size L' ∧ Filled s n (min (i + 1) 128) L' ∧ PBx w7 w2.heap.size s (atA (n + (i : Int))) (atB (n + (i : Int))) (atC (n + (i : Int))) ∧ Below w.heap.size w w7) := ⟨hc, (by have hF := HFL.out; rw [HMN.out.1] at hF; rw [HMN.out.2]; exact hF.put hp), (hg.block w2.heap.size (Array.getElem?_eq_some_iff.1 HP6.out).1 (fun q => by have := Option.some.inj q; omega)).trans HP6.out, HB6.out.grown hg HB6.out.size (fun k hk => by cases hk; exact Nat.le_refl _)⟩; clear hp hc hg HPK)
            exact ⟨⟨i + 1, L', _, _, _, by omega, by go_num, HQ7.out.1, HQ7.out.2.1, HQ7.out.2.2.1, HQ7.out.2.2.2⟩, by simp [intOf]; omega⟩
          · have hki2 : (128 : Int) ≤ (i : Int) := by omega
            have HMN : Hid (min i 128 = 128 ∧ min (i + 1) 128 = 128) := ⟨by omega, by omega⟩
            have HPK : Hid (Calls Tryz.prog 11 #[.pointer (some ⟨w.heap.size + 1, 0, none⟩), .agg #[.string s, .int .i64 (atA (n + (i : Int))), .int .i64 (atB (n + (i : Int))), .int .i64 (atC (n + (i : Int))), .slice none 0 0, .slice none 0 0, .slice none 0 0]] w6 fun e w' => e = .returned (.int .i64 26) ∧ Below w6.heap.size w6 w') := by
              have hF := HFL.out
              rw [HMN.out.1] at hF
              exact put_full (P := pgN s (n + (i : Int))) HC6.out (bare_at _ _ _ _ _) (he.below HB6.out) (hf.below HB6.out) (pgN_key hs16 (has_in (by omega) hn1)) (HWR.out _ (by omega) hn1) (hF.none h0 (by omega) hn1) (by rw [hF.len]; exact Nat.le_refl _)
            go_wp2_with (go_at_call 11; refine HPK.out.mono ?_; rintro e w7 ⟨rfl, hb⟩; have HQ7 : Hid (CatAt w7 w.heap.size (w.heap.size + 1) w.heap.size L ∧ Filled s n (min (i + 1) 128) L ∧ PBx w7 w2.heap.size s (atA (n + (i : Int))) (atB (n + (i : Int))) (atC (n + (i : Int))) ∧ Below w.heap.size w w7) := ⟨HC6.out.below hb, (by have hF := HFL.out; rw [HMN.out.1] at hF; rw [HMN.out.2]; exact hF), HP6.out.below hb, below_then HB6.out hb⟩; clear hb HPK)
            exact ⟨⟨i + 1, L, _, _, _, by omega, by go_num, HQ7.out.1, HQ7.out.2.1, HQ7.out.2.2.1, HQ7.out.2.2.2⟩, by simp [intOf]; omega⟩
        · obtain rfl : i = 130 := by omega
          have HFB : Hid (Filled s n 128 L) := HFL.out
          have hki : ¬ ((130 : Nat) : Int) < 130 := by decide
          clear HFL
          go_upto_region 22 with (go_at_call 27; refine (HAT.out _ _).mono ?_; rintro e w5 ⟨rfl, hb⟩; have HP5 := hide3 ((HPB.out.below hb).below (boxB w5 (.cells #[.int .i64 (atA n), .int .i64 (atB n), .int .i64 (atC n)] 31))); have HC5 := hide3 ((HCT.out.below hb).below (boxB w5 (.cells #[.int .i64 (atA n), .int .i64 (atB n), .int .i64 (atC n)] 31))); have HB5 := hide3 (below_then (below_then HBW.out hb) (boxB w5 (.cells #[.int .i64 (atA n), .int .i64 (atB n), .int .i64 (atC n)] 31))); obtain ⟨⟨k0, k1, k2, k3, k4, k5, k6⟩, z1, z2, z3⟩ := HP5.out.cells; clear hb)
          have HP6 := hide3 (HP5.out.set (atA n) (atB n) (atC n)).1
          have hg6 := (HP5.out.set (atA n) (atB n) (atC n)).2
          have HC6 := hide3 (HC5.out.over HP5.out (by decide) (by decide) (by omega) hg6)
          have HB6 := hide3 (HB5.out.grown hg6 HB5.out.size (fun k hk => by cases hk; omega))
          clear hg6 k0 k1 k2 k3 k4 k5 k6 z1 z2 z3
          generalize ((((w5.alloc (.cells #[.int .i64 (atA n), .int .i64 (atB n), .int .i64 (atC n)] 31)).setCell ⟨w2.heap.size, 1, none⟩ (.int .i64 (atA n))).setCell ⟨w2.heap.size, 2, none⟩ (.int .i64 (atB n))).setCell ⟨w2.heap.size, 3, none⟩ (.int .i64 (atC n))) = w6 at *
          obtain ⟨⟨k0, k1, k2, k3, k4, k5, k6⟩, _⟩ := HP6.out.cells
          have hn9 : n < 1000000000 := by omega
          have HPT : Hid (Calls Tryz.prog 11 #[.pointer (some ⟨w.heap.size + 1, 0, none⟩), .agg #[.string s, .int .i64 (atA n), .int .i64 (atB n), .int .i64 (atC n), .slice none 0 0, .slice none 0 0, .slice none 0 0]] w6 fun e w' => e = .returned (.int .i64 11) ∧ Below w6.heap.size w6 w') := by
            obtain ⟨x, hx⟩ := HFB.out.some (j := 0) (by decide)
            rw [show n + ((0 : Nat) : Int) = n by omega] at hx
            exact put_there (P := pgN s n) HC6.out (bare_at _ _ _ _ _) (he.below HB6.out) (hf.below HB6.out) (pgN_key hs16 (has_in h0 hn9)) (HWR.out _ h0 hn9) hx
          have HPZ : Hid (∀ W, CatAt W w.heap.size (w.heap.size + 1) w.heap.size L → Below w.heap.size w W → Calls Tryz.prog 11 #[.pointer (some ⟨w.heap.size + 1, 0, none⟩), .agg #[.string ByteArray.empty, .int .i64 0, .int .i64 0, .int .i64 0, .slice none 0 0, .slice none 0 0, .slice none 0 0]] W fun e w' => e = .returned (.int .i64 24) ∧ Below W.heap.size W w') := fun W hc hb => put_no (P := ⟨ByteArray.empty, 0, 0, 0, [], [], []⟩) hc (bare_at _ _ _ _ _) (he.below hb) (hf.below hb) zero_not
          have HAL : Hid (∀ W, CatAt W w.heap.size (w.heap.size + 1) w.heap.size L → Calls Tryz.prog 23 #[.pointer (some ⟨w.heap.size + 1, 0, none⟩)] W fun e w' => ∃ a c, e = .returned (.slice a 128 c) ∧ Below W.heap.size W w') := fun W hc => by
            refine (all_any hc (by rw [HFB.out.len]; decide)).mono ?_
            rintro e w' ⟨v, rfl, xs, ts, ht, hx, ho, hb⟩
            obtain ⟨a, c, e⟩ := ho.len
            have hl : xs.length = 128 := by
              have h1 := congrArg List.length hx
              rw [List.length_map, List.length_map, ht.1.length_eq, HFB.out.len] at h1
              exact h1
            rw [hl] at e
            exact ⟨a, c, by rw [e], hb⟩
          have HVS : Hid (∀ W, CatAt W w.heap.size (w.heap.size + 1) w.heap.size L → Calls Tryz.prog 18 #[.pointer (some ⟨w.heap.size + 1, 0, none⟩), .string s] W fun e w' => ∃ a c, e = .returned (.slice a 128 c) ∧ Below W.heap.size W w') := fun W hc => by
            refine (versions_any hc (by rw [HFB.out.len]; decide) s).mono ?_
            rintro e w' ⟨v, ts, rfl, ht, ho, hb⟩
            obtain ⟨a, c, e⟩ := ho.len
            rw [ht.1.length_eq, HFB.out.vers] at e
            exact ⟨a, c, by rw [e], hb⟩
          go_wp2_with (first
            | (have _t := HPT; go_at_call 11; refine HPT.out.mono ?_; rintro e w7 ⟨rfl, hb⟩; have HC7 := hide3 (HC6.out.below hb); have HB7 := hide3 (below_then HB6.out hb); clear hb HPT _t k0 k1 k2 k3 k4 k5 k6)
            | (go_at_call 11; refine (HPZ.out _ HC7.out HB7.out).mono ?_; rintro e w8 ⟨rfl, hb⟩; have HC8 := hide3 (HC7.out.below hb); have HB8 := hide3 (below_then HB7.out hb); clear hb HPZ)
            | (go_at_call 23; refine (HAL.out _ HC8.out).mono ?_; rintro e w9 ⟨a9, c9, rfl, hb⟩; have HC9 := hide3 (HC8.out.below hb); have HB9 := hide3 (below_then HB8.out hb); clear hb HAL)
            | (go_at_call 18; refine (HVS.out _ HC9.out).mono ?_; rintro e w10 ⟨a10, c10, rfl, hb⟩; have HBX := hide3 (below_then HB9.out hb); clear hb HVS))
          go_ret
          exact ⟨rfl, HBX.out⟩
end Go.Proofs.YthlipnnlgkmhcaaGreatDoor
