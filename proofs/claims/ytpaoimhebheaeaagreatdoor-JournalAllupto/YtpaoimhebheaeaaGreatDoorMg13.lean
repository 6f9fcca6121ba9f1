/- Pc2, Ph1, Jp1, Jr1, Jr2, Jr3, laid in one text. -/
import Derived.Test.YtpaoimhebheaeaaGreatDoorMg12
namespace Go.Proofs.YtpaoimhebheaeaaGreatDoor
open Go.RowKit Go.Maps Go.WideMaps Go.WideElems Dk
open Sc (KeepP keepBelow callC callC' wp_region_keep CellK keepCell)
set_option maxRecDepth 100000

/-- The kind of the last deed; the first kind, if there is none. -/
def lastD (l : List De) : Int := match l.getLast? with
  | none => 1
  | some q => q.kd
theorem lastD_snoc {l : List De} {k : Nat} (hk : k < l.length) : lastD (l.take (k + 1)) = l[k].kd := by unfold lastD; rw [last_take hk]
theorem okDe_prog {l : List De} {k : Nat} (hk : k < l.length) (hall : ∀ j (hj : j < l.length), j < k → okDe (l.take j) l[j] = true) :
    okDe (l.take k) l[k] = ((!decide (l[k].kd < lastD (l.take k)) && !decide (4 < l[k].kd)) && (mayB l[k].pa && (l[k].kd == 4 || l[k].da.toList == []) && followB (lastK (l.take k) l[k].pa) l[k].kd)) := by
  rw [follow_is (by omega) hall]
  unfold okDe mayB
  have h4 : (!decide (4 < l[k].kd)) = decide (l[k].kd ≤ 4) := by rw [Bool.eq_iff_iff]; simp
  rw [h4]
  have hl : (decide (1 ≤ l[k].kd) && ((l.take k).getLast?.all fun q => decide (q.kd ≤ l[k].kd))) = !decide (l[k].kd < lastD (l.take k)) := by
    unfold lastD
    cases h : (l.take k).getLast? with
    | none => rw [Bool.eq_iff_iff]; simp
    | some q =>
      have hm : q ∈ l.take k := List.mem_of_getLast? h
      obtain ⟨i, hi, rfl⟩ := List.getElem_of_mem hm
      rw [List.getElem_take]
      have hik : i < k := by rw [List.length_take] at hi; omega
      have := (okDe_parts (hall i (by omega) hik)).1
      rw [Bool.eq_iff_iff]
      simp
      omega
  rw [← hl]
  generalize decide (1 ≤ l[k].kd) = b1
  generalize decide (l[k].kd ≤ 4) = b2
  generalize ((l.take k).getLast?.all fun q => decide (q.kd ≤ l[k].kd)) = b3
  generalize (l[k].kd == 4 || l[k].da.toList == []) = b4
  generalize (okPath l[k].pa && !jB l[k].pa) = b5
  generalize (((l.take k).all fun a => !atP l[k].pa a || pairB a.kd l[k].kd) && decide ((l.take k).countP (atP l[k].pa) ≤ 1)) = b6
  cases b1 <;> cases b2 <;> cases b3 <;> cases b4 <;> cases b5 <;> cases b6 <;> rfl

/-- A deed in a box. -/
def BxDe (w : World) (N : Nat) (k : Int) (p t : ByteArray) : Prop := w.cell? ⟨N, 0, none⟩ = some (.int .i64 k) ∧ w.cell? ⟨N, 1, none⟩ = some (.string p) ∧ w.cell? ⟨N, 2, none⟩ = some (.string t) ∧ N < w.heap.size
theorem keepBxDe (N : Nat) (k : Int) (p t : ByteArray) : KeepP fun w => BxDe w N k p t := fun _ _ h hb => ⟨(hb.cell (p := ⟨N, 0, none⟩) h.2.2.2).trans h.1, (hb.cell (p := ⟨N, 1, none⟩) h.2.2.2).trans h.2.1, (hb.cell (p := ⟨N, 2, none⟩) h.2.2.2).trans h.2.2.1, Nat.lt_of_lt_of_le h.2.2.2 hb.size⟩
theorem bxDe_new (w : World) (k : Int) (p t : ByteArray) : BxDe (w.alloc (.cells #[.int .i64 k, .string p, .string t] 54)) w.heap.size k p t := by
  refine ⟨?_, ?_, ?_, ?_⟩ <;> simp
/-- What Check has while a deed is looked at. -/
def CkM (w1 : World) (d mb M n : Nat) (m : Int) (l : List De) : Prop := (∃ B, IsDisk B w1 d mb 0 (.slice none 0 0) newAb) ∧ w1.cell? ⟨0, 0, none⟩ = some (.int .i64 m) ∧ MetAt w1 M n l
theorem keepCkM (d mb M n : Nat) (m : Int) (l : List De) : KeepP fun w => CkM w d mb M n m l := fun _ _ h hb => ⟨h.1.imp fun _ q => q.below hb, (hb.cell (p := ⟨0, 0, none⟩) (cell_lt h.2.1)).trans h.2.1, h.2.2.below hb⟩
def LookP (w1 : World) (M : Nat) (p : ByteArray) (x : Int) : Prop := (Instr.lookup 118 (.map (some M)) (.string p) false).run Tryz.prog w1 = .ok (.int .i64 x) w1
theorem keepLook (d mb M n : Nat) (m : Int) (l : List De) {p : ByteArray} (hp : p.size ≤ maxLen) : KeepP fun w => CkM w d mb M n m l ∧ LookP w M p (lastK l p) := fun _ _ h hb => ⟨keepCkM d mb M n m l _ _ h.1 hb, (h.1.2.2.below hb).look hp⟩

/-- What a check answers. -/
def ChkQ (w : World) (l : List De) (e : Ending) (w' : World) : Prop := (∃ r, e = .returned (.int .i64 r) ∧ ((Plan l ∧ r = 0) ∨ (¬ Plan l ∧ r = 44))) ∧ Below w.heap.size w w'

set_option maxHeartbeats 16000000 in
theorem Check_any (l : List De) (a : Option Addr) (cap : Nat) (m : Int) (w : World) (hm : w.cell? ⟨0, 0, none⟩ = some (.int .i64 m)) (hlen : l.length ≤ 8388608) (hc : IsDes w a l) (hz : ∀ d ∈ l, d.pa.size ≤ maxLen) :
    Calls Tryz.prog 64 #[.slice a l.length cap] w (ChkQ w l) := by
  have HC := hide3 hc
  have HZ := hide3 hz
  have HNO : Hid (∀ w' i (hi : i < l.length), okDe (l.take i) l[i] = false → Below w.heap.size w w' → ChkQ w l (.returned (.int .i64 44)) w') := fun w' i hi h hb => ⟨⟨44, rfl, Or.inr ⟨(fun q => by rw [q i hi] at h; exact absurd h (by decide)), rfl⟩⟩, hb⟩
  have HYE : Hid (∀ w', (∀ j (hj : j < l.length), okDe (l.take j) l[j] = true) → Below w.heap.size w w' → ChkQ w l (.returned (.int .i64 0)) w') := fun w' h hb => ⟨⟨0, rfl, Or.inl ⟨h, rfl⟩⟩, hb⟩
  have HM := hide3 hm
  have HNW := hide3 (New_any w)
  have hmm := @run_makeMap Tryz.prog
  obtain ⟨D, hD⟩ : ∃ D, D = w.heap.size + 1 := ⟨_, rfl⟩
  obtain ⟨M, hM⟩ : ∃ M, M = (wNew w).heap.size := ⟨_, rfl⟩
  have HS0 : Hid (w.heap.size < M ∧ D < M) := by unfold Hid; rw [hM, hD, size_wNew]; omega
  obtain ⟨W1, hW1⟩ : ∃ W1, W1 = (wNew w).alloc (.map #[] 0) := ⟨_, rfl⟩
  have HB1 : Hid (Below w.heap.size w W1) := by
    unfold Hid
    rw [hW1]
    unfold wNew
    exact (((Below.refl _ _).alloc (Nat.le_refl _) _).alloc (by simp) _).alloc (by simp <;> omega) _
  have HD1 : Hid (CkM W1 D w.heap.size M 0 m []) := by
    have h0 : IsDisk w.heap.size (wNew w) D w.heap.size 0 (.slice none 0 0) newAb := by rw [hD]; exact new_is (Nat.le_refl _)
    refine ⟨⟨w.heap.size, ?_⟩, (HB1.out.cell (p := ⟨0, 0, none⟩) (cell_lt hm)).trans hm, ?_⟩
    · rw [hW1]; exact h0.below ((Below.refl _ _).alloc (Nat.le_refl _) _)
    · rw [hW1, hM]; exact MetAt.new _
  clear hc hz hm
  rw [← hD] at HNW
  have HMM := hide3 hM
  have HWW := hide3 hW1
  clear hD hM hW1
  go_enter Tryz.func64, Tryz.ntmps64
  go_wp2_with (go_at_call 60; refine HNW.out.mono ?_; rintro e w1 ⟨rfl, rfl⟩)
  rw [← HMM.out, ← HWW.out]
  go_loopw [5, 12] (fun x i wr => ∃ k : Nat, k ≤ l.length ∧ i = .int .i64 k ∧ x = .int .i64 (lastD (l.take k)) ∧ Below w.heap.size w wr ∧ CkM wr D w.heap.size M k m (l.take k) ∧ ∀ j (hj : j < l.length), j < k → okDe (l.take j) l[j] = true) (fun _ i _ => l.length - (intOf i).toNat)
  case atStart => exact ⟨0, Nat.zero_le _, rfl, rfl, HB1.out, HD1.out, fun j hj h => absurd h (Nat.not_lt_zero _)⟩
  case round =>
    clear HB1 HD1 HNW HMM HWW
    obtain ⟨k, hk, rfl, rfl, hb, hck, hall⟩ := hrel
    have HB := hide3 hb
    have HA := hide3 hall
    have HCK := hide3 hck
    clear hb hall hck
    by_cases hlt : k < l.length
    · obtain ⟨g, off, rfl, hg, hcs⟩ : ∃ g off, a = some ⟨g, off, none⟩ ∧ g < w.heap.size ∧ DesIn w g off l := by
        rcases HC.out with h | h
        · rw [h] at hlt; exact absurd hlt (Nat.not_lt_zero _)
        · exact h
      obtain ⟨b0, b1, b2⟩ : wr.cell? ⟨g, off + k * 3, none⟩ = some (.int .i64 l[k].kd) ∧ wr.cell? ⟨g, off + k * 3 + 1, none⟩ = some (.string l[k].pa) ∧ wr.cell? ⟨g, off + k * 3 + 1 + 1, none⟩ = some (.string l[k].da) := by
        obtain ⟨a0, a1, a2⟩ := hcs k hlt
        exact ⟨(HB.out.cell (p := ⟨g, off + k * 3, none⟩) hg).trans a0, (HB.out.cell (p := ⟨g, off + k * 3 + 1, none⟩) hg).trans a1, (HB.out.cell (p := ⟨g, off + k * 3 + 1 + 1, none⟩) hg).trans a2⟩
      have HNK := hide3 (fun w' => HNO.out w' k hlt)
      have HPZ := hide3 (HZ.out l[k] (List.getElem_mem hlt))
      have HST : Hid (okDe (l.take k) l[k] = true → ∀ j (hj : j < l.length), j < k + 1 → okDe (l.take j) l[j] = true) := fun h j hj hjk => by
        by_cases e : j = k
        · subst e; exact h
        · exact HA.out j hj (by omega)
      have HDF := hide3 (okDe_prog hlt HA.out)
      have HLS := hide3 (lastD_snoc hlt)
      have HTK : Hid (l.take (k + 1) = l.take k ++ [l[k]]) := List.take_succ_eq_append_getElem hlt
      have hki : (k : Int) < (l.length : Int) := by omega
      have hk0 : (0 : Int) ≤ (k : Int) := by omega
      obtain ⟨W0, hW0⟩ : ∃ W0, W0 = wr.alloc (.cells #[.int .i64 l[k].kd, .string l[k].pa, .string l[k].da] 54) := ⟨_, rfl⟩
      have HX : Hid (Below wr.heap.size wr W0) := by rw [hW0]; exact (Below.refl _ _).alloc (Nat.le_refl _) _
      have HBX : Hid (BxDe W0 wr.heap.size l[k].kd l[k].pa l[k].da) := by rw [hW0]; exact bxDe_new _ _ _ _
      have HK : Hid (KeepP fun w1 => Below w.heap.size w w1 ∧ BxDe w1 wr.heap.size l[k].kd l[k].pa l[k].da ∧ (CkM w1 D w.heap.size M k m (l.take k) ∧ LookP w1 M l[k].pa (lastK (l.take k) l[k].pa))) := (keepBelow w).and ((keepBxDe _ _ _ _).and (keepLook _ _ _ _ _ _ HPZ.out))
      have HO : Hid (Below w.heap.size w W0 ∧ BxDe W0 wr.heap.size l[k].kd l[k].pa l[k].da ∧ (CkM W0 D w.heap.size M k m (l.take k) ∧ LookP W0 M l[k].pa (lastK (l.take k) l[k].pa))) := by
        have h1 := keepCkM D w.heap.size M k m (l.take k) _ _ HCK.out HX.out
        exact ⟨HB.out.trans (HX.out.mono HB.out.size), HBX.out, h1, h1.2.2.look HPZ.out⟩
      have HMP : Hid (∀ w1, Below w.heap.size w w1 ∧ BxDe w1 wr.heap.size l[k].kd l[k].pa l[k].da ∧ (CkM w1 D w.heap.size M k m (l.take k) ∧ LookP w1 M l[k].pa (lastK (l.take k) l[k].pa)) → Calls Tryz.prog 99 #[.pointer (some ⟨D, 0, none⟩), .string l[k].pa] w1 fun e w' => e = .returned (.bool (mayB l[k].pa)) ∧ Below w1.heap.size w1 w') := fun w1 h => by
        obtain ⟨B, hd⟩ := h.2.2.1.1
        exact mayPath_any hd l[k].pa m h.2.2.1.2.1 HPZ.out
      have HMD : Hid (∀ w1, Calls Tryz.prog 100 #[.agg #[.int .i64 l[k].kd, .string l[k].pa, .string l[k].da]] w1 fun e w' => e = .returned (.bool (l[k].kd == 4 || l[k].da.toList == [])) ∧ Below w1.heap.size w1 w') := fun w1 => mayData_any _ _ _ w1
      have HMF : Hid (∀ w1, Calls Tryz.prog 101 #[.int .i64 (lastK (l.take k) l[k].pa), .int .i64 l[k].kd] w1 fun e w' => e = .returned (.bool (followB (lastK (l.take k) l[k].pa) l[k].kd)) ∧ Below w1.heap.size w1 w') := fun w1 => mayFollow_any _ _ w1
      have HPUT : Hid (∀ w1, CkM w1 D w.heap.size M k m (l.take k) → Below w.heap.size w w1 → ∃ w', (Instr.mapUpdate 118 (.map (some M)) (.string l[k].pa) (.int .i64 l[k].kd)).run Tryz.prog w1 = .ok () w' ∧ CkM w' D w.heap.size M (k + 1) m (l.take (k + 1)) ∧ Below w.heap.size w w') := fun w1 h hbw => by
        obtain ⟨w', hr, hmt, hg'⟩ := h.2.2.put (by unfold maxLen; omega) l[k] HPZ.out
        refine ⟨w', hr, ⟨?_, ?_, ?_⟩, hbw.grown hg' hbw.size (fun j hj => by cases hj; exact Nat.le_of_lt HS0.out.1)⟩
        · obtain ⟨B, hd⟩ := h.1
          exact ⟨B, hd.upd (Upd.of_grown hg') (fun j hj e => by
            have e := Option.some.inj e
            subst e
            rcases hj with h1 | h1 | h1
            · have := HS0.out.2; omega
            · have := HS0.out.1; omega
            · cases h1)⟩
        · rw [hg'.cell_far ⟨0, 0, none⟩ (cell_lt h.2.1) (fun e => by have := Option.some.inj e; simp only at this; have := HS0.out.1; omega)]
          exact h.2.1
        · rw [HTK.out]; exact hmt
      clear hcs HTK HBX HX
      unfold LookP at HK HO HMP
      have HND : Hid (∀ w' (x : Int), x = lastD (l.take (k + 1)) → okDe (l.take k) l[k] = true → CkM w' D w.heap.size M (k + 1) m (l.take (k + 1)) → Below w.heap.size w w' → (∃ q : Nat, q ≤ l.length ∧ Value.int .i64 ((k : Int) + 1) = .int .i64 q ∧ Value.int .i64 x = .int .i64 (lastD (l.take q)) ∧ Below w.heap.size w w' ∧ CkM w' D w.heap.size M q m (l.take q) ∧ ∀ j (hj : j < l.length), j < q → okDe (l.take j) l[j] = true)) := fun w' x hx h1 h2 h3 => ⟨k + 1, by omega, by push_cast; rfl, by rw [hx], h3, h2, HST.out h1⟩
      clear HST
      generalize okDe (l.take k) l[k] = okd at *
      generalize hld : lastD (l.take k) = ld at *
      generalize lastK (l.take k) l[k].pa = lk at *
      generalize mayB l[k].pa = mp at *
      generalize (l[k].kd == 4 || l[k].da.toList == []) = md at *
      generalize followB lk l[k].kd = mf at *
      generalize l[k].kd = kd at *
      generalize l[k].pa = p at *
      generalize l[k].da = t at *
      clear hld
      by_cases h1 : kd < ld
      · have h1d : decide (kd < ld) = true := decide_eq_true h1
        have HFF : Hid (okd = false) := by unfold Hid; rw [HDF.out, h1d]; rfl
        obtain ⟨hbw, ⟨x0, x1, x2, x3⟩, _⟩ := HO.out
        clear HDF
        subst hW0
        go_wp2_with fail
        go_ret
        exact HNK.out _ HFF.out HO.out.1
      have h1d : decide (kd < ld) = false := decide_eq_false h1
      by_cases h4 : 4 < kd
      · have h4d : decide (4 < kd) = true := decide_eq_true h4
        have HFF : Hid (okd = false) := by unfold Hid; rw [HDF.out, h1d, h4d]; rfl
        clear HDF
        subst hW0
        go_wp2_with fail
        go_ret
        exact HNK.out _ HFF.out HO.out.1
      have h4d : decide (4 < kd) = false := decide_eq_false h4
      rw [h1d, h4d] at HDF
      cases mp
      · rw [show (false && md && mf) = false from rfl] at HDF
        have HFF : Hid (okd = false) := by unfold Hid; rw [HDF.out]; rfl
        clear HDF HPUT HND
        subst hW0
        go_wp2_with (first
          | (go_at_call 101; have _t := HO2; refine (HMF.out _).mono ?_; rintro e w3 ⟨rfl, hb3⟩; have HO3 := hide3 (HK.out _ _ HO2.out hb3); clear hb3; obtain ⟨_, ⟨z0, z1, z2, z3⟩, _, _⟩ := HO3.out)
          | (go_at_call 100; have _t := HO1; refine (HMD.out _).mono ?_; rintro e w2 ⟨rfl, hb2⟩; have HO2 := hide3 (HK.out _ _ HO1.out hb2); clear hb2; obtain ⟨_, ⟨y0, y1, y2, y3⟩, _, hlk2⟩ := HO2.out)
          | (go_at_call 99; refine (HMP.out _ HO.out).mono ?_; rintro e w1 ⟨rfl, hb1⟩; have HO1 := hide3 (HK.out _ _ HO.out hb1); clear hb1; obtain ⟨_, ⟨x0, x1, x2, x3⟩, _, hlk⟩ := HO1.out))
        go_ret
        exact HNK.out _ HFF.out HO1.out.1
      cases md
      · rw [show (true && false && mf) = false from rfl] at HDF
        have HFF : Hid (okd = false) := by unfold Hid; rw [HDF.out]; rfl
        clear HDF HPUT HND
        subst hW0
        go_wp2_with (first
          | (go_at_call 101; have _t := HO2; refine (HMF.out _).mono ?_; rintro e w3 ⟨rfl, hb3⟩; have HO3 := hide3 (HK.out _ _ HO2.out hb3); clear hb3; obtain ⟨_, ⟨z0, z1, z2, z3⟩, _, _⟩ := HO3.out)
          | (go_at_call 100; have _t := HO1; refine (HMD.out _).mono ?_; rintro e w2 ⟨rfl, hb2⟩; have HO2 := hide3 (HK.out _ _ HO1.out hb2); clear hb2; obtain ⟨_, ⟨y0, y1, y2, y3⟩, _, hlk2⟩ := HO2.out)
          | (go_at_call 99; refine (HMP.out _ HO.out).mono ?_; rintro e w1 ⟨rfl, hb1⟩; have HO1 := hide3 (HK.out _ _ HO.out hb1); clear hb1; obtain ⟨_, ⟨x0, x1, x2, x3⟩, _, hlk⟩ := HO1.out))
        go_ret
        exact HNK.out _ HFF.out HO2.out.1
      cases mf
      · rw [show (true && true && false) = false from rfl] at HDF
        have HFF : Hid (okd = false) := by unfold Hid; rw [HDF.out]; rfl
        clear HDF HPUT HND
        subst hW0
        go_wp2_with (first
          | (go_at_call 101; have _t := HO2; refine (HMF.out _).mono ?_; rintro e w3 ⟨rfl, hb3⟩; have HO3 := hide3 (HK.out _ _ HO2.out hb3); clear hb3; obtain ⟨_, ⟨z0, z1, z2, z3⟩, _, _⟩ := HO3.out)
          | (go_at_call 100; have _t := HO1; refine (HMD.out _).mono ?_; rintro e w2 ⟨rfl, hb2⟩; have HO2 := hide3 (HK.out _ _ HO1.out hb2); clear hb2; obtain ⟨_, ⟨y0, y1, y2, y3⟩, _, hlk2⟩ := HO2.out)
          | (go_at_call 99; refine (HMP.out _ HO.out).mono ?_; rintro e w1 ⟨rfl, hb1⟩; have HO1 := hide3 (HK.out _ _ HO.out hb1); clear hb1; obtain ⟨_, ⟨x0, x1, x2, x3⟩, _, hlk⟩ := HO1.out))
        go_ret
        exact HNK.out _ HFF.out HO3.out.1
      have HFF : Hid (okd = true) := by unfold Hid; rw [HDF.out]; rfl
      clear HDF HNK
      subst hW0
      go_wp2_with (first
        | (go_at_call 101; have _t := HO2; refine (HMF.out _).mono ?_; rintro e w3 ⟨rfl, hb3⟩; have HO3 := hide3 (HK.out _ _ HO2.out hb3); clear hb3; obtain ⟨_, ⟨z0, z1, z2, z3⟩, _, _⟩ := HO3.out; obtain ⟨w4, hup, hc4, hb4⟩ := HPUT.out _ HO3.out.2.2.1 HO3.out.1; have HC4 := hide3 hc4; have HB4 := hide3 hb4; clear hc4 hb4)
        | (go_at_call 100; have _t := HO1; refine (HMD.out _).mono ?_; rintro e w2 ⟨rfl, hb2⟩; have HO2 := hide3 (HK.out _ _ HO1.out hb2); clear hb2; obtain ⟨_, ⟨y0, y1, y2, y3⟩, _, hlk2⟩ := HO2.out)
        | (go_at_call 99; refine (HMP.out _ HO.out).mono ?_; rintro e w1 ⟨rfl, hb1⟩; have HO1 := hide3 (HK.out _ _ HO.out hb1); clear hb1; obtain ⟨_, ⟨x0, x1, x2, x3⟩, _, hlk⟩ := HO1.out))
      exact ⟨HND.out _ _ HLS.out.symm HFF.out HC4.out HB4.out, by simp [intOf]; omega⟩
    · have hki : ¬ ((k : Int) < (l.length : Int)) := by omega
      go_wp2_with fail
      go_ret
      exact HYE.out _ (fun j hj => HA.out j hj (by omega)) HB.out
end Go.Proofs.YtpaoimhebheaeaaGreatDoor
namespace Go.Proofs.YtpaoimhebheaeaaGreatDoor
open Go.RowKit Go.Maps Go.WideMaps Go.WideElems Dk
set_option maxRecDepth 100000

theorem memP_put {D : DataW Unit} (hP : Plain D) {s : ByteArray} (c : Bool) (t : ByteArray) (hok : okPath s = true) (y : Fl) : y ∈ filesD (D.put (keyD s) (itemD c t)) ↔ y = (s, c, t) ∨ (y ∈ filesD D ∧ y.1 ≠ s) := by
  rw [← put_files hP.good hP.isMap (hP.put c t hok).good, putD_ins, mem_ins]
theorem memP_del {D : DataW Unit} (hP : Plain D) (s : ByteArray) (y : Fl) : y ∈ filesD (D.del (keyD s)) ↔ y ∈ filesD D ∧ y.1 ≠ s := by
  have := del_files (f := (s, false, ByteArray.empty)) hP.good (hP.del _).good
  rw [← this, putD_del, mem_filterF]
theorem has_mem {D : DataW Unit} (hP : Plain D) (s : ByteArray) : Maps.has D (keyD s) = true ↔ ∃ y ∈ filesD D, y.1 = s := by
  constructor
  · intro h
    obtain ⟨c, t, hct⟩ := hP.good.item s h
    exact ⟨(s, c, t), (hP.good.mem _).2 ⟨h, hct⟩, rfl⟩
  · rintro ⟨y, hy, rfl⟩
    exact ((hP.good.mem y).1 hy).1
theorem kindP_in {D : DataW Unit} (hP : Plain D) {y : Fl} (hy : y ∈ filesD D) : kindD D y.1 = if y.2.1 = true then 2 else 1 := by
  have hG := hP.good
  obtain ⟨h1, h2⟩ := (hG.mem y).1 hy
  obtain ⟨s, e, hok⟩ := hG.keys _ h1
  rw [← keyD_inj e] at hok
  unfold kindD
  rw [if_neg (by rw [not_root hok]; decide), if_pos h1, h2, itDir_mk]
theorem kindP_out {D : DataW Unit} (hP : Plain D) {s : ByteArray} (hr : (s.toList == [47]) = false) (hn : ∀ y ∈ filesD D, y.1 ≠ s) : kindD D s = 0 := by
  refine kind_none hr ?_
  rw [Bool.eq_false_iff]
  intro h
  obtain ⟨y, hy, e⟩ := (has_mem hP s).1 h
  exact hn y hy e
/-- Disks with the same files are the same. -/
theorem plain_eq {D E : DataW Unit} (hD : Plain D) (hE : Plain E) (h : ∀ y, y ∈ filesD D ↔ y ∈ filesD E) : D = E := by
  have hf := eq_of_rising hD.good.rise hE.good.rise h
  obtain ⟨es, rfl, _, h1⟩ := hD
  obtain ⟨fs, rfl, _, h2⟩ := hE
  congr 1
  have key : ∀ p : Lit × DataW Unit, (∃ s c t, p = (keyD s, itemD c t) ∧ okPath s = true) → (keyD (litB p.1), itemD (itDir p.2) ⟨(itData p.2).toArray⟩) = p := by
    rintro p ⟨s, c, t, rfl, _⟩
    simp only
    rw [litB_key, itDir_mk, itData_mk, bytes_mk]
  have e : ∀ (l : List (Lit × DataW Unit)), (∀ p ∈ l, ∃ s c t, p = (keyD s, itemD c t) ∧ okPath s = true) → (filesD (.map l)).map (fun f : Fl => (keyD f.1, itemD f.2.1 f.2.2)) = l := by
    intro l hl
    show (l.map _).map _ = l
    rw [List.map_map]
    conv => rhs; rw [← List.map_id l]
    exact List.map_congr_left fun p hp => key p (hl p hp)
  rw [← e es h1, ← e fs h2, hf]

/-- What a deed does to a disk on which it can be done. -/
def appD (D : DataW Unit) (x : De) : DataW Unit := if x.kd ≤ 2 then D.del (keyD x.pa) else if x.kd = 3 then D.put (keyD x.pa) (itemD true ByteArray.empty) else D.put (keyD x.pa) (itemD false x.da)
/-- What the law's does does. -/
def dD (D : DataW Unit) (x : De) : DataW Unit :=
  if (x.kd == 1) = true then (if (kindD D x.pa == 1) = true then D.del (keyD x.pa) else D)
  else if (x.kd == 2) = true then (if (kindD D x.pa == 2) = true then (if usedD D x.pa = true then D else D.del (keyD x.pa)) else D)
  else if (x.kd == 3) = true then (if (kindD D x.pa == 0) = true then (if (parentD D x.pa != 0) = true then D else D.put (keyD x.pa) (itemD true ByteArray.empty)) else D)
  else if (fileD D x.pa != 0) = true then D else D.put (keyD x.pa) (itemD false x.da)
/-- Can a deed be done? -/
def canD (D : DataW Unit) (x : De) : Bool :=
  if (x.kd == 1) = true then kindD D x.pa == 1
  else if (x.kd == 2) = true then (kindD D x.pa == 2 && !usedD D x.pa)
  else if (x.kd == 3) = true then kindD D x.pa == 0
  else kindD D x.pa != 2
/-- Was it done? -/
def wasD (D : DataW Unit) (x : De) : Bool := !((x.kd == 3 && kindD D x.pa != 2) || (x.kd == 4 && kindD D x.pa != 1))
structure OkX (x : De) : Prop where
  lo : 1 ≤ x.kd
  hi : x.kd ≤ 4
  path : okPath x.pa = true
structure OkD (D : DataW Unit) : Prop where
  pl : Plain D
  so : Sound D
theorem root_not {s : ByteArray} (h : okPath s = true) : (s.toList == [47]) = false := not_root h
theorem parent_zero {D : DataW Unit} {s : ByteArray} (h : kindD D (parentOf s) = 2) : parentD D s = 0 := by unfold parentD; rw [h]; rfl
theorem kind_has {D : DataW Unit} {s : ByteArray} (hok : okPath s = true) (h : kindD D s ≠ 0) : Maps.has D (keyD s) = true := by
  cases hh : Maps.has D (keyD s) with
  | true => rfl
  | false => exact absurd (kind_none (root_not hok) hh) h
theorem b11 : ((1 : Int) == 1) = true := rfl
theorem b22 : ((2 : Int) == 2) = true := rfl
theorem b33 : ((3 : Int) == 3) = true := rfl
theorem b43 : ¬ ((4 : Int) == 3) = true := by decide
/-- A deed that can be done, and was, does what it says. -/
theorem does_is {D : DataW Unit} (hD : OkD D) {x : De} (hx : OkX x) (hc : canD D x = true) (hw : wasD (dD D x) x = true) : dD D x = appD D x ∧ OkD (appD D x) := by
  obtain ⟨k, p, t⟩ := x
  obtain ⟨lo, hi, hp⟩ := hx
  simp only at lo hi hp
  unfold canD at hc
  unfold dD at hw ⊢
  unfold appD
  simp only at hc hw ⊢
  by_cases h1 : k = 1
  · subst h1
    rw [if_pos b11] at hc
    rw [if_pos b11, if_pos hc, if_pos (by decide)]
    refine ⟨rfl, hD.pl.del _, sound_del hD.so fun y hy e => ?_⟩
    have := hD.so y hy
    rw [e, beq_iff_eq.1 hc] at this
    cases this
  · have k1 : (k == 1) = false := beq_eq_false_iff_ne.2 h1
    rw [if_neg (by rw [k1]; decide)] at hc hw ⊢
    by_cases h2 : k = 2
    · subst h2
      rw [if_pos b22, Bool.and_eq_true, Bool.not_eq_true'] at hc
      rw [if_pos b22, if_pos hc.1, if_neg (by rw [hc.2]; decide), if_pos (by decide)]
      refine ⟨rfl, hD.pl.del _, sound_del hD.so fun y hy e => ?_⟩
      have hu : usedD D p = true := (used_iff hD.pl.strKeys p).2 ⟨y, hy, e⟩
      rw [hc.2] at hu
      cases hu
    · have k2 : (k == 2) = false := beq_eq_false_iff_ne.2 h2
      rw [if_neg (by rw [k2]; decide)] at hc hw ⊢
      by_cases h3 : k = 3
      · subst h3
        rw [if_pos b33] at hc hw ⊢
        rw [if_pos hc] at hw ⊢
        rw [if_neg (show ¬ (3 : Int) ≤ 2 by decide), if_pos rfl]
        cases hpd : (parentD D p != 0)
        · rw [if_neg (by decide)]
          exact ⟨rfl, hD.pl.put _ _ hp, sound_put hD.so hp (parentD_zero hpd) (by rw [beq_iff_eq.1 hc]; decide)⟩
        · rw [hpd, if_pos rfl] at hw
          unfold wasD at hw
          simp only at hw
          rw [beq_iff_eq.1 hc] at hw
          cases hw
      · obtain rfl : k = 4 := by omega
        rw [if_neg b43] at hc hw ⊢
        rw [if_neg (show ¬ (4 : Int) ≤ 2 by decide), if_neg (show ¬ (4 : Int) = 3 by decide)]
        have hc2 : kindD D p ≠ 2 := bne_iff_ne.1 hc
        cases hfd : (fileD D p != 0)
        · rw [if_neg (by decide)]
          have hpd : (parentD D p != 0) = false := by
            cases q : (parentD D p != 0)
            · rfl
            · unfold fileD at hfd
              rw [if_pos q, q] at hfd
              cases hfd
          exact ⟨rfl, hD.pl.put _ _ hp, sound_put hD.so hp (parentD_zero hpd) hc2⟩
        · rw [hfd, if_pos rfl] at hw
          exfalso
          unfold wasD at hw
          simp only at hw
          have hk1 : kindD D p = 1 := by
            cases q : (kindD D p != 1)
            · have : ¬ (kindD D p ≠ 1) := fun e => by rw [bne_iff_ne.2 e] at q; cases q
              omega
            · rw [q] at hw; cases hw
          have hpar := hD.so p (kind_has hp (by rw [hk1]; decide))
          unfold fileD at hfd
          rw [parent_zero hpar, hk1] at hfd
          cases hfd
/-- A deed that is done. -/
def Done (D : DataW Unit) (x : De) : Prop := (x.kd = 1 → kindD D x.pa ≠ 1) ∧ (x.kd = 2 → kindD D x.pa ≠ 2) ∧ (x.kd = 3 → kindD D x.pa = 2) ∧ (x.kd = 4 → (x.pa, false, x.da) ∈ filesD D)
/-- A deed that is done is done once more: nothing turns. -/
theorem done_again {D : DataW Unit} (hD : OkD D) {x : De} (hx : OkX x) (h : Done D x) : dD D x = D := by
  obtain ⟨k, p, t⟩ := x
  obtain ⟨lo, hi, hp⟩ := hx
  obtain ⟨d1, d2, d3, d4⟩ := h
  simp only at lo hi hp d1 d2 d3 d4
  unfold dD
  simp only
  by_cases h1 : k = 1
  · rw [if_pos (by rw [h1]; rfl), if_neg (fun e => d1 h1 (beq_iff_eq.1 e))]
  · rw [if_neg (fun e => h1 (beq_iff_eq.1 e))]
    by_cases h2 : k = 2
    · rw [if_pos (by rw [h2]; rfl), if_neg (fun e => d2 h2 (beq_iff_eq.1 e))]
    · rw [if_neg (fun e => h2 (beq_iff_eq.1 e))]
      by_cases h3 : k = 3
      · rw [if_pos (by rw [h3]; rfl), if_neg (fun e => by have := beq_iff_eq.1 e; have := d3 h3; omega)]
      · rw [if_neg (fun e => h3 (beq_iff_eq.1 e))]
        have hm := d4 (by omega)
        split
        · rfl
        · refine plain_eq (hD.pl.put _ _ hp) hD.pl fun y => ?_
          rw [memP_put hD.pl _ _ hp]
          constructor
          · rintro (rfl | ⟨hy, _⟩)
            · exact hm
            · exact hy
          · intro hy
            by_cases e : y.1 = p
            · refine Or.inl ?_
              have hap := rising_apart hD.pl.good.rise
              by_cases q : y = (p, false, t)
              · exact q
              · exfalso
                obtain ⟨i, hi2, rfl⟩ := List.getElem_of_mem hy
                obtain ⟨j, hj2, ej⟩ := List.getElem_of_mem hm
                have hne : i ≠ j := fun e2 => q (by subst e2; exact ej)
                rcases Nat.lt_or_gt_of_ne hne with hl | hl
                · exact (List.pairwise_iff_getElem.1 hap i j hi2 hj2 hl) (by rw [e, ej])
                · exact (List.pairwise_iff_getElem.1 hap j i hj2 hi2 hl) (by rw [e, ej])
            · exact Or.inr ⟨hy, e⟩
theorem kind_other {D : DataW Unit} {x : De} {s : ByteArray} (h : s ≠ x.pa) : kindD (appD D x) s = kindD D s := by
  unfold appD
  split
  · exact kind_del_other h
  · split
    · exact kind_put_other h
    · exact kind_put_other h
theorem mem_other {D : DataW Unit} (hP : Plain D) {x : De} (hx : OkX x) {y : Fl} (h : y.1 ≠ x.pa) : y ∈ filesD (appD D x) ↔ y ∈ filesD D := by
  unfold appD
  split
  · rw [memP_del hP]; exact ⟨fun q => q.1, fun q => ⟨q, h⟩⟩
  · split
    · rw [memP_put hP _ _ hx.path]; exact ⟨fun q => q.elim (fun e => absurd (by rw [e]) h) (fun q => q.1), fun q => Or.inr ⟨q, h⟩⟩
    · rw [memP_put hP _ _ hx.path]; exact ⟨fun q => q.elim (fun e => absurd (by rw [e]) h) (fun q => q.1), fun q => Or.inr ⟨q, h⟩⟩
/-- The kind behind a deed. -/
theorem kind_own {D : DataW Unit} (hP : Plain D) {x : De} (hx : OkX x) : kindD (appD D x) x.pa = if x.kd ≤ 2 then 0 else if x.kd = 3 then 2 else 1 := by
  have hr := root_not hx.path
  unfold appD
  by_cases h2 : x.kd ≤ 2
  · rw [if_pos h2, if_pos h2]
    exact kindP_out (hP.del _) hr fun y hy => ((memP_del hP _ y).1 hy).2
  · rw [if_neg h2, if_neg h2]
    by_cases h3 : x.kd = 3
    · rw [if_pos h3, if_pos h3]
      exact kindP_in (hP.put true ByteArray.empty hx.path) (y := (x.pa, true, ByteArray.empty)) ((memP_put hP _ _ hx.path _).2 (Or.inl rfl))
    · rw [if_neg h3, if_neg h3]
      exact kindP_in (hP.put false x.da hx.path) (y := (x.pa, false, x.da)) ((memP_put hP _ _ hx.path _).2 (Or.inl rfl))
/-- What is done stays done. -/
theorem done_next {D : DataW Unit} (hD : OkD D) {pre : List De} {x : De} (hx : OkX x) (hpl : okDe pre x = true) (hpre : ∀ a ∈ pre, OkX a ∧ Done D a) : ∀ a ∈ pre ++ [x], Done (appD D x) a := by
  intro a ha
  rcases List.mem_append.1 ha with ha | ha
  · obtain ⟨hax, d1, d2, d3, d4⟩ := hpre a ha
    by_cases e : a.pa = x.pa
    · have hpair : pairB a.kd x.kd = true := by
        unfold okDe at hpl
        simp only [Bool.and_eq_true, List.all_eq_true] at hpl
        have := hpl.2.1 a ha
        unfold atP at this
        rw [e] at this
        simpa using this
      have hk := kind_own hD.pl hx
      unfold pairB at hpair
      simp only [Bool.or_eq_true, Bool.and_eq_true, beq_iff_eq] at hpair
      rcases hpair with ⟨q1, q2⟩ | ⟨q1, q2⟩
      · rw [if_neg (by omega), if_pos q2] at hk
        refine ⟨fun _ => by rw [e, hk]; decide, fun h => by omega, fun h => by omega, fun h => by omega⟩
      · rw [if_neg (by omega), if_neg (by omega)] at hk
        refine ⟨fun h => by omega, fun _ => by rw [e, hk]; decide, fun h => by omega, fun h => by omega⟩
    · have hk := kind_other (D := D) (x := x) e
      refine ⟨fun h => by rw [hk]; exact d1 h, fun h => by rw [hk]; exact d2 h, fun h => by rw [hk]; exact d3 h, fun h => (mem_other hD.pl hx e).2 (d4 h)⟩
  · obtain rfl := List.mem_singleton.1 ha
    have hk := kind_own hD.pl hx
    refine ⟨fun h => by rw [hk, if_pos (by omega)]; decide, fun h => by rw [hk, if_pos (by omega)]; decide, fun h => by rw [hk, if_neg (by omega), if_pos h], fun h => ?_⟩
    unfold appD
    rw [if_neg (by omega), if_neg (by omega)]
    exact (memP_put hD.pl _ _ hx.path _).2 (Or.inl rfl)
/-- The disk behind the first deeds. -/
def runD (D : DataW Unit) (l : List De) (i : Nat) : DataW Unit := (l.take i).foldl appD D
theorem runD_succ {D : DataW Unit} {l : List De} {i : Nat} (h : i < l.length) : runD D l (i + 1) = appD (runD D l i) l[i] := by
  unfold runD
  rw [List.take_succ_eq_append_getElem h, List.foldl_append]
  rfl
/-- What holds while deeds are done one by one. -/
structure RunI (D : DataW Unit) (l : List De) (i : Nat) : Prop where
  le : i ≤ l.length
  ok : ∀ j, j ≤ i → OkD (runD D l j)
  step : ∀ j (h : j < l.length), j < i → dD (runD D l j) l[j] = runD D l (j + 1)
  done : ∀ j, j ≤ i → ∀ a ∈ l.take j, OkX a ∧ Done (runD D l j) a
theorem RunI.start {D : DataW Unit} (h : OkD D) (l : List De) : RunI D l 0 := by
  refine ⟨Nat.zero_le _, fun j hj => ?_, fun j _ hj => absurd hj (Nat.not_lt_zero _), fun j hj a ha => ?_⟩
  · obtain rfl : j = 0 := by omega
    exact h
  · obtain rfl : j = 0 := by omega
    cases ha
theorem RunI.next {D : DataW Unit} {l : List De} {i : Nat} (h : RunI D l i) (hp : Plan l) (hi : i < l.length) (hc : canD (runD D l i) l[i] = true) (hw : wasD (dD (runD D l i) l[i]) l[i] = true) : RunI D l (i + 1) := by
  have hpp := hp.parts l[i] (List.getElem_mem hi)
  have hx : OkX l[i] := ⟨hpp.1, hpp.2.1, hpp.2.2.2⟩
  obtain ⟨e1, e2⟩ := does_is (h.ok i (Nat.le_refl _)) hx hc hw
  refine ⟨hi, fun j hj => ?_, fun j hj hji => ?_, fun j hj a ha => ?_⟩
  · by_cases e : j = i + 1
    · rw [e, runD_succ hi]; exact e2
    · exact h.ok j (by omega)
  · by_cases e : j = i
    · subst e; rw [runD_succ hi]; exact e1
    · exact h.step j hj (by omega)
  · by_cases e : j = i + 1
    · subst e
      rw [List.take_succ_eq_append_getElem hi] at ha
      refine ⟨?_, ?_⟩
      · rcases List.mem_append.1 ha with q | q
        · exact (h.done i (Nat.le_refl _) a q).1
        · rw [List.mem_singleton.1 q]; exact hx
      · rw [runD_succ hi]
        exact done_next (h.ok i (Nat.le_refl _)) hx (hp i hi) (h.done i (Nat.le_refl _)) a ha
    · exact h.done j (by omega) a ha
/-- Done once more from the beginning. -/
theorem RunI.again {D : DataW Unit} {l : List De} (h : RunI D l l.length) {g j : Nat} (hg : g ≤ l.length) (hj : j < l.length) : dD (runD D l (max g j)) l[j] = runD D l (max g (j + 1)) := by
  by_cases e : j < g
  · rw [Nat.max_eq_left (by omega), Nat.max_eq_left (by omega)]
    have hm : l[j] ∈ l.take g := List.mem_take_iff_getElem.2 ⟨j, by omega, rfl⟩
    obtain ⟨h1, h2⟩ := h.done g hg l[j] hm
    exact done_again (h.ok g hg) h1 h2
  · rw [Nat.max_eq_right (by omega), Nat.max_eq_right (by omega)]
    exact h.step j hj hj
end Go.Proofs.YtpaoimhebheaeaaGreatDoor
namespace Go.Proofs.YtpaoimhebheaeaaGreatDoor
open Go.RowKit Go.Maps Go.WideMaps Go.WideElems Dk
set_option maxRecDepth 100000

/-- The paths of the journal. -/
def pP : ByteArray := ⟨#[47, 106, 111, 117, 114, 110, 97, 108, 47, 112, 108, 97, 110]⟩
def pN : ByteArray := ⟨#[47, 106, 111, 117, 114, 110, 97, 108, 47, 112, 108, 97, 110, 46, 110, 101, 119]⟩
theorem pP_ok : okPath pP = true := by decide +kernel
theorem pN_ok : okPath pN = true := by decide +kernel
theorem jn_ok : okPath jn = true := by decide +kernel

/-- A deed is done, or done once more. -/
def doA (x : Ab) (d : De) : Int × Ab :=
  if (d.kd == 1 && kindD x.D d.pa == 1) = true then removeD x d.pa
  else if (d.kd == 2 && kindD x.D d.pa == 2) = true then removeD x d.pa
  else if (d.kd == 3 && kindD x.D d.pa == 0) = true then mkdirD x d.pa
  else if (d.kd == 4) = true then (if (readE x.D d.pa != 0 || (readT x.D d.pa).toList != d.da.toList) = true then writeFD x d.pa d.da else (0, x))
  else (0, x)
/-- Deeds, one behind the other, up to one that fails. -/
def runA : List De → Ab → Int × Ab
  | [], x => (0, x)
  | d :: r, x => if ((doA x d).1 != 0) = true then doA x d else runA r (doA x d).2
theorem runA_snoc (l : List De) (d : De) (x : Ab) : runA (l ++ [d]) x = if ((runA l x).1 != 0) = true then runA l x else doA (runA l x).2 d := by
  induction l generalizing x with
  | nil =>
    show (if ((doA x d).1 != 0) = true then doA x d else (0, (doA x d).2)) = (if ((0 : Int) != 0) = true then ((0 : Int), x) else doA x d)
    rw [if_neg (show ¬ ((0 : Int) != 0) = true by decide)]
    split
    · rfl
    · rename_i h
      have h0 : (doA x d).1 = 0 := by
        have := bne_eq_false_iff_eq.1 (Bool.eq_false_iff.2 h)
        exact this
      show (0, (doA x d).2) = doA x d
      rw [← h0]
  | cons a r ih =>
    show (if ((doA x a).1 != 0) = true then doA x a else runA (r ++ [d]) (doA x a).2) = if ((if ((doA x a).1 != 0) = true then doA x a else runA r (doA x a).2).1 != 0) = true then (if ((doA x a).1 != 0) = true then doA x a else runA r (doA x a).2) else doA (if ((doA x a).1 != 0) = true then doA x a else runA r (doA x a).2).2 d
    by_cases h : ((doA x a).1 != 0) = true
    · rw [if_pos h, if_pos h, if_pos h]
    · rw [if_neg h, if_neg h, ih]
/-- The journal goes. -/
def goneA (x : Ab) : Int × Ab :=
  if (kindD x.D pN == 1) = true then (if ((removeD x pN).1 != 0) = true then removeD x pN else removeD (removeD x pN).2 jn)
  else removeD x jn
/-- What comes behind the plan. -/
def endA (l : List De) (x : Ab) : Int × Ab :=
  if ((runA l x).1 != 0) = true then runA l x
  else if ((removeD (runA l x).2 pP).1 != 0) = true then removeD (runA l x).2 pP
  else goneA (removeD (runA l x).2 pP).2
/-- Does a deed find what it wants? -/
def findsB (D : DataW Unit) (d : De) : Bool := !((d.kd == 1 && kindD D d.pa != 1) || (d.kd == 2 && kindD D d.pa != 2) || (d.kd == 3 && kindD D d.pa != 0))
/-- Can deeds be done, one behind the other? -/
def canA : List De → Ab → Bool
  | [], _ => true
  | d :: r, x => findsB x.D d && ((doA x d).1 == 0) && canA r (doA x d).2
/-- What stays as it should on a disk. -/
structure Fine (x : Ab) : Prop where
  pl : Plain x.D
  so : Sound x.D
  lo : -1 ≤ x.left
  hi : x.left ≤ 9223372036854775807
theorem note_left {x : Ab} {D : DataW Unit} {r : Int × ByteArray × ByteArray} (h1 : -1 ≤ x.left) (h2 : x.left ≤ 9223372036854775807) : -1 ≤ (noteAb { D := D, rs := x.rs, left := x.left } r).left ∧ (noteAb { D := D, rs := x.rs, left := x.left } r).left ≤ 9223372036854775807 := by
  unfold noteAb
  simp only
  split <;> omega
theorem rem_fine {x : Ab} (h : Fine x) (s : ByteArray) : Fine (removeD x s).2 ∧ (removeD x s).2.rs.length ≤ x.rs.length + 1 := by
  unfold removeD
  by_cases h0 : (writeD x.left [s] != 0) = true
  · rw [if_pos h0]; exact ⟨h, Nat.le_succ _⟩
  · rw [if_neg h0]
    by_cases h1 : (kindD x.D s == 0) = true
    · rw [if_pos h1]; exact ⟨h, Nat.le_succ _⟩
    · rw [if_neg h1]
      by_cases h2 : (kindD x.D s == 2 && usedD x.D s) = true
      · rw [if_pos h2]; exact ⟨h, Nat.le_succ _⟩
      · rw [if_neg h2]
        refine ⟨⟨h.pl.del _, sound_del h.so fun y hy e => ?_, (note_left h.lo h.hi).1, (note_left h.lo h.hi).2⟩, by unfold noteAb; simp⟩
        have hk := h.so y hy
        rw [e] at hk
        have hu : usedD x.D s = true := (used_iff h.pl.strKeys s).2 ⟨y, hy, e⟩
        rw [hk, hu] at h2
        exact h2 rfl
theorem wr_ok {l : Int} {s : ByteArray} (h : ¬ (writeD l [s] != 0) = true) : okPath s = true := by
  have := writeD_ok (Bool.eq_false_iff.2 h)
  simpa using this
theorem mk_fine {x : Ab} (h : Fine x) (s : ByteArray) : Fine (mkdirD x s).2 ∧ (mkdirD x s).2.rs.length ≤ x.rs.length + 1 := by
  unfold mkdirD
  by_cases h0 : (writeD x.left [s] != 0) = true
  · rw [if_pos h0]; exact ⟨h, Nat.le_succ _⟩
  · rw [if_neg h0]
    have hok := wr_ok h0
    by_cases h1 : (parentD x.D s != 0) = true
    · rw [if_pos h1]; exact ⟨h, Nat.le_succ _⟩
    · rw [if_neg h1]
      by_cases h2 : (kindD x.D s != 0) = true
      · rw [if_pos h2]; exact ⟨h, Nat.le_succ _⟩
      · rw [if_neg h2]
        have hk : kindD x.D s = 0 := bne_eq_false_iff_eq.1 (Bool.eq_false_iff.2 h2)
        exact ⟨⟨h.pl.put _ _ hok, sound_put h.so hok (parentD_zero (Bool.eq_false_iff.2 h1)) (by rw [hk]; decide), (note_left h.lo h.hi).1, (note_left h.lo h.hi).2⟩, by unfold noteAb; simp⟩
theorem wt_fine {x : Ab} (h : Fine x) (s t : ByteArray) : Fine (writeFD x s t).2 ∧ (writeFD x s t).2.rs.length ≤ x.rs.length + 1 := by
  unfold writeFD
  by_cases h0 : (writeD x.left [s] != 0) = true
  · rw [if_pos h0]; exact ⟨h, Nat.le_succ _⟩
  · rw [if_neg h0]
    have hok := wr_ok h0
    by_cases h1 : (fileD x.D s != 0) = true
    · rw [if_pos h1]; exact ⟨h, Nat.le_succ _⟩
    · rw [if_neg h1]
      have hf : fileD x.D s = 0 := bne_eq_false_iff_eq.1 (Bool.eq_false_iff.2 h1)
      have hpd : (parentD x.D s != 0) = false := by
        cases q : (parentD x.D s != 0)
        · rfl
        · unfold fileD at hf
          rw [if_pos q] at hf
          rw [hf] at q
          cases q
      have hk : kindD x.D s ≠ 2 := fun e => by
        unfold fileD at hf
        rw [if_neg (by rw [hpd]; decide), e] at hf
        cases hf
      exact ⟨⟨h.pl.put _ _ hok, sound_put h.so hok (parentD_zero hpd) hk, (note_left h.lo h.hi).1, (note_left h.lo h.hi).2⟩, by unfold noteAb; simp⟩
theorem do_fine {x : Ab} (h : Fine x) (d : De) : Fine (doA x d).2 ∧ (doA x d).2.rs.length ≤ x.rs.length + 1 := by
  unfold doA
  split
  · exact rem_fine h _
  · split
    · exact rem_fine h _
    · split
      · exact mk_fine h _
      · split
        · split
          · exact wt_fine h _ _
          · exact ⟨h, Nat.le_succ _⟩
        · exact ⟨h, Nat.le_succ _⟩
theorem run_fine (l : List De) : ∀ {x : Ab}, Fine x → Fine (runA l x).2 ∧ (runA l x).2.rs.length ≤ x.rs.length + l.length := by
  induction l with
  | nil => intro x h; exact ⟨h, Nat.le_refl _⟩
  | cons d r ih =>
    intro x h
    obtain ⟨h1, h2⟩ := do_fine h d
    have e : runA (d :: r) x = if ((doA x d).1 != 0) = true then doA x d else runA r (doA x d).2 := rfl
    rw [e]
    split
    · exact ⟨h1, by rw [List.length_cons]; omega⟩
    · obtain ⟨h3, h4⟩ := ih h1
      exact ⟨h3, by rw [List.length_cons]; omega⟩
end Go.Proofs.YtpaoimhebheaeaaGreatDoor
namespace Go.Proofs.YtpaoimhebheaeaaGreatDoor
open Go.RowKit Go.Maps Go.WideMaps Go.WideElems Dk
set_option maxRecDepth 100000

theorem fitR_below {B : Nat} {w w1 : World} {e : Nat} {lv rv : Value} {x : Ab} (h : FitR B w e lv rv x) (hb : Below w.heap.size w w1) : FitR B w1 e lv rv x := { h with ref := h.ref.below hb, base := Nat.le_trans h.base hb.size }
theorem afterR_pre {B : Nat} {w w1 w' : World} {e : Nat} {lv rv : Value} {fs : List Fl} {rs : List (Int × ByteArray × ByteArray)} {left : Int} (hb : Below w.heap.size w w1) (h : AfterR B w1 w' e lv rv fs rs left) : AfterR B w w' e lv rv fs rs left := by
  obtain ⟨lv', rv', h1, h2, h3⟩ := h
  exact ⟨lv', rv', h1, (Upd.of_below hb).trans h2 (fun _ _ q => q), fun j hj => (h3 j hj).imp id (fun q => Nat.le_trans hb.size q)⟩
theorem afterR_same {B : Nat} {w w' : World} {e : Nat} {lv rv : Value} {fs : List Fl} {rs : List (Int × ByteArray × ByteArray)} {left : Int} (h : IsRef B w e lv rv fs rs left) (hb : Below w.heap.size w w') : AfterR B w w' e lv rv fs rs left := ⟨lv, rv, h.below hb, Upd.of_below hb, fun _ hj => Or.inl hj⟩
/-- What a call on the document's disk leaves. -/
def RefQ (B : Nat) (w : World) (e : Nat) (lv rv : Value) (y : Int × Ab) (e' : Ending) (w' : World) : Prop := e' = .returned (.int .i64 y.1) ∧ AfterR B w w' e lv rv (filesD y.2.D) y.2.rs y.2.left
theorem refQ_rem {B : Nat} {w : World} {e : Nat} {lv rv : Value} {x : Ab} (h : FitR B w e lv rv x) (hf : Fine x) (s : ByteArray) (hs : s.size ≤ maxLen) (W : World) (hb : Below w.heap.size w W) : Calls Tryz.prog 79 #[.pointer (some ⟨e, 0, none⟩), .string s] W (RefQ B w e lv rv (removeD x s)) :=
  (rRemove_any (fitR_below h hb) hf.pl hf.so s hs).mono fun _ _ q => ⟨q.1, afterR_pre hb q.2⟩
theorem refQ_mk {B : Nat} {w : World} {e : Nat} {lv rv : Value} {x : Ab} (h : FitR B w e lv rv x) (hf : Fine x) (s : ByteArray) (hs : s.size ≤ maxLen) (W : World) (hb : Below w.heap.size w W) : Calls Tryz.prog 35 #[.pointer (some ⟨e, 0, none⟩), .string s] W (RefQ B w e lv rv (mkdirD x s)) :=
  (rMkdir_any (fitR_below h hb) s hs (mk_fine hf s).1.pl.good).mono fun _ _ q => ⟨q.1, afterR_pre hb q.2⟩
theorem refQ_wt {B : Nat} {w : World} {e : Nat} {lv rv : Value} {x : Ab} (h : FitR B w e lv rv x) (hf : Fine x) (s t : ByteArray) (hs : s.size ≤ maxLen) (W : World) (hb : Below w.heap.size w W) : Calls Tryz.prog 36 #[.pointer (some ⟨e, 0, none⟩), .string s, .string t] W (RefQ B w e lv rv (writeFD x s t)) :=
  (rWrite_any (fitR_below h hb) s t hs (wt_fine hf s t).1.pl.good).mono fun _ _ q => ⟨q.1, afterR_pre hb q.2⟩
end Go.Proofs.YtpaoimhebheaeaaGreatDoor
namespace Go.Proofs.YtpaoimhebheaeaaGreatDoor
open Go.RowKit Go.Maps Go.WideMaps Go.WideElems Dk
set_option maxRecDepth 100000

set_option maxHeartbeats 8000000 in
theorem rdo_any {B : Nat} {w : World} {e : Nat} {lv rv : Value} {x : Ab} (h : FitR B w e lv rv x) (hf : Fine x) (dd : De) (hs : dd.pa.size ≤ maxLen) :
    Calls Tryz.prog 74 #[.pointer (some ⟨e, 0, none⟩), .agg #[.int .i64 dd.kd, .string dd.pa, .string dd.da]] w (RefQ B w e lv rv (doA x dd)) := by
  obtain ⟨k, p, t⟩ := dd
  simp only at hs ⊢
  have HX : Hid (Below w.heap.size w (w.alloc (.cells #[.int .i64 k, .string p, .string t] 54))) := (Below.refl _ _).alloc (Nat.le_refl _) _
  have HBX : Hid (∀ W, Below (w.alloc (.cells #[.int .i64 k, .string p, .string t] 54)).heap.size (w.alloc (.cells #[.int .i64 k, .string p, .string t] 54)) W → BxDe W w.heap.size k p t) := fun W hb => keepBxDe _ _ _ _ _ _ (bxDe_new _ _ _ _) hb
  have HK : Hid (∀ W, Below w.heap.size w W → Calls Tryz.prog 32 #[.pointer (some ⟨e, 0, none⟩), .string p] W fun e' w' => e' = .returned (.int .i64 (kindD x.D p)) ∧ w' = W) := fun W hb => rKind_any (fitR_below h hb).ref h.good p (Nat.le_of_lt h.room)
  have HRD : Hid (∀ W, Below w.heap.size w W → Calls Tryz.prog 45 #[.pointer (some ⟨e, 0, none⟩), .string p] W fun e' w' => e' = .returned (.tuple #[.string (readT x.D p), .int .i64 (readE x.D p)]) ∧ Below W.heap.size W w') := fun W hb => rRead_any (fitR_below h hb).ref h.good p hs (Nat.le_of_lt h.room)
  have HR : Hid (∀ W, Below w.heap.size w W → Calls Tryz.prog 79 #[.pointer (some ⟨e, 0, none⟩), .string p] W (RefQ B w e lv rv (removeD x p))) := fun W hb => refQ_rem h hf p hs W hb
  have HM : Hid (∀ W, Below w.heap.size w W → Calls Tryz.prog 35 #[.pointer (some ⟨e, 0, none⟩), .string p] W (RefQ B w e lv rv (mkdirD x p))) := fun W hb => refQ_mk h hf p hs W hb
  have HW : Hid (∀ W, Below w.heap.size w W → Calls Tryz.prog 36 #[.pointer (some ⟨e, 0, none⟩), .string p, .string t] W (RefQ B w e lv rv (writeFD x p t))) := fun W hb => refQ_wt h hf p t hs W hb
  have HS : Hid (∀ W, Below w.heap.size w W → RefQ B w e lv rv (0, x) (.returned (.int .i64 0)) W) := fun W hb => ⟨rfl, afterR_same h.ref hb⟩
  have HDD : Hid (doA x ⟨k, p, t⟩ = (if (k == 1 && kindD x.D p == 1) = true then removeD x p
  else if (k == 2 && kindD x.D p == 2) = true then removeD x p
  else if (k == 3 && kindD x.D p == 0) = true then mkdirD x p
  else if (k == 4) = true then (if (readE x.D p != 0 || (readT x.D p).toList != t.toList) = true then writeFD x p t else (0, x))
  else (0, x))) := rfl
  generalize doA x ⟨k, p, t⟩ = E at *
  clear h hf hs
  generalize kindD x.D p = kk at *
  generalize readE x.D p = re at *
  generalize readT x.D p = rt at *
  by_cases h1 : k = 1
  · subst h1
    rw [show ((1 : Int) == 1 && kk == 1) = (kk == 1) from rfl, show ((1 : Int) == 2 && kk == 2) = false from rfl, show ((1 : Int) == 3 && kk == 0) = false from rfl, show ((1 : Int) == 4) = false from rfl, if_neg (show ¬ false = true by decide), if_neg (show ¬ false = true by decide), if_neg (show ¬ false = true by decide)] at HDD
    cases hk : (kk == 1)
    · rw [hk, if_neg (by decide)] at HDD
      rw [HDD.out]
      clear HDD HR HM HW HRD
      go_enter Tryz.func74, Tryz.ntmps74
      go_wp2_with (go_at_call 32; refine (HK.out _ HX.out).mono ?_; rintro e1 w1 ⟨rfl, rfl⟩)
      go_ret
      exact HS.out _ HX.out
    · rw [hk, if_pos rfl] at HDD
      rw [HDD.out]
      clear HDD
      go_enter Tryz.func74, Tryz.ntmps74
      go_wp2_with (first
        | (go_at_call 79; refine (HR.out _ HX.out).mono ?_; rintro e2 w2 ⟨rfl, hq2⟩; have HQ2 := hide3 hq2; clear hq2)
        | (go_at_call 32; refine (HK.out _ HX.out).mono ?_; rintro e1 w1 ⟨rfl, rfl⟩))
      go_ret
      exact ⟨rfl, HQ2.out⟩
  · have k1 : (k == 1) = false := beq_eq_false_iff_ne.2 h1
    rw [k1, Bool.false_and, if_neg (show ¬ false = true by decide)] at HDD
    by_cases h2 : k = 2
    · subst h2
      rw [show ((2 : Int) == 2 && kk == 2) = (kk == 2) from rfl, show ((2 : Int) == 3 && kk == 0) = false from rfl, show ((2 : Int) == 4) = false from rfl, if_neg (show ¬ false = true by decide), if_neg (show ¬ false = true by decide)] at HDD
      clear h1
      cases hk : (kk == 2)
      · rw [hk, if_neg (by decide)] at HDD
        rw [HDD.out]
        clear HDD HR HM HW HRD
        go_enter Tryz.func74, Tryz.ntmps74
        go_wp2_with (go_at_call 32; refine (HK.out _ HX.out).mono ?_; rintro e1 w1 ⟨rfl, rfl⟩)
        go_ret
        exact HS.out _ HX.out
      · rw [hk, if_pos rfl] at HDD
        rw [HDD.out]
        clear HDD
        go_enter Tryz.func74, Tryz.ntmps74
        go_wp2_with (first
          | (go_at_call 79; refine (HR.out _ HX.out).mono ?_; rintro e2 w2 ⟨rfl, hq2⟩; have HQ2 := hide3 hq2; clear hq2)
          | (go_at_call 32; refine (HK.out _ HX.out).mono ?_; rintro e1 w1 ⟨rfl, rfl⟩))
        go_ret
        exact ⟨rfl, HQ2.out⟩
    · have k2 : (k == 2) = false := beq_eq_false_iff_ne.2 h2
      rw [k2, Bool.false_and, if_neg (show ¬ false = true by decide)] at HDD
      by_cases h3 : k = 3
      · subst h3
        rw [show ((3 : Int) == 3 && kk == 0) = (kk == 0) from rfl, show ((3 : Int) == 4) = false from rfl, if_neg (show ¬ false = true by decide)] at HDD
        clear h1 h2
        cases hk : (kk == 0)
        · rw [hk, if_neg (by decide)] at HDD
          rw [HDD.out]
          clear HDD HR HM HW HRD
          go_enter Tryz.func74, Tryz.ntmps74
          go_wp2_with (go_at_call 32; refine (HK.out _ HX.out).mono ?_; rintro e1 w1 ⟨rfl, rfl⟩)
          go_ret
          exact HS.out _ HX.out
        · rw [hk, if_pos rfl] at HDD
          rw [HDD.out]
          clear HDD
          go_enter Tryz.func74, Tryz.ntmps74
          go_wp2_with (first
            | (go_at_call 35; refine (HM.out _ HX.out).mono ?_; rintro e2 w2 ⟨rfl, hq2⟩; have HQ2 := hide3 hq2; clear hq2)
            | (go_at_call 32; refine (HK.out _ HX.out).mono ?_; rintro e1 w1 ⟨rfl, rfl⟩))
          go_ret
          exact ⟨rfl, HQ2.out⟩
      · have k3 : (k == 3) = false := beq_eq_false_iff_ne.2 h3
        rw [k3, Bool.false_and, if_neg (show ¬ false = true by decide)] at HDD
        by_cases h4 : k = 4
        · subst h4
          rw [if_pos (show ((4 : Int) == 4) = true from rfl)] at HDD
          clear h1 h2 h3 HR HM
          have HW2 := hide3 HW.out
          cases hre : (re != 0)
          · cases hrq : (rt.toList == t.toList)
            rotate_left
            · have hrt : (rt.toList != t.toList) = false := by unfold bne; rw [hrq]; rfl
              rw [hre, hrt, Bool.or_false, if_neg (by decide)] at HDD
              rw [HDD.out]
              clear HDD
              go_enter Tryz.func74, Tryz.ntmps74
              go_wp2_with (first
                | (go_at_call 45; refine (HRD.out _ HX.out).mono ?_; rintro e2 w2 ⟨rfl, hb2⟩; have HB2 : Hid (Below w.heap.size w w2) := HX.out.trans (hb2.mono HX.out.size); obtain ⟨y0, y1, y2, y3⟩ := HBX.out w2 hb2; clear hb2)
                | (go_at_call 32; refine (HK.out _ HX.out).mono ?_; rintro e1 w1 ⟨rfl, rfl⟩))
              go_ret
              exact HS.out _ HB2.out
            · have hrt : (rt.toList != t.toList) = true := by unfold bne; rw [hrq]; rfl
              rw [hre, hrt, Bool.or_true, if_pos rfl] at HDD
              rw [HDD.out]
              clear HDD
              go_enter Tryz.func74, Tryz.ntmps74
              go_wp2_with (first
                | (go_at_call 36; refine (HW2.out _ HB2.out).mono ?_; rintro e3 w3 ⟨rfl, hq3⟩; have HQ3 := hide3 hq3; clear hq3)
                | (go_at_call 45; refine (HRD.out _ HX.out).mono ?_; rintro e2 w2 ⟨rfl, hb2⟩; have HB2 : Hid (Below w.heap.size w w2) := HX.out.trans (hb2.mono HX.out.size); obtain ⟨y0, y1, y2, y3⟩ := HBX.out w2 hb2; clear hb2)
                | (go_at_call 32; refine (HK.out _ HX.out).mono ?_; rintro e1 w1 ⟨rfl, rfl⟩))
              go_ret
              exact ⟨rfl, HQ3.out⟩
          · rw [hre, Bool.true_or, if_pos rfl] at HDD
            rw [HDD.out]
            clear HDD
            go_enter Tryz.func74, Tryz.ntmps74
            go_wp2_with (first
              | (go_at_call 36; refine (HW2.out _ HB2.out).mono ?_; rintro e3 w3 ⟨rfl, hq3⟩; have HQ3 := hide3 hq3; clear hq3)
              | (go_at_call 45; refine (HRD.out _ HX.out).mono ?_; rintro e2 w2 ⟨rfl, hb2⟩; have HB2 : Hid (Below w.heap.size w w2) := HX.out.trans (hb2.mono HX.out.size); obtain ⟨y0, y1, y2, y3⟩ := HBX.out w2 hb2; clear hb2)
              | (go_at_call 32; refine (HK.out _ HX.out).mono ?_; rintro e1 w1 ⟨rfl, rfl⟩))
            go_ret
            exact ⟨rfl, HQ3.out⟩
        · have k4 : (k == 4) = false := beq_eq_false_iff_ne.2 h4
          rw [k4, if_neg (show ¬ false = true by decide)] at HDD
          clear h1 h2 h3 h4
          rw [HDD.out]
          clear HDD HR HM HW HRD
          go_enter Tryz.func74, Tryz.ntmps74
          go_wp2_with (go_at_call 32; refine (HK.out _ HX.out).mono ?_; rintro e1 w1 ⟨rfl, rfl⟩)
          go_ret
          exact HS.out _ HX.out
end Go.Proofs.YtpaoimhebheaeaaGreatDoor
namespace Go.Proofs.YtpaoimhebheaeaaGreatDoor
open Go.RowKit Go.Maps Go.WideMaps Go.WideElems Dk
set_option maxRecDepth 100000

theorem len_put {D : DataW Unit} (hP : Plain D) {s : ByteArray} (c : Bool) (t : ByteArray) (hok : okPath s = true) : (filesD (D.put (keyD s) (itemD c t))).length ≤ (filesD D).length + 1 := by
  have hn := Dk.distinct (hP.put c t hok).good.rise
  have hs : filesD (D.put (keyD s) (itemD c t)) ⊆ (s, c, t) :: filesD D := fun y hy => by
    rcases (memP_put hP c t hok y).1 hy with rfl | ⟨h, _⟩
    · exact List.mem_cons_self
    · exact List.mem_cons_of_mem _ h
  have := List.Nodup.length_le_of_subset hn hs
  rw [List.length_cons] at this
  exact this
theorem len_del {D : DataW Unit} (hP : Plain D) (s : ByteArray) : (filesD (D.del (keyD s))).length ≤ (filesD D).length := by
  have hn := Dk.distinct (hP.del (keyD s)).good.rise
  have hs : filesD (D.del (keyD s)) ⊆ filesD D := fun y hy => ((memP_del hP s y).1 hy).1
  exact List.Nodup.length_le_of_subset hn hs
theorem rem_len {x : Ab} (h : Fine x) (s : ByteArray) : (filesD (removeD x s).2.D).length ≤ (filesD x.D).length + 1 := by
  unfold removeD
  split
  · exact Nat.le_succ _
  · split
    · exact Nat.le_succ _
    · split
      · exact Nat.le_succ _
      · exact Nat.le_trans (len_del h.pl s) (Nat.le_succ _)
theorem mk_len {x : Ab} (h : Fine x) (s : ByteArray) : (filesD (mkdirD x s).2.D).length ≤ (filesD x.D).length + 1 := by
  unfold mkdirD
  by_cases h0 : (writeD x.left [s] != 0) = true
  · rw [if_pos h0]; exact Nat.le_succ _
  · rw [if_neg h0]
    split
    · exact Nat.le_succ _
    · split
      · exact Nat.le_succ _
      · exact len_put h.pl _ _ (wr_ok h0)
theorem wt_len {x : Ab} (h : Fine x) (s t : ByteArray) : (filesD (writeFD x s t).2.D).length ≤ (filesD x.D).length + 1 := by
  unfold writeFD
  by_cases h0 : (writeD x.left [s] != 0) = true
  · rw [if_pos h0]; exact Nat.le_succ _
  · rw [if_neg h0]
    split
    · exact Nat.le_succ _
    · exact len_put h.pl _ _ (wr_ok h0)
theorem do_len {x : Ab} (h : Fine x) (d : De) : (filesD (doA x d).2.D).length ≤ (filesD x.D).length + 1 := by
  unfold doA
  split
  · exact rem_len h _
  · split
    · exact rem_len h _
    · split
      · exact mk_len h _
      · split
        · split
          · exact wt_len h _ _
          · exact Nat.le_succ _
        · exact Nat.le_succ _
/-- The document's disk, no greater than k. -/
structure RefK (B : Nat) (w : World) (e : Nat) (lv rv : Value) (x : Ab) (k : Nat) : Prop where
  ref : IsRef B w e lv rv (filesD x.D) x.rs x.left
  fine : Fine x
  lf : (filesD x.D).length ≤ k
  lr : x.rs.length ≤ k
  base : B ≤ w.heap.size
theorem RefK.fit {B : Nat} {w : World} {e : Nat} {lv rv : Value} {x : Ab} {k : Nat} (h : RefK B w e lv rv x k) (hk : k < 2199023255552) : FitR B w e lv rv x :=
  { ref := h.ref, good := h.fine.pl.good, map := h.fine.pl.isMap, room := Nat.lt_of_le_of_lt h.lf hk, len := Nat.lt_of_le_of_lt h.lr hk, lo := h.fine.lo, hi := h.fine.hi, base := h.base }
/-- Behind a call: another disk there, nothing else turned. -/
def RefT (B : Nat) (w : World) (e : Nat) (lv rv : Value) (y : Ab) (k : Nat) (w' : World) : Prop := ∃ lv' rv', RefK B w' e lv' rv' y k ∧ Upd (FootR e lv rv) w w' ∧ ∀ j, FootR e lv' rv' j → FootR e lv rv j ∨ w.heap.size ≤ j
theorem RefT.step {B : Nat} {w w1 w' : World} {e : Nat} {lv rv lv1 rv1 : Value} {y : Ab} {k : Nat} (hu : Upd (FootR e lv rv) w w1) (hj : ∀ j, FootR e lv1 rv1 j → FootR e lv rv j ∨ w.heap.size ≤ j) (h : RefT B w1 e lv1 rv1 y k w') : RefT B w e lv rv y k w' := by
  obtain ⟨lv', rv', h1, h2, h3⟩ := h
  refine ⟨lv', rv', h1, hu.trans h2 fun i hi q => (hj i q).resolve_right (by omega), fun j q => ?_⟩
  rcases h3 j q with q | q
  · exact hj j q
  · exact Or.inr (Nat.le_trans hu.size q)
theorem RefQ.kept {B : Nat} {w : World} {e : Nat} {lv rv : Value} {y : Int × Ab} {k : Nat} {e' : Ending} {w' : World} (h : RefQ B w e lv rv y e' w') (hB : B ≤ w.heap.size) (hf : Fine y.2) (h1 : (filesD y.2.D).length ≤ k) (h2 : y.2.rs.length ≤ k) : e' = .returned (.int .i64 y.1) ∧ RefT B w e lv rv y.2 k w' := by
  obtain ⟨he, lv', rv', a1, a2, a3⟩ := h
  exact ⟨he, lv', rv', ⟨a1, hf, h1, h2, Nat.le_trans hB a2.size⟩, a2, a3⟩
theorem rem_K {B : Nat} {w : World} {e : Nat} {lv rv : Value} {x : Ab} {k : Nat} (h : RefK B w e lv rv x k) (hk : k + 1 < 2199023255552) (s : ByteArray) (hs : s.size ≤ maxLen) : Calls Tryz.prog 79 #[.pointer (some ⟨e, 0, none⟩), .string s] w fun e' w' => e' = .returned (.int .i64 (removeD x s).1) ∧ RefT B w e lv rv (removeD x s).2 (k + 1) w' :=
  (refQ_rem (h.fit (by omega)) h.fine s hs w (Below.refl _ _)).mono fun _ _ q => RefQ.kept q h.base (rem_fine h.fine s).1 (Nat.le_trans (rem_len h.fine s) (Nat.succ_le_succ h.lf)) (Nat.le_trans (rem_fine h.fine s).2 (Nat.succ_le_succ h.lr))
theorem do_K {B : Nat} {w : World} {e : Nat} {lv rv : Value} {x : Ab} {k : Nat} (h : RefK B w e lv rv x k) (hk : k + 1 < 2199023255552) (d : De) (hs : d.pa.size ≤ maxLen) : Calls Tryz.prog 74 #[.pointer (some ⟨e, 0, none⟩), .agg #[.int .i64 d.kd, .string d.pa, .string d.da]] w fun e' w' => e' = .returned (.int .i64 (doA x d).1) ∧ RefT B w e lv rv (doA x d).2 (k + 1) w' :=
  (rdo_any (h.fit (by omega)) h.fine d hs).mono fun _ _ q => RefQ.kept q h.base (do_fine h.fine d).1 (Nat.le_trans (do_len h.fine d) (Nat.succ_le_succ h.lf)) (Nat.le_trans (do_fine h.fine d).2 (Nat.succ_le_succ h.lr))
end Go.Proofs.YtpaoimhebheaeaaGreatDoor
