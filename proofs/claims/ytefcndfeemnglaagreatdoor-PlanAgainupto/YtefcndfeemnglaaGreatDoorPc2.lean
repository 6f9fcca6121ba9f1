/- Check of package plan: which deeds are a plan. Conditions: sizes. -/
import Derived.Test.YtefcndfeemnglaaGreatDoorPc1
namespace Go.Proofs.YtefcndfeemnglaaGreatDoor
open Go.RowKit Go.Maps Go.WideMaps Go.WideElems Dk
open Sc (KeepP keepBelow callC callC' wp_region_keep CellK keepCell)
set_option maxRecDepth 100000

/-- The kind of the last deed; the first kind, if there is none. -/
def lastD (l : List De) : Int := match l.getLast? with
  | none => 1
  | some q => q.kd
theorem lastD_snoc {l : List De} {k : Nat} (hk : k < l.length) : lastD (l.take (k + 1)) = l[k].kd := by unfold lastD; rw [last_take hk]
theorem okDe_prog {l : List De} {k : Nat} (hk : k < l.length) (hall : ∀ j (hj : j < l.length), j < k → okDe (l.take j) l[j] = true) :
    okDe (l.take k) l[k] = ((!decide (l[k].kd < lastD (l.take k)) && !decide (4 < l[k].kd)) && (mayB l[k].pa && (l[k].kd == 4 || l[k].da.toList == []) && followB (lastK (l.take k) l[k].pa) l[k].kd)) := by
  rw [follow_is (by omega) hall]
  unfold okDe mayB
  have h4 : (!decide (4 < l[k].kd)) = decide (l[k].kd ≤ 4) := by rw [Bool.eq_iff_iff]; simp
  rw [h4]
  have hl : (decide (1 ≤ l[k].kd) && ((l.take k).getLast?.all fun q => decide (q.kd ≤ l[k].kd))) = !decide (l[k].kd < lastD (l.take k)) := by
    unfold lastD
    cases h : (l.take k).getLast? with
    | none => rw [Bool.eq_iff_iff]; simp
    | some q =>
      have hm : q ∈ l.take k := List.mem_of_getLast? h
      obtain ⟨i, hi, rfl⟩ := List.getElem_of_mem hm
      rw [List.getElem_take]
      have hik : i < k := by rw [List.length_take] at hi; omega
      have := (okDe_parts (hall i (by omega) hik)).1
      rw [Bool.eq_iff_iff]
      simp
      omega
  rw [← hl]
  generalize decide (1 ≤ l[k].kd) = b1
  generalize decide (l[k].kd ≤ 4) = b2
  generalize ((l.take k).getLast?.all fun q => decide (q.kd ≤ l[k].kd)) = b3
  generalize (l[k].kd == 4 || l[k].da.toList == []) = b4
  generalize (okPath l[k].pa && !jB l[k].pa) = b5
  generalize (((l.take k).all fun a => !atP l[k].pa a || pairB a.kd l[k].kd) && decide ((l.take k).countP (atP l[k].pa) ≤ 1)) = b6
  cases b1 <;> cases b2 <;> cases b3 <;> cases b4 <;> cases b5 <;> cases b6 <;> rfl

/-- A deed in a box. -/
def BxDe (w : World) (N : Nat) (k : Int) (p t : ByteArray) : Prop := w.cell? ⟨N, 0, none⟩ = some (.int .i64 k) ∧ w.cell? ⟨N, 1, none⟩ = some (.string p) ∧ w.cell? ⟨N, 2, none⟩ = some (.string t) ∧ N < w.heap.size
theorem keepBxDe (N : Nat) (k : Int) (p t : ByteArray) : KeepP fun w => BxDe w N k p t := fun _ _ h hb => ⟨(hb.cell (p := ⟨N, 0, none⟩) h.2.2.2).trans h.1, (hb.cell (p := ⟨N, 1, none⟩) h.2.2.2).trans h.2.1, (hb.cell (p := ⟨N, 2, none⟩) h.2.2.2).trans h.2.2.1, Nat.lt_of_lt_of_le h.2.2.2 hb.size⟩
theorem bxDe_new (w : World) (k : Int) (p t : ByteArray) : BxDe (w.alloc (.cells #[.int .i64 k, .string p, .string t] 32)) w.heap.size k p t := by
  refine ⟨?_, ?_, ?_, ?_⟩ <;> simp
/-- What Check has while a deed is looked at. -/
def CkM (w1 : World) (d mb M n : Nat) (m : Int) (l : List De) : Prop := (∃ B, IsDisk B w1 d mb 0 (.slice none 0 0) newAb) ∧ w1.cell? ⟨0, 0, none⟩ = some (.int .i64 m) ∧ MetAt w1 M n l
theorem keepCkM (d mb M n : Nat) (m : Int) (l : List De) : KeepP fun w => CkM w d mb M n m l := fun _ _ h hb => ⟨h.1.imp fun _ q => q.below hb, (hb.cell (p := ⟨0, 0, none⟩) (cell_lt h.2.1)).trans h.2.1, h.2.2.below hb⟩
def LookP (w1 : World) (M : Nat) (p : ByteArray) (x : Int) : Prop := (Instr.lookup 54 (.map (some M)) (.string p) false).run Tryz.prog w1 = .ok (.int .i64 x) w1
theorem keepLook (d mb M n : Nat) (m : Int) (l : List De) {p : ByteArray} (hp : p.size ≤ maxLen) : KeepP fun w => CkM w d mb M n m l ∧ LookP w M p (lastK l p) := fun _ _ h hb => ⟨keepCkM d mb M n m l _ _ h.1 hb, (h.1.2.2.below hb).look hp⟩

/-- What a check answers. -/
def ChkQ (w : World) (l : List De) (e : Ending) (w' : World) : Prop := (∃ r, e = .returned (.int .i64 r) ∧ ((Plan l ∧ r = 0) ∨ (¬ Plan l ∧ r = 44))) ∧ Below w.heap.size w w'

set_option maxHeartbeats 16000000 in
theorem Check_any (l : List De) (a : Option Addr) (cap : Nat) (m : Int) (w : World) (hm : w.cell? ⟨0, 0, none⟩ = some (.int .i64 m)) (hlen : l.length ≤ 8388608) (hc : IsDes w a l) (hz : ∀ d ∈ l, d.pa.size ≤ maxLen) :
    Calls Tryz.prog 6 #[.slice a l.length cap] w (ChkQ w l) := by
  have HC := hide3 hc
  have HZ := hide3 hz
  have HNO : Hid (∀ w' i (hi : i < l.length), okDe (l.take i) l[i] = false → Below w.heap.size w w' → ChkQ w l (.returned (.int .i64 44)) w') := fun w' i hi h hb => ⟨⟨44, rfl, Or.inr ⟨(fun q => by rw [q i hi] at h; exact absurd h (by decide)), rfl⟩⟩, hb⟩
  have HYE : Hid (∀ w', (∀ j (hj : j < l.length), okDe (l.take j) l[j] = true) → Below w.heap.size w w' → ChkQ w l (.returned (.int .i64 0)) w') := fun w' h hb => ⟨⟨0, rfl, Or.inl ⟨h, rfl⟩⟩, hb⟩
  have HM := hide3 hm
  have HNW := hide3 (New_any w)
  have hmm := @run_makeMap Tryz.prog
  obtain ⟨D, hD⟩ : ∃ D, D = w.heap.size + 1 := ⟨_, rfl⟩
  obtain ⟨M, hM⟩ : ∃ M, M = (wNew w).heap.size := ⟨_, rfl⟩
  have HS0 : Hid (w.heap.size < M ∧ D < M) := by unfold Hid; rw [hM, hD, size_wNew]; omega
  obtain ⟨W1, hW1⟩ : ∃ W1, W1 = (wNew w).alloc (.map #[] 0) := ⟨_, rfl⟩
  have HB1 : Hid (Below w.heap.size w W1) := by
    unfold Hid
    rw [hW1]
    unfold wNew
    exact (((Below.refl _ _).alloc (Nat.le_refl _) _).alloc (by simp) _).alloc (by simp <;> omega) _
  have HD1 : Hid (CkM W1 D w.heap.size M 0 m []) := by
    have h0 : IsDisk w.heap.size (wNew w) D w.heap.size 0 (.slice none 0 0) newAb := by rw [hD]; exact new_is (Nat.le_refl _)
    refine ⟨⟨w.heap.size, ?_⟩, (HB1.out.cell (p := ⟨0, 0, none⟩) (cell_lt hm)).trans hm, ?_⟩
    · rw [hW1]; exact h0.below ((Below.refl _ _).alloc (Nat.le_refl _) _)
    · rw [hW1, hM]; exact MetAt.new _
  clear hc hz hm
  rw [← hD] at HNW
  have HMM := hide3 hM
  have HWW := hide3 hW1
  clear hD hM hW1
  go_enter Tryz.func6, Tryz.ntmps6
  go_wp2_with (go_at_call 15; refine HNW.out.mono ?_; rintro e w1 ⟨rfl, rfl⟩)
  rw [← HMM.out, ← HWW.out]
  go_loopw [5, 12] (fun x i wr => ∃ k : Nat, k ≤ l.length ∧ i = .int .i64 k ∧ x = .int .i64 (lastD (l.take k)) ∧ Below w.heap.size w wr ∧ CkM wr D w.heap.size M k m (l.take k) ∧ ∀ j (hj : j < l.length), j < k → okDe (l.take j) l[j] = true) (fun _ i _ => l.length - (intOf i).toNat)
  case atStart => exact ⟨0, Nat.zero_le _, rfl, rfl, HB1.out, HD1.out, fun j hj h => absurd h (Nat.not_lt_zero _)⟩
  case round =>
    clear HB1 HD1 HNW HMM HWW
    obtain ⟨k, hk, rfl, rfl, hb, hck, hall⟩ := hrel
    have HB := hide3 hb
    have HA := hide3 hall
    have HCK := hide3 hck
    clear hb hall hck
    by_cases hlt : k < l.length
    · obtain ⟨g, off, rfl, hg, hcs⟩ : ∃ g off, a = some ⟨g, off, none⟩ ∧ g < w.heap.size ∧ DesIn w g off l := by
        rcases HC.out with h | h
        · rw [h] at hlt; exact absurd hlt (Nat.not_lt_zero _)
        · exact h
      obtain ⟨b0, b1, b2⟩ : wr.cell? ⟨g, off + k * 3, none⟩ = some (.int .i64 l[k].kd) ∧ wr.cell? ⟨g, off + k * 3 + 1, none⟩ = some (.string l[k].pa) ∧ wr.cell? ⟨g, off + k * 3 + 1 + 1, none⟩ = some (.string l[k].da) := by
        obtain ⟨a0, a1, a2⟩ := hcs k hlt
        exact ⟨(HB.out.cell (p := ⟨g, off + k * 3, none⟩) hg).trans a0, (HB.out.cell (p := ⟨g, off + k * 3 + 1, none⟩) hg).trans a1, (HB.out.cell (p := ⟨g, off + k * 3 + 1 + 1, none⟩) hg).trans a2⟩
      have HNK := hide3 (fun w' => HNO.out w' k hlt)
      have HPZ := hide3 (HZ.out l[k] (List.getElem_mem hlt))
      have HST : Hid (okDe (l.take k) l[k] = true → ∀ j (hj : j < l.length), j < k + 1 → okDe (l.take j) l[j] = true) := fun h j hj hjk => by
        by_cases e : j = k
        · subst e; exact h
        · exact HA.out j hj (by omega)
      have HDF := hide3 (okDe_prog hlt HA.out)
      have HLS := hide3 (lastD_snoc hlt)
      have HTK : Hid (l.take (k + 1) = l.take k ++ [l[k]]) := List.take_succ_eq_append_getElem hlt
      have hki : (k : Int) < (l.length : Int) := by omega
      have hk0 : (0 : Int) ≤ (k : Int) := by omega
      obtain ⟨W0, hW0⟩ : ∃ W0, W0 = wr.alloc (.cells #[.int .i64 l[k].kd, .string l[k].pa, .string l[k].da] 32) := ⟨_, rfl⟩
      have HX : Hid (Below wr.heap.size wr W0) := by rw [hW0]; exact (Below.refl _ _).alloc (Nat.le_refl _) _
      have HBX : Hid (BxDe W0 wr.heap.size l[k].kd l[k].pa l[k].da) := by rw [hW0]; exact bxDe_new _ _ _ _
      have HK : Hid (KeepP fun w1 => Below w.heap.size w w1 ∧ BxDe w1 wr.heap.size l[k].kd l[k].pa l[k].da ∧ (CkM w1 D w.heap.size M k m (l.take k) ∧ LookP w1 M l[k].pa (lastK (l.take k) l[k].pa))) := (keepBelow w).and ((keepBxDe _ _ _ _).and (keepLook _ _ _ _ _ _ HPZ.out))
      have HO : Hid (Below w.heap.size w W0 ∧ BxDe W0 wr.heap.size l[k].kd l[k].pa l[k].da ∧ (CkM W0 D w.heap.size M k m (l.take k) ∧ LookP W0 M l[k].pa (lastK (l.take k) l[k].pa))) := by
        have h1 := keepCkM D w.heap.size M k m (l.take k) _ _ HCK.out HX.out
        exact ⟨HB.out.trans (HX.out.mono HB.out.size), HBX.out, h1, h1.2.2.look HPZ.out⟩
      have HMP : Hid (∀ w1, Below w.heap.size w w1 ∧ BxDe w1 wr.heap.size l[k].kd l[k].pa l[k].da ∧ (CkM w1 D w.heap.size M k m (l.take k) ∧ LookP w1 M l[k].pa (lastK (l.take k) l[k].pa)) → Calls Tryz.prog 18 #[.pointer (some ⟨D, 0, none⟩), .string l[k].pa] w1 fun e w' => e = .returned (.bool (mayB l[k].pa)) ∧ Below w1.heap.size w1 w') := fun w1 h => by
        obtain ⟨B, hd⟩ := h.2.2.1.1
        exact mayPath_any hd l[k].pa m h.2.2.1.2.1 HPZ.out
      have HMD : Hid (∀ w1, Calls Tryz.prog 19 #[.agg #[.int .i64 l[k].kd, .string l[k].pa, .string l[k].da]] w1 fun e w' => e = .returned (.bool (l[k].kd == 4 || l[k].da.toList == [])) ∧ Below w1.heap.size w1 w') := fun w1 => mayData_any _ _ _ w1
      have HMF : Hid (∀ w1, Calls Tryz.prog 20 #[.int .i64 (lastK (l.take k) l[k].pa), .int .i64 l[k].kd] w1 fun e w' => e = .returned (.bool (followB (lastK (l.take k) l[k].pa) l[k].kd)) ∧ Below w1.heap.size w1 w') := fun w1 => mayFollow_any _ _ w1
      have HPUT : Hid (∀ w1, CkM w1 D w.heap.size M k m (l.take k) → Below w.heap.size w w1 → ∃ w', (Instr.mapUpdate 54 (.map (some M)) (.string l[k].pa) (.int .i64 l[k].kd)).run Tryz.prog w1 = .ok () w' ∧ CkM w' D w.heap.size M (k + 1) m (l.take (k + 1)) ∧ Below w.heap.size w w') := fun w1 h hbw => by
        obtain ⟨w', hr, hmt, hg'⟩ := h.2.2.put (by unfold maxLen; omega) l[k] HPZ.out
        refine ⟨w', hr, ⟨?_, ?_, ?_⟩, hbw.grown hg' hbw.size (fun j hj => by cases hj; exact Nat.le_of_lt HS0.out.1)⟩
        · obtain ⟨B, hd⟩ := h.1
          exact ⟨B, hd.upd (Upd.of_grown hg') (fun j hj e => by
            have e := Option.some.inj e
            subst e
            rcases hj with h1 | h1 | h1
            · have := HS0.out.2; omega
            · have := HS0.out.1; omega
            · cases h1)⟩
        · rw [hg'.cell_far ⟨0, 0, none⟩ (cell_lt h.2.1) (fun e => by have := Option.some.inj e; simp only at this; have := HS0.out.1; omega)]
          exact h.2.1
        · rw [HTK.out]; exact hmt
      clear hcs HTK HBX HX
      unfold LookP at HK HO HMP
      have HND : Hid (∀ w' (x : Int), x = lastD (l.take (k + 1)) → okDe (l.take k) l[k] = true → CkM w' D w.heap.size M (k + 1) m (l.take (k + 1)) → Below w.heap.size w w' → (∃ q : Nat, q ≤ l.length ∧ Value.int .i64 ((k : Int) + 1) = .int .i64 q ∧ Value.int .i64 x = .int .i64 (lastD (l.take q)) ∧ Below w.heap.size w w' ∧ CkM w' D w.heap.size M q m (l.take q) ∧ ∀ j (hj : j < l.length), j < q → okDe (l.take j) l[j] = true)) := fun w' x hx h1 h2 h3 => ⟨k + 1, by omega, by push_cast; rfl, by rw [hx], h3, h2, HST.out h1⟩
      clear HST
      generalize okDe (l.take k) l[k] = okd at *
      generalize hld : lastD (l.take k) = ld at *
      generalize lastK (l.take k) l[k].pa = lk at *
      generalize mayB l[k].pa = mp at *
      generalize (l[k].kd == 4 || l[k].da.toList == []) = md at *
      generalize followB lk l[k].kd = mf at *
      generalize l[k].kd = kd at *
      generalize l[k].pa = p at *
      generalize l[k].da = t at *
      clear hld
      by_cases h1 : kd < ld
      · have h1d : decide (kd < ld) = true := decide_eq_true h1
        have HFF : Hid (okd = false) := by unfold Hid; rw [HDF.out, h1d]; rfl
        obtain ⟨hbw, ⟨x0, x1, x2, x3⟩, _⟩ := HO.out
        clear HDF
        subst hW0
        go_wp2_with fail
        go_ret
        exact HNK.out _ HFF.out HO.out.1
      have h1d : decide (kd < ld) = false := decide_eq_false h1
      by_cases h4 : 4 < kd
      · have h4d : decide (4 < kd) = true := decide_eq_true h4
        have HFF : Hid (okd = false) := by unfold Hid; rw [HDF.out, h1d, h4d]; rfl
        clear HDF
        subst hW0
        go_wp2_with fail
        go_ret
        exact HNK.out _ HFF.out HO.out.1
      have h4d : decide (4 < kd) = false := decide_eq_false h4
      rw [h1d, h4d] at HDF
      cases mp
      · rw [show (false && md && mf) = false from rfl] at HDF
        have HFF : Hid (okd = false) := by unfold Hid; rw [HDF.out]; rfl
        clear HDF HPUT HND
        subst hW0
        go_wp2_with (first
          | (go_at_call 20; have _t := HO2; refine (HMF.out _).mono ?_; rintro e w3 ⟨rfl, hb3⟩; have HO3 := hide3 (HK.out _ _ HO2.out hb3); clear hb3; obtain ⟨_, ⟨z0, z1, z2, z3⟩, _, _⟩ := HO3.out)
          | (go_at_call 19; have _t := HO1; refine (HMD.out _).mono ?_; rintro e w2 ⟨rfl, hb2⟩; have HO2 := hide3 (HK.out _ _ HO1.out hb2); clear hb2; obtain ⟨_, ⟨y0, y1, y2, y3⟩, _, hlk2⟩ := HO2.out)
          | (go_at_call 18; refine (HMP.out _ HO.out).mono ?_; rintro e w1 ⟨rfl, hb1⟩; have HO1 := hide3 (HK.out _ _ HO.out hb1); clear hb1; obtain ⟨_, ⟨x0, x1, x2, x3⟩, _, hlk⟩ := HO1.out))
        go_ret
        exact HNK.out _ HFF.out HO1.out.1
      cases md
      · rw [show (true && false && mf) = false from rfl] at HDF
        have HFF : Hid (okd = false) := by unfold Hid; rw [HDF.out]; rfl
        clear HDF HPUT HND
        subst hW0
        go_wp2_with (first
          | (go_at_call 20; have _t := HO2; refine (HMF.out _).mono ?_; rintro e w3 ⟨rfl, hb3⟩; have HO3 := hide3 (HK.out _ _ HO2.out hb3); clear hb3; obtain ⟨_, ⟨z0, z1, z2, z3⟩, _, _⟩ := HO3.out)
          | (go_at_call 19; have _t := HO1; refine (HMD.out _).mono ?_; rintro e w2 ⟨rfl, hb2⟩; have HO2 := hide3 (HK.out _ _ HO1.out hb2); clear hb2; obtain ⟨_, ⟨y0, y1, y2, y3⟩, _, hlk2⟩ := HO2.out)
          | (go_at_call 18; refine (HMP.out _ HO.out).mono ?_; rintro e w1 ⟨rfl, hb1⟩; have HO1 := hide3 (HK.out _ _ HO.out hb1); clear hb1; obtain ⟨_, ⟨x0, x1, x2, x3⟩, _, hlk⟩ := HO1.out))
        go_ret
        exact HNK.out _ HFF.out HO2.out.1
      cases mf
      · rw [show (true && true && false) = false from rfl] at HDF
        have HFF : Hid (okd = false) := by unfold Hid; rw [HDF.out]; rfl
        clear HDF HPUT HND
        subst hW0
        go_wp2_with (first
          | (go_at_call 20; have _t := HO2; refine (HMF.out _).mono ?_; rintro e w3 ⟨rfl, hb3⟩; have HO3 := hide3 (HK.out _ _ HO2.out hb3); clear hb3; obtain ⟨_, ⟨z0, z1, z2, z3⟩, _, _⟩ := HO3.out)
          | (go_at_call 19; have _t := HO1; refine (HMD.out _).mono ?_; rintro e w2 ⟨rfl, hb2⟩; have HO2 := hide3 (HK.out _ _ HO1.out hb2); clear hb2; obtain ⟨_, ⟨y0, y1, y2, y3⟩, _, hlk2⟩ := HO2.out)
          | (go_at_call 18; refine (HMP.out _ HO.out).mono ?_; rintro e w1 ⟨rfl, hb1⟩; have HO1 := hide3 (HK.out _ _ HO.out hb1); clear hb1; obtain ⟨_, ⟨x0, x1, x2, x3⟩, _, hlk⟩ := HO1.out))
        go_ret
        exact HNK.out _ HFF.out HO3.out.1
      have HFF : Hid (okd = true) := by unfold Hid; rw [HDF.out]; rfl
      clear HDF HNK
      subst hW0
      go_wp2_with (first
        | (go_at_call 20; have _t := HO2; refine (HMF.out _).mono ?_; rintro e w3 ⟨rfl, hb3⟩; have HO3 := hide3 (HK.out _ _ HO2.out hb3); clear hb3; obtain ⟨_, ⟨z0, z1, z2, z3⟩, _, _⟩ := HO3.out; obtain ⟨w4, hup, hc4, hb4⟩ := HPUT.out _ HO3.out.2.2.1 HO3.out.1; have HC4 := hide3 hc4; have HB4 := hide3 hb4; clear hc4 hb4)
        | (go_at_call 19; have _t := HO1; refine (HMD.out _).mono ?_; rintro e w2 ⟨rfl, hb2⟩; have HO2 := hide3 (HK.out _ _ HO1.out hb2); clear hb2; obtain ⟨_, ⟨y0, y1, y2, y3⟩, _, hlk2⟩ := HO2.out)
        | (go_at_call 18; refine (HMP.out _ HO.out).mono ?_; rintro e w1 ⟨rfl, hb1⟩; have HO1 := hide3 (HK.out _ _ HO.out hb1); clear hb1; obtain ⟨_, ⟨x0, x1, x2, x3⟩, _, hlk⟩ := HO1.out))
      exact ⟨HND.out _ _ HLS.out.symm HFF.out HC4.out HB4.out, by simp [intOf]; omega⟩
    · have hki : ¬ ((k : Int) < (l.length : Int)) := by omega
      go_wp2_with fail
      go_ret
      exact HYE.out _ (fun j hj => HA.out j hj (by omega)) HB.out
end Go.Proofs.YtefcndfeemnglaaGreatDoor
