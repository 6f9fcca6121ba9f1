/- Deeds sorted by kinds and paths (inOrder of package delta). Conditions: sizes. -/
import Derived.Test.YtcpmfhalphoppaaDoorDlSrt
import Derived.Test.YtcpmfhalphoppaaDoorShelfQ
namespace Go.Proofs.YtcpmfhalphoppaaDoor
open Go.Shelf Go.RowKit Go.Lib Go.Sort Dk
set_option maxRecDepth 100000

/-- New memory alone, and draws. -/
def Gd (w w' : World) : Prop := ∃ q os', w' = grow (w.drewN q) os'
theorem Gd.refl (w : World) : Gd w w := ⟨0, #[], by rw [grow_empty]; rfl⟩
theorem Gd.drew (w : World) : Gd w w.drew := ⟨1, #[], by rw [grow_empty]; rfl⟩
theorem Gd.box (w : World) (o : Obj) : Gd w (w.alloc o) := ⟨0, #[o], by rw [alloc_eq_grow]; rfl⟩
theorem Gd.trans {a b c : World} (h : Gd a b) (h' : Gd b c) : Gd a c := by
  obtain ⟨q, os, rfl⟩ := h
  obtain ⟨q', os', rfl⟩ := h'
  refine ⟨q + q', os ++ os', ?_⟩
  simp [grow, World.drewN, Array.append_assoc, Nat.add_assoc]
theorem Gd.box2 (w : World) (o u : Obj) : Gd w ((w.alloc o).alloc u) := (Gd.box w o).trans (Gd.box _ u)
theorem Gd.below {w w' : World} (h : Gd w w') : Below w.heap.size w w' := by
  obtain ⟨q, os, rfl⟩ := h
  refine ⟨rfl, rfl, rfl, by simp [grow, World.drewN], fun k hk => ?_⟩
  show (w.heap ++ os)[k]? = _
  rw [Array.getElem?_append_left hk]

theorem compare_eq : ∀ (a b : List UInt8), Lib.compareBytes a b = 0 ↔ a = b
  | [], [] => by simp [Lib.compareBytes]
  | [], _ :: _ => by simp [Lib.compareBytes]
  | _ :: _, [] => by simp [Lib.compareBytes]
  | a :: ra, b :: rb => by
    have ih := compare_eq ra rb
    unfold Lib.compareBytes
    by_cases h1 : a < b
    · rw [if_pos h1]
      have h3 : ¬ a = b := fun e => by subst e; exact absurd h1 (UInt8.lt_irrefl _)
      simp [h3]
    · rw [if_neg h1]
      by_cases h2 : b < a
      · rw [if_pos h2]
        have h3 : ¬ a = b := fun e => by subst e; exact h1 h2
        simp [h3]
      · rw [if_neg h2]
        have h3 : a = b := UInt8.le_antisymm (UInt8.not_lt.1 h2) (UInt8.not_lt.1 h1)
        simp [h3, ih]

set_option maxHeartbeats 1600000 in
theorem or_two {w : World} {g : Nat} {r1 r2 : Int} (c0 : w.cell? ⟨g, 0, none⟩ = some (.int .i64 r1)) (c1 : w.cell? ⟨g, 1, none⟩ = some (.int .i64 r2)) : Calls Tryd.prog 21 #[.slice (some ⟨g, 0, none⟩) 2 2] w fun e w' => e = .returned (.int .i64 (if r1 = 0 then r2 else r1)) ∧ w' = w := by
  have HIF : Hid ((r1 = 0 → (if r1 = 0 then r2 else r1) = r2) ∧ (¬ r1 = 0 → (if r1 = 0 then r2 else r1) = r1)) := ⟨fun h => if_pos h, fun h => if_neg h⟩
  generalize (if r1 = 0 then r2 else r1) = rr at *
  go_enter Tryd.func21, Tryd.ntmps21
  go_wp2_with fail
  go_loopw [8] (fun vi wr => wr = w ∧ (vi = .int .i64 0 ∨ (vi = .int .i64 1 ∧ r1 = 0) ∨ (vi = .int .i64 2 ∧ r1 = 0 ∧ r2 = 0))) (fun vi _ => 2 - (intOf vi).toNat)
  case atStart => exact ⟨rfl, Or.inl rfl⟩
  case round =>
    obtain ⟨hww, rfl | ⟨rfl, h1⟩ | ⟨rfl, h1, h2⟩⟩ := hrel
    · obtain rfl : w = wr := hww.symm
      by_cases hz : r1 = 0
      · have HZ := hide3 hz
        have hb : (r1 == 0) = true := by simpa using hz
        rw [hz] at c0
        clear hz hb
        go_wp2_with fail
        exact ⟨⟨trivial, Or.inr (Or.inl ⟨rfl, HZ.out⟩)⟩, by decide⟩
      · have HZ := hide3 hz
        have hb : (r1 == 0) = false := by simpa using hz
        clear hz
        go_wp2_with fail
        go_ret
        exact ⟨ret_int (HIF.out.2 HZ.out).symm, rfl⟩
    · obtain rfl : w = wr := hww.symm
      have HZ := hide3 h1
      clear h1
      by_cases hz : r2 = 0
      · have HZ2 := hide3 hz
        rw [hz] at c1
        clear hz
        go_wp2_with fail
        exact ⟨⟨trivial, Or.inr (Or.inr ⟨rfl, HZ.out, HZ2.out⟩)⟩, by decide⟩
      · have hb : (r2 == 0) = false := by simpa using hz
        clear hz
        go_wp2_with fail
        go_ret
        exact ⟨ret_int (HIF.out.1 HZ.out).symm, rfl⟩
    · obtain rfl : w = wr := hww.symm
      have HZ := hide3 h1
      have HZ2 := hide3 h2
      clear h1 h2
      go_wp2
      go_ret
      exact ⟨ret_int ((HIF.out.1 HZ.out).trans HZ2.out).symm, rfl⟩

theorem compare_three : ∀ (a b : List UInt8), Lib.compareBytes a b = -1 ∨ Lib.compareBytes a b = 0 ∨ Lib.compareBytes a b = 1
  | [], [] => by simp [Lib.compareBytes]
  | [], _ :: _ => by simp [Lib.compareBytes]
  | _ :: _, [] => by simp [Lib.compareBytes]
  | a :: ra, b :: rb => by
    unfold Lib.compareBytes
    split
    · exact Or.inl rfl
    · split
      · exact Or.inr (Or.inr rfl)
      · exact compare_three ra rb
theorem compare_gt (a b : List UInt8) : 0 < Lib.compareBytes a b ↔ bytesBefore b a = true := by
  by_cases e : a = b
  · subst e
    rw [(compare_eq a a).2 rfl, WideAt.bytes_irrefl]
    simp
  · have h0 : Lib.compareBytes a b ≠ 0 := fun h => e ((compare_eq a b).1 h)
    have h1 := Dk.compare_lt a b
    constructor
    · intro h
      rcases WideAt.bytes_total a b e with q | q
      · have := h1.2 q; omega
      · exact q
    · intro h
      have : ¬ Lib.compareBytes a b < 0 := fun q => by
        have := Dk.before_asymm (h1.1 q)
        rw [h] at this; cases this
      omega

def cmpI2 (a b : Int) : Int := if a < b then -1 else if b < a then 1 else 0
def or2 (a b : Int) : Int := if a = 0 then b else a
/-- How paths are told. -/
def wayP (up : Bool) (a b : De) : Int := if up = true then Lib.compareBytes a.pa.data.toList b.pa.data.toList else -Lib.compareBytes a.pa.data.toList b.pa.data.toList
def cfD (up : Bool) (a b : De) : Int := or2 (cmpI2 a.kd b.kd) (wayP up a b)
theorem cf_lt {up : Bool} {a b : De} : ltOf (cfD up) a b = true ↔ ltD up a b := by
  unfold ltOf cfD ltD
  rw [decide_eq_true_eq]
  rcases Int.lt_trichotomy a.kd b.kd with h | h | h
  · have hc : cmpI2 a.kd b.kd = -1 := by unfold cmpI2; rw [if_pos h]
    rw [hc]
    unfold or2
    rw [if_neg (by decide)]
    exact ⟨fun _ => Or.inl h, fun _ => by decide⟩
  · have hc : cmpI2 a.kd b.kd = 0 := by unfold cmpI2; rw [if_neg (by omega), if_neg (by omega)]
    rw [hc]
    unfold or2
    rw [if_pos rfl]
    unfold wayP
    cases up
    · simp only [Bool.false_eq_true, if_false]
      rw [← compare_gt]
      constructor
      · intro q; exact Or.inr ⟨h, by omega⟩
      · rintro (q | ⟨_, q⟩) <;> omega
    · simp only [if_true]
      rw [Dk.compare_lt]
      constructor
      · intro q; exact Or.inr ⟨h, q⟩
      · rintro (q | ⟨_, q⟩)
        · omega
        · exact q
  · have hc : cmpI2 a.kd b.kd = 1 := by unfold cmpI2; rw [if_neg (by omega), if_pos h]
    rw [hc]
    unfold or2
    rw [if_neg (by decide)]
    constructor
    · intro q; exact absurd q (by decide)
    · rintro (q | ⟨q, _⟩) <;> omega
theorem ltD_trans {up : Bool} {a b c : De} (h1 : ltD up a b) (h2 : ltD up b c) : ltD up a c := by
  rcases h1 with h1 | ⟨e1, h1⟩ <;> rcases h2 with h2 | ⟨e2, h2⟩
  · exact Or.inl (by omega)
  · exact Or.inl (by omega)
  · exact Or.inl (by omega)
  · refine Or.inr ⟨by omega, ?_⟩
    cases up
    · simp only [Bool.false_eq_true, if_false] at h1 h2 ⊢
      exact WideShapes.bytes_trans _ _ _ h2 h1
    · simp only [if_true] at h1 h2 ⊢
      exact WideShapes.bytes_trans _ _ _ h1 h2
theorem ltD_ntrans {up : Bool} {a b c : De} (h1 : ¬ ltD up a b) (h2 : ¬ ltD up b c) : ¬ ltD up a c := by
  rintro (h | ⟨e, h⟩)
  · have q1 : b.kd ≤ a.kd := by
      by_cases q : a.kd < b.kd
      · exact absurd (Or.inl q) h1
      · omega
    exact h2 (Or.inl (by omega))
  · have q1 : b.kd ≤ a.kd := by
      by_cases q : a.kd < b.kd
      · exact absurd (Or.inl q) h1
      · omega
    have q2 : c.kd ≤ b.kd := by
      by_cases q : b.kd < c.kd
      · exact absurd (Or.inl q) h2
      · omega
    have e1 : a.kd = b.kd := by omega
    have e2 : b.kd = c.kd := by omega
    cases up
    · have k1 : bytesBefore b.pa.data.toList a.pa.data.toList = false := Bool.eq_false_iff.2 fun q => h1 (Or.inr ⟨e1, by simpa using q⟩)
      have k2 : bytesBefore c.pa.data.toList b.pa.data.toList = false := Bool.eq_false_iff.2 fun q => h2 (Or.inr ⟨e2, by simpa using q⟩)
      have := Dk.not_before_trans k2 k1
      simp only [Bool.false_eq_true, if_false] at h
      rw [this] at h; cases h
    · have k1 : bytesBefore a.pa.data.toList b.pa.data.toList = false := Bool.eq_false_iff.2 fun q => h1 (Or.inr ⟨e1, by simpa using q⟩)
      have k2 : bytesBefore b.pa.data.toList c.pa.data.toList = false := Bool.eq_false_iff.2 fun q => h2 (Or.inr ⟨e2, by simpa using q⟩)
      have := Dk.not_before_trans k1 k2
      simp only [if_true] at h
      rw [this] at h; cases h
theorem swoD (up : Bool) : SWO (ltOf (cfD up)) where
  irrefl x := Bool.eq_false_iff.2 fun h => ltD_asym (cf_lt.1 h) (cf_lt.1 h)
  trans x y z h1 h2 := cf_lt.2 (ltD_trans (cf_lt.1 h1) (cf_lt.1 h2))
  ntrans x y z h1 h2 := Bool.eq_false_iff.2 fun h => ltD_ntrans (fun q => by rw [cf_lt.2 q] at h1; cases h1) (fun q => by rw [cf_lt.2 q] at h2; cases h2) (cf_lt.1 h)

theorem isNaNI_any (n : Int) (w : World) : Calls Tryd.prog 37 #[.int .i64 n] w fun e w' => e = .returned (.bool false) ∧ w' = w := by
  go_enter Tryd.func37, Tryd.ntmps37
  go_wp2
  go_ret
  exact ⟨by simp, rfl⟩

set_option maxHeartbeats 800000 in
theorem cmpI2_any (i j : Int) (w : World) : Calls Tryd.prog 22 #[.int .i64 i, .int .i64 j] w fun e w' => e = .returned (.int .i64 (cmpI2 i j)) ∧ w' = w := by
  have HN : Hid (∀ n w, Calls Tryd.prog 37 #[.int .i64 n] w fun e w' => e = .returned (.bool false) ∧ w' = w) := isNaNI_any
  rcases Int.lt_trichotomy i j with h | h | h
  · have HR : Hid (cmpI2 i j = -1) := by unfold Hid cmpI2; rw [if_pos h]
    have h1 : decide (i < j) = true := decide_eq_true h
    go_enter Tryd.func22, Tryd.ntmps22
    go_wp2_with (go_at_call 37; refine (HN.out _ _).mono ?_; rintro e w1 ⟨rfl, rfl⟩)
    go_ret
    exact ⟨ret_int HR.out.symm, rfl⟩
  · have HR : Hid (cmpI2 i j = 0) := by unfold Hid cmpI2; rw [if_neg (by omega), if_neg (by omega)]
    subst h
    go_enter Tryd.func22, Tryd.ntmps22
    go_wp2_with (go_at_call 37; refine (HN.out _ _).mono ?_; rintro e w1 ⟨rfl, rfl⟩)
    go_ret
    exact ⟨ret_int HR.out.symm, rfl⟩
  · have HR : Hid (cmpI2 i j = 1) := by unfold Hid cmpI2; rw [if_neg (by omega), if_pos h]
    have h1 : decide (i < j) = false := decide_eq_false (by omega)
    have h2 : decide (j < i) = true := decide_eq_true h
    go_enter Tryd.func22, Tryd.ntmps22
    go_wp2_with (go_at_call 37; refine (HN.out _ _).mono ?_; rintro e w1 ⟨rfl, rfl⟩)
    go_ret
    exact ⟨ret_int HR.out.symm, rfl⟩

def wayN (up : Bool) : Int := if up = true then 1 else -1
set_option maxHeartbeats 3200000 in
theorem orderCmp_gd (up : Bool) (x y : De) (Bw : Nat) (w : World) (hw : w.cell? ⟨Bw, 0, none⟩ = some (.int .i64 (wayN up))) (hB : Bw < w.heap.size) :
    Calls Tryd.prog 20 #[.agg #[.int .i64 x.kd, .string x.pa, .string x.da], .agg #[.int .i64 y.kd, .string y.pa, .string y.da], .pointer (some ⟨Bw, 0, none⟩)] w fun e w' => e = .returned (.int .i64 (cfD up x y)) ∧ Gd w w' := by
  obtain ⟨W, hW⟩ : ∃ W, W = (w.alloc (.cells #[.int .i64 x.kd, .string x.pa, .string x.da] 33)).alloc (.cells #[.int .i64 y.kd, .string y.pa, .string y.da] 33) := ⟨_, rfl⟩
  have HGD : Hid (Gd w W) := by rw [hW]; exact Gd.box2 _ _ _
  have k0 : W.cell? ⟨Bw, 0, none⟩ = some (.int .i64 (wayN up)) := (HGD.out.below.cell (p := ⟨Bw, 0, none⟩) hB).trans hw
  have hs1 : (w.alloc (.cells #[.int .i64 x.kd, .string x.pa, .string x.da] 33)).heap.size = w.heap.size + 1 := by simp
  have a0 : W.cell? ⟨w.heap.size, 0, none⟩ = some (.int .i64 x.kd) := by rw [hW]; simp
  have a1 : W.cell? ⟨w.heap.size, 1, none⟩ = some (.string x.pa) := by rw [hW]; simp
  have b0 : W.cell? ⟨w.heap.size + 1, 0, none⟩ = some (.int .i64 y.kd) := by rw [hW, ← hs1]; simp
  have b1 : W.cell? ⟨w.heap.size + 1, 1, none⟩ = some (.string y.pa) := by rw [hW, ← hs1]; simp
  have HSC : Hid (∀ W, Calls Tryd.prog 23 #[.string x.pa, .string y.pa] W fun e w' => e = .returned (.int .i64 (Lib.compareBytes x.pa.data.toList y.pa.data.toList)) ∧ w' = W) := fun W => Tryd.strings_Compare _ _ W
  have HNC : Hid (∀ W, Calls Tryd.prog 22 #[.int .i64 x.kd, .int .i64 y.kd] W fun e w' => e = .returned (.int .i64 (cmpI2 x.kd y.kd)) ∧ w' = W) := cmpI2_any _ _
  have hwr : IntKind.i64.wrap (wayN up * Lib.compareBytes x.pa.data.toList y.pa.data.toList) = wayP up x y := by
    unfold wayP wayN
    rcases compare_three x.pa.data.toList y.pa.data.toList with h | h | h <;> rw [h] <;> cases up <;> rfl
  have HCF : Hid (cfD up x y = or2 (cmpI2 x.kd y.kd) (wayP up x y)) := rfl
  rw [HCF.out]
  clear HCF
  generalize Lib.compareBytes x.pa.data.toList y.pa.data.toList = r1 at *
  generalize cmpI2 x.kd y.kd = r2 at *
  generalize wayP up x y = r3 at *
  generalize wayN up = wy at *
  generalize x.kd = k1 at *
  generalize y.kd = k2 at *
  generalize x.pa = p1 at *
  generalize y.pa = p2 at *
  generalize x.da = d1 at *
  generalize y.da = d2 at *
  have HOR : Hid (∀ W : World, Calls Tryd.prog 21 #[.slice (some ⟨W.heap.size, 0, none⟩) 2 2] (W.alloc (.cells #[.int .i64 r2, .int .i64 r3] 3)) fun e w' => e = .returned (.int .i64 (or2 r2 r3)) ∧ w' = (W.alloc (.cells #[.int .i64 r2, .int .i64 r3] 3))) := fun W => or_two (by simp) (by simp)
  have HO0 : Hid (Calls Tryd.prog 21 #[.slice (some ⟨W.heap.size, 0, none⟩) 2 2] (W.drew.alloc (.cells #[.int .i64 r2, .int .i64 r3] 3)) fun e w' => e = .returned (.int .i64 (or2 r2 r3)) ∧ w' = (W.drew.alloc (.cells #[.int .i64 r2, .int .i64 r3] 3))) := HOR.out W.drew
  clear HOR
  generalize or2 r2 r3 = rr at *
  have HG0 : Hid (Gd w W.drew) := HGD.out.trans (Gd.drew _)
  have t1 : True := trivial
  clear hw hB HGD hs1
  go_enter Tryd.func20, Tryd.ntmps20
  go_wp2_with fail
  rw [← hW]
  clear hW
  go_region_held3 (fun w' => w'.cell? ⟨Bw, 0, none⟩ = some (.int .i64 wy) ∧ w'.cell? ⟨w.heap.size, 0, none⟩ = some (.int .i64 k1) ∧ w'.cell? ⟨w.heap.size, 1, none⟩ = some (.string p1) ∧ w'.cell? ⟨w.heap.size + 1, 0, none⟩ = some (.int .i64 k2) ∧ w'.cell? ⟨w.heap.size + 1, 1, none⟩ = some (.string p2)) (go_keep) (first
    | (have _t := t2; go_at_call 21; refine HO0.out.mono ?_; rintro e w5 ⟨rfl, rfl⟩)
    | (go_at_call 22; refine (HNC.out _).mono ?_; rintro e w4 ⟨rfl, hw4⟩; subst w4; have t2 : True := trivial)
    | (go_at_call 23; refine (HSC.out _).mono ?_; rintro e w4 ⟨rfl, hw4⟩; subst w4))
  all_goals go_wp2
  all_goals go_ret
  all_goals exact ⟨rfl, HG0.out.trans (Gd.box _ _)⟩

instance : Inhabited De := ⟨⟨0, ByteArray.empty, ByteArray.empty⟩⟩
theorem sortE_any (up : Bool) {w : World} {B Bw : Nat} {v : Value} {ds : List De} (hown : OwnDe w B v ds) (hw : w.cell? ⟨Bw, 0, none⟩ = some (.int .i64 (wayN up))) (hBw : Bw < w.heap.size) (hne : some Bw ≠ v.ownBlock) (hz : ds.length < 4611686018427387904) :
    Calls Tryd.prog 19 #[v, .func (.func 20) #[] #[.pointer (some ⟨Bw, 0, none⟩)]] w fun e w' => e = .returned (.tuple #[]) ∧ ∃ ts : List De, ts.Perm ds ∧ (ts.Pairwise fun x y => ¬ ltD up y x) ∧ OwnDe w' B v ts ∧ w.grownBy w' v.ownBlock := by
  have eg : ∀ args w, (callFunc 20 args).run Tryd.prog w = .ok (.enter 20 args) w := enters_of Tryd.func20 (by kernel_rfl) rfl
  have hs := sort_mem (α := De) Tryd.sortE 3 (by decide) Tryd.isAgg33 Tryd.sizeOf33 encE (fun _ => rfl) (fun x v hv => by simp [encE] at hv; rcases hv with rfl | rfl | rfl <;> rfl) (cfD up) (swoD up) 20 #[.pointer (some ⟨Bw, 0, none⟩)] eg hown hz (fun W hW x y => orderCmp_gd up x y Bw W ((World.cell?_of_block (a := ⟨Bw, 0, none⟩) (hW.block Bw hBw hne)).trans hw) (Nat.lt_of_lt_of_le hBw hW.size))
  refine hs.mono ?_
  rintro e w' ⟨rfl, ts, hp, hpw, ho, hg⟩
  exact ⟨rfl, ts, hp, hpw.imp (fun {x y} q h => by rw [cf_lt.2 h] at q; exact absurd q (by decide)), ho, hg⟩

set_option maxHeartbeats 800000 in
/-- inOrder. -/
theorem inOrder_any (up : Bool) {w : World} {B : Nat} {v : Value} {ds : List De} (hown : OwnDe w B v ds) (hz : ds.length < 4611686018427387904) :
    Calls Tryd.prog 11 #[v, .int .i64 (wayN up)] w fun e w' => e = .returned v ∧ ∃ ts : List De, ts.Perm ds ∧ (ts.Pairwise fun x y => ¬ ltD up y x) ∧ OwnDe w' B v ts ∧ w.grownBy w' v.ownBlock := by
  obtain ⟨W, hW⟩ : ∃ W, W = w.alloc (.cells #[.int .i64 (wayN up)] 3) := ⟨_, rfl⟩
  have hb : Below w.heap.size w W := by rw [hW]; exact (Below.refl _ _).alloc (Nat.le_refl _) _
  have hS : Hid (Calls Tryd.prog 19 #[v, .func (.func 20) #[] #[.pointer (some ⟨w.heap.size, 0, none⟩)]] W fun e w' => e = .returned (.tuple #[]) ∧ ∃ ts : List De, ts.Perm ds ∧ (ts.Pairwise fun x y => ¬ ltD up y x) ∧ OwnDe w' B v ts ∧ W.grownBy w' v.ownBlock) :=
    sortE_any up (hown.below hb) (by rw [hW]; simp) (by rw [hW]; simp) (fun e => by have := (hown.lt e.symm).1; omega) hz
  have HB := hide3 hb
  clear hown hb hz
  generalize wayN up = wy at *
  obtain ⟨PP, hPP⟩ : ∃ PP : Ending → World → Prop, PP = fun e w' => e = .returned v ∧ ∃ ts : List De, ts.Perm ds ∧ (ts.Pairwise fun x y => ¬ ltD up y x) ∧ OwnDe w' B v ts ∧ w.grownBy w' v.ownBlock := ⟨_, rfl⟩
  have HPP : Hid (∀ w' (ts : List De), ts.Perm ds → (ts.Pairwise fun x y => ¬ ltD up y x) → OwnDe w' B v ts → W.grownBy w' v.ownBlock → PP (.returned v) w') := fun w' ts h1 h2 h3 h4 => by rw [hPP]; exact ⟨rfl, ts, h1, h2, h3, grown_pre HB.out h4⟩
  rw [← hPP]
  clear hPP
  subst hW
  go_enter Tryd.func11, Tryd.ntmps11
  go_wp2_with (go_at_call 19; refine hS.out.mono ?_; rintro e w1 ⟨rfl, ts, h1, h2, h3, h4⟩)
  exact HPP.out _ ts h1 h2 h3 h4
end Go.Proofs.YtcpmfhalphoppaaDoor
