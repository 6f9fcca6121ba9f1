/- Dx6, Dx7, Dx8, laid in one text. -/
import Derived.Test.YtpaoimhebheaeaaGreatDoorShelfS
import Derived.Deep.DeepAppendWide
import Derived.Test.YtpaoimhebheaeaaGreatDoorMg32
namespace Go.Proofs.YtpaoimhebheaeaaGreatDoor
open Go.Shelf Go.RowKit Go.Lib Go.Sort Dk
set_option maxRecDepth 100000

/-- New memory alone, and draws. -/
def Gd (w w' : World) : Prop := ∃ q os', w' = grow (w.drewN q) os'
theorem Gd.refl (w : World) : Gd w w := ⟨0, #[], by rw [grow_empty]; rfl⟩
theorem Gd.drew (w : World) : Gd w w.drew := ⟨1, #[], by rw [grow_empty]; rfl⟩
theorem Gd.box (w : World) (o : Obj) : Gd w (w.alloc o) := ⟨0, #[o], by rw [alloc_eq_grow]; rfl⟩
theorem Gd.trans {a b c : World} (h : Gd a b) (h' : Gd b c) : Gd a c := by
  obtain ⟨q, os, rfl⟩ := h
  obtain ⟨q', os', rfl⟩ := h'
  refine ⟨q + q', os ++ os', ?_⟩
  simp [grow, World.drewN, Array.append_assoc, Nat.add_assoc]
theorem Gd.box2 (w : World) (o u : Obj) : Gd w ((w.alloc o).alloc u) := (Gd.box w o).trans (Gd.box _ u)
theorem Gd.below {w w' : World} (h : Gd w w') : Below w.heap.size w w' := by
  obtain ⟨q, os, rfl⟩ := h
  refine ⟨rfl, rfl, rfl, by simp [grow, World.drewN], fun k hk => ?_⟩
  show (w.heap ++ os)[k]? = _
  rw [Array.getElem?_append_left hk]

theorem compare_eq : ∀ (a b : List UInt8), Lib.compareBytes a b = 0 ↔ a = b
  | [], [] => by simp [Lib.compareBytes]
  | [], _ :: _ => by simp [Lib.compareBytes]
  | _ :: _, [] => by simp [Lib.compareBytes]
  | a :: ra, b :: rb => by
    have ih := compare_eq ra rb
    unfold Lib.compareBytes
    by_cases h1 : a < b
    · rw [if_pos h1]
      have h3 : ¬ a = b := fun e => by subst e; exact absurd h1 (UInt8.lt_irrefl _)
      simp [h3]
    · rw [if_neg h1]
      by_cases h2 : b < a
      · rw [if_pos h2]
        have h3 : ¬ a = b := fun e => by subst e; exact h1 h2
        simp [h3]
      · rw [if_neg h2]
        have h3 : a = b := UInt8.le_antisymm (UInt8.not_lt.1 h2) (UInt8.not_lt.1 h1)
        simp [h3, ih]

set_option maxHeartbeats 1600000 in
theorem or_two {w : World} {g : Nat} {r1 r2 : Int} (c0 : w.cell? ⟨g, 0, none⟩ = some (.int .i64 r1)) (c1 : w.cell? ⟨g, 1, none⟩ = some (.int .i64 r2)) : Calls Tryz.prog 87 #[.slice (some ⟨g, 0, none⟩) 2 2] w fun e w' => e = .returned (.int .i64 (if r1 = 0 then r2 else r1)) ∧ w' = w := by
  have HIF : Hid ((r1 = 0 → (if r1 = 0 then r2 else r1) = r2) ∧ (¬ r1 = 0 → (if r1 = 0 then r2 else r1) = r1)) := ⟨fun h => if_pos h, fun h => if_neg h⟩
  generalize (if r1 = 0 then r2 else r1) = rr at *
  go_enter Tryz.func87, Tryz.ntmps87
  go_wp2_with fail
  go_loopw [8] (fun vi wr => wr = w ∧ (vi = .int .i64 0 ∨ (vi = .int .i64 1 ∧ r1 = 0) ∨ (vi = .int .i64 2 ∧ r1 = 0 ∧ r2 = 0))) (fun vi _ => 2 - (intOf vi).toNat)
  case atStart => exact ⟨rfl, Or.inl rfl⟩
  case round =>
    obtain ⟨hww, rfl | ⟨rfl, h1⟩ | ⟨rfl, h1, h2⟩⟩ := hrel
    · obtain rfl : w = wr := hww.symm
      by_cases hz : r1 = 0
      · have HZ := hide3 hz
        have hb : (r1 == 0) = true := by simpa using hz
        rw [hz] at c0
        clear hz hb
        go_wp2_with fail
        exact ⟨⟨trivial, Or.inr (Or.inl ⟨rfl, HZ.out⟩)⟩, by decide⟩
      · have HZ := hide3 hz
        have hb : (r1 == 0) = false := by simpa using hz
        clear hz
        go_wp2_with fail
        go_ret
        exact ⟨ret_int (HIF.out.2 HZ.out).symm, rfl⟩
    · obtain rfl : w = wr := hww.symm
      have HZ := hide3 h1
      clear h1
      by_cases hz : r2 = 0
      · have HZ2 := hide3 hz
        rw [hz] at c1
        clear hz
        go_wp2_with fail
        exact ⟨⟨trivial, Or.inr (Or.inr ⟨rfl, HZ.out, HZ2.out⟩)⟩, by decide⟩
      · have hb : (r2 == 0) = false := by simpa using hz
        clear hz
        go_wp2_with fail
        go_ret
        exact ⟨ret_int (HIF.out.1 HZ.out).symm, rfl⟩
    · obtain rfl : w = wr := hww.symm
      have HZ := hide3 h1
      have HZ2 := hide3 h2
      clear h1 h2
      go_wp2
      go_ret
      exact ⟨ret_int ((HIF.out.1 HZ.out).trans HZ2.out).symm, rfl⟩

theorem compare_three : ∀ (a b : List UInt8), Lib.compareBytes a b = -1 ∨ Lib.compareBytes a b = 0 ∨ Lib.compareBytes a b = 1
  | [], [] => by simp [Lib.compareBytes]
  | [], _ :: _ => by simp [Lib.compareBytes]
  | _ :: _, [] => by simp [Lib.compareBytes]
  | a :: ra, b :: rb => by
    unfold Lib.compareBytes
    split
    · exact Or.inl rfl
    · split
      · exact Or.inr (Or.inr rfl)
      · exact compare_three ra rb
theorem compare_gt (a b : List UInt8) : 0 < Lib.compareBytes a b ↔ bytesBefore b a = true := by
  by_cases e : a = b
  · subst e
    rw [(compare_eq a a).2 rfl, WideAt.bytes_irrefl]
    simp
  · have h0 : Lib.compareBytes a b ≠ 0 := fun h => e ((compare_eq a b).1 h)
    have h1 := Dk.compare_lt a b
    constructor
    · intro h
      rcases WideAt.bytes_total a b e with q | q
      · have := h1.2 q; omega
      · exact q
    · intro h
      have : ¬ Lib.compareBytes a b < 0 := fun q => by
        have := Dk.before_asymm (h1.1 q)
        rw [h] at this; cases this
      omega

def cmpI2 (a b : Int) : Int := if a < b then -1 else if b < a then 1 else 0
def or2 (a b : Int) : Int := if a = 0 then b else a
/-- How paths are told. -/
def wayP (up : Bool) (a b : De) : Int := if up = true then Lib.compareBytes a.pa.data.toList b.pa.data.toList else -Lib.compareBytes a.pa.data.toList b.pa.data.toList
def cfD (up : Bool) (a b : De) : Int := or2 (cmpI2 a.kd b.kd) (wayP up a b)
theorem cf_lt {up : Bool} {a b : De} : ltOf (cfD up) a b = true ↔ ltD up a b := by
  unfold ltOf cfD ltD
  rw [decide_eq_true_eq]
  rcases Int.lt_trichotomy a.kd b.kd with h | h | h
  · have hc : cmpI2 a.kd b.kd = -1 := by unfold cmpI2; rw [if_pos h]
    rw [hc]
    unfold or2
    rw [if_neg (by decide)]
    exact ⟨fun _ => Or.inl h, fun _ => by decide⟩
  · have hc : cmpI2 a.kd b.kd = 0 := by unfold cmpI2; rw [if_neg (by omega), if_neg (by omega)]
    rw [hc]
    unfold or2
    rw [if_pos rfl]
    unfold wayP
    cases up
    · simp only [Bool.false_eq_true, if_false]
      rw [← compare_gt]
      constructor
      · intro q; exact Or.inr ⟨h, by omega⟩
      · rintro (q | ⟨_, q⟩) <;> omega
    · simp only [if_true]
      rw [Dk.compare_lt]
      constructor
      · intro q; exact Or.inr ⟨h, q⟩
      · rintro (q | ⟨_, q⟩)
        · omega
        · exact q
  · have hc : cmpI2 a.kd b.kd = 1 := by unfold cmpI2; rw [if_neg (by omega), if_pos h]
    rw [hc]
    unfold or2
    rw [if_neg (by decide)]
    constructor
    · intro q; exact absurd q (by decide)
    · rintro (q | ⟨q, _⟩) <;> omega
theorem ltD_trans {up : Bool} {a b c : De} (h1 : ltD up a b) (h2 : ltD up b c) : ltD up a c := by
  rcases h1 with h1 | ⟨e1, h1⟩ <;> rcases h2 with h2 | ⟨e2, h2⟩
  · exact Or.inl (by omega)
  · exact Or.inl (by omega)
  · exact Or.inl (by omega)
  · refine Or.inr ⟨by omega, ?_⟩
    cases up
    · simp only [Bool.false_eq_true, if_false] at h1 h2 ⊢
      exact WideShapes.bytes_trans _ _ _ h2 h1
    · simp only [if_true] at h1 h2 ⊢
      exact WideShapes.bytes_trans _ _ _ h1 h2
theorem ltD_ntrans {up : Bool} {a b c : De} (h1 : ¬ ltD up a b) (h2 : ¬ ltD up b c) : ¬ ltD up a c := by
  rintro (h | ⟨e, h⟩)
  · have q1 : b.kd ≤ a.kd := by
      by_cases q : a.kd < b.kd
      · exact absurd (Or.inl q) h1
      · omega
    exact h2 (Or.inl (by omega))
  · have q1 : b.kd ≤ a.kd := by
      by_cases q : a.kd < b.kd
      · exact absurd (Or.inl q) h1
      · omega
    have q2 : c.kd ≤ b.kd := by
      by_cases q : b.kd < c.kd
      · exact absurd (Or.inl q) h2
      · omega
    have e1 : a.kd = b.kd := by omega
    have e2 : b.kd = c.kd := by omega
    cases up
    · have k1 : bytesBefore b.pa.data.toList a.pa.data.toList = false := Bool.eq_false_iff.2 fun q => h1 (Or.inr ⟨e1, by simpa using q⟩)
      have k2 : bytesBefore c.pa.data.toList b.pa.data.toList = false := Bool.eq_false_iff.2 fun q => h2 (Or.inr ⟨e2, by simpa using q⟩)
      have := Dk.not_before_trans k2 k1
      simp only [Bool.false_eq_true, if_false] at h
      rw [this] at h; cases h
    · have k1 : bytesBefore a.pa.data.toList b.pa.data.toList = false := Bool.eq_false_iff.2 fun q => h1 (Or.inr ⟨e1, by simpa using q⟩)
      have k2 : bytesBefore b.pa.data.toList c.pa.data.toList = false := Bool.eq_false_iff.2 fun q => h2 (Or.inr ⟨e2, by simpa using q⟩)
      have := Dk.not_before_trans k1 k2
      simp only [if_true] at h
      rw [this] at h; cases h
theorem swoD (up : Bool) : SWO (ltOf (cfD up)) where
  irrefl x := Bool.eq_false_iff.2 fun h => ltD_asym (cf_lt.1 h) (cf_lt.1 h)
  trans x y z h1 h2 := cf_lt.2 (ltD_trans (cf_lt.1 h1) (cf_lt.1 h2))
  ntrans x y z h1 h2 := Bool.eq_false_iff.2 fun h => ltD_ntrans (fun q => by rw [cf_lt.2 q] at h1; cases h1) (fun q => by rw [cf_lt.2 q] at h2; cases h2) (cf_lt.1 h)

theorem isNaNI_any (n : Int) (w : World) : Calls Tryz.prog 119 #[.int .i64 n] w fun e w' => e = .returned (.bool false) ∧ w' = w := by
  go_enter Tryz.func119, Tryz.ntmps119
  go_wp2
  go_ret
  exact ⟨by simp, rfl⟩

set_option maxHeartbeats 800000 in
theorem cmpI2_any (i j : Int) (w : World) : Calls Tryz.prog 88 #[.int .i64 i, .int .i64 j] w fun e w' => e = .returned (.int .i64 (cmpI2 i j)) ∧ w' = w := by
  have HN : Hid (∀ n w, Calls Tryz.prog 119 #[.int .i64 n] w fun e w' => e = .returned (.bool false) ∧ w' = w) := isNaNI_any
  rcases Int.lt_trichotomy i j with h | h | h
  · have HR : Hid (cmpI2 i j = -1) := by unfold Hid cmpI2; rw [if_pos h]
    have h1 : decide (i < j) = true := decide_eq_true h
    go_enter Tryz.func88, Tryz.ntmps88
    go_wp2_with (go_at_call 119; refine (HN.out _ _).mono ?_; rintro e w1 ⟨rfl, rfl⟩)
    go_ret
    exact ⟨ret_int HR.out.symm, rfl⟩
  · have HR : Hid (cmpI2 i j = 0) := by unfold Hid cmpI2; rw [if_neg (by omega), if_neg (by omega)]
    subst h
    go_enter Tryz.func88, Tryz.ntmps88
    go_wp2_with (go_at_call 119; refine (HN.out _ _).mono ?_; rintro e w1 ⟨rfl, rfl⟩)
    go_ret
    exact ⟨ret_int HR.out.symm, rfl⟩
  · have HR : Hid (cmpI2 i j = 1) := by unfold Hid cmpI2; rw [if_neg (by omega), if_pos h]
    have h1 : decide (i < j) = false := decide_eq_false (by omega)
    have h2 : decide (j < i) = true := decide_eq_true h
    go_enter Tryz.func88, Tryz.ntmps88
    go_wp2_with (go_at_call 119; refine (HN.out _ _).mono ?_; rintro e w1 ⟨rfl, rfl⟩)
    go_ret
    exact ⟨ret_int HR.out.symm, rfl⟩

def wayN (up : Bool) : Int := if up = true then 1 else -1
set_option maxHeartbeats 3200000 in
theorem orderCmp_gd (up : Bool) (x y : De) (Bw : Nat) (w : World) (hw : w.cell? ⟨Bw, 0, none⟩ = some (.int .i64 (wayN up))) (hB : Bw < w.heap.size) :
    Calls Tryz.prog 86 #[.agg #[.int .i64 x.kd, .string x.pa, .string x.da], .agg #[.int .i64 y.kd, .string y.pa, .string y.da], .pointer (some ⟨Bw, 0, none⟩)] w fun e w' => e = .returned (.int .i64 (cfD up x y)) ∧ Gd w w' := by
  obtain ⟨W, hW⟩ : ∃ W, W = (w.alloc (.cells #[.int .i64 x.kd, .string x.pa, .string x.da] 54)).alloc (.cells #[.int .i64 y.kd, .string y.pa, .string y.da] 54) := ⟨_, rfl⟩
  have HGD : Hid (Gd w W) := by rw [hW]; exact Gd.box2 _ _ _
  have k0 : W.cell? ⟨Bw, 0, none⟩ = some (.int .i64 (wayN up)) := (HGD.out.below.cell (p := ⟨Bw, 0, none⟩) hB).trans hw
  have hs1 : (w.alloc (.cells #[.int .i64 x.kd, .string x.pa, .string x.da] 54)).heap.size = w.heap.size + 1 := by simp
  have a0 : W.cell? ⟨w.heap.size, 0, none⟩ = some (.int .i64 x.kd) := by rw [hW]; simp
  have a1 : W.cell? ⟨w.heap.size, 1, none⟩ = some (.string x.pa) := by rw [hW]; simp
  have b0 : W.cell? ⟨w.heap.size + 1, 0, none⟩ = some (.int .i64 y.kd) := by rw [hW, ← hs1]; simp
  have b1 : W.cell? ⟨w.heap.size + 1, 1, none⟩ = some (.string y.pa) := by rw [hW, ← hs1]; simp
  have HSC : Hid (∀ W, Calls Tryz.prog 59 #[.string x.pa, .string y.pa] W fun e w' => e = .returned (.int .i64 (Lib.compareBytes x.pa.data.toList y.pa.data.toList)) ∧ w' = W) := fun W => Tryz.strings_Compare _ _ W
  have HNC : Hid (∀ W, Calls Tryz.prog 88 #[.int .i64 x.kd, .int .i64 y.kd] W fun e w' => e = .returned (.int .i64 (cmpI2 x.kd y.kd)) ∧ w' = W) := cmpI2_any _ _
  have hwr : IntKind.i64.wrap (wayN up * Lib.compareBytes x.pa.data.toList y.pa.data.toList) = wayP up x y := by
    unfold wayP wayN
    rcases compare_three x.pa.data.toList y.pa.data.toList with h | h | h <;> rw [h] <;> cases up <;> rfl
  have HCF : Hid (cfD up x y = or2 (cmpI2 x.kd y.kd) (wayP up x y)) := rfl
  rw [HCF.out]
  clear HCF
  generalize Lib.compareBytes x.pa.data.toList y.pa.data.toList = r1 at *
  generalize cmpI2 x.kd y.kd = r2 at *
  generalize wayP up x y = r3 at *
  generalize wayN up = wy at *
  generalize x.kd = k1 at *
  generalize y.kd = k2 at *
  generalize x.pa = p1 at *
  generalize y.pa = p2 at *
  generalize x.da = d1 at *
  generalize y.da = d2 at *
  have HOR : Hid (∀ W : World, Calls Tryz.prog 87 #[.slice (some ⟨W.heap.size, 0, none⟩) 2 2] (W.alloc (.cells #[.int .i64 r2, .int .i64 r3] 3)) fun e w' => e = .returned (.int .i64 (or2 r2 r3)) ∧ w' = (W.alloc (.cells #[.int .i64 r2, .int .i64 r3] 3))) := fun W => or_two (by simp) (by simp)
  have HO0 : Hid (Calls Tryz.prog 87 #[.slice (some ⟨W.heap.size, 0, none⟩) 2 2] (W.drew.alloc (.cells #[.int .i64 r2, .int .i64 r3] 3)) fun e w' => e = .returned (.int .i64 (or2 r2 r3)) ∧ w' = (W.drew.alloc (.cells #[.int .i64 r2, .int .i64 r3] 3))) := HOR.out W.drew
  clear HOR
  generalize or2 r2 r3 = rr at *
  have HG0 : Hid (Gd w W.drew) := HGD.out.trans (Gd.drew _)
  have t1 : True := trivial
  clear hw hB HGD hs1
  go_enter Tryz.func86, Tryz.ntmps86
  go_wp2_with fail
  rw [← hW]
  clear hW
  go_region_held3 (fun w' => w'.cell? ⟨Bw, 0, none⟩ = some (.int .i64 wy) ∧ w'.cell? ⟨w.heap.size, 0, none⟩ = some (.int .i64 k1) ∧ w'.cell? ⟨w.heap.size, 1, none⟩ = some (.string p1) ∧ w'.cell? ⟨w.heap.size + 1, 0, none⟩ = some (.int .i64 k2) ∧ w'.cell? ⟨w.heap.size + 1, 1, none⟩ = some (.string p2)) (go_keep) (first
    | (have _t := t2; go_at_call 87; refine HO0.out.mono ?_; rintro e w5 ⟨rfl, rfl⟩)
    | (go_at_call 88; refine (HNC.out _).mono ?_; rintro e w4 ⟨rfl, hw4⟩; subst w4; have t2 : True := trivial)
    | (go_at_call 59; refine (HSC.out _).mono ?_; rintro e w4 ⟨rfl, hw4⟩; subst w4))
  all_goals go_wp2
  all_goals go_ret
  all_goals exact ⟨rfl, HG0.out.trans (Gd.box _ _)⟩

instance : Inhabited De := ⟨⟨0, ByteArray.empty, ByteArray.empty⟩⟩
theorem sortE_any (up : Bool) {w : World} {B Bw : Nat} {v : Value} {ds : List De} (hown : OwnDe w B v ds) (hw : w.cell? ⟨Bw, 0, none⟩ = some (.int .i64 (wayN up))) (hBw : Bw < w.heap.size) (hne : some Bw ≠ v.ownBlock) (hz : ds.length < 4611686018427387904) :
    Calls Tryz.prog 85 #[v, .func (.func 86) #[] #[.pointer (some ⟨Bw, 0, none⟩)]] w fun e w' => e = .returned (.tuple #[]) ∧ ∃ ts : List De, ts.Perm ds ∧ (ts.Pairwise fun x y => ¬ ltD up y x) ∧ OwnDe w' B v ts ∧ w.grownBy w' v.ownBlock := by
  have eg : ∀ args w, (callFunc 86 args).run Tryz.prog w = .ok (.enter 86 args) w := enters_of Tryz.func86 (by kernel_rfl) rfl
  have hs := sort_mem (α := De) Tryz.sortE 3 (by decide) Tryz.isAgg54 Tryz.sizeOf54 encE (fun _ => rfl) (fun x v hv => by simp [encE] at hv; rcases hv with rfl | rfl | rfl <;> rfl) (cfD up) (swoD up) 86 #[.pointer (some ⟨Bw, 0, none⟩)] eg hown hz (fun W hW x y => orderCmp_gd up x y Bw W ((World.cell?_of_block (a := ⟨Bw, 0, none⟩) (hW.block Bw hBw hne)).trans hw) (Nat.lt_of_lt_of_le hBw hW.size))
  refine hs.mono ?_
  rintro e w' ⟨rfl, ts, hp, hpw, ho, hg⟩
  exact ⟨rfl, ts, hp, hpw.imp (fun {x y} q h => by rw [cf_lt.2 h] at q; exact absurd q (by decide)), ho, hg⟩

set_option maxHeartbeats 800000 in
/-- inOrder. -/
theorem inOrder_any (up : Bool) {w : World} {B : Nat} {v : Value} {ds : List De} (hown : OwnDe w B v ds) (hz : ds.length < 4611686018427387904) :
    Calls Tryz.prog 48 #[v, .int .i64 (wayN up)] w fun e w' => e = .returned v ∧ ∃ ts : List De, ts.Perm ds ∧ (ts.Pairwise fun x y => ¬ ltD up y x) ∧ OwnDe w' B v ts ∧ w.grownBy w' v.ownBlock := by
  obtain ⟨W, hW⟩ : ∃ W, W = w.alloc (.cells #[.int .i64 (wayN up)] 3) := ⟨_, rfl⟩
  have hb : Below w.heap.size w W := by rw [hW]; exact (Below.refl _ _).alloc (Nat.le_refl _) _
  have hS : Hid (Calls Tryz.prog 85 #[v, .func (.func 86) #[] #[.pointer (some ⟨w.heap.size, 0, none⟩)]] W fun e w' => e = .returned (.tuple #[]) ∧ ∃ ts : List De, ts.Perm ds ∧ (ts.Pairwise fun x y => ¬ ltD up y x) ∧ OwnDe w' B v ts ∧ W.grownBy w' v.ownBlock) :=
    sortE_any up (hown.below hb) (by rw [hW]; simp) (by rw [hW]; simp) (fun e => by have := (hown.lt e.symm).1; omega) hz
  have HB := hide3 hb
  clear hown hb hz
  generalize wayN up = wy at *
  obtain ⟨PP, hPP⟩ : ∃ PP : Ending → World → Prop, PP = fun e w' => e = .returned v ∧ ∃ ts : List De, ts.Perm ds ∧ (ts.Pairwise fun x y => ¬ ltD up y x) ∧ OwnDe w' B v ts ∧ w.grownBy w' v.ownBlock := ⟨_, rfl⟩
  have HPP : Hid (∀ w' (ts : List De), ts.Perm ds → (ts.Pairwise fun x y => ¬ ltD up y x) → OwnDe w' B v ts → W.grownBy w' v.ownBlock → PP (.returned v) w') := fun w' ts h1 h2 h3 h4 => by rw [hPP]; exact ⟨rfl, ts, h1, h2, h3, grown_pre HB.out h4⟩
  rw [← hPP]
  clear hPP
  subst hW
  go_enter Tryz.func48, Tryz.ntmps48
  go_wp2_with (go_at_call 85; refine hS.out.mono ?_; rintro e w1 ⟨rfl, ts, h1, h2, h3, h4⟩)
  exact HPP.out _ ts h1 h2 h3 h4
end Go.Proofs.YtpaoimhebheaeaaGreatDoor
namespace Go.Proofs.YtpaoimhebheaeaaGreatDoor
open Go.RowKit Go.Maps Go.WideMaps Go.WideElems Dk
set_option maxRecDepth 100000

/-- What byPath answers. -/
def ByQ (w : World) (fs : List Fl) (e : Ending) (w' : World) : Prop := Below w.heap.size w w' ∧
  ((OkJ fs ∧ ∃ mb D, e = .returned (.tuple #[.map (some mb), .bool true]) ∧ MapAt w' mb fs.length D fs.reverse) ∨ (¬ OkJ fs ∧ e = .returned (.tuple #[.map none, .bool false])))
theorem putL_rev {fs : List Fl} (h : Apart fs) (k : Nat) (hk : k < fs.length) : putL ((fs.take k).reverse.map fi) (fi fs[k]) = (fs.take (k + 1)).reverse.map fi := by
  unfold putL
  rw [List.take_succ_eq_append_getElem hk, List.reverse_append, List.reverse_singleton, List.singleton_append, List.map_cons]
  congr 1
  rw [List.filter_eq_self]
  intro y hy
  obtain ⟨z, hz, rfl⟩ := List.mem_map.1 hy
  rw [List.mem_reverse] at hz
  obtain ⟨j, hj, rfl⟩ := List.getElem_of_mem hz
  rw [List.length_take] at hj
  rw [List.getElem_take]
  exact decide_eq_true (List.pairwise_iff_getElem.1 h j k (by omega) hk (by omega))

set_option maxHeartbeats 4000000 in
theorem byPath_any (fs : List Fl) (a : Option Addr) (cap : Nat) (m : Int) (w : World) (hm : w.cell? ⟨0, 0, none⟩ = some (.int .i64 m)) (hlen : fs.length ≤ 1048576) (hc : IsFiles w a fs) (hz : ∀ f ∈ fs, f.1.size ≤ maxLen ∧ f.2.2.size ≤ maxLen) :
    Calls Tryz.prog 47 #[.slice a fs.length cap] w (ByQ w fs) := by
  have HL : Hid (Calls Tryz.prog 26 #[.slice a fs.length cap] w (LoadQ w fs)) := Load_any fs a cap m w hm (by omega) hc hz
  have HC := hide3 hc
  have HZ := hide3 hz
  have hmm := @run_makeMap Tryz.prog
  have HNO : Hid (∀ w', ¬ OkJ fs → Below w.heap.size w w' → ByQ w fs (.returned (.tuple #[.map none, .bool false])) w') := fun w' h hb => ⟨hb, Or.inr ⟨h, rfl⟩⟩
  have HYES : Hid (∀ w' mb D, OkJ fs → Below w.heap.size w w' → MapAt w' mb fs.length D fs.reverse → ByQ w fs (.returned (.tuple #[.map (some mb), .bool true])) w') := fun w' mb D h hb hd => ⟨hb, Or.inl ⟨h, mb, D, rfl, hd⟩⟩
  clear hc hz hm
  by_cases hl : Loads fs
  · have HL2 : Hid (Calls Tryz.prog 26 #[.slice a fs.length cap] w fun e w' => e = .returned (.tuple #[.pointer (some ⟨w.heap.size + 1, 0, none⟩), .int .i64 0]) ∧ Below w.heap.size w w' ∧ ∃ n, IsDisk w.heap.size w' (w.heap.size + 1) w.heap.size n (.slice none 0 0) ⟨loadD fs, [], -1⟩) := HL.out.mono fun e w' hq => by
      obtain ⟨hb, ⟨_, he, n, _, hd⟩ | ⟨hn, _⟩⟩ := hq
      · exact ⟨he, hb, n, hd⟩
      · exact absurd hl hn
    have HJ := hide3 (jour hl)
    have HLL := hide3 hl
    have HKY : Hid (∀ f ∈ fs, f.1.size ≤ maxLen) := fun f hf => (HZ.out f hf).1
    have HAP : Hid (Apart fs) := loads_apart hl.1
    clear HL hl
    by_cases hk : kindD (loadD fs) jn = 0
    · have HOK : Hid (OkJ fs) := ⟨HLL.out, HJ.out.1 hk⟩
      have HK0 : Hid (∀ n W, IsDisk w.heap.size W (w.heap.size + 1) w.heap.size n (.slice none 0 0) ⟨loadD fs, [], -1⟩ → Calls Tryz.prog 22 #[.pointer (some ⟨w.heap.size + 1, 0, none⟩), .string ⟨#[47, 106, 111, 117, 114, 110, 97, 108]⟩] W fun e w' => e = .returned (.int .i64 0) ∧ Below W.heap.size W w') := fun n W hd => by
        have := Kind_any hd jn (by decide)
        rw [hk] at this
        exact this
      clear hk HJ HLL
      generalize ByQ w fs = HQ at *
      go_enter Tryz.func47, Tryz.ntmps47
      go_wp2_with (first
        | (go_at_call 26; refine HL2.out.mono ?_; rintro e w1 ⟨rfl, hb1, n1, hd1⟩; have HB1 := hide3 hb1; have HD1 := hide3 hd1; clear hb1 hd1)
        | (go_at_call 22; refine (HK0.out _ _ HD1.out).mono ?_; rintro e w2 ⟨rfl, hb2⟩; have HB2 := hide3 (HB1.out.trans (hb2.mono HB1.out.size)); clear hb2))
      have HM0 : Hid (MapAt (w2.alloc (.map #[] 0)) w2.heap.size 0 (.map []) ([] : List Fl)) := ⟨World.ownsMap_made w2 Tryz.prog 9 hldR, MapF.new⟩
      have HB3 : Hid (Below w.heap.size w (w2.alloc (.map #[] 0))) := HB2.out.alloc HB2.out.size _
      have HBW : Hid (w.heap.size ≤ w2.heap.size) := HB2.out.size
      generalize w2.heap.size = mb at *
      go_loopw [24] (fun i wr => ∃ k : Nat, k ≤ fs.length ∧ i = .int .i64 k ∧ (∃ D, MapAt wr mb k D (fs.take k).reverse) ∧ Below w.heap.size w wr) (fun i _ => fs.length - (intOf i).toNat)
      case atStart => exact ⟨0, Nat.zero_le _, rfl, ⟨_, HM0.out⟩, HB3.out⟩
      case round =>
        obtain ⟨k, hk, rfl, ⟨D, hd⟩, hb⟩ := hrel
        have HD := hide3 hd
        have HB := hide3 hb
        clear hd hb
        by_cases hlt : k < fs.length
        · obtain ⟨g, off, rfl, hg, hc⟩ : ∃ g off, a = some ⟨g, off, none⟩ ∧ g < w.heap.size ∧ FilesAt w g off fs := by
            rcases HC.out with h | h
            · rw [h] at hlt; exact absurd hlt (Nat.not_lt_zero _)
            · exact h
          have HPR := hide3 (putL_rev HAP.out k hlt)
          have hzz := HKY.out fs[k] (List.getElem_mem hlt)
          have hcs := hc k hlt
          obtain ⟨f, hf⟩ : ∃ f, f = fs[k] := ⟨_, rfl⟩
          rw [← hf] at HPR hzz hcs
          obtain ⟨p, c, t⟩ := f
          obtain ⟨a0, a1, a2⟩ := hcs
          have b0 := (HB.out.cell (p := ⟨g, off + k * 3, none⟩) hg).trans a0
          have b1 := (HB.out.cell (p := ⟨g, off + k * 3 + 1, none⟩) hg).trans a1
          have b2 := (HB.out.cell (p := ⟨g, off + k * 3 + 1 + 1, none⟩) hg).trans a2
          have hX : Below wr.heap.size wr (wr.alloc (.cells #[.string p, .bool c, .string t] 83)) := (Below.refl _ _).alloc (Nat.le_refl _) _
          have HML : Hid (mb < wr.heap.size) := HD.out.1.lt
          obtain ⟨w4, hup, ho4, hg4⟩ := World.ownsMap.update (t := 75) (e := 83) (HD.out.below hX).1 keyedF Tryz.underlying75 (by unfold maxLen; omega) (key := .string p) (val := filC (fi (p, c, t))) (keyOfF hzz) rfl
          have HM4 : Hid (MapAt w4 mb (k + 1) (D.put (keyF (fi (p, c, t)).pa) (.held (filC (fi (p, c, t))))) (fs.take (k + 1)).reverse) := ⟨ho4, by rw [← HPR.out]; exact HD.out.2.put _⟩
          have HB4 : Hid (Below w.heap.size w w4) := (HB.out.trans (hX.mono HB.out.size)).grown hg4 (Nat.le_trans HB.out.size hX.size) (fun j hj => by cases hj; exact HBW.out)
          have hki : (k : Int) < (fs.length : Int) := by omega
          unfold filC fi at hup
          simp only at hup
          clear hf a0 a1 a2 hc hzz hX ho4 hg4
          go_wp2
          exact ⟨⟨k + 1, by omega, by go_num, ⟨_, HM4.out⟩, HB4.out⟩, by simp [intOf]; omega⟩
        · obtain rfl : k = fs.length := by omega
          rw [List.take_length] at HD
          go_wp2
          exact HYES.out _ _ _ HOK.out HB.out HD.out
    · have HNOK : Hid (¬ OkJ fs) := fun h => hk (HJ.out.2 h.2)
      have hk0 : (kindD (loadD fs) jn == 0) = false := by simpa using hk
      have HK0 : Hid (∀ n W, IsDisk w.heap.size W (w.heap.size + 1) w.heap.size n (.slice none 0 0) ⟨loadD fs, [], -1⟩ → Calls Tryz.prog 22 #[.pointer (some ⟨w.heap.size + 1, 0, none⟩), .string ⟨#[47, 106, 111, 117, 114, 110, 97, 108]⟩] W fun e w' => e = .returned (.int .i64 (kindD (loadD fs) jn)) ∧ Below W.heap.size W w') := fun n W hd => Kind_any hd jn (by decide)
      clear hk HJ HLL
      generalize kindD (loadD fs) jn = kd at *
      generalize ByQ w fs = HQ at *
      go_enter Tryz.func47, Tryz.ntmps47
      go_wp2_with (first
        | (go_at_call 26; refine HL2.out.mono ?_; rintro e w1 ⟨rfl, hb1, n1, hd1⟩; have HB1 := hide3 hb1; have HD1 := hide3 hd1; clear hb1 hd1)
        | (go_at_call 22; refine (HK0.out _ _ HD1.out).mono ?_; rintro e w2 ⟨rfl, hb2⟩; have HB2 := hide3 (HB1.out.trans (hb2.mono HB1.out.size)); clear hb2))
      exact HNO.out _ HNOK.out HB2.out
  · have HL2 : Hid (Calls Tryz.prog 26 #[.slice a fs.length cap] w fun e w' => e = .returned (.tuple #[.pointer none, .int .i64 1]) ∧ Below w.heap.size w w') := HL.out.mono fun e w' hq => by
      obtain ⟨hb, ⟨h, _⟩ | ⟨_, he⟩⟩ := hq
      · exact absurd h hl
      · exact ⟨he, hb⟩
    have HNOK : Hid (¬ OkJ fs) := fun h => hl h.1
    clear HL hl
    generalize ByQ w fs = HQ at *
    go_enter Tryz.func47, Tryz.ntmps47
    go_wp2_with (go_at_call 26; refine HL2.out.mono ?_; rintro e w1 ⟨rfl, hb1⟩; have HB1 := hide3 hb1; clear hb1)
    exact HNO.out _ HNOK.out HB1.out
end Go.Proofs.YtpaoimhebheaeaaGreatDoor
namespace Go.Proofs.YtpaoimhebheaeaaGreatDoor
open Go.RowKit Go.Maps Go.WideMaps Go.WideElems Dk
set_option maxRecDepth 100000

theorem wp_apE {B : Nat} {wx : World} {v : Value} {ts us : List De} {ad : Option Addr} {n c : Nat} {ops : Array Oper} {rest : List Oper} {o : Oper} {f : Act} {Q : Exit → Act → World → Prop}
    (hgd : o.guard = none) (s t : Operand) (ho : o.op = .call { callee := .builtin .append, args := #[s, t], argTypes := #[23, 23] }) (hs : f.eval s = v)
    (hown : OwnDe wx B v ts) (hB : B ≤ wx.heap.size) (hx : f.eval t = .slice ad n c) (hn : us.length = n) (hc : DesAt wx ad us) (hb : ts.length + n ≤ 1000000000)
    (h : ∀ v1 w1, OwnDe w1 B v1 (ts ++ us) → wx.grownBy w1 v.ownBlock → wpList Tryz.prog ops Q rest (f.put o.dst v1) w1) :
    wpList Tryz.prog ops Q (o :: rest) f wx := by
  obtain ⟨i0, hi, hz0, hz1, hz2⟩ := info_parts infoDe
  subst hn
  rcases hc with ⟨rfl, rfl⟩ | ⟨g, off, rfl, hcell⟩
  · have h1 := h v wx (by rw [List.append_nil]; exact hown) ⟨rfl, rfl, rfl, Nat.le_refl _, fun _ _ _ => rfl⟩
    refine wpList_plain hgd fun K hK => ?_
    obtain ⟨base, cap, hv, hnc⟩ : ∃ base cap, v = .slice base ts.length cap ∧ ts.length ≤ cap := hown.sl
    subst hv
    have hr : (Builtin.append_ #[23, 23] o.type #[.slice base ts.length cap, .slice none 0 c]).run Tryz.prog wx = .ok (.slice base ts.length cap) wx := by
      cases base <;> simp [Builtin.append_, run_underlying Tryz.underlying23, sizeOf, typeInfo, hi, Builtin.lenOf, hnc, Builtin.firstCells, loadCells, storeCells]
    unfold Oper.wp execOp
    rw [List.length_nil] at hx
    simp only [ho, resolve, invoke, builtin, Sem.run_bind, Sem.run_pure, Result.andThen_ok, List.map_toArray, List.map_cons, List.map_nil, hs, hx, hr]
    exact hK _ _ h1
  · refine wpList_append_own_wide _ hgd s t 23 ho B 54 i0 _ 3 40 Tryz.underlying23 hi hz0 hz1 hz2 rfl (by decide) v ts.length (ts.flatMap encE) hs hown ⟨g, off, none⟩ us.length c (us.flatMap encE) hx (by rw [encE_len]) hcell (fun u hu => by
      obtain ⟨x, _, hx⟩ := List.mem_flatMap.1 hu
      simp [encE] at hx
      rcases hx with rfl | rfl | rfl <;> rfl) (by unfold maxLen; omega) (by omega) hB ?_
    intro v1 w1 h1 h2 _
    refine h v1 w1 ?_ h2
    unfold OwnDe
    rw [List.length_append, List.flatMap_append]
    exact h1

/-- The deeds of what was handed in. -/
def deeds (fs gs : List Fl) : List De := deD (filesD (loadD fs)) (filesD (loadD gs))
/-- What Deeds answers. -/
def DdQ (w : World) (fs gs : List Fl) (e : Ending) (w' : World) : Prop := Below w.heap.size w w' ∧
  (((OkJ fs ∧ OkJ gs) ∧ ∃ v, e = .returned (.tuple #[v, .int .i64 0]) ∧ OwnDe w' w.heap.size v (deeds fs gs)) ∨ (¬ (OkJ fs ∧ OkJ gs) ∧ e = .returned (.tuple #[.slice none 0 0, .int .i64 1])))
theorem IsFiles.below {w w' : World} {a : Option Addr} {fs : List Fl} (h : IsFiles w a fs) (hb : Below w.heap.size w w') : IsFiles w' a fs := by
  rcases h with h | ⟨g, off, rfl, hg, hc⟩
  · exact Or.inl h
  · refine Or.inr ⟨g, off, rfl, Nat.lt_of_lt_of_le hg hb.size, fun k hk => ?_⟩
    obtain ⟨a0, a1, a2⟩ := hc k hk
    exact ⟨(hb.cell (p := ⟨g, off + k * 3, none⟩) hg).trans a0, (hb.cell (p := ⟨g, off + k * 3 + 1, none⟩) hg).trans a1, (hb.cell (p := ⟨g, off + k * 3 + 1 + 1, none⟩) hg).trans a2⟩
theorem apart_rev {fs : List Fl} (h : Apart fs) : Apart fs.reverse := by
  unfold Apart
  rw [List.pairwise_reverse]
  exact h.imp fun q e => q e.symm
theorem ok_size {fs : List Fl} (h : OkJ fs) : ∀ f ∈ fs, f.1.size ≤ 4096 := fun f hf => (okPath_parts (okF_path (loads_ok h.1 f hf))).1
theorem ok_ne {fs : List Fl} (h : OkJ fs) : ∀ f ∈ fs, f.1 ≠ ByteArray.empty := fun f hf e => by
  have h1 := (okPath_parts (okF_path (loads_ok h.1 f hf))).2
  obtain ⟨i, hi, _⟩ := last_at h1
  rw [e] at hi
  exact absurd hi (Nat.not_lt_zero _)

set_option maxHeartbeats 4000000 in
theorem deeds_any (fs gs : List Fl) (a b : Option Addr) (ca cb : Nat) (m : Int) (w : World) (hm : w.cell? ⟨0, 0, none⟩ = some (.int .i64 m)) (hlf : fs.length ≤ 1048576) (hlg : gs.length ≤ 1048576) (hcf : IsFiles w a fs) (hcg : IsFiles w b gs)
    (hzf : ∀ f ∈ fs, f.1.size ≤ maxLen ∧ f.2.2.size ≤ 281474976710656) (hzg : ∀ f ∈ gs, f.1.size ≤ maxLen ∧ f.2.2.size ≤ 281474976710656) :
    Calls Tryz.prog 19 #[.slice a fs.length ca, .slice b gs.length cb] w (DdQ w fs gs) := by
  have hmax : ∀ n : Nat, n ≤ 281474976710656 → n ≤ maxLen := fun n h => by unfold maxLen; omega
  have HF : Hid (Calls Tryz.prog 47 #[.slice a fs.length ca] w (ByQ w fs)) := byPath_any fs a ca m w hm hlf hcf (fun f hf => ⟨(hzf f hf).1, hmax _ (hzf f hf).2⟩)
  have HG : Hid (∀ W, Below w.heap.size w W → Calls Tryz.prog 47 #[.slice b gs.length cb] W (ByQ W gs)) := fun W hb => byPath_any gs b cb m W ((hb.cell (p := ⟨0, 0, none⟩) (cell_lt hm)).trans hm) hlg (hcg.below hb) (fun f hf => ⟨(hzg f hf).1, hmax _ (hzg f hf).2⟩)
  have HNO : Hid (∀ w', ¬ (OkJ fs ∧ OkJ gs) → Below w.heap.size w w' → DdQ w fs gs (.returned (.tuple #[.slice none 0 0, .int .i64 1])) w') := fun w' h hb => ⟨hb, Or.inr ⟨h, rfl⟩⟩
  have HYES : Hid (∀ w' v, OkJ fs → OkJ gs → Below w.heap.size w w' → OwnDe w' w.heap.size v (deeds fs gs) → DdQ w fs gs (.returned (.tuple #[v, .int .i64 0])) w') := fun w' v h1 h2 hb hd => ⟨hb, Or.inl ⟨⟨h1, h2⟩, v, rfl, hd⟩⟩
  have HZF := hide3 hzf
  have HZG := hide3 hzg
  clear hcf hcg hm hmax hzf hzg
  by_cases hf : OkJ fs
  · have HF2 : Hid (Calls Tryz.prog 47 #[.slice a fs.length ca] w fun e w' => ∃ mb, e = .returned (.tuple #[.map (some mb), .bool true]) ∧ Below w.heap.size w w' ∧ ∃ D, MapAt w' mb fs.length D fs.reverse) := HF.out.mono fun e w' hq => by
      obtain ⟨hb, ⟨_, mb, D, he, hd⟩ | ⟨hn, _⟩⟩ := hq
      · exact ⟨mb, he, hb, D, hd⟩
      · exact absurd hf hn
    have HOF := hide3 hf
    clear HF hf
    by_cases hg : OkJ gs
    · have HG2 : Hid (∀ W, Below w.heap.size w W → Calls Tryz.prog 47 #[.slice b gs.length cb] W fun e w' => ∃ mb, e = .returned (.tuple #[.map (some mb), .bool true]) ∧ Below W.heap.size W w' ∧ ∃ D, MapAt w' mb gs.length D gs.reverse) := fun W hW => (HG.out W hW).mono fun e w' hq => by
        obtain ⟨hb, ⟨_, mb, D, he, hd⟩ | ⟨hn, _⟩⟩ := hq
        · exact ⟨mb, he, hb, D, hd⟩
        · exact absurd hg hn
      have HOG := hide3 hg
      clear HG hg
      have HGO : Hid (∀ W m1 D1 m2 D2, MapAt W m1 fs.length D1 fs.reverse → MapAt W m2 gs.length D2 gs.reverse → Calls Tryz.prog 49 #[.map (some m1), .map (some m2)] W fun e w' => ∃ v X, e = .returned v ∧ X.Perm fs.reverse ∧ OwnDe w' W.heap.size v (lG gs.reverse X) ∧ Below W.heap.size W w') := fun W m1 D1 m2 D2 h1 h2 => goings_any h1 h2 (apart_rev (loads_apart HOG.out.1.1)) (fun x hx => ⟨ok_size HOF.out x (List.mem_reverse.1 hx), (HZF.out x (List.mem_reverse.1 hx)).2⟩) (by rw [List.length_reverse]; exact hlf)
      have HCO : Hid (∀ W m1 D1 m2 D2, MapAt W m1 fs.length D1 fs.reverse → MapAt W m2 gs.length D2 gs.reverse → Calls Tryz.prog 50 #[.map (some m1), .map (some m2)] W fun e w' => ∃ v X, e = .returned v ∧ X.Perm gs.reverse ∧ OwnDe w' W.heap.size v (lC fs.reverse X) ∧ Below W.heap.size W w') := fun W m1 D1 m2 D2 h1 h2 => comings_any h1 h2 (apart_rev (loads_apart HOF.out.1.1)) (fun x hx => ⟨ok_size HOG.out x (List.mem_reverse.1 hx), (HZG.out x (List.mem_reverse.1 hx)).2⟩) (by rw [List.length_reverse]; exact hlg)
        (fun x hx => (ordL HOF.out.1).dirs x (List.mem_reverse.1 hx)) (fun x hx => (ordL HOG.out.1).dirs x (List.mem_reverse.1 hx)) (fun x hx => ok_ne HOG.out x (List.mem_reverse.1 hx))
      have HGI : Hid (∀ X ts, X.Perm fs.reverse → ts.Perm (lG gs.reverse X) → (ts.Pairwise fun x y => ¬ ltD false y x) → ts = lU (filesD (loadD gs)) (filesD (loadD fs)).reverse ++ lR (filesD (loadD gs)) (filesD (loadD fs)).reverse) := fun X ts hX hp hs => by
        refine going_is (ordL HOF.out.1) (ordL HOG.out.1) (hX.trans (List.reverse_perm fs)) (V := X) ?_ hs
        have e : lG gs.reverse X = lG gs X := by
          unfold lG wG
          congr 1
          refine List.filter_congr fun x _ => ?_
          rw [atL_same (apart_rev (loads_apart HOG.out.1.1)) (loads_apart HOG.out.1.1) (fun f => List.mem_reverse)]
        rw [← e]; exact hp
      have HCI : Hid (∀ X ts, X.Perm gs.reverse → ts.Perm (lC fs.reverse X) → (ts.Pairwise fun x y => ¬ ltD true y x) → ts = lM (filesD (loadD fs)) (filesD (loadD gs)) ++ lP (filesD (loadD fs)) (filesD (loadD gs))) := fun X ts hX hp hs => by
        refine coming_is (ordL HOF.out.1) (ordL HOG.out.1) (hX.trans (List.reverse_perm gs)) (V := X) ?_ hs
        have e : lC fs.reverse X = lC fs X := by
          unfold lC wC
          congr 1
          refine List.filter_congr fun x _ => ?_
          rw [atL_same (apart_rev (loads_apart HOF.out.1.1)) (loads_apart HOF.out.1.1) (fun f => List.mem_reverse)]
        rw [← e]; exact hp
      have HSG : Hid (∀ W B v ds, ds.length ≤ 1048576 → OwnDe W B v ds → Calls Tryz.prog 48 #[v, .int .i64 (-1)] W fun e w' => e = .returned v ∧ ∃ ts : List De, ts.Perm ds ∧ (ts.Pairwise fun x y => ¬ ltD false y x) ∧ OwnDe w' B v ts ∧ W.grownBy w' v.ownBlock) := fun W B v ds hl h => inOrder_any false h (by omega)
      have HSC : Hid (∀ W B v ds, ds.length ≤ 1048576 → OwnDe W B v ds → Calls Tryz.prog 48 #[v, .int .i64 1] W fun e w' => e = .returned v ∧ ∃ ts : List De, ts.Perm ds ∧ (ts.Pairwise fun x y => ¬ ltD true y x) ∧ OwnDe w' B v ts ∧ W.grownBy w' v.ownBlock) := fun W B v ds hl h => inOrder_any true h (by omega)
      have HNG : Hid (∀ X : List Fl, X.Perm fs.reverse → (lG gs.reverse X).length ≤ 1048576) := fun X hX => by have h1 := lG_len gs.reverse X; have h2 := hX.length_eq; rw [List.length_reverse] at h2; omega
      have HNC : Hid (∀ X : List Fl, X.Perm gs.reverse → (lC fs.reverse X).length ≤ 1048576) := fun X hX => by have h1 := lC_len fs.reverse X; have h2 := hX.length_eq; rw [List.length_reverse] at h2; omega
      have HDE : Hid (∀ A C : List De, A = lU (filesD (loadD gs)) (filesD (loadD fs)).reverse ++ lR (filesD (loadD gs)) (filesD (loadD fs)).reverse → C = lM (filesD (loadD fs)) (filesD (loadD gs)) ++ lP (filesD (loadD fs)) (filesD (loadD gs)) → A ++ C = deeds fs gs) := fun A C h1 h2 => by rw [h1, h2]; unfold deeds deD; simp only [List.append_assoc]
      clear HZF HZG
      generalize DdQ w fs gs = HQ at *
      go_enter Tryz.func19, Tryz.ntmps19
      go_upto_region 7 with (first
        | (have _t := HB1; go_at_call 47; refine (HG2.out _ HB1.out).mono ?_; rintro e w2 ⟨m2, rfl, hb2, D2, hd2⟩; have HB2 := hide3 (HB1.out.trans (hb2.mono HB1.out.size)); have HM2 := hide3 hd2; have HM1' := hide3 (HM1.out.below hb2); clear hb2 hd2)
        | (go_at_call 47; refine HF2.out.mono ?_; rintro e w1 ⟨m1, rfl, hb1, D1, hd1⟩; have HB1 := hide3 hb1; have HM1 := hide3 hd1; clear hb1 hd1))
      go_upto_region 8 with (first
        | (go_at_call 49; refine (HGO.out _ _ _ _ _ HM1'.out HM2.out).mono ?_; rintro e w3 ⟨v3, X3, rfl, hX3, ho3, hb3⟩; have HX3 := hide3 hX3; have HO3 := hide3 ho3; have HB3 := hide3 hb3; clear hX3 ho3 hb3)
        | (go_at_call 48; refine (HSG.out _ _ _ _ (HNG.out _ HX3.out) HO3.out).mono ?_; rintro e w4 ⟨rfl, ts4, hp4, hs4, ho4, hg4⟩; have HA4 := hide3 (HGI.out _ _ HX3.out hp4 hs4); have HO4 := hide3 ho4; have HL4 := hide3 (Nat.le_trans (Nat.le_of_eq hp4.length_eq) (HNG.out _ HX3.out)); have HB4 := hide3 (HB3.out.grown hg4 HB3.out.size (fun k hk => (HO3.out.lt hk).2)); clear hp4 hs4 ho4 hg4))
      have HM14 := hide3 (HM1'.out.below HB4.out)
      have HM24 := hide3 (HM2.out.below HB4.out)
      go_upto_region 9 with (first
        | (go_at_call 50; refine (HCO.out _ _ _ _ _ HM14.out HM24.out).mono ?_; rintro e w5 ⟨v5, X5, rfl, hX5, ho5, hb5⟩; have HX5 := hide3 hX5; have HO5 := hide3 ho5; have HB5 := hide3 hb5; clear hX5 ho5 hb5)
        | (go_at_call 48; refine (HSC.out _ _ _ _ (HNC.out _ HX5.out) HO5.out).mono ?_; rintro e w6 ⟨rfl, ts6, hp6, hs6, ho6, hg6⟩; have HA6 := hide3 (HCI.out _ _ HX5.out hp6 hs6); have HO6 := hide3 ho6; have HL6 := hide3 (Nat.le_trans (Nat.le_of_eq hp6.length_eq) (HNC.out _ HX5.out)); have HB6 := hide3 (HB5.out.grown hg6 HB5.out.size (fun k hk => (HO5.out.lt hk).2)); clear hp6 hs6 ho6 hg6))
      obtain ⟨ad6, c6, hv6, _⟩ := HO6.out.sl
      obtain ⟨n6, hn6⟩ : ∃ n, ts6.length = n := ⟨_, rfl⟩
      have HN6 := hide3 hn6
      have HV6 := HO6.out
      rw [hv6, hn6] at HV6
      have HDS := hide3 HV6.des
      have HO46 := hide3 (HO4.out.below HB6.out)
      have HB26 := hide3 (HB2.out.trans ((HB4.out.trans (HB6.out.mono HB4.out.size)).mono HB2.out.size))
      have hl4 := HL4.out
      have hl6 : n6 ≤ 1048576 := by rw [← hn6]; exact HL6.out
      have HS6 : Hid (w2.heap.size ≤ w6.heap.size) := Nat.le_trans HB4.out.size HB6.out.size
      have HS2 : Hid (w.heap.size ≤ w2.heap.size) := HB2.out.size
      rw [hn6] at hv6
      clear hn6 HV6 HO6 HO5
      subst hv6
      go_wp2_with (at_builtin; refine wp_apE (us := ts6) rfl _ _ rfl rfl HO46.out HS6.out rfl HN6.out HDS.out (by omega) ?_; intro v7 w7 ho7 hg7; have HO7 := hide3 (ho7.base HS2.out); have HB7 := hide3 (HB26.out.grown hg7 HB26.out.size (fun k hk => Nat.le_trans HS2.out (HO46.out.lt hk).2)); clear ho7 hg7)
      exact HYES.out _ _ HOF.out HOG.out HB7.out (by rw [← HDE.out _ _ HA4.out HA6.out]; exact HO7.out)
    · have HG2 : Hid (∀ W, Below w.heap.size w W → Calls Tryz.prog 47 #[.slice b gs.length cb] W fun e w' => e = .returned (.tuple #[.map none, .bool false]) ∧ Below W.heap.size W w') := fun W hW => (HG.out W hW).mono fun e w' hq => by
        obtain ⟨hb, ⟨h, _⟩ | ⟨_, he⟩⟩ := hq
        · exact absurd h hg
        · exact ⟨he, hb⟩
      have HNOK : Hid (¬ (OkJ fs ∧ OkJ gs)) := fun h => hg h.2
      clear HG hg
      generalize DdQ w fs gs = HQ at *
      go_enter Tryz.func19, Tryz.ntmps19
      go_wp2_with (first
        | (have _t := HB1; go_at_call 47; refine (HG2.out _ HB1.out).mono ?_; rintro e w2 ⟨rfl, hb2⟩; have HB2 := hide3 (HB1.out.trans (hb2.mono HB1.out.size)); clear hb2)
        | (go_at_call 47; refine HF2.out.mono ?_; rintro e w1 ⟨m1, rfl, hb1, D1, hd1⟩; have HB1 := hide3 hb1; have HM1 := hide3 hd1; clear hb1 hd1))
      exact HNO.out _ HNOK.out HB2.out
  · have HF2 : Hid (Calls Tryz.prog 47 #[.slice a fs.length ca] w fun e w' => e = .returned (.tuple #[.map none, .bool false]) ∧ Below w.heap.size w w') := HF.out.mono fun e w' hq => by
      obtain ⟨hb, ⟨h, _⟩ | ⟨_, he⟩⟩ := hq
      · exact absurd h hf
      · exact ⟨he, hb⟩
    have HNOK : Hid (¬ (OkJ fs ∧ OkJ gs)) := fun h => hf h.1
    clear HF hf
    generalize DdQ w fs gs = HQ at *
    go_enter Tryz.func19, Tryz.ntmps19
    go_wp2_with (go_at_call 47; refine HF2.out.mono ?_; rintro e w1 ⟨rfl, hb1⟩; have HB1 := hide3 hb1; clear hb1)
    exact HNO.out _ HNOK.out HB1.out
end Go.Proofs.YtpaoimhebheaeaaGreatDoor
