/- Tc1, Tc2, laid in one text. -/
import Derived.Test.YtcclfaioicklaaaGreatDoorMg13
namespace Go.Proofs.YtcclfaioicklaaaGreatDoor
open Go.Shelf Go.RowKit Go.Lib Go.Sort
set_option maxRecDepth 100000

/-- A comparison by which just those are level that are the same. -/
structure Ord3 {α : Type} (f : α → α → Int) : Prop where
  eq : ∀ x y, f x y = 0 ↔ x = y
  anti : ∀ x y, f x y < 0 ↔ 0 < f y x
  trans : ∀ x y z, f x y < 0 → f y z < 0 → f x z < 0
theorem Ord3.tri {α : Type} {f : α → α → Int} (h : Ord3 f) (x y : α) : f x y < 0 ∨ x = y ∨ f y x < 0 := by
  rcases Int.lt_trichotomy (f x y) 0 with q | q | q
  · exact Or.inl q
  · exact Or.inr (Or.inl ((h.eq _ _).1 q))
  · exact Or.inr (Or.inr ((h.anti _ _).2 q))
theorem Ord3.irr {α : Type} {f : α → α → Int} (h : Ord3 f) (x : α) : f x x = 0 := (h.eq x x).2 rfl
theorem Ord3.asymm {α : Type} {f : α → α → Int} (h : Ord3 f) {x y : α} (q : f x y < 0) : ¬ f y x < 0 := fun p => by
  have := h.trans _ _ _ q p
  rw [h.irr] at this
  omega
theorem Ord3.swo {α β : Type} {f : β → β → Int} (h : Ord3 f) (k : α → β) : SWO (ltOf fun x y => f (k x) (k y)) where
  irrefl x := by show decide (f (k x) (k x) < 0) = false; rw [h.irr]; rfl
  trans x y z h1 h2 := by
    unfold ltOf at *
    rw [decide_eq_true_iff] at *
    exact h.trans _ _ _ h1 h2
  ntrans x y z h1 h2 := by
    unfold ltOf at *
    rw [decide_eq_false_iff_not] at *
    intro (q : f (k x) (k z) < 0)
    rcases h.tri (k x) (k y) with p | p | p
    · exact h1 p
    · rw [p] at q
      exact h2 q
    · exact h2 (h.trans _ _ _ p q)

/-- The first that is not level. -/
def or2 (a b : Int) : Int := if a = 0 then b else a
theorem or2_zero {a b : Int} : or2 a b = 0 ↔ a = 0 ∧ b = 0 := by
  unfold or2
  split <;> constructor <;> intro h
  · exact ⟨‹_›, h⟩
  · exact h.2
  · exact absurd h ‹_›
  · exact absurd h.1 ‹_›
theorem or2_lt {a b : Int} : or2 a b < 0 ↔ a < 0 ∨ (a = 0 ∧ b < 0) := by unfold or2; split <;> omega
theorem or2_gt {a b : Int} : 0 < or2 a b ↔ 0 < a ∨ (a = 0 ∧ 0 < b) := by unfold or2; split <;> omega
theorem ord_or {α β γ : Type} {f : β → β → Int} {g : γ → γ → Int} (hf : Ord3 f) (hg : Ord3 g) (p : α → β) (q : α → γ) (hi : ∀ x y, p x = p y → q x = q y → x = y) : Ord3 fun x y => or2 (f (p x) (p y)) (g (q x) (q y)) where
  eq x y := by
    rw [or2_zero, hf.eq, hg.eq]
    exact ⟨fun h => hi _ _ h.1 h.2, fun h => by rw [h]; exact ⟨rfl, rfl⟩⟩
  anti x y := by
    rw [or2_lt, or2_gt, hf.anti, hg.anti, hf.eq, hf.eq]
    exact ⟨fun h => h.imp id fun h => ⟨h.1.symm, h.2⟩, fun h => h.imp id fun h => ⟨h.1.symm, h.2⟩⟩
  trans x y z h1 h2 := by
    rw [or2_lt, hf.eq] at *
    rcases h1 with h1 | ⟨e1, h1⟩
    · rcases h2 with h2 | ⟨e2, h2⟩
      · exact Or.inl (hf.trans _ _ _ h1 h2)
      · exact Or.inl (e2 ▸ h1)
    · rcases h2 with h2 | ⟨e2, h2⟩
      · exact Or.inl (e1 ▸ h2)
      · exact Or.inr ⟨e1.trans e2, hg.trans _ _ _ h1 h2⟩

/-- Lists compared, element by element; the shorter one first. -/
def cmpL {α : Type} (f : α → α → Int) : List α → List α → Int
  | [], [] => 0
  | [], _ :: _ => -1
  | _ :: _, [] => 1
  | x :: s, y :: t => or2 (f x y) (cmpL f s t)
theorem ord_list {α : Type} {f : α → α → Int} (h : Ord3 f) : Ord3 (cmpL f) where
  eq x := by
    induction x with
    | nil => intro y; cases y <;> simp [cmpL]
    | cons a s ih =>
      intro y
      cases y with
      | nil => simp [cmpL]
      | cons b t => rw [cmpL, or2_zero, h.eq, ih, List.cons.injEq]
  anti x := by
    induction x with
    | nil => intro y; cases y <;> simp [cmpL]
    | cons a s ih =>
      intro y
      cases y with
      | nil => simp [cmpL]
      | cons b t =>
        rw [cmpL, cmpL, or2_lt, or2_gt, h.anti, ih, h.eq, h.eq]
        exact ⟨fun q => q.imp id fun q => ⟨q.1.symm, q.2⟩, fun q => q.imp id fun q => ⟨q.1.symm, q.2⟩⟩
  trans x := by
    induction x with
    | nil =>
      intro y z h1 h2
      cases z with
      | nil => cases y <;> simp [cmpL] at h1 h2
      | cons c u => simp [cmpL]
    | cons a s ih =>
      intro y z h1 h2
      cases y with
      | nil => simp [cmpL] at h1
      | cons b t =>
        cases z with
        | nil => simp [cmpL] at h2
        | cons c u =>
          rw [cmpL, or2_lt, h.eq] at *
          rcases h1 with h1 | ⟨e1, h1⟩
          · rcases h2 with h2 | ⟨e2, h2⟩
            · exact Or.inl (h.trans _ _ _ h1 h2)
            · exact Or.inl (e2 ▸ h1)
          · rcases h2 with h2 | ⟨e2, h2⟩
            · exact Or.inl (e1 ▸ h2)
            · exact Or.inr ⟨e1.trans e2, ih _ _ h1 h2⟩

/-- Texts. -/
def cmpS (s t : ByteArray) : Int := Lib.compareBytes s.data.toList t.data.toList
theorem compare_gt : ∀ (a b : List UInt8), 0 < Lib.compareBytes a b ↔ Lib.compareBytes b a < 0
  | [], [] => by simp [Lib.compareBytes]
  | [], _ :: _ => by simp [Lib.compareBytes]
  | _ :: _, [] => by simp [Lib.compareBytes]
  | a :: ra, b :: rb => by
    have ih := compare_gt ra rb
    unfold Lib.compareBytes
    by_cases h1 : a < b
    · have h2 : ¬ b < a := UInt8.not_lt.2 (UInt8.le_of_lt h1)
      rw [if_pos h1, if_neg h2, if_pos h1]
      simp
    · rw [if_neg h1]
      by_cases h2 : b < a
      · rw [if_pos h2, if_pos h2]
        simp
      · rw [if_neg h2, if_neg h2, if_neg h1]
        exact ih
theorem ba_inj {s t : ByteArray} (h : s.data.toList = t.data.toList) : s = t := bytes_same (by rw [ByteArray.toList_eq, ByteArray.toList_eq]; exact h)
theorem ordS : Ord3 cmpS where
  eq x y := by
    unfold cmpS
    rw [compare_eq]
    exact ⟨ba_inj, fun e => by rw [e]⟩
  anti x y := by unfold cmpS; rw [compare_gt]
  trans x y z h1 h2 := by
    unfold cmpS at *
    rw [compare_lt] at *
    exact WideShapes.bytes_trans _ _ _ h1 h2
theorem cmpS_is (s t : ByteArray) : cmpS s t = if bytesBefore s.data.toList t.data.toList = true then -1 else if bytesBefore t.data.toList s.data.toList = true then 1 else 0 := by
  have h : ∀ a b : List UInt8, Lib.compareBytes a b = -1 ∨ Lib.compareBytes a b = 0 ∨ Lib.compareBytes a b = 1 := by
    intro a
    induction a with
    | nil => intro b; cases b <;> simp [Lib.compareBytes]
    | cons x a ih =>
      intro b
      cases b with
      | nil => simp [Lib.compareBytes]
      | cons y b =>
        unfold Lib.compareBytes
        split
        · exact Or.inl rfl
        · split
          · exact Or.inr (Or.inr rfl)
          · exact ih b
  have h1 := compare_lt s.data.toList t.data.toList
  have h2 := compare_lt t.data.toList s.data.toList
  have h3 := compare_gt s.data.toList t.data.toList
  have h4 := h s.data.toList t.data.toList
  unfold cmpS
  split
  · rename_i q
    have := h1.2 q
    omega
  · rename_i q
    have q1 : ¬ Lib.compareBytes s.data.toList t.data.toList < 0 := fun p => q (h1.1 p)
    split
    · rename_i r
      have := h3.2 (h2.2 r)
      omega
    · rename_i r
      have q2 : ¬ 0 < Lib.compareBytes s.data.toList t.data.toList := fun p => r (h2.1 (h3.1 p))
      omega

/-- Versions, as triples. -/
def cmpT (u v : Int × Int × Int) : Int := cmpV u.1 u.2.1 u.2.2 v.1 v.2.1 v.2.2
theorem cmpV_zero {a b c x y z : Int} : cmpV a b c x y z = 0 ↔ a = x ∧ b = y ∧ c = z := by
  unfold cmpV
  constructor
  · intro h
    repeat' split at h
    all_goals omega
  · rintro ⟨rfl, rfl, rfl⟩
    simp
theorem cmpV_lt {a b c x y z : Int} : cmpV a b c x y z < 0 ↔ a < x ∨ (a = x ∧ (b < y ∨ (b = y ∧ c < z))) := by
  unfold cmpV
  repeat' split
  all_goals omega
theorem cmpV_gt {a b c x y z : Int} : 0 < cmpV a b c x y z ↔ x < a ∨ (x = a ∧ (y < b ∨ (y = b ∧ z < c))) := by
  unfold cmpV
  repeat' split
  all_goals omega
theorem ordT : Ord3 cmpT where
  eq x y := by
    unfold cmpT
    rw [cmpV_zero]
    obtain ⟨a, b, c⟩ := x
    obtain ⟨a', b', c'⟩ := y
    simp
  anti x y := by unfold cmpT; rw [cmpV_lt, cmpV_gt]
  trans x y z h1 h2 := by
    unfold cmpT at *
    rw [cmpV_lt] at *
    omega

/-- Spans, dependencies, packages, directories. -/
def cmpSp (s t : Sp) : Int := or2 (cmpV s.a s.b s.c t.a t.b t.c) (cmpV s.x s.y s.z t.x t.y t.z)
theorem ordSp : Ord3 cmpSp := ord_or ordT ordT (fun s : Sp => (s.a, s.b, s.c)) (fun s : Sp => (s.x, s.y, s.z)) fun x y h1 h2 => by
  obtain ⟨a, b, c, d, e, f⟩ := x
  obtain ⟨a', b', c', d', e', f'⟩ := y
  simp only [Prod.mk.injEq] at h1 h2
  obtain ⟨rfl, rfl, rfl⟩ := h1
  obtain ⟨rfl, rfl, rfl⟩ := h2
  rfl
def cmpDp (d e : Dp) : Int := or2 (cmpS d.nm e.nm) (cmpL cmpSp d.rg e.rg)
theorem ordDp : Ord3 cmpDp := ord_or ordS (ord_list ordSp) (fun d : Dp => d.nm) (fun d : Dp => d.rg) fun x y h1 h2 => by
  obtain ⟨n, r⟩ := x
  obtain ⟨m, q⟩ := y
  simp only at h1 h2
  rw [h1, h2]
/-- The first of five that is not level. -/
def or5 (a b c d e : Int) : Int := or2 a (or2 b (or2 c (or2 d e)))
def cmpPg (P Q : Pg) : Int := or5 (cmpS P.nm Q.nm) (cmpV P.a P.b P.c Q.a Q.b Q.c) (cmpL cmpDp P.d Q.d) (cmpL cmpDp P.p Q.p) (cmpL cmpDp P.o Q.o)
theorem ordPg : Ord3 cmpPg :=
  have h1 := ord_or (ord_list ordDp) (ord_list ordDp) (fun u : List Dp × List Dp => u.1) (fun u => u.2) fun x y h1 h2 => Prod.ext h1 h2
  have h2 := ord_or (ord_list ordDp) h1 (fun u : List Dp × List Dp × List Dp => u.1) (fun u => u.2) fun x y h1 h2 => Prod.ext h1 h2
  have h3 := ord_or ordT h2 (fun u : (Int × Int × Int) × List Dp × List Dp × List Dp => u.1) (fun u => u.2) fun x y h1 h2 => Prod.ext h1 h2
  ord_or ordS h3 (fun P : Pg => P.nm) (fun P : Pg => ((P.a, P.b, P.c), P.d, P.p, P.o)) fun x y h1 h2 => by
    obtain ⟨n, a, b, c, d, e, o⟩ := x
    obtain ⟨n', a', b', c', d', e', o'⟩ := y
    simp only [Prod.mk.injEq] at h1 h2
    obtain ⟨⟨rfl, rfl, rfl⟩, rfl, rfl, rfl⟩ := h2
    rw [h1]
/-- Where a directory stands, and its package. -/
def keyD (d : Dr) : List ByteArray × Pg := (d.pa, d.pk)
def cmpK (u v : List ByteArray × Pg) : Int := or2 (cmpL cmpS u.1 v.1) (cmpPg u.2 v.2)
theorem ordK : Ord3 cmpK := ord_or (ord_list ordS) ordPg (fun u : List ByteArray × Pg => u.1) (fun u => u.2) fun _ _ h1 h2 => Prod.ext h1 h2
theorem cmpL_at {α : Type} {f : α → α → Int} {A B : List α} {k : Nat} (ha : k < A.length) (hb : k < B.length) : cmpL f (A.drop k) (B.drop k) = or2 (f A[k] B[k]) (cmpL f (A.drop (k + 1)) (B.drop (k + 1))) := by
  rw [List.drop_eq_getElem_cons ha, List.drop_eq_getElem_cons hb]
  rfl
theorem cmpL_left {α : Type} {f : α → α → Int} {A B : List α} {k : Nat} (ha : k < A.length) (hb : B.length ≤ k) : cmpL f (A.drop k) (B.drop k) = 1 := by
  rw [List.drop_eq_getElem_cons ha, List.drop_eq_nil_iff.2 hb]
  rfl
theorem cmpL_right {α : Type} {f : α → α → Int} {A B : List α} {k : Nat} (ha : A.length ≤ k) (hb : k < B.length) : cmpL f (A.drop k) (B.drop k) = -1 := by
  rw [List.drop_eq_getElem_cons hb, List.drop_eq_nil_iff.2 ha]
  rfl
theorem cmpL_both {α : Type} {f : α → α → Int} {A B : List α} {k : Nat} (ha : A.length ≤ k) (hb : B.length ≤ k) : cmpL f (A.drop k) (B.drop k) = 0 := by
  rw [List.drop_eq_nil_iff.2 hb, List.drop_eq_nil_iff.2 ha]
  rfl
end Go.Proofs.YtcclfaioicklaaaGreatDoor
namespace Go.Proofs.YtcclfaioicklaaaGreatDoor
open Go.Shelf Go.RowKit Go.Lib Go.Sort
set_option maxRecDepth 100000

theorem bl_is : ∀ a b : List UInt8, Op.bytesLess a b = bytesBefore a b
  | [], [] => rfl
  | [], _ :: _ => rfl
  | _ :: _, [] => rfl
  | a :: r, b :: s => by unfold Op.bytesLess bytesBefore; rw [bl_is r s]

theorem isNaNS_any (s : ByteArray) (w : World) : Calls Tryz.prog 155 #[.string s] w fun e w' => e = .returned (.bool false) ∧ w' = w := by
  go_enter Tryz.func155, Tryz.ntmps155
  go_wp2
  go_ret
  exact ⟨by simp, rfl⟩

set_option maxHeartbeats 800000 in
theorem cmpS_any (s t : ByteArray) (w : World) : Calls Tryz.prog 135 #[.string s, .string t] w fun e w' => e = .returned (.int .i64 (cmpS s t)) ∧ w' = w := by
  have HN : Hid (∀ s w, Calls Tryz.prog 155 #[.string s] w fun e w' => e = .returned (.bool false) ∧ w' = w) := isNaNS_any
  have HC := hide3 (cmpS_is s t)
  have e1 : Op.bytesLess s.toList t.toList = bytesBefore s.data.toList t.data.toList := by rw [bl_is, ByteArray.toList_eq, ByteArray.toList_eq]
  cases h1 : bytesBefore s.data.toList t.data.toList
  · have q1 : Op.bytesLess s.toList t.toList = false := e1.trans h1
    by_cases h2 : s = t
    · have HR : Hid (cmpS s t = 0) := (ordS.eq s t).2 h2
      have q2 : (s.toList = t.toList) = True := eq_true (by rw [h2])
      have q3 : (s.toList == t.toList) = true := by rw [h2]; simp
      clear HC e1 h1 h2
      go_enter Tryz.func135, Tryz.ntmps135
      go_wp2_with (go_at_call 155; refine (HN.out _ _).mono ?_; rintro e w1 ⟨rfl, rfl⟩)
      go_ret
      exact ⟨ret_int HR.out.symm, rfl⟩
    · have HR : Hid (cmpS s t = 1) := by
        have q := HC.out
        rw [h1, if_neg (by simp)] at q
        have : bytesBefore t.data.toList s.data.toList = true := by
          rcases WideAt.bytes_total _ _ (fun e => h2 (ba_inj e)) with r | r
          · rw [h1] at r; cases r
          · exact r
        rw [this, if_pos rfl] at q
        exact q
      have q2 : (s.toList = t.toList) = False := eq_false fun e => h2 (bytes_same e)
      have q3 : (s.toList == t.toList) = false := by rw [beq_eq_false_iff_ne]; exact fun e => h2 (bytes_same e)
      clear HC e1 h1 h2
      go_enter Tryz.func135, Tryz.ntmps135
      go_wp2_with (go_at_call 155; refine (HN.out _ _).mono ?_; rintro e w1 ⟨rfl, rfl⟩)
      go_ret
      exact ⟨ret_int HR.out.symm, rfl⟩
  · have HR : Hid (cmpS s t = -1) := by
      have q := HC.out
      rw [h1, if_pos rfl] at q
      exact q
    have q1 : Op.bytesLess s.toList t.toList = true := e1.trans h1
    clear HC e1 h1
    go_enter Tryz.func135, Tryz.ntmps135
    go_wp2_with (go_at_call 155; refine (HN.out _ _).mono ?_; rintro e w1 ⟨rfl, rfl⟩)
    go_ret
    exact ⟨ret_int HR.out.symm, rfl⟩

set_option maxHeartbeats 1600000 in
/-- Paths compared. -/
theorem cmpP_any {A B : List ByteArray} {va vb : Value} {w : World} (ha : PathAt w va A) (hb : PathAt w vb B) (hA : A.length ≤ 9223372036854775807) :
    Calls Tryz.prog 103 #[va, vb] w fun e w' => e = .returned (.int .i64 (cmpL cmpS A B)) ∧ w' = w := by
  have HC : Hid (∀ s t w, Calls Tryz.prog 135 #[.string s, .string t] w fun e w' => e = .returned (.int .i64 (cmpS s t)) ∧ w' = w) := cmpS_any
  obtain ⟨ad, ca, rfl, hca, hea⟩ := ha.el
  obtain ⟨bd, cb, rfl, hcb, heb⟩ := hb.el
  have HA := hide3 hea
  have HB := hide3 heb
  clear ha hb hea heb
  go_enter Tryz.func103, Tryz.ntmps103
  go_wp2_with fail
  go_loop [11] (fun i => ∃ k : Nat, k ≤ A.length ∧ i = .int .i64 k ∧ cmpL cmpS A B = cmpL cmpS (A.drop k) (B.drop k)) (fun i => A.length - (intOf i).toNat)
  case atStart => exact ⟨0, Nat.zero_le _, rfl, rfl⟩
  case round =>
    obtain ⟨k, hk, rfl, hcm⟩ := hrel
    have HCM := hide3 hcm
    clear hcm
    by_cases hlt : k < A.length
    · obtain ⟨g, o, rfl, p0, p1⟩ := HA.out k hlt
      by_cases hlb : k < B.length
      · obtain ⟨h, u, rfl, r0, r1⟩ := HB.out k hlb
        have HST := hide3 (HCM.out.trans (cmpL_at hlt hlb))
        have HCK := hide3 (HC.out A[k] B[k])
        have hge : decide (B.length ≤ k) = false := decide_eq_false (by omega)
        generalize A[k] = s at *
        generalize B[k] = t at *
        generalize hz : cmpS s t = z at *
        by_cases hz0 : z = 0
        · have HR : Hid (cmpL cmpS A B = cmpL cmpS (A.drop (k + 1)) (B.drop (k + 1))) := by
            have e := HST.out
            unfold or2 at e
            rw [if_pos hz0] at e
            exact e
          have hz1 : (z == 0) = true := by simpa using hz0
          rw [hz0] at HCK
          clear HST HCM hz hz0 hz1
          go_wp2_with (go_at_call 135; refine (HCK.out _).mono ?_; rintro e w1 ⟨rfl, rfl⟩)
          exact ⟨⟨k + 1, by omega, by go_num, HR.out⟩, by simp [intOf]; omega⟩
        · have HR : Hid (cmpL cmpS A B = z) := by
            have e := HST.out
            unfold or2 at e
            rw [if_neg hz0] at e
            exact e
          have hz1 : (z == 0) = false := by simpa using hz0
          clear HST HCM hz hz0
          go_wp2_with (go_at_call 135; refine (HCK.out _).mono ?_; rintro e w1 ⟨rfl, rfl⟩)
          go_ret
          exact ⟨ret_int HR.out.symm, rfl⟩
      · have HR := hide3 (HCM.out.trans (cmpL_left hlt (by omega)))
        have hge : decide (B.length ≤ k) = true := decide_eq_true (by omega)
        generalize A[k] = s at *
        clear HCM
        go_wp2
        go_ret
        exact ⟨ret_int HR.out.symm, rfl⟩
    · have hke : k = A.length := by omega
      subst hke
      by_cases hlb : A.length < B.length
      · have HR := hide3 (HCM.out.trans (cmpL_right (Nat.le_refl _) hlb))
        clear HCM
        go_wp2
        go_ret
        exact ⟨ret_int HR.out.symm, rfl⟩
      · have HR := hide3 (HCM.out.trans (cmpL_both (Nat.le_refl _) (by omega)))
        clear HCM
        go_wp2
        go_ret
        exact ⟨ret_int HR.out.symm, rfl⟩

/-- The first number that is not zero. -/
def orL : List Int → Int
  | [] => 0
  | a :: l => or2 a (orL l)
theorem or2_0 (a : Int) : or2 a 0 = a := by unfold or2; split <;> omega

set_option maxHeartbeats 1600000 in
theorem or_any {w : World} {g : Nat} (L : List Int) (hL : L.length ≤ 1000000) (hc : ∀ i (h : i < L.length), w.cell? ⟨g, i, none⟩ = some (.int .i64 L[i])) : Calls Tryz.prog 46 #[.slice (some ⟨g, 0, none⟩) L.length L.length] w fun e w' => e = .returned (.int .i64 (orL L)) ∧ w' = w := by
  have HC := hide3 hc
  clear hc
  go_enter Tryz.func46, Tryz.ntmps46
  go_wp2_with fail
  go_loop [8] (fun i => ∃ k : Nat, k ≤ L.length ∧ i = .int .i64 k ∧ orL L = orL (L.drop k)) (fun i => L.length - (intOf i).toNat)
  case atStart => exact ⟨0, Nat.zero_le _, rfl, rfl⟩
  case round =>
    obtain ⟨k, hk, rfl, ho⟩ := hrel
    by_cases hlt : k < L.length
    · have c0 := HC.out k hlt
      rw [List.drop_eq_getElem_cons hlt] at ho
      have HO : Hid (orL L = or2 L[k] (orL (L.drop (k + 1)))) := ho
      clear ho
      generalize L[k] = z at *
      by_cases hz0 : z = 0
      · have HR : Hid (orL L = orL (L.drop (k + 1))) := by
          have e := HO.out
          unfold or2 at e
          rw [if_pos hz0] at e
          exact e
        rw [hz0] at c0
        clear HO hz0
        go_wp2
        exact ⟨⟨k + 1, by omega, by go_num, HR.out⟩, by simp [intOf]; omega⟩
      · have HR : Hid (orL L = z) := by
          have e := HO.out
          unfold or2 at e
          rw [if_neg hz0] at e
          exact e
        have hz1 : (z == 0) = false := by simpa using hz0
        clear HO hz0
        go_wp2
        go_ret
        exact ⟨ret_int HR.out.symm, rfl⟩
    · have hke : k = L.length := by omega
      subst hke
      rw [List.drop_length] at ho
      have HR := hide3 ho
      clear ho
      go_wp2
      go_ret
      exact ⟨ret_int HR.out.symm, rfl⟩
end Go.Proofs.YtcclfaioicklaaaGreatDoor
