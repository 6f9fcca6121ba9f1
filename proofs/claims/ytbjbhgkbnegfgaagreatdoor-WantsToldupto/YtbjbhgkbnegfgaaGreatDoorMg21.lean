/- St12, St13, St14, Wg2, Wg3, laid in one text. -/
import Derived.Test.YtbjbhgkbnegfgaaGreatDoorMg20
namespace Go.Proofs.YtbjbhgkbnegfgaaGreatDoor
open Go.RowKit Go.Maps Go.WideMaps
set_option maxRecDepth 100000

/-- All of the one stood ahead of all of the other one. -/
def TB (A Z : List Wt) : Prop := ∀ x ∈ A, ∀ z ∈ Z, x.tg < z.tg

/-- Blocks of c, the last one perhaps shorter. -/
def FullB (c : Nat) : List (List Wt) → Prop
  | [] => True
  | [L] => 0 < L.length ∧ L.length ≤ c
  | L :: L' :: r => L.length = c ∧ FullB c (L' :: r)

/-- Sorted blocks that together are X. -/
def Blk (X : List Wt) (Ls : List (List Wt)) : Prop := (∀ L ∈ Ls, L.Pairwise ltT) ∧ Ls.Pairwise TB ∧ Ls.flatten.Perm X

theorem blk_merge {X A Z M : List Wt} {Ds r : List (List Wt)} (h : Blk X (Ds ++ A :: Z :: r)) (hM : M.Perm (A ++ Z)) (hs : M.Pairwise ltT) : Blk X (Ds ++ M :: r) := by
  obtain ⟨h1, h2, h3⟩ := h
  rw [List.pairwise_append, List.pairwise_cons, List.pairwise_cons] at h2
  obtain ⟨p1, ⟨p2, p3, p4⟩, p5⟩ := h2
  have hm : ∀ x ∈ M, x ∈ A ∨ x ∈ Z := fun x hx => List.mem_append.1 (hM.mem_iff.1 hx)
  refine ⟨fun L hL => ?_, ?_, ?_⟩
  · rcases List.mem_append.1 hL with hL | hL
    · exact h1 L (List.mem_append.2 (Or.inl hL))
    · rcases List.mem_cons.1 hL with rfl | hL
      · exact hs
      · exact h1 L (List.mem_append.2 (Or.inr (List.mem_cons_of_mem _ (List.mem_cons_of_mem _ hL))))
  · rw [List.pairwise_append, List.pairwise_cons]
    refine ⟨p1, ⟨fun t ht x hx z hz => ?_, p4⟩, fun d hd t ht x hx z hz => ?_⟩
    · rcases hm x hx with hx | hx
      · exact p2 t (List.mem_cons_of_mem _ ht) x hx z hz
      · exact p3 t ht x hx z hz
    · rcases List.mem_cons.1 ht with rfl | ht
      · rcases hm z hz with hz | hz
        · exact p5 d hd A (by simp) x hx z hz
        · exact p5 d hd Z (by simp) x hx z hz
      · exact p5 d hd t (List.mem_cons_of_mem _ (List.mem_cons_of_mem _ ht)) x hx z hz
  · refine List.Perm.trans ?_ h3
    simp only [List.flatten_append, List.flatten_cons, ← List.append_assoc]
    refine List.Perm.append_right _ ?_
    rw [List.append_assoc]
    exact List.Perm.append_left _ hM

theorem blk_snoc {X Y : List Wt} {Ds : List (List Wt)} {a k : Nat} (h : Blk (X.take a) Ds) (hY : Y.Perm ((X.drop a).take k)) (hs : Y.Pairwise ltT) (ht : X.Pairwise fun x y => x.tg < y.tg) : Blk (X.take (a + k)) (Ds ++ [Y]) := by
  obtain ⟨h1, h2, h3⟩ := h
  have hp : ∀ x ∈ X.take a, ∀ z ∈ X.drop a, x.tg < z.tg := by
    rw [← List.take_append_drop a X, List.pairwise_append] at ht
    exact ht.2.2
  refine ⟨fun L hL => ?_, ?_, ?_⟩
  · rcases List.mem_append.1 hL with hL | hL
    · exact h1 L hL
    · rw [List.mem_singleton.1 hL]
      exact hs
  · rw [List.pairwise_append]
    refine ⟨h2, List.pairwise_singleton _ _, fun d hd t ht x hx z hz => ?_⟩
    rw [List.mem_singleton] at ht
    subst ht
    exact hp x (h3.mem_iff.1 (List.mem_flatten.2 ⟨d, hd, hx⟩)) z (List.mem_of_mem_take (hY.mem_iff.1 hz))
  · rw [List.flatten_append, List.flatten_singleton, List.take_add]
    exact h3.append hY

theorem full_all {c : Nat} (hc : 0 < c) : ∀ {Ds Ts : List (List Wt)}, (∀ D ∈ Ds, D.length = c) → FullB c Ts → FullB c (Ds ++ Ts)
  | [], Ts, _, h => h
  | [D], [], hd, _ => by
    have e := hd D (by simp)
    exact ⟨by omega, by omega⟩
  | [D], T :: Ts, hd, h => ⟨hd D (by simp), h⟩
  | D :: D' :: Ds, Ts, hd, h => ⟨hd D (by simp), full_all hc (Ds := D' :: Ds) (fun x hx => hd x (List.mem_cons_of_mem _ hx)) h⟩

theorem full_tail {c : Nat} {L : List Wt} : ∀ {r : List (List Wt)}, FullB c (L :: r) → FullB c r
  | [], _ => trivial
  | _ :: _, h => h.2

theorem full_pos {c : Nat} {L : List Wt} (hc : 0 < c) : ∀ {r : List (List Wt)}, FullB c (L :: r) → 0 < L.length ∧ L.length ≤ c
  | [], h => h
  | _ :: _, h => ⟨by have := h.1; omega, by have := h.1; omega⟩

/-- Two whole blocks and more. -/
theorem full_two {c : Nat} (hc : 0 < c) : ∀ {Ts : List (List Wt)}, FullB c Ts → 2 * c ≤ Ts.flatten.length → ∃ A Z r, Ts = A :: Z :: r ∧ A.length = c ∧ Z.length = c ∧ FullB c r
  | [], _, h2 => by simp at h2; omega
  | [L], h, h2 => by
    have e := h.2
    simp at h2
    omega
  | [A, Z], h, h2 => by
    have e1 := h.1
    have e2 := h.2.2
    simp at h2
    exact ⟨A, Z, [], rfl, e1, by omega, trivial⟩
  | A :: Z :: L :: r, h, _ => ⟨A, Z, L :: r, rfl, h.1, h.2.1, h.2.2⟩

/-- Less than two whole blocks: none, one, or one and a part of one. -/
theorem full_less {c : Nat} : ∀ {Ts : List (List Wt)}, FullB c Ts → Ts.flatten.length < 2 * c → (Ts.flatten.length ≤ c ∧ FullB (2 * c) Ts) ∨ ∃ A Z, Ts = [A, Z] ∧ A.length = c ∧ 0 < Z.length ∧ Z.length ≤ c
  | [], _, _ => Or.inl ⟨by simp, trivial⟩
  | [L], h, _ => Or.inl ⟨by simpa using h.2, h.1, by have := h.2; omega⟩
  | [A, Z], h, _ => Or.inr ⟨A, Z, rfl, h.1, h.2.1, h.2.2⟩
  | A :: Z :: L :: r, h, h2 => by
    have e1 := h.1
    have e2 := h.2.1
    simp at h2
    omega

/-- One block is all. -/
theorem full_one {c : Nat} (hc : 0 < c) {X : List Wt} : ∀ {Ts : List (List Wt)}, FullB c Ts → Blk X Ts → Ts.flatten.length ≤ c → Ts.flatten.Pairwise ltT
  | [], _, _, _ => List.Pairwise.nil
  | [L], _, hb, _ => by simpa using hb.1 L (by simp)
  | A :: Z :: r, h, _, h2 => by
    have e1 := h.1
    have e2 := (full_pos hc h.2).1
    simp at h2
    omega
end Go.Proofs.YtbjbhgkbnegfgaaGreatDoor
namespace Go.Proofs.YtbjbhgkbnegfgaaGreatDoor
open Go.RowKit Go.Maps Go.WideMaps
set_option maxRecDepth 100000

/-- The first blocks of twenty are sorted. -/
def StA (w : World) (B g n cap : Nat) (X : List Wt) (a : Nat) (W : World) : Prop := ∃ Ds : List (List Wt), Blk (X.take a) Ds ∧ (∀ D ∈ Ds, D.length = 20) ∧ SW w B g n cap (Ds.flatten ++ X.drop a) W
/-- Blocks of c are sorted. -/
def StC (w : World) (B g n cap : Nat) (X : List Wt) (c : Nat) (W : World) : Prop := ∃ Ls : List (List Wt), Blk X Ls ∧ FullB c Ls ∧ SW w B g n cap Ls.flatten W
/-- Blocks of c are merged two by two, up to a. -/
def StM (w : World) (B g n cap : Nat) (X : List Wt) (c a : Nat) (W : World) : Prop := ∃ Ds Ts : List (List Wt), Blk X (Ds ++ Ts) ∧ (∀ D ∈ Ds, D.length = 2 * c) ∧ FullB c Ts ∧ Ds.flatten.length = a ∧ SW w B g n cap (Ds.flatten ++ Ts.flatten) W

theorem stA_step {w W : World} {B g n cap a b : Nat} {X : List Wt} (hn : n ≤ 1000000000) (hX : X.length = n) (ht : X.Pairwise fun x y => x.tg < y.tg) (he : b = a + 20) (hb : b ≤ n) (h : StA w B g n cap X a W) :
    Calls Tryz.prog 230 #[.slice (some ⟨g, 0, none⟩) n cap, .int .i64 a, .int .i64 b, .func (.func 125) #[] #[]] W fun e w' => e = .returned (.tuple #[]) ∧ StA w B g n cap X b w' := by
  obtain ⟨Ds, h1, h2, h3⟩ := h
  have hl : Ds.flatten.length = a := by rw [h1.2.2.length_eq, List.length_take]; omega
  have e1 : Ds.flatten ++ X.drop a = Ds.flatten ++ (X.drop a).take 20 ++ X.drop (a + 20) := by
    rw [List.append_assoc, ← List.drop_drop, List.take_append_drop]
  rw [e1] at h3
  subst he
  refine (insort_any (P := Ds.flatten) (X := (X.drop a).take 20) (R := X.drop (a + 20)) hn hl (by rw [List.length_take, List.length_drop]; omega) h3.1 (ht.sublist ((List.take_sublist _ _).trans (List.drop_sublist _ _)))).mono ?_
  rintro e w' ⟨q1, Y, q2, q3, q4⟩
  refine ⟨q1, Ds ++ [Y], blk_snoc h1 q2 q3 ht, fun D hD => ?_, ?_⟩
  · rcases List.mem_append.1 hD with hD | hD
    · exact h2 D hD
    · rw [List.mem_singleton.1 hD, q2.length_eq, List.length_take, List.length_drop]
      omega
  · have e2 := h3.then q4
    rw [List.flatten_append, List.flatten_singleton]
    exact e2

theorem stA_last {w W : World} {B g n cap a : Nat} {X : List Wt} (hn : n ≤ 1000000000) (hX : X.length = n) (ht : X.Pairwise fun x y => x.tg < y.tg) (ha : a ≤ n) (hb : n < a + 20) (h : StA w B g n cap X a W) :
    Calls Tryz.prog 230 #[.slice (some ⟨g, 0, none⟩) n cap, .int .i64 a, .int .i64 n, .func (.func 125) #[] #[]] W fun e w' => e = .returned (.tuple #[]) ∧ StC w B g n cap X 20 w' := by
  obtain ⟨Ds, h1, h2, h3⟩ := h
  have hl : Ds.flatten.length = a := by rw [h1.2.2.length_eq, List.length_take]; omega
  have e1 : Ds.flatten ++ X.drop a = Ds.flatten ++ X.drop a ++ [] := (List.append_nil _).symm
  rw [e1] at h3
  refine (insort_any (P := Ds.flatten) (X := X.drop a) (R := []) hn hl (by rw [List.length_drop]; omega) h3.1 (ht.sublist (List.drop_sublist _ _))).mono ?_
  rintro e w' ⟨q1, Y, q2, q3, q4⟩
  have e2 := h3.then q4
  rw [List.append_nil] at e2
  have hk : (X.drop a).take (n - a) = X.drop a := List.take_of_length_le (by rw [List.length_drop]; omega)
  have hx : X.take (a + (n - a)) = X := List.take_of_length_le (by omega)
  have hb2 : Blk X (Ds ++ [Y]) := by
    have q := blk_snoc (k := n - a) h1 (by rw [hk]; exact q2) q3 ht
    rwa [hx] at q
  by_cases hy : Y = []
  · subst hy
    refine ⟨q1, Ds, ⟨fun L hL => hb2.1 L (List.mem_append.2 (Or.inl hL)), (List.pairwise_append.1 hb2.2.1).1, by simpa using hb2.2.2⟩, ?_, by simpa using e2⟩
    have q := full_all (c := 20) (by omega) h2 (Ts := []) trivial
    rwa [List.append_nil] at q
  · refine ⟨q1, Ds ++ [Y], hb2, full_all (by omega) h2 ⟨List.length_pos_iff.2 hy, by rw [q2.length_eq, List.length_drop]; omega⟩, ?_⟩
    rw [List.flatten_append, List.flatten_singleton]
    exact e2

theorem stM_start {w W : World} {B g n cap c : Nat} {X : List Wt} (h : StC w B g n cap X c W) : StM w B g n cap X c 0 W := by
  obtain ⟨Ls, h1, h2, h3⟩ := h
  exact ⟨[], Ls, h1, fun D hD => (by cases hD), h2, rfl, h3⟩

theorem stM_step {w W : World} {B g n cap a m b c : Nat} {X : List Wt} (hn : n ≤ 1000000000) (hc : 0 < c) (hm : m = a + c) (he : b = a + 2 * c) (hb : b ≤ n) (h : StM w B g n cap X c a W) :
    Calls Tryz.prog 231 #[.slice (some ⟨g, 0, none⟩) n cap, .int .i64 a, .int .i64 m, .int .i64 b, .func (.func 125) #[] #[]] W fun e w' => e = .returned (.tuple #[]) ∧ StM w B g n cap X c b w' := by
  obtain ⟨Ds, Ts, h1, h2, h3, h4, h5⟩ := h
  have hl := h5.1.1
  rw [List.length_append] at hl
  obtain ⟨A, Z, r, rfl, hA, hZ, hr⟩ := full_two hc h3 (by omega)
  have e1 : Ds.flatten ++ (A :: Z :: r).flatten = Ds.flatten ++ A ++ Z ++ r.flatten := by simp
  rw [e1] at h5
  have hp := (List.pairwise_append.1 h1.2.1).2.1
  refine (symMerge_any hn (A.length + Z.length + 1) W Ds.flatten A Z r.flatten a m b (by omega) h4 (by omega) (by omega) (List.length_pos_iff.1 (by omega)) (List.length_pos_iff.1 (by omega)) (h1.1 A (by simp)) (h1.1 Z (by simp)) ((List.pairwise_cons.1 hp).1 Z (by simp)) h5.1).mono ?_
  rintro e w' ⟨q1, M, q2, q3, q4⟩
  have hb1 := blk_merge h1 q2 q3
  refine ⟨q1, Ds ++ [M], r, by simpa using hb1, fun D hD => ?_, hr, ?_, ?_⟩
  · rcases List.mem_append.1 hD with hD | hD
    · exact h2 D hD
    · rw [List.mem_singleton.1 hD, q2.length_eq, List.length_append]
      omega
  · rw [List.flatten_append, List.flatten_singleton, List.length_append, q2.length_eq, List.length_append]
    omega
  · have e2 := h5.then q4
    rw [List.flatten_append, List.flatten_singleton]
    exact e2

theorem stM_last {w W : World} {B g n cap a m c : Nat} {X : List Wt} (hn : n ≤ 1000000000) (hc : 0 < c) (hm : m = a + c) (hb : n < a + 2 * c) (hmn : m < n) (h : StM w B g n cap X c a W) :
    Calls Tryz.prog 231 #[.slice (some ⟨g, 0, none⟩) n cap, .int .i64 a, .int .i64 m, .int .i64 n, .func (.func 125) #[] #[]] W fun e w' => e = .returned (.tuple #[]) ∧ StC w B g n cap X (2 * c) w' := by
  obtain ⟨Ds, Ts, h1, h2, h3, h4, h5⟩ := h
  have hl := h5.1.1
  rw [List.length_append] at hl
  rcases full_less h3 (by omega) with ⟨h6, _⟩ | ⟨A, Z, rfl, hA, hZ, hZ2⟩
  · omega
  have e1 : Ds.flatten ++ [A, Z].flatten = Ds.flatten ++ A ++ Z ++ [] := by simp
  have hl2 : [A, Z].flatten.length = A.length + Z.length := by simp
  rw [e1] at h5
  have hp := (List.pairwise_append.1 h1.2.1).2.1
  refine (symMerge_any hn (A.length + Z.length + 1) W Ds.flatten A Z [] a m n (by omega) h4 (by omega) (by omega) (List.length_pos_iff.1 (by omega)) (List.length_pos_iff.1 (by omega)) (h1.1 A (by simp)) (h1.1 Z (by simp)) ((List.pairwise_cons.1 hp).1 Z (by simp)) h5.1).mono ?_
  rintro e w' ⟨q1, M, q2, q3, q4⟩
  have hb1 := blk_merge h1 q2 q3
  have hM := q2.length_eq
  rw [List.length_append] at hM
  refine ⟨q1, Ds ++ [M], hb1, full_all (by omega) h2 ⟨by omega, by omega⟩, ?_⟩
  have e2 := h5.then q4
  rw [List.append_nil] at e2
  rw [List.flatten_append, List.flatten_singleton]
  exact e2

theorem stM_none {w W : World} {B g n cap a c : Nat} {X : List Wt} (hc : 0 < c) (hb : n < a + 2 * c) (hmn : n ≤ a + c) (h : StM w B g n cap X c a W) : StC w B g n cap X (2 * c) W := by
  obtain ⟨Ds, Ts, h1, h2, h3, h4, h5⟩ := h
  have hl := h5.1.1
  rw [List.length_append] at hl
  rcases full_less h3 (by omega) with ⟨_, h6⟩ | ⟨A, Z, rfl, hA, hZ, hZ2⟩
  · exact ⟨Ds ++ Ts, h1, full_all (by omega) h2 h6, by rw [List.flatten_append]; exact h5⟩
  · have hl2 : [A, Z].flatten.length = A.length + Z.length := by simp
    omega

theorem stC_end {w W : World} {B g n cap c : Nat} {X : List Wt} (hc : 0 < c) (hcn : n ≤ c) (h : StC w B g n cap X c W) : ∃ Y : List Wt, Y.Perm X ∧ Y.Pairwise ltT ∧ SW w B g n cap Y W := by
  obtain ⟨Ls, h1, h2, h3⟩ := h
  exact ⟨_, h1.2.2, full_one hc h2 h1 (by rw [h3.1.1]; exact hcn), h3⟩
end Go.Proofs.YtbjbhgkbnegfgaaGreatDoor
namespace Go.Proofs.YtbjbhgkbnegfgaaGreatDoor
open Go.RowKit Go.Maps Go.WideMaps
set_option maxRecDepth 100000

theorem w64 {x : Int} (h0 : 0 ≤ x) (h1 : x ≤ 9000000000) : IntKind.i64.wrap x = x ∧ wrap64 x = x := by
  refine ⟨?_, ?_⟩
  · simp [IntKind.wrap, IntKind.bits, IntKind.signed]; omega
  · unfold wrap64; omega

/-- What a stable sort answers. -/
def StQ (w : World) (B g n cap : Nat) (X : List Wt) (e : Ending) (w' : World) : Prop := e = .returned (.tuple #[]) ∧ ∃ Y : List Wt, Y.Perm X ∧ Y.Pairwise ltT ∧ SW w B g n cap Y w'

set_option maxHeartbeats 12800000 in
theorem stable_any {w : World} {B g n cap : Nat} {X : List Wt} (hn : n ≤ 1000000000) (h : RowW w B g n cap X) (ht : X.Pairwise fun x y => x.tg < y.tg) :
    Calls Tryz.prog 184 #[.slice (some ⟨g, 0, none⟩) n cap, .int .i64 n, .func (.func 125) #[] #[]] w (StQ w B g n cap X) := by
  have HST : Hid (StA w B g n cap X 0 w) := ⟨[], ⟨fun L hL => (by cases hL), List.Pairwise.nil, (by simp)⟩, fun D hD => (by cases hD), by rw [List.flatten_nil, List.nil_append, List.drop_zero]; exact ⟨h, ⟨rfl, rfl, rfl, Nat.le_refl _, fun _ _ _ => rfl⟩⟩⟩
  have HIS : Hid (∀ W (a b : Nat), b = a + 20 → b ≤ n → StA w B g n cap X a W → Calls Tryz.prog 230 #[.slice (some ⟨g, 0, none⟩) n cap, .int .i64 a, .int .i64 b, .func (.func 125) #[] #[]] W fun e w' => e = .returned (.tuple #[]) ∧ StA w B g n cap X b w') := fun W a b h1 h2 h3 => stA_step hn h.1 ht h1 h2 h3
  have HIL : Hid (∀ W (a : Nat), a ≤ n → n < a + 20 → StA w B g n cap X a W → Calls Tryz.prog 230 #[.slice (some ⟨g, 0, none⟩) n cap, .int .i64 a, .int .i64 n, .func (.func 125) #[] #[]] W fun e w' => e = .returned (.tuple #[]) ∧ StC w B g n cap X 20 w') := fun W a h1 h2 h3 => stA_last hn h.1 ht h1 h2 h3
  have HMS : Hid (∀ W (a b c : Nat), 0 < c → b = a + 2 * c → b ≤ n → StM w B g n cap X c a W → Calls Tryz.prog 231 #[.slice (some ⟨g, 0, none⟩) n cap, .int .i64 a, .int .i64 ((a : Int) + (c : Int)), .int .i64 b, .func (.func 125) #[] #[]] W fun e w' => e = .returned (.tuple #[]) ∧ StM w B g n cap X c b w') := fun W a b c h1 h3 h4 h5 => by
    have q := stM_step (m := a + c) hn h1 rfl h3 h4 h5
    rw [Int.natCast_add] at q
    exact q
  have HML : Hid (∀ W (a c : Nat), 0 < c → n < a + 2 * c → a + c < n → StM w B g n cap X c a W → Calls Tryz.prog 231 #[.slice (some ⟨g, 0, none⟩) n cap, .int .i64 a, .int .i64 ((a : Int) + (c : Int)), .int .i64 n, .func (.func 125) #[] #[]] W fun e w' => e = .returned (.tuple #[]) ∧ StC w B g n cap X (2 * c) w') := fun W a c h1 h3 h4 h5 => by
    have q := stM_last (m := a + c) hn h1 rfl h3 h4 h5
    rw [Int.natCast_add] at q
    exact q
  have HMN : Hid (∀ W (a c : Nat), 0 < c → n < a + 2 * c → n ≤ a + c → StM w B g n cap X c a W → StC w B g n cap X (2 * c) W) := fun W a c h1 h2 h3 h4 => stM_none h1 h2 h3 h4
  have HM0 : Hid (∀ W (c : Nat), StC w B g n cap X c W → StM w B g n cap X c 0 W) := fun W c h1 => stM_start h1
  have HCE : Hid (∀ W (c : Nat), 0 < c → n ≤ c → StC w B g n cap X c W → StQ w B g n cap X (.returned (.tuple #[])) W) := fun W c h1 h2 h3 => ⟨rfl, stC_end h1 h2 h3⟩
  generalize StQ w B g n cap X = G at *
  generalize StA w B g n cap X = A1 at *
  generalize StC w B g n cap X = C1 at *
  generalize StM w B g n cap X = M1 at *
  clear h ht
  go_enter Tryz.func184, Tryz.ntmps184
  go_wp2_with fail
  go_loopw [7, 8] (fun va vb wr => ∃ a b : Nat, va = .int .i64 a ∧ vb = .int .i64 b ∧ b = a + 20 ∧ a ≤ n ∧ A1 a wr) (fun va _ _ => n - (intOf va).toNat)
  case atStart => exact ⟨0, 20, rfl, rfl, rfl, Nat.zero_le _, HST.out⟩
  case round =>
    obtain ⟨a, b, rfl, rfl, hb, han, hst⟩ := hrel
    have HA := hide3 hst
    have HB := hide3 hb
    clear hst hb
    by_cases hlt : b ≤ n
    · have hi : (b : Int) ≤ (n : Int) := by omega
      obtain ⟨k1, k2⟩ := w64 (x := (b : Int) + 20) (by omega) (by omega)
      go_wp2_with (go_at_call 230; refine (HIS.out _ a b HB.out hlt HA.out).mono ?_; rintro e1 w1 ⟨rfl, h1⟩; have HA1 := hide3 h1; clear h1)
      clear k1 k2
      exact ⟨⟨b, b + 20, rfl, by go_num, rfl, hlt, HA1.out⟩, by have := HB.out; simp [intOf]; omega⟩
    · have hi : ¬ (b : Int) ≤ (n : Int) := by omega
      have hlast : n < a + 20 := by have := HB.out; omega
      clear HB
      go_wp2_with (go_at_call 230; refine (HIL.out _ a han hlast HA.out).mono ?_; rintro e1 w1 ⟨rfl, h1⟩; have HC1 := hide3 h1; clear h1)
      clear HA HIS HIL
      go_loopw [6, 7, 8] (fun vc va vb wr => ∃ c a' b' : Nat, vc = .int .i64 c ∧ va = .int .i64 a' ∧ vb = .int .i64 b' ∧ 20 ≤ c ∧ c ≤ 2000000000 ∧ C1 c wr) (fun vc _ _ _ => n - (intOf vc).toNat)
      case atStart => exact ⟨20, a, b, rfl, rfl, rfl, by omega, by omega, HC1.out⟩
      case round =>
        obtain ⟨c, a', b', rfl, rfl, rfl, hc20, hcn, hst⟩ := hrel
        have HC := hide3 hst
        clear hst HC1
        by_cases hcl : c < n
        · have hci : (c : Int) < (n : Int) := by omega
          have HM := hide3 (HM0.out _ _ HC.out)
          clear HC
          obtain ⟨k1, k2⟩ := w64 (x := 2 * (c : Int)) (by omega) (by omega)
          go_wp2_with fail
          clear k1 k2
          go_loopw [7, 8] (fun va vb wr => ∃ a b : Nat, va = .int .i64 a ∧ vb = .int .i64 b ∧ b = a + 2 * c ∧ a ≤ n ∧ M1 c a wr) (fun va _ _ => n - (intOf va).toNat)
          case atStart => exact ⟨0, 2 * c, rfl, by go_num, by omega, Nat.zero_le _, HM.out⟩
          case round =>
            obtain ⟨a, b, rfl, rfl, hb, han, hst⟩ := hrel
            have HMA := hide3 hst
            have HB := hide3 hb
            clear hst HM
            have hbb : b ≤ 6000000000 := by omega
            clear hb
            by_cases hlt2 : b ≤ n
            · have hi2 : (b : Int) ≤ (n : Int) := by omega
              obtain ⟨k1, k2⟩ := w64 (x := (a : Int) + (c : Int)) (by omega) (by omega)
              obtain ⟨k3, k4⟩ := w64 (x := 2 * (c : Int)) (by omega) (by omega)
              obtain ⟨k5, k6⟩ := w64 (x := (b : Int) + 2 * (c : Int)) (by omega) (by omega)
              go_wp2_with (go_at_call 231; refine (HMS.out _ a b c (by omega) HB.out hlt2 HMA.out).mono ?_; rintro e1 w1 ⟨rfl, h1⟩; have HA1 := hide3 h1; clear h1)
              clear k1 k2 k3 k4 k5 k6
              exact ⟨⟨b, b + 2 * c, rfl, by go_num, rfl, hlt2, HA1.out⟩, by have := HB.out; simp [intOf]; omega⟩
            · have hi2 : ¬ (b : Int) ≤ (n : Int) := by omega
              have hlast2 : n < a + 2 * c := by have := HB.out; omega
              clear HB
              obtain ⟨k1, k2⟩ := w64 (x := (a : Int) + (c : Int)) (by omega) (by omega)
              obtain ⟨k3, k4⟩ := w64 (x := (c : Int) * 2) (by omega) (by omega)
              by_cases hm : a + c < n
              · have hmi : (a : Int) + (c : Int) < (n : Int) := by omega
                go_wp2_with (go_at_call 231; refine (HML.out _ a c (by omega) hlast2 hm HMA.out).mono ?_; rintro e1 w1 ⟨rfl, h1⟩; have HA1 := hide3 h1; clear h1)
                clear k1 k2 k3 k4
                exact ⟨⟨2 * c, a, b, by go_num, rfl, rfl, by omega, by omega, HA1.out⟩, by simp [intOf]; omega⟩
              · have hmi : ¬ (a : Int) + (c : Int) < (n : Int) := by omega
                have HA1 := hide3 (HMN.out _ a c (by omega) hlast2 (by omega) HMA.out)
                go_wp2_with fail
                clear k1 k2 k3 k4
                exact ⟨⟨2 * c, a, b, by go_num, rfl, rfl, by omega, by omega, HA1.out⟩, by simp [intOf]; omega⟩
        · have hci : ¬ (c : Int) < (n : Int) := by omega
          go_wp2_with fail
          go_end0
          exact HCE.out _ _ (by omega) (by omega) HC.out

set_option maxHeartbeats 12800000 in
theorem sortStable_any {w : World} {B g n cap : Nat} {X : List Wt} (hn : n ≤ 1000000000) (h : RowW w B g n cap X) (ht : X.Pairwise fun x y => x.tg < y.tg) :
    Calls Tryz.prog 124 #[.slice (some ⟨g, 0, none⟩) n cap, .func (.func 125) #[] #[]] w (StQ w B g n cap X) := by
  have HS : Hid (Calls Tryz.prog 184 #[.slice (some ⟨g, 0, none⟩) n cap, .int .i64 n, .func (.func 125) #[] #[]] w fun e w' => e = .returned (.tuple #[]) ∧ StQ w B g n cap X (.returned (.tuple #[])) w') := (stable_any hn h ht).mono fun e w' hq => ⟨hq.1, rfl, hq.2⟩
  generalize StQ w B g n cap X = G at *
  clear h ht
  go_enter Tryz.func124, Tryz.ntmps124
  go_wp2_with (go_at_call 184; refine HS.out.mono ?_; rintro e1 w1 ⟨rfl, h1⟩; have HA1 := hide3 h1; clear h1)
  go_end0
  exact HA1.out

/-- Nothing is sorted. -/
theorem sortStable_nil (w : World) : Calls Tryz.prog 124 #[.slice none 0 0, .func (.func 125) #[] #[]] w fun e w' => e = .returned (.tuple #[]) ∧ w' = w := by
  have HI : Hid (Calls Tryz.prog 230 #[.slice none 0 0, .int .i64 0, .int .i64 0, .func (.func 125) #[] #[]] w fun e w' => e = .returned (.tuple #[]) ∧ w' = w) := by
    unfold Hid
    go_enter Tryz.func230, Tryz.ntmps230
    go_wp2_with fail
    go_loopw [8] (fun vi wr => vi = .int .i64 1 ∧ wr = w) (fun _ _ => 0)
    case atStart => exact ⟨rfl, rfl⟩
    case round =>
      obtain ⟨rfl, rfl⟩ := hrel
      go_wp2_with fail
      go_end0
      exact ⟨rfl, rfl⟩
  have HS : Hid (Calls Tryz.prog 184 #[.slice none 0 0, .int .i64 0, .func (.func 125) #[] #[]] w fun e w' => e = .returned (.tuple #[]) ∧ w' = w) := by
    unfold Hid
    go_enter Tryz.func184, Tryz.ntmps184
    go_wp2_with fail
    go_loopw [7, 8] (fun va vb wr => va = .int .i64 0 ∧ vb = .int .i64 20 ∧ wr = w) (fun _ _ _ => 0)
    case atStart => exact ⟨rfl, rfl, rfl⟩
    case round =>
      obtain ⟨rfl, rfl, rfl⟩ := hrel
      go_wp2_with (go_at_call 230; refine HI.out.mono ?_; rintro e1 w1 ⟨rfl, rfl⟩)
      go_loopw [6, 7, 8] (fun vc va vb wq => vc = .int .i64 20 ∧ va = .int .i64 0 ∧ vb = .int .i64 20 ∧ wq = w1) (fun _ _ _ _ => 0)
      case atStart => exact ⟨rfl, rfl, rfl, rfl⟩
      case round =>
        obtain ⟨rfl, rfl, rfl, rfl⟩ := hrel
        go_wp2_with fail
        go_end0
        exact ⟨rfl, rfl⟩
  go_enter Tryz.func124, Tryz.ntmps124
  go_wp2_with (go_at_call 184; refine HS.out.mono ?_; rintro e1 w1 ⟨rfl, rfl⟩)
  go_end0
  exact ⟨rfl, rfl⟩
end Go.Proofs.YtbjbhgkbnegfgaaGreatDoor
namespace Go.Proofs.YtbjbhgkbnegfgaaGreatDoor
open Go.RowKit Go.Maps Go.WideMaps
set_option maxRecDepth 100000

/-- Wants in a row of one's own. -/
def RowO (w : World) (B : Nat) (v : Value) (xs : List Wt) : Prop := w.ownsRow B 69 3 v xs.length (xs.flatMap encW)
theorem RowO.nil (w : World) (B : Nat) : RowO w B (.slice none 0 0) [] := ⟨rfl, Or.inl ⟨rfl, rfl⟩⟩
theorem RowO.len {w : World} {B : Nat} {v : Value} {xs : List Wt} (h : RowO w B v xs) : ∃ ad cap, v = .slice ad xs.length cap := by
  rcases h.2 with ⟨rfl, hn⟩ | ⟨g, cap, cur, rfl, _⟩
  · exact ⟨none, 0, by rw [hn]⟩
  · exact ⟨_, cap, rfl⟩
theorem encW_one (l : List Wt) : ∀ u ∈ l.flatMap encW, u.oneCell' = true := fun u hu => by
  obtain ⟨x, _, hx⟩ := List.mem_flatMap.1 hu
  simp [encW] at hx
  rcases hx with rfl | rfl | rfl <;> rfl
theorem row_madeW (w : World) (cs : Array Value) (cap : Nat) (hc : cap ≤ maxLen) (hs : cs.size = cap * 3) : (w.drew.alloc (.cells cs 69)).ownsRow w.heap.size 69 3 (.slice (some ⟨w.heap.size, 0, none⟩) 0 cap) 0 [] :=
  ⟨rfl, Or.inr ⟨w.heap.size, cap, cs, rfl, Nat.le_refl _, by show (w.drew.heap.push _)[w.drew.heap.size]? = _; rw [Array.getElem?_push, if_pos rfl], Nat.zero_le _, hc, hs, by simp⟩⟩
theorem growW_nil (n : Nat) (hn : n ≤ 1000000000) (w : World) : Calls Tryz.prog 183 #[.slice none 0 0, .int .i64 n] w fun e w' => ∃ v, e = .returned v ∧ RowO w' w.heap.size v [] ∧ Below w.heap.size w w' := by
  by_cases h0 : n = 0
  · subst h0
    refine (Any8.slices_Grow_room Tryz.growW none 0 0 0 w (Nat.le_refl _) (by omega) (by omega) (Nat.le_refl _)).mono ?_
    rintro e w' ⟨rfl, rfl⟩
    exact ⟨_, rfl, RowO.nil _ _, Below.refl _ _⟩
  · obtain ⟨i0, hi, hz0, hz1, hz2⟩ := Sc.info_parts infoW
    refine (Any8.slices_Grow_grow Tryz.growW i0 _ hi hz0 (by rw [hz1]; decide) none 0 0 n [] w (Nat.le_refl _) (by omega) (by rw [hz2]; omega) (by omega) (by simp) (fun _ => rfl) (fun a ha => by cases ha)).mono ?_
    rintro e w' ⟨rfl, rfl⟩
    have hge := grownCap_ge w (0 + n) 0 69
    refine ⟨_, rfl, row_madeW w _ _ (grownCap_le_maxLen _ _ _ _ (by unfold maxLen; omega)) ?_, (Below.refl _ _).drew.alloc (Nat.le_refl _) _⟩
    rw [Array.size_append, Array.size_append, size_zeroCells, size_zeroCells]
    show 0 + (0 + n - 0) * 3 + (grownCap w (0 + n) 0 69 - (0 + n)) * 3 = grownCap w (0 + n) 0 69 * 3
    omega

/-- All wants of some lists. -/
def joinW (Ls : List (Value × List Wt)) : List Wt := Ls.flatMap (·.2)
theorem joinW_take {Ls : List (Value × List Wt)} {i : Nat} (h : i < Ls.length) : joinW (Ls.take (i + 1)) = joinW (Ls.take i) ++ Ls[i].2 := by
  unfold joinW
  rw [List.take_succ_eq_append_getElem h, List.flatMap_append]
  simp
theorem joinW_le (Ls : List (Value × List Wt)) (i : Nat) : (joinW (Ls.take i)).length ≤ (joinW Ls).length := by
  unfold joinW
  conv => rhs; rw [← List.take_append_drop i Ls, List.flatMap_append, List.length_append]
  omega

/-- Lists lie at a row of slices. -/
def ListsO (w : World) (B g : Nat) (Ls : List (Value × List Wt)) : Prop := g < w.heap.size ∧ ∀ i (h : i < Ls.length), w.cell? ⟨g, i, none⟩ = some Ls[i].1 ∧ RowO w B Ls[i].1 Ls[i].2
theorem ListsO.below {w w' : World} {B g : Nat} {Ls : List (Value × List Wt)} (h : ListsO w B g Ls) (hb : Below w.heap.size w w') : ListsO w' B g Ls := ⟨Nat.lt_of_lt_of_le h.1 hb.size, fun i hi => ⟨(hb.cell (p := ⟨g, i, none⟩) h.1).trans (h.2 i hi).1, own_below (h.2 i hi).2 hb⟩⟩

set_option maxHeartbeats 6400000 in
theorem concatW_any {w : World} {B g k : Nat} {Ls : List (Value × List Wt)} (h : ListsO w B g Ls) (hk : Ls.length = k) (hk8 : k ≤ 8) (hl : (joinW Ls).length ≤ 100000000) : Calls Tryz.prog 123 #[.slice (some ⟨g, 0, none⟩) k k] w fun e w' => ∃ v, e = .returned v ∧ RowO w' w.heap.size v (joinW Ls) ∧ Below w.heap.size w w' := by
  have HL := hide3 h
  have HGR : Hid (∀ n : Nat, n ≤ 100000000 → Calls Tryz.prog 183 #[.slice none 0 0, .int .i64 n] w fun e w' => ∃ v, e = .returned v ∧ RowO w' w.heap.size v [] ∧ Below w.heap.size w w') := fun n hn => growW_nil n (by omega) w
  have HKL := hide3 hk
  have hgl := h.1
  clear h hk
  go_enter Tryz.func123, Tryz.ntmps123
  go_wp2_with fail
  go_loopw [3, 11] (fun vs vi wr => wr = w ∧ ∃ i n : Nat, i ≤ k ∧ vi = .int .i64 i ∧ vs = .int .i64 n ∧ n = (joinW (Ls.take i)).length) (fun _ vi _ => k - (intOf vi).toNat)
  case atStart => exact ⟨rfl, 0, 0, Nat.zero_le _, rfl, rfl, rfl⟩
  case round =>
    obtain ⟨hww, i, n, hi, rfl, rfl, hn⟩ := hrel
    obtain rfl : w = wr := hww.symm
    have hnl : n ≤ 100000000 := by rw [hn]; exact Nat.le_trans (joinW_le _ _) hl
    have HN := hide3 hn
    clear hn hww
    by_cases hlt : i < k
    · have hli : (i : Int) < (k : Int) := by omega
      have hiL : i < Ls.length := by rw [HKL.out]; exact hlt
      obtain ⟨c0, hr⟩ := HL.out.2 i hiL
      obtain ⟨a1, k1, hv⟩ := hr.len
      have HT := hide3 (joinW_take hiL)
      obtain ⟨m, hm⟩ : ∃ m, m = Ls[i].2.length := ⟨_, rfl⟩
      rw [hv, ← hm] at c0
      have hml : n + m ≤ 100000000 := by
        have e := congrArg List.length HT.out
        rw [List.length_append, ← HN.out, ← hm] at e
        rw [← e]
        exact Nat.le_trans (joinW_le _ _) hl
      have HM := hide3 hm
      clear hm hr hv
      have hnn : ¬ ((n : Int) + (m : Int)) < 0 := by omega
      go_wp2_with fail
      exact ⟨⟨trivial, i + 1, n + m, by omega, by go_num, by go_num, by rw [HT.out, List.length_append, HN.out, HM.out]⟩, by simp [intOf]; omega⟩
    · obtain rfl : i = k := by omega
      have hli : ¬ (i : Int) < (i : Int) := by omega
      have HG := hide3 (HGR.out n hnl)
      clear HGR HN
      go_wp2_with (go_at_call 183; refine HG.out.mono ?_; rintro e w2 ⟨vr, rfl, hov, hb⟩; have HV0 := hide3 hov; have HB0 := hide3 hb; obtain ⟨ar0, cr0, rfl⟩ := hov.len; clear hov hb HG)
      go_loopw [6, 27] (fun vr vi wr => ∃ j : Nat, j ≤ i ∧ vi = .int .i64 j ∧ RowO wr w.heap.size vr (joinW (Ls.take j)) ∧ Below w.heap.size w wr) (fun _ vi _ => i - (intOf vi).toNat)
      case atStart => exact ⟨0, Nat.zero_le _, rfl, HV0.out, HB0.out⟩
      case round =>
        obtain ⟨j, hj, rfl, hov, hb⟩ := hrel
        have HB := hide3 hb
        obtain ⟨ar, cr, rfl⟩ := hov.len
        have HR := hide3 hov
        clear hov hb HV0 HB0
        by_cases hlt2 : j < i
        · have hlj : (j : Int) < (i : Int) := by omega
          have hjL : j < Ls.length := by rw [HKL.out]; exact hlt2
          have HT := hide3 (joinW_take hjL)
          have hjl := joinW_le Ls (j + 1)
          obtain ⟨c0, hr⟩ := (HL.out.below HB.out).2 j hjL
          obtain ⟨a1, k1, hv⟩ := hr.len
          have HS : Hid (wr.ownsRow B 69 3 (.slice a1 Ls[j].2.length k1) Ls[j].2.length (Ls[j].2.flatMap encW)) := by
            have e := hr
            rw [hv] at e
            exact e
          rw [hv] at c0
          obtain ⟨ys, hys⟩ : ∃ ys, ys = Ls[j].2 := ⟨_, rfl⟩
          rw [← hys] at c0 HS HT
          obtain ⟨xs, hxs⟩ : ∃ xs, xs = joinW (Ls.take j) := ⟨_, rfl⟩
          rw [← hxs] at HR HT
          obtain ⟨n1, hn1⟩ : ∃ n, n = xs.length := ⟨_, rfl⟩
          obtain ⟨n2, hn2⟩ : ∃ n, n = ys.length := ⟨_, rfl⟩
          have hsum : n1 + n2 ≤ 100000000 := by
            have e := congrArg List.length HT.out
            rw [List.length_append, ← hn1, ← hn2] at e
            omega
          have HR2 : Hid (wr.ownsRow w.heap.size 69 3 (.slice ar n1 cr) n1 (xs.flatMap encW)) := by
            have e := HR.out
            unfold RowO at e
            rw [← hn1] at e
            rw [← hxs, ← hn1] at *
            exact e
          rw [← hn2] at c0 HS
          have HF : Hid (∀ u1 w4, w4.ownsRow w.heap.size 69 3 u1 (n1 + n2) (xs.flatMap encW ++ ys.flatMap encW) → RowO w4 w.heap.size u1 (joinW (Ls.take (j + 1)))) := fun u1 w4 ho => by
            unfold RowO
            rw [HT.out, List.length_append, List.flatMap_append, ← hn1, ← hn2]
            exact ho
          rw [← hxs, ← hn1]
          clear hr hv hys hxs hn1 hn2 HR HT hjl
          go_wp2_with (at_builtin; refine wp_ownR (B := w.heap.size) (wx := wr) (v := .slice ar n1 cr) (x := .slice a1 n2 k1) infoW Tryz.underlying56 rfl (by decide) (by decide) rfl (.tmp 31) (.tmp 32) rfl rfl HR2.out HB.out.size rfl HS.out (encW_one _) (by omega) ?_; intro u1 w4 ho hgr hat; have HO4 := hide3 (HF.out _ _ ho); obtain ⟨g7, cap7, hu⟩ := HO4.out.len; subst hu; have HB4 : Hid (Below w.heap.size w w4) := HB.out.grown hgr HB.out.size (fun k hk => (World.ownsRow.lt HR2.out k hk).1); clear ho hgr hat)
          exact ⟨⟨j + 1, by omega, by go_num, HO4.out, HB4.out⟩, by simp [intOf]; omega⟩
        · obtain rfl : j = i := by omega
          have hlj : ¬ (j : Int) < (j : Int) := by omega
          have HFI : Hid (RowO wr w.heap.size (.slice ar (joinW (Ls.take j)).length cr) (joinW Ls)) := by
            have e := HR.out
            rw [List.take_of_length_le (by rw [HKL.out]; exact Nat.le_refl _)] at *
            exact e
          go_wp2
          go_ret
          exact ⟨_, rfl, HFI.out, HB.out⟩

/-- What wants.sorted answers. -/
def SrtQ (w : World) (X : List Wt) (e : Ending) (w' : World) : Prop := ∃ v, e = .returned v ∧ ∃ Y : List Wt, Y.Perm X ∧ Y.Pairwise ltT ∧ RowO w' w.heap.size v Y ∧ Below w.heap.size w w'

set_option maxHeartbeats 6400000 in
theorem sorted_any {w : World} {B g k : Nat} {Ls : List (Value × List Wt)} (h : ListsO w B g Ls) (hk : Ls.length = k) (hk8 : k ≤ 8) (hl : (joinW Ls).length ≤ 100000000) (ht : (joinW Ls).Pairwise fun x y => x.tg < y.tg) : Calls Tryz.prog 72 #[.slice (some ⟨g, 0, none⟩) k k] w (SrtQ w (joinW Ls)) := by
  have HC := hide3 (concatW_any h hk hk8 hl)
  have HS : Hid (∀ v w1, RowO w1 w.heap.size v (joinW Ls) → Below w.heap.size w w1 → Calls Tryz.prog 124 #[v, .func (.func 125) #[] #[]] w1 fun e w' => e = .returned (.tuple #[]) ∧ SrtQ w (joinW Ls) (.returned v) w') := fun v w1 hr hb => by
    have hr0 := hr
    rcases hr.2 with ⟨rfl, hn⟩ | ⟨g1, cap, cur, rfl, hB, hg, hc⟩
    · have e0 : joinW Ls = [] := List.length_eq_zero_iff.1 hn
      rw [e0] at hr0 ⊢
      refine (sortStable_nil w1).mono ?_
      rintro e w' ⟨rfl, rfl⟩
      exact ⟨rfl, _, rfl, [], List.Perm.refl _, List.Pairwise.nil, hr0, hb⟩
    · refine (sortStable_any (B := w.heap.size) (g := g1) (n := (joinW Ls).length) (cap := cap) (X := joinW Ls) (by omega) ⟨rfl, hr0⟩ ht).mono ?_
      rintro e w' ⟨rfl, Y, h1, h2, h3, h4⟩
      refine ⟨rfl, _, rfl, Y, h1, h2, ?_, hb.trans (below_grown h4 (fun g e => by cases e; exact hB) hb.size)⟩
      have e := h3.2
      unfold RowO
      rw [h1.length_eq]
      exact e
  generalize SrtQ w (joinW Ls) = G at *
  generalize joinW Ls = X at *
  clear h ht hk hk8
  go_enter Tryz.func72, Tryz.ntmps72
  go_wp2_with (first
    | (go_at_call 124; have _t := HV; refine (HS.out _ _ HV.out HB.out).mono ?_; rintro e w2 ⟨rfl, hg⟩; have HGG := hide3 hg; clear hg)
    | (go_at_call 123; refine HC.out.mono ?_; rintro e w1 ⟨v, rfl, hv, hb⟩; have HV := hide3 hv; have HB := hide3 hb; clear hv hb))
  exact HGG.out
end Go.Proofs.YtbjbhgkbnegfgaaGreatDoor
namespace Go.Proofs.YtbjbhgkbnegfgaaGreatDoor
open Go.RowKit Go.Maps Go.WideMaps
set_option maxRecDepth 100000

/-- Wants one behind the other, of dependencies and kinds. -/
def TagD (O : List Dp) (E : List (Dp × Int)) (ps : List (Wt × List Sp)) : Prop := ps.length = E.length ∧ ∀ (i : Nat) (p : Wt × List Sp), ps[i]? = some p → ∃ e : Dp × Int, E[i]? = some e ∧ p.1.nm = e.1.nm ∧ p.1.kd = e.2 ∧ p.1.tg = i ∧ p.2 = rangeD O e.1
theorem TagD.nil (O : List Dp) : TagD O [] [] := ⟨rfl, fun i p h => by simp at h⟩
theorem TagD.more {O : List Dp} {E : List (Dp × Int)} {ps qs : List (Wt × List Sp)} {k : Int} {ds : List Dp} (h : TagD O E ps) (h2 : wtsD O k E.length ds qs) : TagD O (E ++ ds.map fun d => (d, k)) (ps ++ qs) := by
  refine ⟨by rw [List.length_append, List.length_append, List.length_map, h.1, h2.1], fun i p hp => ?_⟩
  by_cases hi : i < ps.length
  · rw [List.getElem?_append_left hi] at hp
    obtain ⟨e, h3, h4⟩ := h.2 i p hp
    exact ⟨e, by rw [List.getElem?_append_left (by rw [← h.1]; exact hi)]; exact h3, h4⟩
  · rw [List.getElem?_append_right (by omega)] at hp
    obtain ⟨d, h3, h4, h5, h6, h7⟩ := h2.2 _ p hp
    have e1 : i - ps.length = i - E.length := by rw [h.1]
    refine ⟨(d, k), ?_, h4, h5, by rw [h6, e1]; have := h.1; omega, h7⟩
    rw [List.getElem?_append_right (by rw [← h.1]; omega), List.getElem?_map, ← e1, h3]
    rfl
theorem TagD.tags {O : List Dp} {E : List (Dp × Int)} {ps : List (Wt × List Sp)} (h : TagD O E ps) : (ps.map (·.1)).Pairwise fun x y => x.tg < y.tg := by
  rw [List.pairwise_map, List.pairwise_iff_getElem]
  intro i j hi hj hij
  obtain ⟨_, _, _, _, e1, _⟩ := h.2 i _ (List.getElem?_eq_getElem hi)
  obtain ⟨_, _, _, _, e2, _⟩ := h.2 j _ (List.getElem?_eq_getElem hj)
  omega
theorem TagD.range {O : List Dp} {E : List (Dp × Int)} {ps : List (Wt × List Sp)} (h : TagD O E ps) : (ps.map (·.1)).map (·.tg) = List.range E.length := by
  apply List.ext_getElem
  · rw [List.length_map, List.length_map, List.length_range, h.1]
  · intro i h1 h2
    rw [List.length_map, List.length_map] at h1
    obtain ⟨_, _, _, _, e1, _⟩ := h.2 i _ (List.getElem?_eq_getElem h1)
    rw [List.getElem_map, List.getElem_map, List.getElem_range, e1]

/-- The range of the want that stood at a place. -/
def rgT (O : List Dp) (E : List (Dp × Int)) (t : Nat) : List Sp := match E[t]? with
  | some e => rangeD O e.1
  | none => []
def withR (O : List Dp) (E : List (Dp × Int)) (Y : List Wt) : List (Wt × List Sp) := Y.map fun x => (x, rgT O E x.tg)
theorem withR_fst (O : List Dp) (E : List (Dp × Int)) (Y : List Wt) : (withR O E Y).map (·.1) = Y := by
  unfold withR
  rw [List.map_map]
  exact List.map_id' Y

/-- Wants as they are told. -/
def ToldW (O : List Dp) (E : List (Dp × Int)) (w : World) (B : Nat) (v : Value) (Y : List Wt) : Prop := OwnWt w B v (withR O E Y) ∧ Y.Pairwise ltT ∧ (Y.map (·.tg)).Perm (List.range E.length) ∧ ∀ x ∈ Y, ∃ e : Dp × Int, E[x.tg]? = some e ∧ x.nm = e.1.nm ∧ x.kd = e.2

theorem told_of {O : List Dp} {E : List (Dp × Int)} {ps : List (Wt × List Sp)} {w w' : World} {B : Nat} {v : Value} {Y : List Wt} (h : TagD O E ps) (hr : RowO w' B v Y) (hp : Y.Perm (ps.map (·.1))) (hs : Y.Pairwise ltT) (ho : ∀ p ∈ ps, OwnS w B p.1.rs p.2) (ha : ps.Pairwise fun p q => ApartR p.1 q.1) (hb : Below w.heap.size w w') : ToldW O E w' B v Y := by
  have hx : ∀ x ∈ Y, ∃ e : Dp × Int, E[x.tg]? = some e ∧ x.nm = e.1.nm ∧ x.kd = e.2 ∧ OwnS w B x.rs (rangeD O e.1) := fun x hx => by
    obtain ⟨p, hp1, rfl⟩ := List.mem_map.1 (hp.mem_iff.1 hx)
    obtain ⟨i, hi, rfl⟩ := List.getElem_of_mem hp1
    obtain ⟨e, h1, h2, h3, h4, h5⟩ := h.2 i _ (List.getElem?_eq_getElem hi)
    exact ⟨e, by rw [h4]; exact h1, h2, h3, h5 ▸ ho _ hp1⟩
  refine ⟨⟨?_, fun p hp => ?_, ?_⟩, hs, ?_, fun x hx' => ?_⟩
  · rw [withR_fst]
    have e : (withR O E Y).length = Y.length := by unfold withR; rw [List.length_map]
    rw [e]
    exact hr
  · obtain ⟨x, hx1, rfl⟩ := List.mem_map.1 hp
    obtain ⟨e, h1, _, _, h4⟩ := hx x hx1
    have e2 : rgT O E x.tg = rangeD O e.1 := by unfold rgT; rw [h1]
    show OwnS w' B x.rs (rgT O E x.tg)
    rw [e2]
    exact h4.below hb
  · unfold withR
    rw [List.pairwise_map]
    refine (hp.pairwise_iff (fun {a b} => ApartR.symm)).2 ?_
    rw [List.pairwise_map]
    exact ha
  · have e := hp.map (·.tg)
    rw [h.range] at e
    exact e
  · obtain ⟨e, h1, h2, h3, _⟩ := hx x hx'
    exact ⟨e, h1, h2, h3⟩

theorem perm_sorted {α : Type} {r : α → α → Prop} (hr : ∀ a b, r a b → ¬ r b a) : ∀ {l m : List α}, l.Perm m → l.Pairwise r → m.Pairwise r → l = m
  | [], m, h, _, _ => (List.nil_perm.1 h).symm
  | a :: l, [], h, _, _ => by simpa using h.length_eq
  | a :: l, b :: m, h, hl, hm => by
    rw [List.pairwise_cons] at hl hm
    by_cases e : a = b
    · subst e
      rw [perm_sorted hr (List.perm_cons a |>.1 h) hl.2 hm.2]
    · have h1 : a ∈ m := by
        rcases List.mem_cons.1 (h.mem_iff.1 (List.mem_cons_self)) with q | q
        · exact absurd q e
        · exact q
      have h2 : b ∈ l := by
        rcases List.mem_cons.1 (h.mem_iff.2 (List.mem_cons_self)) with q | q
        · exact absurd q.symm e
        · exact q
      exact absurd (hl.1 b h2) (hr b a (hm.1 a h1))

/-- The order of places. -/
def ltPl (E : List (Dp × Int)) (i j : Nat) : Prop := ∃ e f : Dp × Int, E[i]? = some e ∧ E[j]? = some f ∧ (ltS e.1.nm f.1.nm = true ∨ (e.1.nm = f.1.nm ∧ i < j))
theorem ltPl_asym (E : List (Dp × Int)) (i j : Nat) (h : ltPl E i j) : ¬ ltPl E j i := by
  rintro ⟨f, e, h1, h2, h3⟩
  obtain ⟨e', f', h4, h5, h6⟩ := h
  rw [h2] at h4
  rw [h1] at h5
  cases h4
  cases h5
  rcases h3 with h3 | ⟨h3, h3'⟩
  · rcases h6 with h6 | ⟨h6, _⟩
    · exact absurd (ltS_trans h3 h6) (by rw [ltS_irr]; decide)
    · rw [h6] at h3
      rw [ltS_irr] at h3
      cases h3
  · rcases h6 with h6 | ⟨_, h6⟩
    · rw [h3, ltS_irr] at h6
      cases h6
    · omega
theorem ToldW.sorted {O : List Dp} {E : List (Dp × Int)} {w : World} {B : Nat} {v : Value} {Y : List Wt} (h : ToldW O E w B v Y) : (Y.map (·.tg)).Pairwise (ltPl E) := by
  rw [List.pairwise_map]
  refine h.2.1.imp_of_mem fun {a b} ha hb hab => ?_
  obtain ⟨e, h1, h2, _⟩ := h.2.2.2 a ha
  obtain ⟨f, h3, h4, _⟩ := h.2.2.2 b hb
  refine ⟨e, f, h1, h3, ?_⟩
  rcases hab with q | ⟨q1, q2⟩
  · exact Or.inl (h2 ▸ h4 ▸ q)
  · exact Or.inr ⟨h2 ▸ h4 ▸ q1, q2⟩
/-- Two tellings of the same dependencies stand in the same order, whatever the overrides. -/
theorem told_two {O O' : List Dp} {E : List (Dp × Int)} {w w' : World} {B B' : Nat} {v v' : Value} {Y Y' : List Wt} (h : ToldW O E w B v Y) (h' : ToldW O' E w' B' v' Y') : Y.map (·.tg) = Y'.map (·.tg) := perm_sorted (ltPl_asym E) (h.2.2.1.trans h'.2.2.1.symm) h.sorted h'.sorted
end Go.Proofs.YtbjbhgkbnegfgaaGreatDoor
