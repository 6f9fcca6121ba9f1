/- Spans in memory; the walks of maySpan and apart of package span. No condition. -/
import Derived.Test.YtkmgfemhfibikaaGreatDoorFacts1
import Derived.Test.YtkmgfemhfibikaaGreatDoorBoxes
import Derived.Deep.QuietTactic
import Derived.BigQuiet
namespace Go.Proofs.YtkmgfemhfibikaaGreatDoor
open Go.RowKit
set_option maxRecDepth 100000

theorem hide3 {p : Prop} (h : p) : Hid p := h

/-- Six numbers lie at a block: a span's variable. -/
def Bx6 (w : World) (N : Nat) (a b c x y z : Int) : Prop :=
  w.cell? ⟨N, 0, none⟩ = some (.int .i64 a) ∧ w.cell? ⟨N, 1, none⟩ = some (.int .i64 b) ∧ w.cell? ⟨N, 2, none⟩ = some (.int .i64 c) ∧ w.cell? ⟨N, 3, none⟩ = some (.int .i64 x) ∧ w.cell? ⟨N, 4, none⟩ = some (.int .i64 y) ∧ w.cell? ⟨N, 5, none⟩ = some (.int .i64 z) ∧ N < w.heap.size

def spObj (a b c x y z : Int) : Obj := .cells #[.int .i64 a, .int .i64 b, .int .i64 c, .int .i64 x, .int .i64 y, .int .i64 z] 37

theorem Bx6.new {w : World} {N : Nat} (hN : w.heap.size = N) (a b c x y z : Int) : Bx6 (w.alloc (.cells #[.int .i64 a, .int .i64 b, .int .i64 c, .int .i64 x, .int .i64 y, .int .i64 z] 37)) N a b c x y z := by
  subst hN
  refine ⟨?_, ?_, ?_, ?_, ?_, ?_, ?_⟩ <;> simp

theorem Bx6.below {w w' : World} {N : Nat} {a b c x y z : Int} (h : Bx6 w N a b c x y z) (hb : Below w.heap.size w w') : Bx6 w' N a b c x y z := by
  obtain ⟨h0, h1, h2, h3, h4, h5, h6⟩ := h
  have q : ∀ i, w'.cell? ⟨N, i, none⟩ = w.cell? ⟨N, i, none⟩ := fun i => hb.cell (p := ⟨N, i, none⟩) h6
  exact ⟨by rw [q]; exact h0, by rw [q]; exact h1, by rw [q]; exact h2, by rw [q]; exact h3, by rw [q]; exact h4, by rw [q]; exact h5, Nat.lt_of_lt_of_le h6 hb.size⟩

/-- What stays behind a call that writes new blocks alone. -/
def KeepP (K : World → Prop) : Prop := ∀ w w', K w → Below w.heap.size w w' → K w'
theorem KeepP.and {K M : World → Prop} (hk : KeepP K) (hm : KeepP M) : KeepP fun w => K w ∧ M w := fun _ _ h hb => ⟨hk _ _ h.1 hb, hm _ _ h.2 hb⟩
theorem KeepP.drew {K : World → Prop} (hk : KeepP K) {w : World} (h : K w) : K w.drew := hk _ _ h (Below.refl _ _).drew
theorem KeepP.draws {K : World → Prop} (hk : KeepP K) {w : World} (h : K w) (n : Nat) : K (w.drewN n) := hk _ _ h (below_draws (Below.refl _ _) n)
theorem keepBelow (w : World) : KeepP fun w1 => Below w.heap.size w w1 := fun _ _ h hb => below_then h hb
theorem keep6 (N : Nat) (a b c x y z : Int) : KeepP fun w1 => Bx6 w1 N a b c x y z := fun _ _ h hb => h.below hb
theorem keepV3 (q : Bx) : KeepP fun w1 => BxAt w1 q := fun _ _ h hb => h.below hb
/-- A call that writes new blocks alone, and what stays. -/
theorem liftK {K : World → Prop} (hk : KeepP K) {P : Program} {f : Nat} {args : Array Value} {R : Ending} (h : ∀ w1, Calls P f args w1 fun e w' => e = R ∧ Below w1.heap.size w1 w') (w1 : World) (ok : K w1) :
    Calls P f args w1 fun e w' => e = R ∧ K w' := by
  refine (h w1).mono ?_
  rintro e w' ⟨rfl, hb⟩
  exact ⟨rfl, hk _ _ ok hb⟩
/-- The same of a call that asks for what stays. -/
theorem liftK' {K : World → Prop} (hk : KeepP K) {P : Program} {f : Nat} {args : Array Value} {R : Ending} (h : ∀ w1, K w1 → Calls P f args w1 fun e w' => e = R ∧ Below w1.heap.size w1 w') (w1 : World) (ok : K w1) :
    Calls P f args w1 fun e w' => e = R ∧ K w' := by
  refine (h w1 ok).mono ?_
  rintro e w' ⟨rfl, hb⟩
  exact ⟨rfl, hk _ _ ok hb⟩

/-- A region that draws its order, whose operations read, and whose calls keep K: one walk in the order of the text serves. -/
theorem wp_region_keep {K : World → Prop} (hk : KeepP K) {P : Program} {id : Nat} {Q : Exit → Act → World → Prop} {a : Act} {w : World} {l : List Oper} (hm : P.follows .mixedOrders = true) (hB : Region.lexB .any l.toArray = true) (hC : K w)
    (h : ∀ C : World → Prop, (∀ w, K w → C w) → (∀ w, C w → K w) → wpQuiet P l.toArray C (fun a' => ∀ w', C w' → Q .normal a' w') l a) : (Code.region id l.toArray true).wp P Q a w :=
  wp_region_quiet (C := K) hm hB (hk.drew hC) (by simpa using h K (fun _ h => h) (fun _ h => h))

/-- A call in such a region. -/
theorem callC {C K : World → Prop} (hin : ∀ w, K w → C w) (hout : ∀ w, C w → K w) (hk : KeepP K) {P : Program} {f : Nat} {args : Array Value} {v : Value} (h : ∀ w1, Calls P f args w1 fun e w' => e = .returned v ∧ Below w1.heap.size w1 w') (w1 : World) (hC : C w1) :
    Calls P f args w1 fun e w' => e = .returned v ∧ C w' := by
  refine (h w1).mono ?_
  rintro e w' ⟨rfl, hb⟩
  exact ⟨rfl, hin _ (hk _ _ (hout _ hC) hb)⟩
/-- The same of a call that asks for K. -/
theorem callC' {C K : World → Prop} (hin : ∀ w, K w → C w) (hout : ∀ w, C w → K w) (hk : KeepP K) {P : Program} {f : Nat} {args : Array Value} {v : Value} (h : ∀ w1, K w1 → Calls P f args w1 fun e w' => e = .returned v ∧ Below w1.heap.size w1 w') (w1 : World) (hC : C w1) :
    Calls P f args w1 fun e w' => e = .returned v ∧ C w' := by
  refine (h w1 (hout _ hC)).mono ?_
  rintro e w' ⟨rfl, hb⟩
  exact ⟨rfl, hin _ (hk _ _ (hout _ hC) hb)⟩

/-- A span may be. -/
def maySp (a b c x y z : Int) : Bool := mayV a b c && mayV x y z && decide (cmpV a b c x y z ≤ 0)
/-- There is a version between one span's end and another one's beginning. -/
def apartV (x y z a b c : Int) : Bool := onIs x y z 1 && decide (cmpV (onA x y z 1) (onB x y z 1) (onC x y z 1) a b c < 0)

set_option maxHeartbeats 800000 in
theorem maySpan_any (a b c x y z : Int) (w : World) :
    Calls Tryz.prog 52 #[.agg #[.int .i64 a, .int .i64 b, .int .i64 c, .int .i64 x, .int .i64 y, .int .i64 z]] w fun e w' => e = .returned (.bool (maySp a b c x y z)) ∧ Below w.heap.size w w' := by
  have HL : Hid (∀ w1, Calls Tryz.prog 37 #[.agg #[.int .i64 a, .int .i64 b, .int .i64 c]] w1 fun e w' => e = .returned (.bool (mayV a b c)) ∧ Below w1.heap.size w1 w') := May_any a b c
  have HH : Hid (∀ w1, Calls Tryz.prog 37 #[.agg #[.int .i64 x, .int .i64 y, .int .i64 z]] w1 fun e w' => e = .returned (.bool (mayV x y z)) ∧ Below w1.heap.size w1 w') := May_any x y z
  have HC : Hid (∀ w1, Calls Tryz.prog 34 #[.agg #[.int .i64 a, .int .i64 b, .int .i64 c], .agg #[.int .i64 x, .int .i64 y, .int .i64 z]] w1 fun e w' => e = .returned (.int .i64 (cmpV a b c x y z)) ∧ Below w1.heap.size w1 w') := Compare_any a b c x y z
  have HB : Hid (Bx6 (w.alloc (.cells #[.int .i64 a, .int .i64 b, .int .i64 c, .int .i64 x, .int .i64 y, .int .i64 z] 37)) w.heap.size a b c x y z) := Bx6.new rfl _ _ _ _ _ _
  have t1 : True := trivial
  cases h1 : mayV a b c
  · have HR : Hid (maySp a b c x y z = false) := by unfold Hid maySp; rw [h1]; rfl
    rw [h1] at HL
    go_enter Tryz.func52, Tryz.ntmps52
    go_wp2_with (go_at_call 37; refine (HL.out _).mono ?_; rintro e w1 ⟨rfl, hb⟩)
    go_ret
    exact ⟨ret_bool HR.out.symm, below_then (boxB _ _) hb⟩
  · cases h2 : mayV x y z
    · have HR : Hid (maySp a b c x y z = false) := by unfold Hid maySp; rw [h1, h2]; rfl
      rw [h1] at HL
      rw [h2] at HH
      go_enter Tryz.func52, Tryz.ntmps52
      go_wp2_with (first
        | (have _t := t1; go_at_call 37; refine (HL.out _).mono ?_; rintro e w1 ⟨rfl, hb⟩; obtain ⟨k0, k1, k2, k3, k4, k5, k6⟩ := HB.out.below hb; clear t1)
        | (go_at_call 37; refine (HH.out _).mono ?_; rintro e w2 ⟨rfl, hb2⟩))
      go_ret
      exact ⟨ret_bool HR.out.symm, below_then (below_then (boxB _ _) hb) hb2⟩
    · rw [h1] at HL
      rw [h2] at HH
      have HR : Hid (maySp a b c x y z = decide (cmpV a b c x y z ≤ 0)) := by unfold Hid maySp; rw [h1, h2]; rfl
      generalize cmpV a b c x y z = q at *
      go_enter Tryz.func52, Tryz.ntmps52
      go_wp2_with (first
        | (have _t := t1; go_at_call 37; refine (HL.out _).mono ?_; rintro e w1 ⟨rfl, hb⟩; have HB1 := hide3 (HB.out.below hb); obtain ⟨k0, k1, k2, k3, k4, k5, k6⟩ := HB1.out; clear t1)
        | (go_at_call 37; refine (HH.out _).mono ?_; rintro e w2 ⟨rfl, hb2⟩; obtain ⟨j0, j1, j2, j3, j4, j5, j6⟩ := HB1.out.below hb2)
        | (go_at_call 34; refine (HC.out _).mono ?_; rintro e w3 ⟨rfl, hb3⟩))
      go_ret
      exact ⟨ret_bool HR.out.symm, below_then (below_then (below_then (boxB _ _) hb) hb2) hb3⟩

set_option maxHeartbeats 800000 in
theorem apart_any (a b c x y z p q r u v t : Int) (w : World) :
    Calls Tryz.prog 53 #[.agg #[.int .i64 a, .int .i64 b, .int .i64 c, .int .i64 x, .int .i64 y, .int .i64 z], .agg #[.int .i64 p, .int .i64 q, .int .i64 r, .int .i64 u, .int .i64 v, .int .i64 t]] w fun e w' => e = .returned (.bool (apartV x y z p q r)) ∧ Below w.heap.size w w' := by
  have HN : Hid (∀ w1, Calls Tryz.prog 36 #[.agg #[.int .i64 x, .int .i64 y, .int .i64 z]] w1 fun e w' => e = .returned (.tuple #[.agg #[.int .i64 (onA x y z 1), .int .i64 (onB x y z 1), .int .i64 (onC x y z 1)], .bool (onIs x y z 1)]) ∧ Below w1.heap.size w1 w') := Next_any x y z
  have HC : Hid (∀ w1, Calls Tryz.prog 34 #[.agg #[.int .i64 (onA x y z 1), .int .i64 (onB x y z 1), .int .i64 (onC x y z 1)], .agg #[.int .i64 p, .int .i64 q, .int .i64 r]] w1 fun e w' => e = .returned (.int .i64 (cmpV (onA x y z 1) (onB x y z 1) (onC x y z 1) p q r)) ∧ Below w1.heap.size w1 w') := Compare_any _ _ _ _ _ _
  have HB : Hid (Bx6 ((w.alloc (.cells #[.int .i64 a, .int .i64 b, .int .i64 c, .int .i64 x, .int .i64 y, .int .i64 z] 37)).alloc (.cells #[.int .i64 p, .int .i64 q, .int .i64 r, .int .i64 u, .int .i64 v, .int .i64 t] 37)) (w.heap.size + 1) p q r u v t) := Bx6.new (by simp) _ _ _ _ _ _
  cases h1 : onIs x y z 1
  · have HR : Hid (apartV x y z p q r = false) := by unfold Hid apartV; rw [h1]; rfl
    rw [h1] at HN
    go_enter Tryz.func53, Tryz.ntmps53
    go_wp2_with (go_at_call 36; refine (HN.out _).mono ?_; rintro e w1 ⟨rfl, hb⟩)
    go_ret
    exact ⟨ret_bool HR.out.symm, below_then (below_then (boxB2 _ _ _) hb) (boxB _ _)⟩
  · have HR : Hid (apartV x y z p q r = decide (cmpV (onA x y z 1) (onB x y z 1) (onC x y z 1) p q r < 0)) := by unfold Hid apartV; rw [h1]; rfl
    rw [h1] at HN
    generalize onA x y z 1 = nA at *
    generalize onB x y z 1 = nB at *
    generalize onC x y z 1 = nC at *
    generalize cmpV nA nB nC p q r = o at *
    go_enter Tryz.func53, Tryz.ntmps53
    go_wp2_with (first
      | (go_at_call 36; refine (HN.out _).mono ?_; rintro e w1 ⟨rfl, hb⟩; obtain ⟨k0, k1, k2, k3, k4, k5, k6⟩ := HB.out.below hb)
      | (go_at_call 34; refine (HC.out _).mono ?_; rintro e w2 ⟨rfl, hb2⟩))
    go_ret
    exact ⟨ret_bool HR.out.symm, below_then (below_then (below_then (boxB2 _ _ _) hb) (boxB _ _)) hb2⟩
end Go.Proofs.YtkmgfemhfibikaaGreatDoor
