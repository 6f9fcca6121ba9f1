/- Pr2, Kn1, Pk1, Pk2, Ps1, Tw1, laid in one text. -/
import Derived.Lib.Join
import Derived.Test.YtogpkhpephhbiaaGreatDoorMg03
namespace Go.Proofs.YtogpkhpephhbiaaGreatDoor
open Go.RowKit
set_option maxRecDepth 100000

theorem infoStr : (Tryz.prog.info? 9).map (fun i => (i.zero, i.size, i.bytes)) = some (some (.string ByteArray.empty), 1, 16) := by kernel_rfl

/-- A row of texts of one's own. -/
def OwnT (w : World) (B : Nat) (v : Value) (ts : List ByteArray) : Prop := w.ownsRow B 9 1 v ts.length (ts.map Value.string)
theorem OwnT.nil (w : World) (B : Nat) : OwnT w B (.slice none 0 0) [] := ⟨rfl, Or.inl ⟨rfl, rfl⟩⟩
theorem OwnT.lt {w : World} {B : Nat} {v : Value} {L : List ByteArray} (h : OwnT w B v L) {g : Nat} (hg : v.ownBlock = some g) : g < w.heap.size ∧ B ≤ g := by
  rcases h.2 with ⟨rfl, _⟩ | ⟨g', cap, cur, rfl, hB, hgg, _⟩
  · cases hg
  · cases hg
    exact ⟨by rw [Array.getElem?_eq_some_iff] at hgg; exact hgg.1, hB⟩
theorem OwnT.below {w w' : World} {B : Nat} {v : Value} {L : List ByteArray} (h : OwnT w B v L) (hb : Below w.heap.size w w') : OwnT w' B v L := by
  refine ⟨h.1, ?_⟩
  have hl := fun g hg => (h.lt (g := g) hg).1
  rcases h.2 with hn | ⟨g, cap, cur, rfl, hB, hgg, r⟩
  · exact Or.inl hn
  · exact Or.inr ⟨g, cap, cur, rfl, hB, (hb.block g (hl g rfl)).trans hgg, r⟩

/-- A text is put behind a row. -/
theorem wp_appT {w wx : World} {uo : Value} {ts : List ByteArray} {tx : ByteArray} {ops : Array Oper} {rest : List Oper} {o : Oper} {f : Act} {Q : Exit → Act → World → Prop} (hgd : o.guard = none) (s t : Operand)
    (ho : o.op = .call { callee := .builtin .append, args := #[s, t], argTypes := #[53, 53] }) (hs : f.eval s = uo)
    (hK : Below w.heap.size w wx ∧ OwnT wx w.heap.size uo ts) {M : Nat} (hM : wx.heap.size = M) (hx : f.eval t = .slice (some ⟨M, 0, none⟩) 1 1) (hlen : ts.length + 1 ≤ 1000000000000)
    (h : ∀ v1 w1, (Below w.heap.size w w1 ∧ OwnT w1 w.heap.size v1 (ts ++ [tx])) → wpList Tryz.prog ops Q rest (f.put o.dst v1) w1) :
    wpList Tryz.prog ops Q (o :: rest) f (wx.alloc (.cells #[.string tx] 9)) := by
  subst hM
  obtain ⟨i0, hi, hz0, hz1, hz2⟩ : ∃ i, Tryz.prog.info? 9 = some i ∧ i.zero = some (.string ByteArray.empty) ∧ i.size = 1 ∧ i.bytes = 16 := by
    have := infoStr
    cases hq : Tryz.prog.info? 9 with
    | none => rw [hq] at this; cases this
    | some i =>
      rw [hq] at this
      simp only [Option.map_some, Option.some.injEq, Prod.mk.injEq] at this
      exact ⟨i, rfl, this.1, this.2.1, this.2.2⟩
  have hob : OwnT (wx.alloc (.cells #[.string tx] 9)) w.heap.size uo ts := hK.2.below (boxB _ _)
  have hsz : (wx.alloc (.cells #[.string tx] 9)).heap.size = wx.heap.size + 1 := by simp
  have hwx := hK.1.size
  refine wpList_append_own_at _ hgd s t 53 ho w.heap.size 9 i0 _ 1 16 Tryz.underlying53 hi hz0 hz1 hz2 rfl (by decide) uo _ _ hs hob ⟨wx.heap.size, 0, none⟩ 1 1 [.string tx] hx rfl
    (World.news_of_block (cs := #[.string tx]) (t := 9) (fr := (0, 0)) (by show (wx.heap.push _)[wx.heap.size]? = _; rw [Array.getElem?_push, if_pos rfl])) (by simp [Value.oneCell']) (by unfold maxLen; omega) (by omega) (by omega) ?_
  intro v1 w1 hown1 hg1 _ hat
  refine h v1 w1 ⟨(below_then hK.1 (boxB _ _)).grown hg1 (by omega) (fun k hk => (hK.2.lt hk).2), ?_⟩
  unfold OwnT
  rw [List.map_append, List.map_singleton, List.length_append]
  exact hown1

/-- A span's text, by its places; a range's. -/
def spT (p : Int × Int) : ByteArray := spanT (atA p.1) (atB p.1) (atC p.1) (atA p.2) (atB p.2) (atC p.2)
def printR (A : Rg) : ByteArray := match A with
  | [] => ⟨#[60]⟩ ++ textV 0 0 0
  | p :: A => ⟨(Lib.join ((p :: A).map fun p => (spT p).data.toList) [32, 124, 124, 32]).toArray⟩

theorem spanT_size (a b c x y z : Int) : (spanT a b c x y z).size ≤ 27 := by
  have h1 := text_size a b c
  have h2 := text_size x y z
  have z2 : (⟨#[62, 61]⟩ : ByteArray).size = 2 := rfl
  have z4 : (⟨#[60, 61]⟩ : ByteArray).size = 2 := rfl
  have z5 : (⟨#[42]⟩ : ByteArray).size = 1 := rfl
  have z3 : (⟨#[32, 60, 61]⟩ : ByteArray).size = 3 := rfl
  unfold spanT
  repeat' split
  all_goals first | omega | (simp only [size_cat]; omega)
theorem lens_le (m : Nat) : ∀ (l : List (List UInt8)), (∀ x ∈ l, x.length ≤ m) → Lib.lens l ≤ m * l.length
  | [], _ => by simp [Lib.lens]
  | x :: l, h => by
    have ih := lens_le m l fun y hy => h y (List.mem_cons_of_mem _ hy)
    have hx := h x List.mem_cons_self
    have : Lib.lens (x :: l) = x.length + Lib.lens l := by simp [Lib.lens]
    rw [this, List.length_cons, Nat.mul_succ]; omega

theorem join_fits {A : Rg} (h : A.length ≤ 64) : (Lib.join (A.map fun p => (spT p).data.toList) [32, 124, 124, 32]).length ≤ 10000 := by
  cases A with
  | nil => simp [Lib.join_nil]
  | cons p A =>
    rw [List.map_cons, Lib.join_length, ← List.map_cons (f := fun p => (spT p).data.toList)]
    have := lens_le 27 ((p :: A).map fun p => (spT p).data.toList) (by
      intro x hx
      obtain ⟨q, _, rfl⟩ := List.mem_map.1 hx
      exact spanT_size _ _ _ _ _ _)
    simp only [List.length_map, List.length_cons, List.length_nil] at *
    omega

theorem Join_own {w : World} {B : Nat} {v : Value} {A : Rg} (h : OwnT w B v (A.map spT)) (hl : A.length ≤ 64) (h0 : A ≠ []) :
    Calls Tryz.prog 106 #[v, .string ⟨#[32, 124, 124, 32]⟩] w fun e w' => e = .returned (.string (printR A)) ∧ Below w.heap.size w w' := by
  have hlt := fun g hg => (h.lt (g := g) hg).1
  rcases h.2 with ⟨_, hn⟩ | ⟨g, cap, cur, rfl, hB, hgg, hc, hm, hs, hx⟩
  · rw [List.length_map] at hn
    exact (h0 (List.eq_nil_of_length_eq_zero hn)).elim
  · have hj := join_fits hl
    have hmm : (A.map spT).map (·.data.toList) = A.map fun p => (spT p).data.toList := by rw [List.map_map]; rfl
    refine (Tryz.strings_Join g 0 cap (A.map spT) ⟨#[32, 124, 124, 32]⟩ w ?_ (hlt g rfl) (by rw [List.length_map]; omega) hc (by rw [hmm]; show (Lib.join _ [32, 124, 124, 32]).length ≤ _; omega)).mono ?_
    · intro j x hj
      have : (((A.map spT).map Value.string))[j]? = some (.string x) := by rw [List.getElem?_map, hj]; rfl
      rw [← hx, List.getElem?_take] at this
      split at this
      · rw [Nat.zero_add]
        simp [World.cell?, hgg]
        simpa using this
      · cases this
    · rintro e w' ⟨rfl, hb⟩
      refine ⟨?_, hb⟩
      rw [hmm]
      cases A with
      | nil => exact (h0 rfl).elim
      | cons p A => rfl

set_option maxHeartbeats 3200000 in
theorem sPrint_walk (A : Rg) (g o cap : Nat) (w : World) (he : Env w) (hf : FL w) (hlen : A.length ≤ 64) (h0 : ((A.length : Int) == 0) = false) (hg : g < w.heap.size) (hl : ∀ i (h : i < A.length), SpAt w g (o + i * 6) (spR A[i]))
    (HMay : Hid (Calls Tryz.prog 104 #[.slice (some ⟨g, o, none⟩) A.length cap] w fun e w' => e = .returned (.bool true) ∧ Below w.heap.size w w')) :
    Calls Tryz.prog 99 #[.slice (some ⟨g, o, none⟩) A.length cap] w fun e w' => e = .returned (.string (printR A)) ∧ Below w.heap.size w w' := by
  have HL : Hid (∀ w1, Below w.heap.size w w1 → ∀ i (h : i < A.length), SpAt w1 g (o + i * 6) (spR A[i])) := fun w1 hb i hi => (hl i hi).below hb hg
  have HP : Hid (∀ (p : Int × Int) w1, Below w.heap.size w w1 → Calls Tryz.prog 105 #[.agg #[.int .i64 (atA p.1), .int .i64 (atB p.1), .int .i64 (atC p.1), .int .i64 (atA p.2), .int .i64 (atB p.2), .int .i64 (atC p.2)]] w1 fun e w' => e = .returned (.string (spT p)) ∧ Below w1.heap.size w1 w') := fun p w1 hb => printSpan_any _ _ _ _ _ _ w1 (he.below hb) (hf.below hb)
  have HJ : Hid (∀ w1 v1, OwnT w1 w.heap.size v1 (A.map spT) → Calls Tryz.prog 106 #[v1, .string ⟨#[32, 124, 124, 32]⟩] w1 fun e w' => e = .returned (.string (printR A)) ∧ Below w1.heap.size w1 w') := fun w1 v1 h => Join_own h hlen (fun e => by subst e; simp at h0)
  clear hl he hf
  go_enter Tryz.func99, Tryz.ntmps99
  go_wp2_with (go_at_call 104; refine HMay.out.mono ?_; rintro e w1 ⟨rfl, ok1⟩; have HO1 := hide3 ok1; clear ok1)
  go_loopw [3, 17] (fun out i wr => ∃ k : Nat, k ≤ A.length ∧ i = .int .i64 k ∧ Below w.heap.size w wr ∧ OwnT wr w.heap.size out ((A.take k).map spT)) (fun _ i _ => A.length - (intOf i).toNat)
  case atStart => exact ⟨0, Nat.zero_le _, rfl, HO1.out, OwnT.nil _ _⟩
  case round =>
    obtain ⟨k, hk, rfl, hb, hown⟩ := hrel
    have HB := hide3 hb
    have HOWN := hide3 hown
    clear hown
    by_cases hlt : k < A.length
    · have hs := HL.out wr hb k hlt
      have HD : Hid ((A.take k).map spT ++ [spT A[k]] = (A.take (k + 1)).map spT) := by unfold Hid; rw [List.take_succ_eq_append_getElem hlt, List.map_append]; rfl
      generalize A[k] = p at *
      obtain ⟨lo, hi⟩ := p
      obtain ⟨c0, c1, c2, c3, c4, c5⟩ := hs
      simp only [spR] at c0 c1 c2 c3 c4 c5
      have HPp := hide3 (fun w1 hb => HP.out (lo, hi) w1 hb)
      have HLN : Hid (((A.take k).map spT).length + 1 ≤ 1000000000000) := by unfold Hid; simp; omega
      clear hb
      go_wp2_with (first
        | (go_at_call 105; refine (HPp.out _ (below_then HB.out (boxB _ _))).mono ?_; rintro e w2 ⟨rfl, ok2⟩; have HO2 : Hid (Below w.heap.size w w2 ∧ OwnT w2 w.heap.size u3 ((A.take k).map spT)) := ⟨below_then (below_then HB.out (boxB _ _)) ok2, (HOWN.out.below (boxB _ _)).below ok2⟩; clear ok2)
        | (at_builtin; refine wp_appT (uo := u3) (ts := (A.take k).map spT) rfl (.tmp 21) (.tmp 24) rfl rfl HO2.out rfl rfl HLN.out ?_; intro v3 w3 ok3; have HO3 := hide3 ok3; clear ok3))
      exact ⟨⟨k + 1, by omega, by go_num, HO3.out.1, by rw [← HD.out]; exact HO3.out.2⟩, by simp [intOf]; omega⟩
    · have hke : k = A.length := by omega
      subst hke
      have HOW2 : Hid (OwnT wr w.heap.size u3 (A.map spT)) := by have := HOWN.out; rw [List.take_length] at this; exact this
      clear hb
      go_wp2_with (go_at_call 106; refine (HJ.out _ _ HOW2.out).mono ?_; rintro e w2 ⟨rfl, ok2⟩; have HO2 := hide3 ok2; clear ok2)
      go_ret
      exact ⟨rfl, below_then HB.out HO2.out⟩

theorem sPrint_no (v : Value) (w : World) (HMay : Hid (Calls Tryz.prog 104 #[v] w fun e w' => e = .returned (.bool false) ∧ Below w.heap.size w w')) :
    Calls Tryz.prog 99 #[v] w fun e w' => e = .returned (.string ByteArray.empty) ∧ Below w.heap.size w w' := by
  go_enter Tryz.func99, Tryz.ntmps99
  go_wp2_with (go_at_call 104; refine HMay.out.mono ?_; rintro e w1 ⟨rfl, ok1⟩; have HO1 := hide3 ok1; clear ok1)
  go_ret
  exact ⟨rfl, HO1.out⟩

theorem sPrint_nil (ad : Option Addr) (cap : Nat) (w : World) (he : Env w) (hf : FL w) :
    Calls Tryz.prog 99 #[.slice ad 0 cap] w fun e w' => e = .returned (.string (printR [])) ∧ Below w.heap.size w w' := by
  have HMay := hide3 (sMay_nil ad cap w)
  have HP : Hid (∀ w1, Below w.heap.size w w1 → Calls Tryz.prog 86 #[.agg #[.int .i64 0, .int .i64 0, .int .i64 0]] w1 fun e w' => e = .returned (.string (textV 0 0 0)) ∧ Below w1.heap.size w1 w') := fun w1 hb => print_on he.tab 0 0 0 w1 hb
  have HF := hide3 hf
  have HR : Hid (printR [] = ⟨#[60]⟩ ++ textV 0 0 0) := rfl
  have zT := text_size 0 0 0
  have z2 : (⟨#[60]⟩ : ByteArray).size = 1 := rfl
  generalize textV 0 0 0 = T at *
  have s1 := fun W : World => run_string_add_sum (P := Tryz.prog) (w := W) ⟨#[60]⟩ T (by omega)
  clear zT z2 he hf
  go_enter Tryz.func99, Tryz.ntmps99
  go_wp2_with (first
    | (go_at_call 104; refine HMay.out.mono ?_; rintro e w1 ⟨rfl, ok1⟩; obtain ⟨⟨g0, g1, g2⟩, _⟩ := HF.out.below ok1; have HO1 := hide3 ok1; clear ok1)
    | (go_at_call 86; refine (HP.out _ HO1.out).mono ?_; rintro e w2 ⟨rfl, ok2⟩; have HO2 := hide3 ok2; clear ok2))
  go_ret
  exact ⟨by rw [HR.out]; rfl, below_then HO1.out HO2.out⟩

theorem sPrint_rg {A : Rg} (hA : RangeR A) (hl : A.length ≤ 64) {v : Value} {w : World} (h : SpansR w v A) (he : Env w) (hf : FL w) :
    Calls Tryz.prog 99 #[v] w fun e w' => e = .returned (.string (printR A)) ∧ Below w.heap.size w w' := by
  have HM : Hid (Calls Tryz.prog 104 #[v] w fun e w' => e = .returned (.bool true) ∧ Below w.heap.size w w') := by have := sMay_any h.at; rw [may_rg hA hl] at this; exact this
  obtain ⟨ad, cap, rfl, hc, hs⟩ := h
  rcases hs with rfl | ⟨g, o, rfl, hg, hs⟩
  · exact sPrint_nil ad cap w he hf
  · cases A with
    | nil => exact sPrint_nil _ cap w he hf
    | cons p A => exact sPrint_walk (p :: A) g o cap w he hf hl (by simp; omega) hg hs HM
end Go.Proofs.YtogpkhpephhbiaaGreatDoor
namespace Go.Proofs.YtogpkhpephhbiaaGreatDoor
open Go.RowKit
set_option maxRecDepth 100000

theorem eqInV (p q r : Int) (w : World) : (Op.equalIn 9999 59 (.agg #[.int .i64 p, .int .i64 q, .int .i64 r]) (.agg #[.int .i64 p, .int .i64 q, .int .i64 r])).run Tryz.prog w = .ok true w := by
  have u3 := Tryz.underlying3
  have a3 := Tryz.isAgg3
  have z3 := Tryz.sizeOf3
  rw [show (9999 : Nat) = 9998 + 1 from rfl, run_equalIn_agg w 9998 59 _ _ (by kernel_rfl) (by kernel_rfl)]
  simp only [Program.fieldsOf, Tryz.underlying59]
  go_simp

theorem neqSp (a b c x y z : Int) (w : World) : (binOp .neq 148 (.agg #[.int .i64 a, .int .i64 b, .int .i64 c, .int .i64 x, .int .i64 y, .int .i64 z]) (.agg #[.int .i64 a, .int .i64 b, .int .i64 c, .int .i64 x, .int .i64 y, .int .i64 z])).run Tryz.prog w = .ok (.bool false) w := by
  have av := Tryz.isAgg59
  have zv := Tryz.sizeOf59
  have h1 := eqInV a b c w
  have h2 := eqInV x y z w
  rw [run_neq_struct, show (10000 : Nat) = 9999 + 1 from rfl, run_equalIn_agg w 9999 148 _ _ (by kernel_rfl) (by kernel_rfl)]
  simp only [Program.fieldsOf, Tryz.underlying148]
  go_simp
theorem guardSp (op : BinOp) (x y : Operand) (xs ys : Array Value) (w : World) : (eqGuard op 148 x y (.agg xs) (.agg ys)).run Tryz.prog w = .ok () w := run_eqGuard_agg w op 148 x y xs ys (by kernel_rfl)

end Go.Proofs.YtogpkhpephhbiaaGreatDoor
namespace Go.Proofs.YtogpkhpephhbiaaGreatDoor
open Go.RowKit
set_option maxRecDepth 100000

/-- Whether two things are one. -/
noncomputable def eqB {α : Type} (x y : α) : Bool := @decide (x = y) (Classical.propDecidable _)
theorem eqB_yes {α : Type} {x y : α} (h : x = y) : eqB x y = true := by unfold eqB; exact @decide_eq_true _ (Classical.propDecidable _) h
theorem eqB_no {α : Type} {x y : α} (h : x ≠ y) : eqB x y = false := by unfold eqB; exact @decide_eq_false _ (Classical.propDecidable _) h
theorem eqB_iff {α : Type} {x y : α} : eqB x y = true ↔ x = y := ⟨fun h => by unfold eqB at h; exact @of_decide_eq_true _ (Classical.propDecidable _) h, eqB_yes⟩

/-- Two versions compared. -/
theorem eqInV2 (p q r p' q' r' : Int) (w : World) : (Op.equalIn 9999 59 (.agg #[.int .i64 p, .int .i64 q, .int .i64 r]) (.agg #[.int .i64 p', .int .i64 q', .int .i64 r'])).run Tryz.prog w = .ok (decide (p = p') && decide (q = q') && decide (r = r')) w := by
  have u3 := Tryz.underlying3
  have a3 := Tryz.isAgg3
  have z3 := Tryz.sizeOf3
  rw [show (9999 : Nat) = 9998 + 1 from rfl, run_equalIn_agg w 9998 59 _ _ (by kernel_rfl) (by kernel_rfl)]
  simp only [Program.fieldsOf, Tryz.underlying59]
  by_cases h1 : p = p'
  · by_cases h2 : q = q'
    · by_cases h3 : r = r'
      · subst h1 h2 h3; go_simp
      · subst h1 h2; simp only [h3, decide_false, Bool.and_false]; go_simp
    · subst h1; simp only [h2, decide_false, Bool.and_false, Bool.false_and]; go_simp
  · simp only [h1, decide_false, Bool.false_and]; go_simp

theorem eqV2 (p q r p' q' r' : Int) (w : World) : (binOp .eql 59 (.agg #[.int .i64 p, .int .i64 q, .int .i64 r]) (.agg #[.int .i64 p', .int .i64 q', .int .i64 r'])).run Tryz.prog w = .ok (.bool (decide (p = p') && decide (q = q') && decide (r = r'))) w := by
  have u3 := Tryz.underlying3
  have a3 := Tryz.isAgg3
  have z3 := Tryz.sizeOf3
  rw [run_eql_struct, show (10000 : Nat) = 9999 + 1 from rfl, run_equalIn_agg w 9999 59 _ _ (by kernel_rfl) (by kernel_rfl)]
  simp only [Program.fieldsOf, Tryz.underlying59]
  by_cases h1 : p = p'
  · by_cases h2 : q = q'
    · by_cases h3 : r = r'
      · subst h1 h2 h3; go_simp
      · subst h1 h2; simp only [h3, decide_false, Bool.and_false]; go_simp
    · subst h1; simp only [h2, decide_false, Bool.and_false, Bool.false_and]; go_simp
  · simp only [h1, decide_false, Bool.false_and]; go_simp

/-- The same numbers. -/
def eqS (s t : Sp) : Bool := decide (s.a = t.a) && decide (s.b = t.b) && decide (s.c = t.c) && (decide (s.x = t.x) && decide (s.y = t.y) && decide (s.z = t.z))
theorem eqS_iff {s t : Sp} : eqS s t = true ↔ s = t := by
  obtain ⟨a, b, c, x, y, z⟩ := s
  obtain ⟨a', b', c', x', y', z'⟩ := t
  unfold eqS
  simp only [Bool.and_eq_true, decide_eq_true_eq, Sp.mk.injEq]
  exact ⟨fun ⟨⟨⟨h1, h2⟩, h3⟩, ⟨h4, h5⟩, h6⟩ => ⟨h1, h2, h3, h4, h5, h6⟩, fun ⟨h1, h2, h3, h4, h5, h6⟩ => ⟨⟨⟨h1, h2⟩, h3⟩, ⟨h4, h5⟩, h6⟩⟩

theorem neqSp2 (a b c x y z a' b' c' x' y' z' : Int) (w : World) : (binOp .neq 148 (.agg #[.int .i64 a, .int .i64 b, .int .i64 c, .int .i64 x, .int .i64 y, .int .i64 z]) (.agg #[.int .i64 a', .int .i64 b', .int .i64 c', .int .i64 x', .int .i64 y', .int .i64 z'])).run Tryz.prog w = .ok (.bool (!(eqS ⟨a, b, c, x, y, z⟩ ⟨a', b', c', x', y', z'⟩))) w := by
  have av := Tryz.isAgg59
  have zv := Tryz.sizeOf59
  have h1 := eqInV2 a b c a' b' c' w
  have h2 := eqInV2 x y z x' y' z' w
  rw [run_neq_struct, show (10000 : Nat) = 9999 + 1 from rfl, run_equalIn_agg w 9999 148 _ _ (by kernel_rfl) (by kernel_rfl)]
  simp only [Program.fieldsOf, Tryz.underlying148]
  cases hq : eqS ⟨a, b, c, x, y, z⟩ ⟨a', b', c', x', y', z'⟩
  · have hn : ¬ (a = a' ∧ b = b' ∧ c = c' ∧ x = x' ∧ y = y' ∧ z = z') := by
      rintro ⟨rfl, rfl, rfl, rfl, rfl, rfl⟩
      rw [eqS_iff.2 rfl] at hq
      cases hq
    go_simp
    intro e1 e2 e3 e4 e5 e6
    exact hn ⟨e1, e2, e3, e4, e5, e6⟩
  · obtain ⟨rfl, rfl, rfl, rfl, rfl, rfl⟩ := Sp.mk.injEq .. ▸ eqS_iff.1 hq
    go_simp

set_option maxHeartbeats 1600000 in
theorem Equal_walk (A B : List Sp) (hAB : A.length = B.length) (hsz : A.length ≤ 9223372036854775807) (ga oa ca gb ob cb : Nat) (w : World) (hga : ga < w.heap.size) (hgb : gb < w.heap.size) (hla : ∀ i (h : i < A.length), SpAt w ga (oa + i * 6) A[i]) (hlb : ∀ i (h : i < B.length), SpAt w gb (ob + i * 6) B[i]) :
    Calls Tryz.prog 94 #[.slice (some ⟨ga, oa, none⟩) A.length ca, .slice (some ⟨gb, ob, none⟩) B.length cb] w fun e w' => e = .returned (.bool (eqB A B)) ∧ Below w.heap.size w w' := by
  have HL : Hid (∀ w1, Below w.heap.size w w1 → ∀ i (h : i < A.length) (h2 : i < B.length), SpIn w1 ga (oa + i * 6) A[i] ∧ SpIn w1 gb (ob + i * 6) B[i]) := fun w1 hb i hi hi2 => ⟨⟨(hla i hi).below hb hga, Nat.lt_of_lt_of_le hga hb.size⟩, ⟨(hlb i hi2).below hb hgb, Nat.lt_of_lt_of_le hgb hb.size⟩⟩
  have HAB := hide3 hAB
  clear hla hlb
  rw [← hAB]
  clear hAB
  go_enter Tryz.func94, Tryz.ntmps94
  go_wp2_with fail
  go_loopw [13] (fun i wr => ∃ k : Nat, k ≤ A.length ∧ i = .int .i64 k ∧ Below w.heap.size w wr ∧ ∀ j (h : j < k) (h1 : j < A.length) (h2 : j < B.length), A[j] = B[j]) (fun i _ => A.length - (intOf i).toNat)
  case atStart => exact ⟨0, Nat.zero_le _, rfl, Below.refl _ _, fun j h => by omega⟩
  case round =>
    obtain ⟨k, hk, rfl, hb, hall⟩ := hrel
    have HALL := hide3 hall
    have HB := hide3 hb
    clear hall
    by_cases hlt : k < A.length
    · have hltB : k < B.length := HAB.out ▸ hlt
      have HO : Hid (Below w.heap.size w wr ∧ SpIn wr ga (oa + k * 6) A[k] ∧ SpIn wr gb (ob + k * 6) B[k]) := ⟨hb, HL.out wr hb k hlt hltB⟩
      have HK : Hid (KeepP fun w1 => Below w.heap.size w w1 ∧ SpIn w1 ga (oa + k * 6) A[k] ∧ SpIn w1 gb (ob + k * 6) B[k]) := (keepBelow w).and ((keepSp _ _ _).and (keepSp _ _ _))
      have HNE : Hid (eqS A[k] B[k] = false → eqB A B = false) := fun h => eqB_no fun e => by subst e; rw [(eqS_iff).2 rfl] at h; cases h
      have HST : Hid (eqS A[k] B[k] = true → ∀ j (h : j < k + 1) (h1 : j < A.length) (h2 : j < B.length), A[j] = B[j]) := fun h j hj h1 h2 => by
        rcases Nat.lt_or_ge j k with hjk | hjk
        · exact HALL.out j hjk h1 h2
        · obtain rfl : j = k := by omega
          exact eqS_iff.1 h
      generalize A[k] = s at *
      generalize B[k] = t at *
      obtain ⟨a, b, c, x, y, z⟩ := s
      obtain ⟨a', b', c', x', y', z'⟩ := t
      have he := neqSp2 a b c x y z a' b' c' x' y' z'
      have hgd := guardSp
      cases hq : eqS ⟨a, b, c, x, y, z⟩ ⟨a', b', c', x', y', z'⟩
      · have HR := hide3 (HNE.out hq)
        rw [hq] at he
        clear hb HNE HST HALL
        go_wp2_with fail
        refine wp_region_keep HK.out (by kernel_rfl) (by kernel_rfl) (by first | exact HO.out | exact HK.out.drew HO.out) ?_
        intro C hin hout
        have HIN := hide3 hin
        have HOUT := hide3 hout
        clear hin hout HO
        repeat
          (with_reducible refine wpQuiet_step (fun K hK => ?_)
           go_simp
           first
             | (refine hK _ ?_; clear hK K)
             | (apply Exists.intro; refine ⟨fun w1 hC => ?_, hK _ ?_⟩; (focus ((first | (exact rfl) | (obtain ⟨hb1, ⟨⟨p0, p1, p2, p3, p4, p5⟩, p6⟩, ⟨⟨q0, q1, q2, q3, q4, q5⟩, q6⟩⟩ := HOUT.out w1 hC; clear hC; go_simp; first | done | exact rfl)); done)); clear hK K))
        refine wpQuiet_nil ?_
        intro wn hC
        have HO := hide3 (HOUT.out _ hC)
        clear hC HIN HOUT C
        obtain ⟨hb1, ⟨⟨p0, p1, p2, p3, p4, p5⟩, p6⟩, ⟨⟨q0, q1, q2, q3, q4, q5⟩, q6⟩⟩ := HO.out
        go_wp2
        go_ret
        exact ⟨ret_bool HR.out.symm, HO.out.1⟩
      · have HR := hide3 (HST.out hq)
        rw [hq] at he
        clear hb HNE HST HALL
        go_wp2_with fail
        refine wp_region_keep HK.out (by kernel_rfl) (by kernel_rfl) (by first | exact HO.out | exact HK.out.drew HO.out) ?_
        intro C hin hout
        have HIN := hide3 hin
        have HOUT := hide3 hout
        clear hin hout HO
        repeat
          (with_reducible refine wpQuiet_step (fun K hK => ?_)
           go_simp
           first
             | (refine hK _ ?_; clear hK K)
             | (apply Exists.intro; refine ⟨fun w1 hC => ?_, hK _ ?_⟩; (focus ((first | (exact rfl) | (obtain ⟨hb1, ⟨⟨p0, p1, p2, p3, p4, p5⟩, p6⟩, ⟨⟨q0, q1, q2, q3, q4, q5⟩, q6⟩⟩ := HOUT.out w1 hC; clear hC; go_simp; first | done | exact rfl)); done)); clear hK K))
        refine wpQuiet_nil ?_
        intro wn hC
        have HO := hide3 (HOUT.out _ hC)
        clear hC HIN HOUT C
        obtain ⟨hb1, ⟨⟨p0, p1, p2, p3, p4, p5⟩, p6⟩, ⟨⟨q0, q1, q2, q3, q4, q5⟩, q6⟩⟩ := HO.out
        go_wp2
        exact ⟨⟨k + 1, by omega, by go_num, HO.out.1, HR.out⟩, by simp [intOf]; omega⟩
    · have hke : k = A.length := by omega
      subst hke
      have HR : Hid (eqB A B = true) := eqB_yes (List.ext_getElem HAB.out fun j h1 h2 => HALL.out j h1 h1 h2)
      clear hb
      go_wp2
      go_ret
      exact ⟨ret_bool HR.out.symm, HB.out⟩

theorem Equal_nil (ad bd : Option Addr) (ca cb : Nat) (w : World) :
    Calls Tryz.prog 94 #[.slice ad 0 ca, .slice bd 0 cb] w fun e w' => e = .returned (.bool true) ∧ Below w.heap.size w w' := by
  go_enter Tryz.func94, Tryz.ntmps94
  go_wp2_with fail
  go_loop [13] (fun i => i = .int .i64 0) (fun _ => 0)
  case atStart => rfl
  case round =>
    subst hrel
    go_wp2
    go_ret
    exact ⟨rfl, Below.refl _ _⟩

theorem Equal_len (ad bd : Option Addr) (n m ca cb : Nat) (h : n ≠ m) (w : World) :
    Calls Tryz.prog 94 #[.slice ad n ca, .slice bd m cb] w fun e w' => e = .returned (.bool false) ∧ Below w.heap.size w w' := by
  have hn : ((n : Int) = (m : Int)) = False := by simp; omega
  go_enter Tryz.func94, Tryz.ntmps94
  go_wp2
  go_ret
  exact ⟨rfl, Below.refl _ _⟩

theorem Equal_any {A B : List Sp} {va vb : Value} {w : World} (ha : SpansAt w va A) (hb : SpansAt w vb B) (hsz : A.length ≤ 9223372036854775807) :
    Calls Tryz.prog 94 #[va, vb] w fun e w' => e = .returned (.bool (eqB A B)) ∧ Below w.heap.size w w' := by
  obtain ⟨ad, ca, rfl, hl⟩ := ha
  obtain ⟨bd, cb, rfl, hm⟩ := hb
  by_cases hn : A.length = B.length
  · rcases hl with rfl | ⟨ga, oa, rfl, hga, hla⟩
    · obtain rfl : B = [] := List.eq_nil_of_length_eq_zero (by simpa using hn.symm)
      rw [eqB_yes rfl]
      exact Equal_nil _ _ _ _ w
    · rcases hm with rfl | ⟨gb, ob, rfl, hgb, hlb⟩
      · obtain rfl : A = [] := List.eq_nil_of_length_eq_zero (by simpa using hn)
        rw [eqB_yes rfl]
        exact Equal_nil _ _ _ _ w
      · exact Equal_walk A B hn hsz ga oa ca gb ob cb w hga hgb hla hlb
  · rw [eqB_no fun e => hn (by rw [e])]
    exact Equal_len _ _ _ _ _ _ hn w
end Go.Proofs.YtogpkhpephhbiaaGreatDoor
namespace Go.Proofs.YtogpkhpephhbiaaGreatDoor
open Go.RowKit
set_option maxRecDepth 100000

/-- A dependency: its name, its range. -/
structure Dp where
  nm : ByteArray
  rg : List Sp

theorem SpansAt.sl {w : World} {v : Value} {L : List Sp} (h : SpansAt w v L) : ∃ ad cap, v = .slice ad L.length cap := by
  obtain ⟨ad, cap, rfl, _⟩ := h
  exact ⟨ad, cap, rfl⟩
/-- A dependency lies at a place, with its range's slice u. -/
def DpIn (w : World) (g o : Nat) (d : Dp) (u : Value) : Prop := w.cell? ⟨g, o, none⟩ = some (.string d.nm) ∧ w.cell? ⟨g, o + 1, none⟩ = some u ∧ (SpansC w u d.rg ∧ d.rg.length ≤ 9223372036854775807) ∧ g < w.heap.size
/-- A list of dependencies lies there. -/
def DepsAt (w : World) (v : Value) (L : List Dp) : Prop := ∃ ad cap, v = .slice ad L.length cap ∧ L.length ≤ cap ∧ (L = [] ∨ ∃ g o, ad = some ⟨g, o, none⟩ ∧ g < w.heap.size ∧ ∀ i (h : i < L.length), ∃ u, DpIn w g (o + i * 2) L[i] u)

theorem DpIn.below {w w' : World} {g o : Nat} {d : Dp} {u : Value} (h : DpIn w g o d u) (hb : Below w.heap.size w w') : DpIn w' g o d u :=
  ⟨(hb.cell (p := ⟨g, o, none⟩) h.2.2.2).trans h.1, (hb.cell (p := ⟨g, o + 1, none⟩) h.2.2.2).trans h.2.1, ⟨⟨h.2.2.1.1.1.below hb, h.2.2.1.1.2⟩, h.2.2.1.2⟩, Nat.lt_of_lt_of_le h.2.2.2 hb.size⟩
theorem keepDp (g o : Nat) (d : Dp) (u : Value) : KeepP fun w1 => DpIn w1 g o d u := fun _ _ h hb => h.below hb
theorem DepsAt.below {w w' : World} {v : Value} {L : List Dp} (h : DepsAt w v L) (hb : Below w.heap.size w w') : DepsAt w' v L := by
  obtain ⟨ad, cap, hv, hc, hl⟩ := h
  refine ⟨ad, cap, hv, hc, hl.imp id ?_⟩
  rintro ⟨g, o, ha, hg, hs⟩
  exact ⟨g, o, ha, Nat.lt_of_lt_of_le hg hb.size, fun i hi => (hs i hi).imp fun u hu => hu.below hb⟩
theorem keepDeps (v : Value) (L : List Dp) : KeepP fun w1 => DepsAt w1 v L := fun _ _ h hb => h.below hb

/-- A dependency's variable. -/
def BxD (w : World) (N : Nat) (s : ByteArray) (u : Value) : Prop := w.cell? ⟨N, 0, none⟩ = some (.string s) ∧ w.cell? ⟨N, 1, none⟩ = some u ∧ N < w.heap.size
theorem keepBxD (N : Nat) (s : ByteArray) (u : Value) : KeepP fun w1 => BxD w1 N s u := fun _ _ h hb =>
  ⟨(hb.cell (p := ⟨N, 0, none⟩) h.2.2).trans h.1, (hb.cell (p := ⟨N, 1, none⟩) h.2.2).trans h.2.1, Nat.lt_of_lt_of_le h.2.2 hb.size⟩
theorem BxD.new {w : World} {N : Nat} (hN : w.heap.size = N) (s : ByteArray) (u : Value) : BxD (w.alloc (.cells #[.string s, u] 137)) N s u := by
  subst hN
  exact ⟨by simp, by simp, by simp⟩

theorem sameDep_any {d e : Dp} {u v : Value} {w : World} (hu : SpansAt w u d.rg) (hv : SpansAt w v e.rg) (hsz : d.rg.length ≤ 9223372036854775807) :
    Calls Tryz.prog 84 #[.agg #[.string d.nm, u], .agg #[.string e.nm, v]] w fun x w' => x = .returned (.bool (eqB d e)) ∧ Below w.heap.size w w' := by
  have HE : Hid (∀ w1, Below w.heap.size w w1 → Calls Tryz.prog 94 #[u, v] w1 fun x w' => x = .returned (.bool (eqB d.rg e.rg)) ∧ Below w1.heap.size w1 w') := fun w1 h => Equal_any (hu.below h) (hv.below h) hsz
  obtain ⟨n, r⟩ := d
  obtain ⟨m, q⟩ := e
  simp only at HE
  obtain ⟨ad, ca, rfl, _⟩ := hu
  obtain ⟨bd, cb, rfl, _⟩ := hv
  clear hsz
  simp only at HE
  by_cases hn : n = m
  · subst hn
    have HR : Hid (eqB (⟨n, r⟩ : Dp) ⟨n, q⟩ = eqB r q) := by
      unfold Hid
      by_cases h : r = q
      · rw [eqB_yes h, eqB_yes (by rw [h])]
      · rw [eqB_no h, eqB_no (fun e => h (by injection e))]
    generalize eqB r q = b at *
    go_enter Tryz.func84, Tryz.ntmps84
    go_wp2_with (go_at_call 94; refine (HE.out _ (boxB2 _ _ _)).mono ?_; rintro x w1 ⟨rfl, ok⟩)
    go_ret
    exact ⟨ret_bool HR.out.symm, below_then (boxB2 _ _ _) ok⟩
  · have HR : Hid (eqB (⟨n, r⟩ : Dp) ⟨m, q⟩ = false) := eqB_no (fun e => hn (by injection e))
    clear HE
    have hl : (n.toList = m.toList) = False := eq_false fun e => hn (bytes_same e)
    go_enter Tryz.func84, Tryz.ntmps84
    go_wp2
    go_ret
    exact ⟨ret_bool HR.out.symm, boxB2 _ _ _⟩

set_option maxHeartbeats 1600000 in
theorem EqualFunc_walk (A B : List Dp) (hAB : A.length = B.length) (hsz : A.length ≤ 9223372036854775807) (ga oa ca gb ob cb : Nat) (w : World) (hla : ∀ i (h : i < A.length), ∃ u, DpIn w ga (oa + i * 2) A[i] u) (hlb : ∀ i (h : i < B.length), ∃ u, DpIn w gb (ob + i * 2) B[i] u) :
    Calls Tryz.prog 83 #[.slice (some ⟨ga, oa, none⟩) A.length ca, .slice (some ⟨gb, ob, none⟩) B.length cb, .func (.func 84) #[] #[]] w fun e w' => e = .returned (.bool (eqB A B)) ∧ Below w.heap.size w w' := by
  have HL : Hid (∀ w1, Below w.heap.size w w1 → ∀ i (h : i < A.length) (h2 : i < B.length), (∃ u, DpIn w1 ga (oa + i * 2) A[i] u) ∧ ∃ u, DpIn w1 gb (ob + i * 2) B[i] u) := fun w1 hb i hi hi2 => ⟨(hla i hi).imp fun u h => h.below hb, (hlb i hi2).imp fun u h => h.below hb⟩
  have HAB := hide3 hAB
  clear hla hlb
  rw [← hAB]
  clear hAB
  go_enter Tryz.func83, Tryz.ntmps83
  go_wp2_with fail
  go_loopw [17] (fun i wr => ∃ k : Nat, k ≤ A.length ∧ i = .int .i64 k ∧ Below w.heap.size w wr ∧ ∀ j (h : j < k) (h1 : j < A.length) (h2 : j < B.length), A[j] = B[j]) (fun i _ => A.length - (intOf i).toNat)
  case atStart => exact ⟨0, Nat.zero_le _, rfl, Below.refl _ _, fun j h => by omega⟩
  case round =>
    obtain ⟨k, hk, rfl, hb, hall⟩ := hrel
    have HALL := hide3 hall
    have HB := hide3 hb
    clear hall
    by_cases hlt : k < A.length
    · have hltB : k < B.length := HAB.out ▸ hlt
      obtain ⟨⟨u, p0, p1, ⟨⟨hu, _⟩, hz⟩, p3⟩, ⟨v, q0, q1, ⟨⟨hv, _⟩, _⟩, q3⟩⟩ := HL.out wr hb k hlt hltB
      have HC : Hid (∀ w1, Below wr.heap.size wr w1 → Calls Tryz.prog 84 #[.agg #[.string A[k].nm, u], .agg #[.string B[k].nm, v]] w1 fun x w' => x = .returned (.bool (eqB A[k] B[k])) ∧ Below w1.heap.size w1 w') := fun w1 h => sameDep_any (hu.below h) (hv.below h) hz
      have HNE : Hid (eqB A[k] B[k] = false → eqB A B = false) := fun h => eqB_no fun e => by subst e; rw [eqB_yes rfl] at h; cases h
      have HST : Hid (eqB A[k] B[k] = true → ∀ j (h : j < k + 1) (h1 : j < A.length) (h2 : j < B.length), A[j] = B[j]) := fun h j hj h1 h2 => by
        rcases Nat.lt_or_ge j k with hjk | hjk
        · exact HALL.out j hjk h1 h2
        · obtain rfl : j = k := by omega
          exact eqB_iff.1 h
      obtain ⟨ad, ca, rfl⟩ := hu.sl
      obtain ⟨bd, cb, rfl⟩ := hv.sl
      clear hz hu hv
      generalize A[k].rg.length = na at *
      generalize B[k].rg.length = nb at *
      generalize eqB A[k] B[k] = b at *
      generalize A[k].nm = s at *
      generalize B[k].nm = t at *
      have q0' : (wr.alloc (.cells #[.string s, .slice ad na ca] 137)).cell? ⟨gb, ob + k * 2, none⟩ = some (.string t) := ((boxB wr (.cells #[.string s, .slice ad na ca] 137)).cell (p := ⟨gb, ob + k * 2, none⟩) q3).trans q0
      have q1' : (wr.alloc (.cells #[.string s, .slice ad na ca] 137)).cell? ⟨gb, ob + k * 2 + 1, none⟩ = some (.slice bd nb cb) := ((boxB wr (.cells #[.string s, .slice ad na ca] 137)).cell (p := ⟨gb, ob + k * 2 + 1, none⟩) q3).trans q1
      cases b
      · have HR := hide3 (HNE.out rfl)
        clear hb HNE HST HALL
        go_wp2_with (go_at_call 84; refine (HC.out _ (boxB2 _ _ _)).mono ?_; rintro x w1 ⟨rfl, ok⟩)
        go_ret
        exact ⟨ret_bool HR.out.symm, below_then HB.out (below_then (boxB2 _ _ _) ok)⟩
      · have HR := hide3 (HST.out rfl)
        clear hb HNE HST HALL
        go_wp2_with (go_at_call 84; refine (HC.out _ (boxB2 _ _ _)).mono ?_; rintro x w1 ⟨rfl, ok⟩)
        exact ⟨⟨k + 1, by omega, by go_num, below_then HB.out (below_then (boxB2 _ _ _) ok), HR.out⟩, by simp [intOf]; omega⟩
    · have hke : k = A.length := by omega
      subst hke
      have HR : Hid (eqB A B = true) := eqB_yes (List.ext_getElem HAB.out fun j h1 h2 => HALL.out j h1 h1 h2)
      clear hb
      go_wp2
      go_ret
      exact ⟨ret_bool HR.out.symm, HB.out⟩

theorem EqualFunc_nil (ad bd : Option Addr) (ca cb : Nat) (w : World) :
    Calls Tryz.prog 83 #[.slice ad 0 ca, .slice bd 0 cb, .func (.func 84) #[] #[]] w fun e w' => e = .returned (.bool true) ∧ Below w.heap.size w w' := by
  go_enter Tryz.func83, Tryz.ntmps83
  go_wp2_with fail
  go_loop [17] (fun i => i = .int .i64 0) (fun _ => 0)
  case atStart => rfl
  case round =>
    subst hrel
    go_wp2
    go_ret
    exact ⟨rfl, Below.refl _ _⟩

theorem EqualFunc_len (ad bd : Option Addr) (n m ca cb : Nat) (h : n ≠ m) (w : World) :
    Calls Tryz.prog 83 #[.slice ad n ca, .slice bd m cb, .func (.func 84) #[] #[]] w fun e w' => e = .returned (.bool false) ∧ Below w.heap.size w w' := by
  have hn : ((n : Int) = (m : Int)) = False := by simp; omega
  go_enter Tryz.func83, Tryz.ntmps83
  go_wp2
  go_ret
  exact ⟨rfl, Below.refl _ _⟩

theorem EqualFunc_any {A B : List Dp} {va vb : Value} {w : World} (ha : DepsAt w va A) (hb : DepsAt w vb B) (hsz : A.length ≤ 9223372036854775807) :
    Calls Tryz.prog 83 #[va, vb, .func (.func 84) #[] #[]] w fun e w' => e = .returned (.bool (eqB A B)) ∧ Below w.heap.size w w' := by
  obtain ⟨ad, ca, rfl, _, hl⟩ := ha
  obtain ⟨bd, cb, rfl, _, hm⟩ := hb
  by_cases hn : A.length = B.length
  · rcases hl with rfl | ⟨ga, oa, rfl, hga, hla⟩
    · obtain rfl : B = [] := List.eq_nil_of_length_eq_zero (by simpa using hn.symm)
      rw [eqB_yes rfl]
      exact EqualFunc_nil _ _ _ _ w
    · rcases hm with rfl | ⟨gb, ob, rfl, hgb, hlb⟩
      · obtain rfl : A = [] := List.eq_nil_of_length_eq_zero (by simpa using hn)
        rw [eqB_yes rfl]
        exact EqualFunc_nil _ _ _ _ w
      · exact EqualFunc_walk A B hn hsz ga oa ca gb ob cb w hla hlb
  · rw [eqB_no fun e => hn (by rw [e])]
    exact EqualFunc_len _ _ _ _ _ _ hn w

theorem eqB_and {α : Type} {x y : α} {b : Bool} (h : x = y ↔ b = true) : eqB x y = b := by
  cases b
  · exact eqB_no fun e => by cases h.1 e
  · exact eqB_yes (h.2 rfl)
theorem DepsAt.sl {w : World} {v : Value} {L : List Dp} (h : DepsAt w v L) : ∃ ad cap, v = .slice ad L.length cap := by
  obtain ⟨ad, cap, rfl, _⟩ := h
  exact ⟨ad, cap, rfl⟩

theorem dSame_any {A B : List Dp} {va vb : Value} {w : World} (ha : DepsAt w va A) (hb : DepsAt w vb B) (hsz : A.length ≤ 9223372036854775807) :
    Calls Tryz.prog 74 #[va, vb] w fun e w' => e = .returned (.bool (eqB A B)) ∧ Below w.heap.size w w' := by
  have HE := hide3 (EqualFunc_any ha hb hsz)
  obtain ⟨ad, ca, rfl⟩ := ha.sl
  obtain ⟨bd, cb, rfl⟩ := hb.sl
  clear ha hb hsz
  go_enter Tryz.func74, Tryz.ntmps74
  go_wp2_with (go_at_call 83; refine HE.out.mono ?_; rintro x w1 ⟨rfl, ok⟩)
  go_ret
  exact ⟨rfl, ok⟩
end Go.Proofs.YtogpkhpephhbiaaGreatDoor
namespace Go.Proofs.YtogpkhpephhbiaaGreatDoor
open Go.RowKit
set_option maxRecDepth 100000

/-- A package: its name, its version, its three lists. -/
structure Pg where
  nm : ByteArray
  a : Int
  b : Int
  c : Int
  d : List Dp
  p : List Dp
  o : List Dp

/-- A package's lists lie there. -/
def PgAt (w : World) (P : Pg) (v1 v2 v3 : Value) : Prop := DepsAt w v1 P.d ∧ DepsAt w v2 P.p ∧ DepsAt w v3 P.o

theorem PgAt.below {w w' : World} {P : Pg} {v1 v2 v3 : Value} (h : PgAt w P v1 v2 v3) (hb : Below w.heap.size w w') : PgAt w' P v1 v2 v3 := ⟨h.1.below hb, h.2.1.below hb, h.2.2.below hb⟩
theorem keepPg (P : Pg) (v1 v2 v3 : Value) : KeepP fun w1 => PgAt w1 P v1 v2 v3 := fun _ _ h hb => h.below hb

/-- A package's variable. -/
def BxP (w : World) (N : Nat) (s : ByteArray) (a b c : Int) (v1 v2 v3 : Value) : Prop :=
  w.cell? ⟨N, 0, none⟩ = some (.string s) ∧ w.cell? ⟨N, 1, none⟩ = some (.int .i64 a) ∧ w.cell? ⟨N, 2, none⟩ = some (.int .i64 b) ∧ w.cell? ⟨N, 3, none⟩ = some (.int .i64 c) ∧ w.cell? ⟨N, 4, none⟩ = some v1 ∧ w.cell? ⟨N, 5, none⟩ = some v2 ∧ w.cell? ⟨N, 6, none⟩ = some v3 ∧ N < w.heap.size
theorem keepBxP (N : Nat) (s : ByteArray) (a b c : Int) (v1 v2 v3 : Value) : KeepP fun w1 => BxP w1 N s a b c v1 v2 v3 := fun w w' h hb => by
  obtain ⟨h0, h1, h2, h3, h4, h5, h6, h7⟩ := h
  have q : ∀ i, w'.cell? ⟨N, i, none⟩ = w.cell? ⟨N, i, none⟩ := fun i => hb.cell (p := ⟨N, i, none⟩) h7
  exact ⟨by rw [q]; exact h0, by rw [q]; exact h1, by rw [q]; exact h2, by rw [q]; exact h3, by rw [q]; exact h4, by rw [q]; exact h5, by rw [q]; exact h6, Nat.lt_of_lt_of_le h7 hb.size⟩
theorem BxP.new {w : World} {N : Nat} (hN : w.heap.size = N) (s : ByteArray) (a b c : Int) (v1 v2 v3 : Value) : BxP (w.alloc (.cells #[.string s, .int .i64 a, .int .i64 b, .int .i64 c, v1, v2, v3] 62)) N s a b c v1 v2 v3 := by
  subst hN
  refine ⟨?_, ?_, ?_, ?_, ?_, ?_, ?_, ?_⟩ <;> simp

set_option maxHeartbeats 1600000 in
theorem Same_any {P Q : Pg} {v1 v2 v3 u1 u2 u3 : Value} {w : World} (hp : PgAt w P v1 v2 v3) (hq : PgAt w Q u1 u2 u3) (hd : P.d.length ≤ 9223372036854775807) (he : P.p.length ≤ 9223372036854775807) (ho : P.o.length ≤ 9223372036854775807) :
    Calls Tryz.prog 63 #[.agg #[.string P.nm, .int .i64 P.a, .int .i64 P.b, .int .i64 P.c, v1, v2, v3], .agg #[.string Q.nm, .int .i64 Q.a, .int .i64 Q.b, .int .i64 Q.c, u1, u2, u3]] w fun x w' => x = .returned (.bool (eqB P Q)) ∧ Below w.heap.size w w' := by
  have H1 : Hid (∀ w1, Below w.heap.size w w1 → Calls Tryz.prog 74 #[v1, u1] w1 fun e w' => e = .returned (.bool (eqB P.d Q.d)) ∧ Below w1.heap.size w1 w') := fun w1 h => dSame_any (hp.1.below h) (hq.1.below h) hd
  have H2 : Hid (∀ w1, Below w.heap.size w w1 → Calls Tryz.prog 74 #[v2, u2] w1 fun e w' => e = .returned (.bool (eqB P.p Q.p)) ∧ Below w1.heap.size w1 w') := fun w1 h => dSame_any (hp.2.1.below h) (hq.2.1.below h) he
  have H3 : Hid (∀ w1, Below w.heap.size w w1 → Calls Tryz.prog 74 #[v3, u3] w1 fun e w' => e = .returned (.bool (eqB P.o Q.o)) ∧ Below w1.heap.size w1 w') := fun w1 h => dSame_any (hp.2.2.below h) (hq.2.2.below h) ho
  have HR : Hid (eqB P Q = (decide (P.nm.toList = Q.nm.toList) && (decide (P.a = Q.a) && decide (P.b = Q.b) && decide (P.c = Q.c)) && eqB P.d Q.d && eqB P.p Q.p && eqB P.o Q.o)) := by
    refine eqB_and ?_
    obtain ⟨n, a, b, c, d, e, o⟩ := P
    obtain ⟨n', a', b', c', d', e', o'⟩ := Q
    simp only [Bool.and_eq_true, decide_eq_true_eq, eqB_iff, Pg.mk.injEq]
    exact ⟨fun ⟨h1, h2, h3, h4, h5, h6, h7⟩ => ⟨⟨⟨⟨by rw [h1], ⟨h2, h3⟩, h4⟩, h5⟩, h6⟩, h7⟩, fun ⟨⟨⟨⟨h1, ⟨h2, h3⟩, h4⟩, h5⟩, h6⟩, h7⟩ => ⟨bytes_same h1, h2, h3, h4, h5, h6, h7⟩⟩
  obtain ⟨a1, c1, rfl⟩ := hp.1.sl
  obtain ⟨a2, c2, rfl⟩ := hp.2.1.sl
  obtain ⟨a3, c3, rfl⟩ := hp.2.2.sl
  obtain ⟨b1, d1, rfl⟩ := hq.1.sl
  obtain ⟨b2, d2, rfl⟩ := hq.2.1.sl
  obtain ⟨b3, d3, rfl⟩ := hq.2.2.sl
  clear hp hq hd he ho
  have hv := eqV2 P.a P.b P.c Q.a Q.b Q.c
  have hgd := guardV
  obtain ⟨n, a, b, c, d, e, o⟩ := P
  obtain ⟨n', a', b', c', d', e', o'⟩ := Q
  simp only at *
  generalize eqB d d' = x1 at *
  generalize eqB e e' = x2 at *
  generalize eqB o o' = x3 at *
  generalize (decide (a = a') && decide (b = b') && decide (c = c')) = xv at *
  generalize d.length = l1 at *
  generalize e.length = l2 at *
  generalize o.length = l3 at *
  generalize d'.length = m1 at *
  generalize e'.length = m2 at *
  generalize o'.length = m3 at *
  have HB : Hid (BxP ((w.alloc (.cells #[.string n, .int .i64 a, .int .i64 b, .int .i64 c, .slice a1 l1 c1, .slice a2 l2 c2, .slice a3 l3 c3] 62)).alloc (.cells #[.string n', .int .i64 a', .int .i64 b', .int .i64 c', .slice b1 m1 d1, .slice b2 m2 d2, .slice b3 m3 d3] 62)) w.heap.size n a b c (.slice a1 l1 c1) (.slice a2 l2 c2) (.slice a3 l3 c3) ∧ BxP ((w.alloc (.cells #[.string n, .int .i64 a, .int .i64 b, .int .i64 c, .slice a1 l1 c1, .slice a2 l2 c2, .slice a3 l3 c3] 62)).alloc (.cells #[.string n', .int .i64 a', .int .i64 b', .int .i64 c', .slice b1 m1 d1, .slice b2 m2 d2, .slice b3 m3 d3] 62)) (w.heap.size + 1) n' a' b' c' (.slice b1 m1 d1) (.slice b2 m2 d2) (.slice b3 m3 d3)) := ⟨keepBxP _ _ _ _ _ _ _ _ _ _ (BxP.new rfl _ _ _ _ _ _ _) (boxB _ _), BxP.new (by simp) _ _ _ _ _ _ _⟩
  have HK : Hid (KeepP fun w1 => BxP w1 w.heap.size n a b c (.slice a1 l1 c1) (.slice a2 l2 c2) (.slice a3 l3 c3) ∧ BxP w1 (w.heap.size + 1) n' a' b' c' (.slice b1 m1 d1) (.slice b2 m2 d2) (.slice b3 m3 d3)) := (keepBxP _ _ _ _ _ _ _ _).and (keepBxP _ _ _ _ _ _ _ _)
  have t1 : True := trivial
  have t2 : True := trivial
  by_cases hn : n.toList = n'.toList
  · cases xv
    · go_enter Tryz.func63, Tryz.ntmps63
      go_wp2
      go_ret
      exact ⟨ret_bool (by rw [HR.out]; simp), boxB2 _ _ _⟩
    · go_enter Tryz.func63, Tryz.ntmps63
      cases x1
      · go_wp2_with (go_at_call 74; refine (H1.out _ (boxB2 _ _ _)).mono ?_; rintro x w1 ⟨rfl, ok⟩)
        go_ret
        exact ⟨ret_bool (by rw [HR.out]; simp), below_then (boxB2 _ _ _) ok⟩
      · cases x2
        · go_wp2_with (first
            | (have _t := t1; go_at_call 74; refine (H1.out _ (boxB2 _ _ _)).mono ?_; rintro x w1 ⟨rfl, ok⟩; clear t1; have HB1 := hide3 (HK.out _ _ HB.out ok); obtain ⟨⟨p0, p1, p2, p3, p4, p5, p6, p7⟩, ⟨q0, q1, q2, q3, q4, q5, q6, q7⟩⟩ := HB1.out)
            | (go_at_call 74; refine (H2.out _ (below_then (boxB2 _ _ _) ok)).mono ?_; rintro x w2 ⟨rfl, ok2⟩))
          go_ret
          exact ⟨ret_bool (by rw [HR.out]; simp), below_then (below_then (boxB2 _ _ _) ok) ok2⟩
        · go_wp2_with (first
            | (have _t := t1; go_at_call 74; refine (H1.out _ (boxB2 _ _ _)).mono ?_; rintro x w1 ⟨rfl, ok⟩; clear t1; have HB1 := hide3 (HK.out _ _ HB.out ok); obtain ⟨⟨p0, p1, p2, p3, p4, p5, p6, p7⟩, ⟨q0, q1, q2, q3, q4, q5, q6, q7⟩⟩ := HB1.out)
            | (have _t := t2; go_at_call 74; refine (H2.out _ (below_then (boxB2 _ _ _) ok)).mono ?_; rintro x w2 ⟨rfl, ok2⟩; clear t2; have HB2 := hide3 (HK.out _ _ HB1.out ok2); clear p0 p1 p2 p3 p4 p5 p6 p7 q0 q1 q2 q3 q4 q5 q6 q7; obtain ⟨⟨p0, p1, p2, p3, p4, p5, p6, p7⟩, ⟨q0, q1, q2, q3, q4, q5, q6, q7⟩⟩ := HB2.out)
            | (go_at_call 74; refine (H3.out _ (below_then (below_then (boxB2 _ _ _) ok) ok2)).mono ?_; rintro x w3 ⟨rfl, ok3⟩))
          go_ret
          exact ⟨ret_bool (by rw [HR.out]; simp [hn]), below_then (below_then (below_then (boxB2 _ _ _) ok) ok2) ok3⟩
  · go_enter Tryz.func63, Tryz.ntmps63
    go_wp2
    go_ret
    exact ⟨ret_bool (by rw [HR.out]; simp [hn]), boxB2 _ _ _⟩
end Go.Proofs.YtogpkhpephhbiaaGreatDoor
namespace Go.Proofs.YtogpkhpephhbiaaGreatDoor
open Go.RowKit
set_option maxRecDepth 100000

/-- A text at a place. -/
def StIn (w : World) (g o : Nat) (s : ByteArray) : Prop := w.cell? ⟨g, o, none⟩ = some (.string s) ∧ g < w.heap.size
theorem StIn.below {w w' : World} {g o : Nat} {s : ByteArray} (h : StIn w g o s) (hb : Below w.heap.size w w') : StIn w' g o s := ⟨(hb.cell (p := ⟨g, o, none⟩) h.2).trans h.1, Nat.lt_of_lt_of_le h.2 hb.size⟩
theorem keepStIn (g o : Nat) (s : ByteArray) : KeepP fun w1 => StIn w1 g o s := fun _ _ h hb => h.below hb

/-- A path lies there. -/
def PathAt (w : World) (v : Value) (L : List ByteArray) : Prop := ∃ ad cap, v = .slice ad L.length cap ∧ L.length ≤ cap ∧ (L = [] ∨ ∃ g o, ad = some ⟨g, o, none⟩ ∧ ∀ i (h : i < L.length), StIn w g (o + i) L[i])
theorem PathAt.below {w w' : World} {v : Value} {L : List ByteArray} (h : PathAt w v L) (hb : Below w.heap.size w w') : PathAt w' v L := by
  obtain ⟨ad, cap, hv, hc, hl⟩ := h
  refine ⟨ad, cap, hv, hc, hl.imp id ?_⟩
  rintro ⟨g, o, ha, hs⟩
  exact ⟨g, o, ha, fun i hi => (hs i hi).below hb⟩
theorem keepPath (v : Value) (L : List ByteArray) : KeepP fun w1 => PathAt w1 v L := fun _ _ h hb => h.below hb
theorem PathAt.sl {w : World} {v : Value} {L : List ByteArray} (h : PathAt w v L) : ∃ ad cap, v = .slice ad L.length cap := by
  obtain ⟨ad, cap, rfl, _⟩ := h
  exact ⟨ad, cap, rfl⟩
/-- The first names of a path. -/
theorem PathAt.cut {w : World} {ad : Option Addr} {n cap : Nat} {L : List ByteArray} (h : PathAt w (.slice ad n cap) L) {k : Nat} (hk : k ≤ n) : PathAt w (.slice ad k cap) (L.take k) := by
  obtain ⟨ad', cap', hv, hc, hl⟩ := h
  injection hv with e1 e2 e3
  subst e1 e2 e3
  have hkl : (L.take k).length = k := by rw [List.length_take]; omega
  refine ⟨ad, cap, by rw [hkl], by omega, ?_⟩
  rcases hl with rfl | ⟨g, o, ha, hs⟩
  · exact Or.inl (by simp)
  · exact Or.inr ⟨g, o, ha, fun i hi => by rw [List.getElem_take]; exact hs i (by omega)⟩

theorem str_same {s t : ByteArray} (h : s.toList = t.toList) : s = t := bytes_same h

set_option maxHeartbeats 1600000 in
theorem EqualS_walk (A B : List ByteArray) (hAB : A.length = B.length) (hsz : A.length ≤ 9223372036854775807) (ga oa ca gb ob cb : Nat) (w : World) (hla : ∀ i (h : i < A.length), StIn w ga (oa + i) A[i]) (hlb : ∀ i (h : i < B.length), StIn w gb (ob + i) B[i]) :
    Calls Tryz.prog 55 #[.slice (some ⟨ga, oa, none⟩) A.length ca, .slice (some ⟨gb, ob, none⟩) B.length cb] w fun e w' => e = .returned (.bool (eqB A B)) ∧ Below w.heap.size w w' := by
  have HL : Hid (∀ w1, Below w.heap.size w w1 → ∀ i (h : i < A.length) (h2 : i < B.length), StIn w1 ga (oa + i) A[i] ∧ StIn w1 gb (ob + i) B[i]) := fun w1 hb i hi hi2 => ⟨(hla i hi).below hb, (hlb i hi2).below hb⟩
  have HAB := hide3 hAB
  clear hla hlb
  rw [← hAB]
  clear hAB
  go_enter Tryz.func55, Tryz.ntmps55
  go_wp2_with fail
  go_loopw [13] (fun i wr => ∃ k : Nat, k ≤ A.length ∧ i = .int .i64 k ∧ Below w.heap.size w wr ∧ ∀ j (h : j < k) (h1 : j < A.length) (h2 : j < B.length), A[j] = B[j]) (fun i _ => A.length - (intOf i).toNat)
  case atStart => exact ⟨0, Nat.zero_le _, rfl, Below.refl _ _, fun j h => by omega⟩
  case round =>
    obtain ⟨k, hk, rfl, hb, hall⟩ := hrel
    have HALL := hide3 hall
    have HB := hide3 hb
    clear hall
    by_cases hlt : k < A.length
    · have hltB : k < B.length := HAB.out ▸ hlt
      have HO : Hid (Below w.heap.size w wr ∧ StIn wr ga (oa + k) A[k] ∧ StIn wr gb (ob + k) B[k]) := ⟨hb, HL.out wr hb k hlt hltB⟩
      have HK : Hid (KeepP fun w1 => Below w.heap.size w w1 ∧ StIn w1 ga (oa + k) A[k] ∧ StIn w1 gb (ob + k) B[k]) := (keepBelow w).and ((keepStIn _ _ _).and (keepStIn _ _ _))
      have HNE : Hid (A[k] ≠ B[k] → eqB A B = false) := fun h => eqB_no fun e => by subst e; exact h rfl
      have HST : Hid (A[k] = B[k] → ∀ j (h : j < k + 1) (h1 : j < A.length) (h2 : j < B.length), A[j] = B[j]) := fun h j hj h1 h2 => by
        rcases Nat.lt_or_ge j k with hjk | hjk
        · exact HALL.out j hjk h1 h2
        · obtain rfl : j = k := by omega
          exact h
      generalize A[k] = s at *
      generalize B[k] = t at *
      by_cases hq : s = t
      · have HR := hide3 (HST.out hq)
        have hqq : (s.toList == t.toList) = true := by rw [hq]; simp
        clear hb HNE HST HALL hq
        go_wp2_with fail
        refine wp_region_keep HK.out (by kernel_rfl) (by kernel_rfl) (by first | exact HO.out | exact HK.out.drew HO.out) ?_
        intro C hin hout
        have HIN := hide3 hin
        have HOUT := hide3 hout
        clear hin hout HO
        repeat
          (with_reducible refine wpQuiet_step (fun K hK => ?_)
           go_simp
           first
             | (refine hK _ ?_; clear hK K)
             | (apply Exists.intro; refine ⟨fun w1 hC => ?_, hK _ ?_⟩; (focus ((first | (exact rfl) | (obtain ⟨hb1, ⟨p0, p1⟩, ⟨q0, q1⟩⟩ := HOUT.out w1 hC; clear hC; go_simp; first | done | exact rfl)); done)); clear hK K))
        refine wpQuiet_nil ?_
        intro wn hC
        have HO := hide3 (HOUT.out _ hC)
        clear hC HIN HOUT C
        obtain ⟨hb1, ⟨p0, p1⟩, ⟨q0, q1⟩⟩ := HO.out
        go_wp2
        exact ⟨⟨k + 1, by omega, by go_num, HO.out.1, HR.out⟩, by simp [intOf]; omega⟩
      · have HR := hide3 (HNE.out hq)
        have hqq : (s.toList == t.toList) = false := by rw [beq_eq_false_iff_ne]; exact fun e => hq (str_same e)
        clear hb HNE HST HALL hq
        go_wp2_with fail
        refine wp_region_keep HK.out (by kernel_rfl) (by kernel_rfl) (by first | exact HO.out | exact HK.out.drew HO.out) ?_
        intro C hin hout
        have HIN := hide3 hin
        have HOUT := hide3 hout
        clear hin hout HO
        repeat
          (with_reducible refine wpQuiet_step (fun K hK => ?_)
           go_simp
           first
             | (refine hK _ ?_; clear hK K)
             | (apply Exists.intro; refine ⟨fun w1 hC => ?_, hK _ ?_⟩; (focus ((first | (exact rfl) | (obtain ⟨hb1, ⟨p0, p1⟩, ⟨q0, q1⟩⟩ := HOUT.out w1 hC; clear hC; go_simp; first | done | exact rfl)); done)); clear hK K))
        refine wpQuiet_nil ?_
        intro wn hC
        have HO := hide3 (HOUT.out _ hC)
        clear hC HIN HOUT C
        obtain ⟨hb1, ⟨p0, p1⟩, ⟨q0, q1⟩⟩ := HO.out
        go_wp2
        go_ret
        exact ⟨ret_bool HR.out.symm, HO.out.1⟩
    · have hke : k = A.length := by omega
      subst hke
      have HR : Hid (eqB A B = true) := eqB_yes (List.ext_getElem HAB.out fun j h1 h2 => HALL.out j h1 h1 h2)
      clear hb
      go_wp2
      go_ret
      exact ⟨ret_bool HR.out.symm, HB.out⟩

theorem EqualS_nil (ad bd : Option Addr) (ca cb : Nat) (w : World) :
    Calls Tryz.prog 55 #[.slice ad 0 ca, .slice bd 0 cb] w fun e w' => e = .returned (.bool true) ∧ Below w.heap.size w w' := by
  go_enter Tryz.func55, Tryz.ntmps55
  go_wp2_with fail
  go_loop [13] (fun i => i = .int .i64 0) (fun _ => 0)
  case atStart => rfl
  case round =>
    subst hrel
    go_wp2
    go_ret
    exact ⟨rfl, Below.refl _ _⟩

theorem EqualS_len (ad bd : Option Addr) (n m ca cb : Nat) (h : n ≠ m) (w : World) :
    Calls Tryz.prog 55 #[.slice ad n ca, .slice bd m cb] w fun e w' => e = .returned (.bool false) ∧ Below w.heap.size w w' := by
  have hn : ((n : Int) = (m : Int)) = False := by simp; omega
  go_enter Tryz.func55, Tryz.ntmps55
  go_wp2
  go_ret
  exact ⟨rfl, Below.refl _ _⟩

theorem EqualS_any {A B : List ByteArray} {va vb : Value} {w : World} (ha : PathAt w va A) (hb : PathAt w vb B) (hsz : A.length ≤ 9223372036854775807) :
    Calls Tryz.prog 55 #[va, vb] w fun e w' => e = .returned (.bool (eqB A B)) ∧ Below w.heap.size w w' := by
  obtain ⟨ad, ca, rfl, _, hl⟩ := ha
  obtain ⟨bd, cb, rfl, _, hm⟩ := hb
  by_cases hn : A.length = B.length
  · rcases hl with rfl | ⟨ga, oa, rfl, hla⟩
    · obtain rfl : B = [] := List.eq_nil_of_length_eq_zero (by simpa using hn.symm)
      rw [eqB_yes rfl]
      exact EqualS_nil _ _ _ _ w
    · rcases hm with rfl | ⟨gb, ob, rfl, hlb⟩
      · obtain rfl : A = [] := List.eq_nil_of_length_eq_zero (by simpa using hn)
        rw [eqB_yes rfl]
        exact EqualS_nil _ _ _ _ w
      · exact EqualS_walk A B hn hsz ga oa ca gb ob cb w hla hlb
  · rw [eqB_no fun e => hn (by rw [e])]
    exact EqualS_len _ _ _ _ _ _ hn w

/-- A directory: its path, its package, its node. -/
structure Dr where
  pa : List ByteArray
  pk : Pg
  nd : Int

/-- A directory lies at a place: its path's slice u, its package's lists v1 v2 v3. -/
def DrIn (w : World) (g o : Nat) (D : Dr) (u v1 v2 v3 : Value) : Prop :=
  (w.cell? ⟨g, o, none⟩ = some u ∧ w.cell? ⟨g, o + 1, none⟩ = some (.string D.pk.nm) ∧ w.cell? ⟨g, o + 2, none⟩ = some (.int .i64 D.pk.a) ∧ w.cell? ⟨g, o + 3, none⟩ = some (.int .i64 D.pk.b) ∧ w.cell? ⟨g, o + 4, none⟩ = some (.int .i64 D.pk.c) ∧ w.cell? ⟨g, o + 5, none⟩ = some v1 ∧ w.cell? ⟨g, o + 6, none⟩ = some v2 ∧ w.cell? ⟨g, o + 7, none⟩ = some v3 ∧ w.cell? ⟨g, o + 8, none⟩ = some (.int .i64 D.nd)) ∧ (PathAt w u D.pa ∧ PgAt w D.pk v1 v2 v3) ∧ g < w.heap.size
theorem DrIn.below {w w' : World} {g o : Nat} {D : Dr} {u v1 v2 v3 : Value} (h : DrIn w g o D u v1 v2 v3) (hb : Below w.heap.size w w') : DrIn w' g o D u v1 v2 v3 := by
  obtain ⟨⟨h0, h1, h2, h3, h4, h5, h6, h7, h8⟩, ⟨hp, hq⟩, hg⟩ := h
  have q : ∀ i, w'.cell? ⟨g, i, none⟩ = w.cell? ⟨g, i, none⟩ := fun i => hb.cell (p := ⟨g, i, none⟩) hg
  exact ⟨⟨by rw [q]; exact h0, by rw [q]; exact h1, by rw [q]; exact h2, by rw [q]; exact h3, by rw [q]; exact h4, by rw [q]; exact h5, by rw [q]; exact h6, by rw [q]; exact h7, by rw [q]; exact h8⟩, ⟨hp.below hb, hq.below hb⟩, Nat.lt_of_lt_of_le hg hb.size⟩
theorem keepDr (g o : Nat) (D : Dr) (u v1 v2 v3 : Value) : KeepP fun w1 => DrIn w1 g o D u v1 v2 v3 := fun _ _ h hb => h.below hb

/-- Directories lie there. -/
def DirsAt (w : World) (v : Value) (L : List Dr) : Prop := ∃ ad cap, v = .slice ad L.length cap ∧ L.length ≤ cap ∧ (L = [] ∨ ∃ g o, ad = some ⟨g, o, none⟩ ∧ ∀ i (h : i < L.length), ∃ u v1 v2 v3, DrIn w g (o + i * 9) L[i] u v1 v2 v3)
theorem DirsAt.below {w w' : World} {v : Value} {L : List Dr} (h : DirsAt w v L) (hb : Below w.heap.size w w') : DirsAt w' v L := by
  obtain ⟨ad, cap, hv, hc, hl⟩ := h
  refine ⟨ad, cap, hv, hc, hl.imp id ?_⟩
  rintro ⟨g, o, ha, hs⟩
  exact ⟨g, o, ha, fun i hi => by obtain ⟨u, v1, v2, v3, h⟩ := hs i hi; exact ⟨u, v1, v2, v3, h.below hb⟩⟩
theorem keepDirs (v : Value) (L : List Dr) : KeepP fun w1 => DirsAt w1 v L := fun _ _ h hb => h.below hb
theorem DirsAt.sl {w : World} {v : Value} {L : List Dr} (h : DirsAt w v L) : ∃ ad cap, v = .slice ad L.length cap ∧ L.length ≤ cap ∧ ∀ i (_ : i < L.length), ∃ g o, ad = some ⟨g, o, none⟩ ∧ ∃ u v1 v2 v3, DrIn w g (o + i * 9) L[i] u v1 v2 v3 := by
  obtain ⟨ad, cap, hv, hc, hl⟩ := h
  refine ⟨ad, cap, hv, hc, fun i hi => ?_⟩
  rcases hl with rfl | ⟨g, o, ha, hs⟩
  · cases hi
  · exact ⟨g, o, ha, hs i hi⟩
/-- The first directories. -/
theorem DirsAt.cut {w : World} {ad : Option Addr} {n cap : Nat} {L : List Dr} (h : DirsAt w (.slice ad n cap) L) {k : Nat} (hk : k ≤ n) : DirsAt w (.slice ad k cap) (L.take k) := by
  obtain ⟨ad', cap', hv, hc, hl⟩ := h
  injection hv with e1 e2 e3
  subst e1 e2 e3
  have hkl : (L.take k).length = k := by rw [List.length_take]; omega
  refine ⟨ad, cap, by rw [hkl], by omega, ?_⟩
  rcases hl with rfl | ⟨g, o, ha, hs⟩
  · exact Or.inl (by simp)
  · exact Or.inr ⟨g, o, ha, fun i hi => by rw [List.getElem_take]; exact hs i (by omega)⟩

/-- Each path fits. -/
def FitD (L : List Dr) : Prop := ∀ d ∈ L, d.pa.length ≤ 9223372036854775807
end Go.Proofs.YtogpkhpephhbiaaGreatDoor
