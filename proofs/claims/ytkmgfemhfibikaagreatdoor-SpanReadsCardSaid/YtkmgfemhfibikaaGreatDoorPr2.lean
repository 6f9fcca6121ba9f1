/- Print of package span: a range's text. -/
import Derived.Test.YtkmgfemhfibikaaGreatDoorPr1
import Derived.Lib.Join
namespace Go.Proofs.YtkmgfemhfibikaaGreatDoor
open Go.RowKit
set_option maxRecDepth 100000

theorem infoStr : (Tryz.prog.info? 9).map (fun i => (i.zero, i.size, i.bytes)) = some (some (.string ByteArray.empty), 1, 16) := by kernel_rfl

/-- A row of texts of one's own. -/
def OwnT (w : World) (B : Nat) (v : Value) (ts : List ByteArray) : Prop := w.ownsRow B 9 1 v ts.length (ts.map Value.string)
theorem OwnT.nil (w : World) (B : Nat) : OwnT w B (.slice none 0 0) [] := ⟨rfl, Or.inl ⟨rfl, rfl⟩⟩
theorem OwnT.lt {w : World} {B : Nat} {v : Value} {L : List ByteArray} (h : OwnT w B v L) {g : Nat} (hg : v.ownBlock = some g) : g < w.heap.size ∧ B ≤ g := by
  rcases h.2 with ⟨rfl, _⟩ | ⟨g', cap, cur, rfl, hB, hgg, _⟩
  · cases hg
  · cases hg
    exact ⟨by rw [Array.getElem?_eq_some_iff] at hgg; exact hgg.1, hB⟩
theorem OwnT.below {w w' : World} {B : Nat} {v : Value} {L : List ByteArray} (h : OwnT w B v L) (hb : Below w.heap.size w w') : OwnT w' B v L := by
  refine ⟨h.1, ?_⟩
  have hl := fun g hg => (h.lt (g := g) hg).1
  rcases h.2 with hn | ⟨g, cap, cur, rfl, hB, hgg, r⟩
  · exact Or.inl hn
  · exact Or.inr ⟨g, cap, cur, rfl, hB, (hb.block g (hl g rfl)).trans hgg, r⟩

/-- A text is put behind a row. -/
theorem wp_appT {w wx : World} {uo : Value} {ts : List ByteArray} {tx : ByteArray} {ops : Array Oper} {rest : List Oper} {o : Oper} {f : Act} {Q : Exit → Act → World → Prop} (hgd : o.guard = none) (s t : Operand)
    (ho : o.op = .call { callee := .builtin .append, args := #[s, t], argTypes := #[41, 41] }) (hs : f.eval s = uo)
    (hK : Below w.heap.size w wx ∧ OwnT wx w.heap.size uo ts) {M : Nat} (hM : wx.heap.size = M) (hx : f.eval t = .slice (some ⟨M, 0, none⟩) 1 1) (hlen : ts.length + 1 ≤ 1000000000000)
    (h : ∀ v1 w1, (Below w.heap.size w w1 ∧ OwnT w1 w.heap.size v1 (ts ++ [tx])) → wpList Tryz.prog ops Q rest (f.put o.dst v1) w1) :
    wpList Tryz.prog ops Q (o :: rest) f (wx.alloc (.cells #[.string tx] 9)) := by
  subst hM
  obtain ⟨i0, hi, hz0, hz1, hz2⟩ : ∃ i, Tryz.prog.info? 9 = some i ∧ i.zero = some (.string ByteArray.empty) ∧ i.size = 1 ∧ i.bytes = 16 := by
    have := infoStr
    cases hq : Tryz.prog.info? 9 with
    | none => rw [hq] at this; cases this
    | some i =>
      rw [hq] at this
      simp only [Option.map_some, Option.some.injEq, Prod.mk.injEq] at this
      exact ⟨i, rfl, this.1, this.2.1, this.2.2⟩
  have hob : OwnT (wx.alloc (.cells #[.string tx] 9)) w.heap.size uo ts := hK.2.below (boxB _ _)
  have hsz : (wx.alloc (.cells #[.string tx] 9)).heap.size = wx.heap.size + 1 := by simp
  have hwx := hK.1.size
  refine wpList_append_own_at _ hgd s t 41 ho w.heap.size 9 i0 _ 1 16 Tryz.underlying41 hi hz0 hz1 hz2 rfl (by decide) uo _ _ hs hob ⟨wx.heap.size, 0, none⟩ 1 1 [.string tx] hx rfl
    (World.news_of_block (cs := #[.string tx]) (t := 9) (fr := (0, 0)) (by show (wx.heap.push _)[wx.heap.size]? = _; rw [Array.getElem?_push, if_pos rfl])) (by simp [Value.oneCell']) (by unfold maxLen; omega) (by omega) (by omega) ?_
  intro v1 w1 hown1 hg1 _ hat
  refine h v1 w1 ⟨(below_then hK.1 (boxB _ _)).grown hg1 (by omega) (fun k hk => (hK.2.lt hk).2), ?_⟩
  unfold OwnT
  rw [List.map_append, List.map_singleton, List.length_append]
  exact hown1

/-- A span's text, by its places; a range's. -/
def spT (p : Int × Int) : ByteArray := spanT (atA p.1) (atB p.1) (atC p.1) (atA p.2) (atB p.2) (atC p.2)
def printR (A : Rg) : ByteArray := match A with
  | [] => ⟨#[60]⟩ ++ textV 0 0 0
  | p :: A => ⟨(Lib.join ((p :: A).map fun p => (spT p).data.toList) [32, 124, 124, 32]).toArray⟩

theorem spanT_size (a b c x y z : Int) : (spanT a b c x y z).size ≤ 27 := by
  have h1 := text_size a b c
  have h2 := text_size x y z
  have z2 : (⟨#[62, 61]⟩ : ByteArray).size = 2 := rfl
  have z4 : (⟨#[60, 61]⟩ : ByteArray).size = 2 := rfl
  have z5 : (⟨#[42]⟩ : ByteArray).size = 1 := rfl
  have z3 : (⟨#[32, 60, 61]⟩ : ByteArray).size = 3 := rfl
  unfold spanT
  repeat' split
  all_goals first | omega | (simp only [size_cat]; omega)
theorem lens_le (m : Nat) : ∀ (l : List (List UInt8)), (∀ x ∈ l, x.length ≤ m) → Lib.lens l ≤ m * l.length
  | [], _ => by simp [Lib.lens]
  | x :: l, h => by
    have ih := lens_le m l fun y hy => h y (List.mem_cons_of_mem _ hy)
    have hx := h x List.mem_cons_self
    have : Lib.lens (x :: l) = x.length + Lib.lens l := by simp [Lib.lens]
    rw [this, List.length_cons, Nat.mul_succ]; omega

theorem join_fits {A : Rg} (h : A.length ≤ 64) : (Lib.join (A.map fun p => (spT p).data.toList) [32, 124, 124, 32]).length ≤ 10000 := by
  cases A with
  | nil => simp [Lib.join_nil]
  | cons p A =>
    rw [List.map_cons, Lib.join_length, ← List.map_cons (f := fun p => (spT p).data.toList)]
    have := lens_le 27 ((p :: A).map fun p => (spT p).data.toList) (by
      intro x hx
      obtain ⟨q, _, rfl⟩ := List.mem_map.1 hx
      exact spanT_size _ _ _ _ _ _)
    simp only [List.length_map, List.length_cons, List.length_nil] at *
    omega

theorem Join_own {w : World} {B : Nat} {v : Value} {A : Rg} (h : OwnT w B v (A.map spT)) (hl : A.length ≤ 64) (h0 : A ≠ []) :
    Calls Tryz.prog 40 #[v, .string ⟨#[32, 124, 124, 32]⟩] w fun e w' => e = .returned (.string (printR A)) ∧ Below w.heap.size w w' := by
  have hlt := fun g hg => (h.lt (g := g) hg).1
  rcases h.2 with ⟨_, hn⟩ | ⟨g, cap, cur, rfl, hB, hgg, hc, hm, hs, hx⟩
  · rw [List.length_map] at hn
    exact (h0 (List.eq_nil_of_length_eq_zero hn)).elim
  · have hj := join_fits hl
    have hmm : (A.map spT).map (·.data.toList) = A.map fun p => (spT p).data.toList := by rw [List.map_map]; rfl
    refine (Tryz.strings_Join g 0 cap (A.map spT) ⟨#[32, 124, 124, 32]⟩ w ?_ (hlt g rfl) (by rw [List.length_map]; omega) hc (by rw [hmm]; show (Lib.join _ [32, 124, 124, 32]).length ≤ _; omega)).mono ?_
    · intro j x hj
      have : (((A.map spT).map Value.string))[j]? = some (.string x) := by rw [List.getElem?_map, hj]; rfl
      rw [← hx, List.getElem?_take] at this
      split at this
      · rw [Nat.zero_add]
        simp [World.cell?, hgg]
        simpa using this
      · cases this
    · rintro e w' ⟨rfl, hb⟩
      refine ⟨?_, hb⟩
      rw [hmm]
      cases A with
      | nil => exact (h0 rfl).elim
      | cons p A => rfl

set_option maxHeartbeats 3200000 in
theorem sPrint_walk (A : Rg) (g o cap : Nat) (w : World) (he : Env w) (hf : FL w) (hlen : A.length ≤ 64) (h0 : ((A.length : Int) == 0) = false) (hg : g < w.heap.size) (hl : ∀ i (h : i < A.length), SpAt w g (o + i * 6) (spR A[i]))
    (HMay : Hid (Calls Tryz.prog 32 #[.slice (some ⟨g, o, none⟩) A.length cap] w fun e w' => e = .returned (.bool true) ∧ Below w.heap.size w w')) :
    Calls Tryz.prog 22 #[.slice (some ⟨g, o, none⟩) A.length cap] w fun e w' => e = .returned (.string (printR A)) ∧ Below w.heap.size w w' := by
  have HL : Hid (∀ w1, Below w.heap.size w w1 → ∀ i (h : i < A.length), SpAt w1 g (o + i * 6) (spR A[i])) := fun w1 hb i hi => (hl i hi).below hb hg
  have HP : Hid (∀ (p : Int × Int) w1, Below w.heap.size w w1 → Calls Tryz.prog 39 #[.agg #[.int .i64 (atA p.1), .int .i64 (atB p.1), .int .i64 (atC p.1), .int .i64 (atA p.2), .int .i64 (atB p.2), .int .i64 (atC p.2)]] w1 fun e w' => e = .returned (.string (spT p)) ∧ Below w1.heap.size w1 w') := fun p w1 hb => printSpan_any _ _ _ _ _ _ w1 (he.below hb) (hf.below hb)
  have HJ : Hid (∀ w1 v1, OwnT w1 w.heap.size v1 (A.map spT) → Calls Tryz.prog 40 #[v1, .string ⟨#[32, 124, 124, 32]⟩] w1 fun e w' => e = .returned (.string (printR A)) ∧ Below w1.heap.size w1 w') := fun w1 v1 h => Join_own h hlen (fun e => by subst e; simp at h0)
  clear hl he hf
  go_enter Tryz.func22, Tryz.ntmps22
  go_wp2_with (go_at_call 32; refine HMay.out.mono ?_; rintro e w1 ⟨rfl, ok1⟩; have HO1 := hide3 ok1; clear ok1)
  go_loopw [3, 17] (fun out i wr => ∃ k : Nat, k ≤ A.length ∧ i = .int .i64 k ∧ Below w.heap.size w wr ∧ OwnT wr w.heap.size out ((A.take k).map spT)) (fun _ i _ => A.length - (intOf i).toNat)
  case atStart => exact ⟨0, Nat.zero_le _, rfl, HO1.out, OwnT.nil _ _⟩
  case round =>
    obtain ⟨k, hk, rfl, hb, hown⟩ := hrel
    have HB := hide3 hb
    have HOWN := hide3 hown
    clear hown
    by_cases hlt : k < A.length
    · have hs := HL.out wr hb k hlt
      have HD : Hid ((A.take k).map spT ++ [spT A[k]] = (A.take (k + 1)).map spT) := by unfold Hid; rw [List.take_succ_eq_append_getElem hlt, List.map_append]; rfl
      generalize A[k] = p at *
      obtain ⟨lo, hi⟩ := p
      obtain ⟨c0, c1, c2, c3, c4, c5⟩ := hs
      simp only [spR] at c0 c1 c2 c3 c4 c5
      have HPp := hide3 (fun w1 hb => HP.out (lo, hi) w1 hb)
      have HLN : Hid (((A.take k).map spT).length + 1 ≤ 1000000000000) := by unfold Hid; simp; omega
      clear hb
      go_wp2_with (first
        | (go_at_call 39; refine (HPp.out _ (below_then HB.out (boxB _ _))).mono ?_; rintro e w2 ⟨rfl, ok2⟩; have HO2 : Hid (Below w.heap.size w w2 ∧ OwnT w2 w.heap.size u3 ((A.take k).map spT)) := ⟨below_then (below_then HB.out (boxB _ _)) ok2, (HOWN.out.below (boxB _ _)).below ok2⟩; clear ok2)
        | (at_builtin; refine wp_appT (uo := u3) (ts := (A.take k).map spT) rfl (.tmp 21) (.tmp 24) rfl rfl HO2.out rfl rfl HLN.out ?_; intro v3 w3 ok3; have HO3 := hide3 ok3; clear ok3))
      exact ⟨⟨k + 1, by omega, by go_num, HO3.out.1, by rw [← HD.out]; exact HO3.out.2⟩, by simp [intOf]; omega⟩
    · have hke : k = A.length := by omega
      subst hke
      have HOW2 : Hid (OwnT wr w.heap.size u3 (A.map spT)) := by have := HOWN.out; rw [List.take_length] at this; exact this
      clear hb
      go_wp2_with (go_at_call 40; refine (HJ.out _ _ HOW2.out).mono ?_; rintro e w2 ⟨rfl, ok2⟩; have HO2 := hide3 ok2; clear ok2)
      go_ret
      exact ⟨rfl, below_then HB.out HO2.out⟩

theorem sPrint_no (v : Value) (w : World) (HMay : Hid (Calls Tryz.prog 32 #[v] w fun e w' => e = .returned (.bool false) ∧ Below w.heap.size w w')) :
    Calls Tryz.prog 22 #[v] w fun e w' => e = .returned (.string ByteArray.empty) ∧ Below w.heap.size w w' := by
  go_enter Tryz.func22, Tryz.ntmps22
  go_wp2_with (go_at_call 32; refine HMay.out.mono ?_; rintro e w1 ⟨rfl, ok1⟩; have HO1 := hide3 ok1; clear ok1)
  go_ret
  exact ⟨rfl, HO1.out⟩

theorem sPrint_nil (ad : Option Addr) (cap : Nat) (w : World) (he : Env w) (hf : FL w) :
    Calls Tryz.prog 22 #[.slice ad 0 cap] w fun e w' => e = .returned (.string (printR [])) ∧ Below w.heap.size w w' := by
  have HMay := hide3 (sMay_nil ad cap w)
  have HP : Hid (∀ w1, Below w.heap.size w w1 → Calls Tryz.prog 38 #[.agg #[.int .i64 0, .int .i64 0, .int .i64 0]] w1 fun e w' => e = .returned (.string (textV 0 0 0)) ∧ Below w1.heap.size w1 w') := fun w1 hb => print_on he.tab 0 0 0 w1 hb
  have HF := hide3 hf
  have HR : Hid (printR [] = ⟨#[60]⟩ ++ textV 0 0 0) := rfl
  have zT := text_size 0 0 0
  have z2 : (⟨#[60]⟩ : ByteArray).size = 1 := rfl
  generalize textV 0 0 0 = T at *
  have s1 := fun W : World => run_string_add_sum (P := Tryz.prog) (w := W) ⟨#[60]⟩ T (by omega)
  clear zT z2 he hf
  go_enter Tryz.func22, Tryz.ntmps22
  go_wp2_with (first
    | (go_at_call 32; refine HMay.out.mono ?_; rintro e w1 ⟨rfl, ok1⟩; obtain ⟨⟨g0, g1, g2⟩, _⟩ := HF.out.below ok1; have HO1 := hide3 ok1; clear ok1)
    | (go_at_call 38; refine (HP.out _ HO1.out).mono ?_; rintro e w2 ⟨rfl, ok2⟩; have HO2 := hide3 ok2; clear ok2))
  go_ret
  exact ⟨by rw [HR.out]; rfl, below_then HO1.out HO2.out⟩

theorem sPrint_rg {A : Rg} (hA : RangeR A) (hl : A.length ≤ 64) {v : Value} {w : World} (h : SpansR w v A) (he : Env w) (hf : FL w) :
    Calls Tryz.prog 22 #[v] w fun e w' => e = .returned (.string (printR A)) ∧ Below w.heap.size w w' := by
  have HM : Hid (Calls Tryz.prog 32 #[v] w fun e w' => e = .returned (.bool true) ∧ Below w.heap.size w w') := by have := sMay_any h.at; rw [may_rg hA hl] at this; exact this
  obtain ⟨ad, cap, rfl, hc, hs⟩ := h
  rcases hs with rfl | ⟨g, o, rfl, hg, hs⟩
  · exact sPrint_nil ad cap w he hf
  · cases A with
    | nil => exact sPrint_nil _ cap w he hf
    | cons p A => exact sPrint_walk (p :: A) g o cap w he hf hl (by simp; omega) hg hs HM
end Go.Proofs.YtkmgfemhfibikaaGreatDoor
