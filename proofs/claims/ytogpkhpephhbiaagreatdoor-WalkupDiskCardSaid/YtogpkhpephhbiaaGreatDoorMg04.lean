/- Facts2, Ref1, Next1, Next2, Next3, Parse1, Boxes2, Parse2, Parse3, Tx2, Tx3, Tx4, Tx5, Pr1, Pr2, Kn1, Pk1, laid in one text. -/
import Derived.Laws.IdiomStrings
import Derived.Deep.RegionWith
import Derived.Shelf.Strconv.AtoiAll
import Derived.Shelf.Strings.Cut
import Derived.Shelf.Strings.Split
import Derived.Shelf.Strings.IndexAnyAll
import Derived.Test.YtogpkhpephhbiaaGreatDoorShelfC
import Derived.Lib.SplitLaws
import Derived.Lib.Join
import Derived.Test.YtogpkhpephhbiaaGreatDoorMg03
namespace Go.Proofs.YtogpkhpephhbiaaGreatDoor
set_option maxRecDepth 100000

/-- The number that a row of digits spells. -/
def valOf (l : List UInt8) : Nat := l.foldl (fun n d => n * 10 + (d.toNat - 48)) 0

theorem val_snoc (l : List UInt8) (d : UInt8) : valOf (l ++ [d]) = valOf l * 10 + (d.toNat - 48) := by simp [valOf]

theorem digit_nat {k : Nat} (h : k < 10) : (UInt8.ofNat (48 + k)).toNat = 48 + k := by
  rw [UInt8.toNat_ofNat']; omega

theorem val_dec (u : Nat) : valOf (Lib.decDigits u) = u := by
  induction u using Nat.strongRecOn with
  | _ u ih =>
    rw [Lib.decDigits]
    split
    · rename_i h
      have := digit_nat h
      simp [valOf]; omega
    · rename_i h
      rw [val_snoc, ih (u / 10) (by omega)]
      have := digit_nat (k := u % 10) (by omega)
      omega

theorem dec_digits (u : Nat) : ∀ d ∈ Lib.decDigits u, 48 ≤ d.toNat ∧ d.toNat ≤ 57 := by
  induction u using Nat.strongRecOn with
  | _ u ih =>
    rw [Lib.decDigits]
    split
    · rename_i h
      intro d hd
      have := digit_nat h
      rw [List.mem_singleton] at hd; subst hd; omega
    · rename_i h
      intro d hd
      rcases List.mem_append.1 hd with h1 | h1
      · exact ih (u / 10) (by omega) d h1
      · have := digit_nat (k := u % 10) (by omega)
        rw [List.mem_singleton] at h1; subst h1; omega

theorem dec_ne (u : Nat) : Lib.decDigits u ≠ [] := by
  rw [Lib.decDigits]; split <;> simp

theorem itoa_of {n : Int} (h : 0 ≤ n) : Lib.itoa n = Lib.decDigits n.toNat := by
  obtain ⟨u, rfl⟩ : ∃ u : Nat, n = u := ⟨n.toNat, by omega⟩
  rw [Lib.itoa_nonneg]; rfl

theorem no_dot {n : Int} (h : 0 ≤ n) : (46 : UInt8) ∉ Lib.itoa n := by
  rw [itoa_of h]
  intro hd
  have := (dec_digits _ _ hd).1
  revert this; decide

theorem itoa_inj {m n : Int} (hm : 0 ≤ m) (hn : 0 ≤ n) (h : Lib.itoa m = Lib.itoa n) : m = n := by
  rw [itoa_of hm, itoa_of hn] at h
  have := congrArg valOf h
  rw [val_dec, val_dec] at this
  omega

theorem split_dot {l1 l2 r1 r2 : List UInt8} (h1 : (46 : UInt8) ∉ l1) (h2 : (46 : UInt8) ∉ l2) (h : l1 ++ 46 :: r1 = l2 ++ 46 :: r2) : l1 = l2 ∧ r1 = r2 := by
  induction l1 generalizing l2 with
  | nil =>
    cases l2 with
    | nil => simp at h; exact ⟨rfl, h⟩
    | cons x l2 => simp at h; exact absurd (by rw [h.1]; simp) h2
  | cons y l1 ih =>
    cases l2 with
    | nil => simp at h; exact absurd (by rw [h.1]; simp) h1
    | cons x l2 =>
      simp at h
      obtain ⟨e1, e2⟩ := ih (fun m => h1 (List.mem_cons_of_mem _ m)) (fun m => h2 (List.mem_cons_of_mem _ m)) h.2
      exact ⟨by rw [h.1, e1], e2⟩

theorem text_list {a b c : Int} (h : mayV a b c = true) : (textV a b c).data.toList = Lib.itoa a ++ 46 :: (Lib.itoa b ++ 46 :: Lib.itoa c) := by
  unfold textV; rw [if_pos h]
  simp [ByteArray.data_append]

theorem text_inj {a b c x y z : Int} (h : mayV a b c = true) (k : mayV x y z = true) : textV a b c = textV x y z ↔ a = x ∧ b = y ∧ c = z := by
  constructor
  · intro e
    have e1 := congrArg (fun s : ByteArray => s.data.toList) e
    simp only [text_list h, text_list k] at e1
    obtain ⟨a0, _, b0, _, c0, _⟩ := may_all h
    obtain ⟨x0, _, y0, _, z0, _⟩ := may_all k
    obtain ⟨f1, f2⟩ := split_dot (no_dot a0) (no_dot x0) e1
    obtain ⟨f3, f4⟩ := split_dot (no_dot b0) (no_dot y0) f2
    exact ⟨itoa_inj a0 x0 f1, itoa_inj b0 y0 f3, itoa_inj c0 z0 f4⟩
  · rintro ⟨rfl, rfl, rfl⟩; rfl
end Go.Proofs.YtogpkhpephhbiaaGreatDoor
namespace Go.Proofs.YtogpkhpephhbiaaGreatDoor
open Go.RowKit
set_option maxRecDepth 100000

/-- A byte wherever it lies, as a string. -/
theorem byte_at (d : Int) (h0 : 0 ≤ d) (h1 : d < 10) (W : World) (N : Nat) (hN : W.cell? ⟨N, 0, none⟩ = some (.int .u8 (48 + d))) :
    (convert 88 9 (.slice (some ⟨N, 0, none⟩) 1 1)).run Tryz.prog W = .ok (.string ⟨#[UInt8.ofNat (48 + d.toNat)]⟩) W := by
  have e := digit_nat (k := d.toNat) (by omega)
  exact run_convert_bytes_back (P := Tryz.prog) W 88 9 5 ⟨N, 0, none⟩ 1 [UInt8.ofNat (48 + d.toNat)] Tryz.underlying88 Tryz.underlying5 Tryz.underlying9 (fun j hj => by
    have hj0 : j = 0 := by simp at hj; exact hj
    subst hj0
    rw [show (⟨N, 0, none⟩ : Addr).add 0 = ⟨N, 0, none⟩ from rfl, hN]
    simp only [List.getElem_cons_zero]
    rw [e]
    congr 2
    omega)

theorem byte_back (d : Int) (h0 : 0 ≤ d) (h1 : d < 10) (W : World) :
    (convert 88 9 (.slice (some ⟨W.heap.size, 0, none⟩) 1 1)).run Tryz.prog (W.alloc (.cells #[.int .u8 (48 + d)] 5)) = .ok (.string ⟨#[UInt8.ofNat (48 + d.toNat)]⟩) (W.alloc (.cells #[.int .u8 (48 + d)] 5)) :=
  byte_at d h0 h1 _ _ (by rw [World.cell?_alloc_new]; rfl)

theorem itoa_small {n : Int} (h0 : 0 ≤ n) (h1 : n < 10) : Lib.itoa n = [UInt8.ofNat (48 + n.toNat)] := by
  rw [itoa_of h0, Lib.decDigits_one (by omega)]
theorem itoa_more {n : Int} (h0 : 10 ≤ n) : Lib.itoa n = Lib.itoa (n / 10) ++ [UInt8.ofNat (48 + (n % 10).toNat)] := by
  rw [itoa_of (by omega), itoa_of (by omega), Lib.decDigits, dif_neg (by omega)]
  have e1 : n.toNat / 10 = (n / 10).toNat := by omega
  have e2 : n.toNat % 10 = (n % 10).toNat := by omega
  rw [e1, e2]

end Go.Proofs.YtogpkhpephhbiaaGreatDoor
namespace Go.Proofs.YtogpkhpephhbiaaGreatDoor
open Go.RowKit
set_option maxRecDepth 100000

/-- A call whose contract asks that nothing old has turned. -/
theorem lift_on {P : Program} {f : Nat} {args : Array Value} {R : Ending} {w : World} (h : ∀ w1, Below w.heap.size w w1 → Calls P f args w1 fun e w' => e = R ∧ Below w1.heap.size w1 w') {bs : List Bx} (w1 : World) (ok : OKs w bs w1) :
    Calls P f args w1 fun e w' => e = R ∧ OKs w bs w' := by
  refine (h w1 ok.1).mono ?_
  rintro e w' ⟨rfl, hb⟩
  exact ⟨rfl, ok.below hb⟩

end Go.Proofs.YtogpkhpephhbiaaGreatDoor
namespace Go.Proofs.YtogpkhpephhbiaaGreatDoor
open Go.RowKit
set_option maxRecDepth 100000

end Go.Proofs.YtogpkhpephhbiaaGreatDoor
namespace Go.Proofs.YtogpkhpephhbiaaGreatDoor
open Go.RowKit
set_option maxRecDepth 100000

theorem cmp_le {a b c x y z r s t : Int} (h1 : mayV a b c = true) (h2 : mayV x y z = true) (h3 : mayV r s t = true) (hk : 0 ≤ cmpV x y z a b c) (hj : cmpV x y z r s t ≤ 0) : cmpV a b c r s t ≤ 0 := by
  have e1 := cmp_rank h2 h1
  have e2 := cmp_rank h3 h2
  have e3 := cmp_rank h3 h1
  have n1 := cmp_neg a b c r s t
  have n2 := cmp_neg x y z r s t
  have r1 := cmp_rank_eq h1 h3
  rcases cmp_range a b c r s t with e | e | e
  · omega
  · omega
  · have : rankV r s t < rankV a b c := e3.1 (by omega)
    omega

theorem print_on {W : World} (h : Lib.TabIs Tryz.prog W "internal/strconv.uint64pow10" .u64 Lib.pow10Tab) (a b c : Int) (w1 : World) (hb : Below W.heap.size W w1) :
    Calls Tryz.prog 86 #[.agg #[.int .i64 a, .int .i64 b, .int .i64 c]] w1 fun e w' => e = .returned (.string (textV a b c)) ∧ Below w1.heap.size w1 w' := by
  refine Print_any a b c w1 (fun m => ?_) (fun m => ?_) (fun m => ?_) <;> (obtain ⟨a0, a1, b0, b1, c0, c1⟩ := may_all m)
  · exact spells_tab h w1 hb a a0 a1
  · exact spells_tab h w1 hb b b0 b1
  · exact spells_tab h w1 hb c c0 c1

end Go.Proofs.YtogpkhpephhbiaaGreatDoor
namespace Go.Proofs.YtogpkhpephhbiaaGreatDoor
open Go.RowKit
set_option maxRecDepth 100000

/-- What the library's variables hold. -/
structure Env (W : World) : Prop where
  tab : Lib.TabIs Tryz.prog W "internal/strconv.uint64pow10" .u64 Lib.pow10Tab

theorem cell_in {W : World} {a : Addr} {v : Value} (h : W.cell? a = some v) : a.block < W.heap.size := by
  rcases Nat.lt_or_ge a.block W.heap.size with h' | h'
  · exact h'
  · simp [World.cell?, Array.getElem?_eq_none h'] at h

theorem Env.below {W w : World} (h : Env W) (hb : Below W.heap.size W w) : Env w := { tab := Lib.tabBelow_of_tabIs h.tab w hb }

/-- What a part is read as. -/
def numV (l : List UInt8) : Int := match Lib.atoiAll l with
  | .ok v => v
  | _ => -1

theorem numV_i64 (l : List UInt8) : -9223372036854775808 ≤ numV l ∧ numV l ≤ 9223372036854775807 := by
  unfold numV
  cases h : Lib.atoiAll l with
  | ok v => exact Lib.atoiAll_bounds h
  | _ => simp

theorem below_bytes {w w' : World} {t : TypeId} (h : w' = w ∨ ∃ b, w' = Lib.bytesWorld w t b) : Below w.heap.size w w' := by
  rcases h with rfl | ⟨b, rfl⟩
  · exact Below.refl _ _
  · exact Lib.bytesWorld_below _ _ _

end Go.Proofs.YtogpkhpephhbiaaGreatDoor
namespace Go.Proofs.YtogpkhpephhbiaaGreatDoor
open Go.RowKit
set_option maxRecDepth 100000

def OKr (w : World) (N : Nat) (bs : List Bx) (w1 : World) : Prop := OKs w bs w1 ∧ w1.frozen? ⟨N, 0, none⟩ = false ∧ w1.frozen? ⟨N, 1, none⟩ = false ∧ w1.frozen? ⟨N, 2, none⟩ = false ∧ N < w1.heap.size

theorem OKr.below {w : World} {N : Nat} {bs : List Bx} {w1 w' : World} (h : OKr w N bs w1) (hb : Below w1.heap.size w1 w') : OKr w N bs w' :=
  ⟨h.1.below hb, (hb.frozen (p := ⟨N, 0, none⟩) h.2.2.2.2).trans h.2.1, (hb.frozen (p := ⟨N, 1, none⟩) h.2.2.2.2).trans h.2.2.1, (hb.frozen (p := ⟨N, 2, none⟩) h.2.2.2.2).trans h.2.2.2.1, Nat.lt_of_lt_of_le h.2.2.2.2 hb.size⟩
theorem OKr.drew {w : World} {N : Nat} {bs : List Bx} {w1 : World} (h : OKr w N bs w1) : OKr w N bs w1.drew := ⟨h.1.drew, h.2⟩
theorem OKr.box {w : World} {N : Nat} {bs : List Bx} {w1 : World} (h : OKr w N bs w1) {M : Nat} (hM : w1.heap.size = M) (x y z : Value) : OKr w N (⟨M, x, y, z⟩ :: bs) (w1.alloc (.cells #[x, y, z] 59)) := by
  have := h.below (boxB w1 (.cells #[x, y, z] 59))
  exact ⟨h.1.box hM x y z, this.2⟩
theorem OKr.start {w : World} {bs : List Bx} {w1 : World} (h : OKs w bs w1) {M : Nat} (hM : w1.heap.size = M) (x y z : Value) : OKr w M (⟨M, x, y, z⟩ :: bs) (w1.alloc (.cells #[x, y, z] 59)) := by
  refine ⟨h.box hM x y z, ?_⟩
  subst hM
  refine ⟨?_, ?_, ?_, ?_⟩
  · simp
  · simp
  · simp
  · show w1.heap.size < (w1.alloc _).heap.size
    simp

theorem liftr {P : Program} {f : Nat} {args : Array Value} {R : Ending} {w : World} (h : ∀ w1, Below w.heap.size w w1 → Calls P f args w1 fun e w' => e = R ∧ Below w1.heap.size w1 w') {N : Nat} {bs : List Bx} (w1 : World) (ok : OKr w N bs w1) :
    Calls P f args w1 fun e w' => e = R ∧ OKr w N bs w' := by
  refine (h w1 ok.1.1).mono ?_
  rintro e w' ⟨rfl, hb⟩
  exact ⟨rfl, ok.below hb⟩
end Go.Proofs.YtogpkhpephhbiaaGreatDoor
namespace Go.Proofs.YtogpkhpephhbiaaGreatDoor
open Go.RowKit
set_option maxRecDepth 100000

end Go.Proofs.YtogpkhpephhbiaaGreatDoor
namespace Go.Proofs.YtogpkhpephhbiaaGreatDoor
open Go.RowKit
set_option maxRecDepth 100000

def pA (l : List UInt8) : Int := numV (Lib.cut l [46]).1
def pB (l : List UInt8) : Int := numV (Lib.cut (Lib.cut l [46]).2.1 [46]).1
def pC (l : List UInt8) : Int := numV (Lib.cut (Lib.cut l [46]).2.1 [46]).2.1
/-- Is a text a version's? -/
def okP (s : ByteArray) : Bool := mayV (pA s.data.toList) (pB s.data.toList) (pC s.data.toList) && decide (textV (pA s.data.toList) (pB s.data.toList) (pC s.data.toList) = s)
def resA (s : ByteArray) : Int := if okP s then pA s.data.toList else 0
def resB (s : ByteArray) : Int := if okP s then pB s.data.toList else 0
def resC (s : ByteArray) : Int := if okP s then pC s.data.toList else 0

theorem cut_le (l sep : List UInt8) : (Lib.cut l sep).1.length ≤ l.length ∧ (Lib.cut l sep).2.1.length ≤ l.length := by
  unfold Lib.cut
  split
  · simp; omega
  · simp

theorem bytes_list (l : List UInt8) : (⟨l.toArray⟩ : ByteArray).data.toList = l := by simp
theorem bytes_size (l : List UInt8) : (⟨l.toArray⟩ : ByteArray).size = l.length := by show l.toArray.size = _; simp
theorem list_size (s : ByteArray) : s.data.toList.length = s.size := rfl

theorem bytes_same {s t : ByteArray} (h : s.toList = t.toList) : s = t := by
  rw [ByteArray.toList_eq, ByteArray.toList_eq] at h
  cases s; cases t
  simp only [ByteArray.mk.injEq]
  exact Array.toList_inj.1 h

/-- What is told is a version's text. -/
theorem okP_text {s : ByteArray} (h : okP s = true) : mayV (resA s) (resB s) (resC s) = true ∧ s = textV (resA s) (resB s) (resC s) := by
  unfold resA resB resC
  rw [h]
  unfold okP at h
  simp only [Bool.and_eq_true, decide_eq_true_eq] at h
  exact ⟨h.1, h.2.symm⟩

theorem cut_dot (l r : List UInt8) (h : (46 : UInt8) ∉ l) : Lib.cut (l ++ 46 :: r) [46] = (l, r, true) := by
  have hi : Lib.index (l ++ 46 :: r) [46] = l.length := by
    refine Lib.index_first (by simp) (by simp [Lib.occAt]) ?_
    intro j hj
    unfold Lib.occAt
    rw [List.drop_append_of_le_length (by omega)]
    have hd : l.drop j = l[j] :: l.drop (j + 1) := List.drop_eq_getElem_cons hj
    rw [hd]
    simp only [List.cons_append, List.isPrefixOf, Bool.and_true]
    rw [beq_eq_false_iff_ne]
    intro e
    exact h (by rw [e]; exact List.getElem_mem hj)
  unfold Lib.cut
  rw [hi, if_pos (by omega)]
  simp

theorem dec_from (l : List UInt8) (h : ∀ d ∈ l, 48 ≤ d.toNat ∧ d.toNat ≤ 57) (acc : Nat) : Lib.decFrom acc l = some (l.foldl (fun n d => n * 10 + (d.toNat - 48)) acc) := by
  induction l generalizing acc with
  | nil => rfl
  | cons d l ih =>
    have hd := h d (List.mem_cons_self)
    unfold Lib.decFrom
    have : Lib.digitVal d = some (d.toNat - 48) := by
      unfold Lib.digitVal; simp; omega
    rw [this]
    simp only [List.foldl_cons]
    exact ih (fun x hx => h x (List.mem_cons_of_mem _ hx)) _

/-- The numeral of a part is read as that part. -/
theorem num_itoa {n : Int} (h0 : 0 ≤ n) (h1 : n ≤ 999) : numV (Lib.itoa n) = n := by
  have e := itoa_of h0
  have hl : (Lib.itoa n).length ≤ 3 := by have := itoa_three h0 h1; rw [bytes_size] at this; exact this
  have hd := dec_digits n.toNat
  have hv := val_dec n.toNat
  have ha : Lib.atoi (Lib.itoa n) = some n := by
    rw [e]
    cases hc : Lib.decDigits n.toNat with
    | nil => exact absurd hc (dec_ne _)
    | cons b r =>
      rw [hc] at hd hv
      have hb := hd b (List.mem_cons_self)
      have n45 : (b == 45) = false := by rw [beq_eq_false_iff_ne]; rintro rfl; revert hb; decide
      have n43 : (b == 43) = false := by rw [beq_eq_false_iff_ne]; rintro rfl; revert hb; decide
      unfold Lib.atoi
      simp only [n45, n43, Bool.false_eq_true, if_false]
      unfold Lib.decNat
      simp only [List.isEmpty_cons, Bool.false_eq_true, if_false]
      rw [dec_from _ hd]
      unfold valOf at hv
      rw [hv]
      simp
      omega
  unfold numV
  rw [Lib.atoiAll_short _ (by omega), ha]
  rfl

theorem parts_text {a b c : Int} (h : mayV a b c = true) : pA (textV a b c).data.toList = a ∧ pB (textV a b c).data.toList = b ∧ pC (textV a b c).data.toList = c := by
  obtain ⟨a0, a1, b0, b1, c0, c1⟩ := may_all h
  unfold pA pB pC
  rw [text_list h, cut_dot _ _ (no_dot a0)]
  simp only
  rw [cut_dot _ _ (no_dot b0)]
  exact ⟨num_itoa a0 a1, num_itoa b0 b1, num_itoa c0 c1⟩

/-- A version's text is told, as that version. -/
theorem okP_of {a b c : Int} (h : mayV a b c = true) : okP (textV a b c) = true ∧ resA (textV a b c) = a ∧ resB (textV a b c) = b ∧ resC (textV a b c) = c := by
  obtain ⟨e1, e2, e3⟩ := parts_text h
  have ho : okP (textV a b c) = true := by
    unfold okP
    rw [e1, e2, e3, h]
    simp
  unfold resA resB resC
  rw [ho]
  exact ⟨rfl, e1, e2, e3⟩

theorem okP_empty : okP ByteArray.empty = false := by
  rw [Bool.eq_false_iff]
  intro h
  obtain ⟨hm, he⟩ := okP_text h
  have := congrArg (fun s : ByteArray => s.data.toList) he
  simp only [text_list hm] at this
  have h2 := congrArg List.length this
  simp at h2
end Go.Proofs.YtogpkhpephhbiaaGreatDoor
namespace Go.Proofs.YtogpkhpephhbiaaGreatDoor
open Go.RowKit
set_option maxRecDepth 100000

theorem of_list {s : ByteArray} {l : List UInt8} (h : s.data.toList = l) : s = ⟨l.toArray⟩ := by
  cases s with
  | mk d => simp only at h; subst h; simp
theorem beq_no {s : ByteArray} {l : List UInt8} (h : ¬ s.data.toList = l) : (s.toList == l) = false := by
  rw [ByteArray.toList_eq]; simpa using h

/-- The place of the version that a text is. -/
def plP (t : ByteArray) : Int := rankV (resA t) (resB t) (resC t)
theorem plP_ok {t : ByteArray} (h : okP t = true) : okR (plP t) ∧ atA (plP t) = resA t ∧ atB (plP t) = resB t ∧ atC (plP t) = resC t := by
  have m := (okP_text h).1
  have l := rank_low m
  exact ⟨by unfold okR plP; omega, at_rank m⟩

end Go.Proofs.YtogpkhpephhbiaaGreatDoor
namespace Go.Proofs.YtogpkhpephhbiaaGreatDoor
open Go.RowKit
set_option maxRecDepth 100000

/-- Where a word's version begins. -/
def idxK (s : ByteArray) : Nat := (max (Lib.indexAny s.data.toList [48, 49, 50, 51, 52, 53, 54, 55, 56, 57]) 0).toNat
theorem indexAny_lt (c : List UInt8) : ∀ l : List UInt8, Lib.indexAny l c < l.length ∨ Lib.indexAny l c = -1
  | [] => Or.inr rfl
  | b :: l => by
    have ih := indexAny_lt c l
    unfold Lib.indexAny
    simp only [List.length_cons]
    split
    · left; omega
    · split
      · exact Or.inr rfl
      · left
        rename_i h
        simp at h
        omega
theorem idxK_le (s : ByteArray) : idxK s ≤ s.size := by
  unfold idxK
  have h1 := indexAny_lt [48, 49, 50, 51, 52, 53, 54, 55, 56, 57] s.data.toList
  have h2 := list_size s
  have h3 := Lib.indexAny_ge [48, 49, 50, 51, 52, 53, 54, 55, 56, 57] s.data.toList
  omega

/-- A word's versions. -/
def wordR (s : ByteArray) : Option Rg := if s.data.toList = [42] then some allR else if okP (s.extract (idxK s) s.size) = true then signR (s.extract 0 (idxK s)).data.toList (plP (s.extract (idxK s) s.size)) else none
theorem word_rg {s : ByteArray} {R : Rg} (h : wordR s = some R) : RangeR R := by
  unfold wordR at h
  split at h
  · injection h with h; subst h; exact allR_ok
  · split at h
    · rename_i ho
      exact sign_ok (plP_ok ho).1 h
    · cases h

/-- A text whose bytes are all ASCII, or that is long. -/
def Plain8 (s : ByteArray) : Prop := 8 < s.size ∨ ∀ (j : Nat) b, s.data.toList[j]? = some b → b.toNat < 128

end Go.Proofs.YtogpkhpephhbiaaGreatDoor
namespace Go.Proofs.YtogpkhpephhbiaaGreatDoor
open Go.RowKit
set_option maxRecDepth 100000

/-- Texts lie in a row in memory. -/
def Pieces (w : World) (v : Value) (ps : List ByteArray) : Prop := ∃ N, v = .slice (some ⟨N, 0, none⟩) ps.length ps.length ∧ N < w.heap.size ∧ ∀ i (h : i < ps.length), w.cell? ⟨N, i, none⟩ = some (.string ps[i])
theorem Pieces.below {w w' : World} {v : Value} {ps : List ByteArray} (h : Pieces w v ps) (hb : Below w.heap.size w w') : Pieces w' v ps := by
  obtain ⟨N, hv, hN, hc⟩ := h
  exact ⟨N, hv, Nat.lt_of_lt_of_le hN hb.size, fun i hi => (hb.cell (p := ⟨N, i, none⟩) hN).trans (hc i hi)⟩

/-- What stands between separators. -/
def piecesB (s sep : ByteArray) : List ByteArray := Lib.splitB sep 0 (Lib.countB s sep) s
theorem pieces_len (s sep : ByteArray) (h1 : 1 ≤ sep.size) : (piecesB s sep).length = Lib.countB s sep + 1 := Lib.splitB_all sep h1 0 _ s rfl
theorem pieces_size (sep : ByteArray) : ∀ (k : Nat) (s : ByteArray), ∀ p ∈ Lib.splitB sep 0 k s, p.size ≤ s.size
  | 0, s, p, hp => by rw [Lib.splitB_zero] at hp; simp at hp; subst hp; exact Nat.le_refl _
  | k + 1, s, p, hp => by
    unfold Lib.splitB at hp
    split at hp
    · simp at hp; subst hp; exact Nat.le_refl _
    · rcases List.mem_cons.1 hp with rfl | hp
      · rw [ByteArray.size_extract]; omega
      · have := pieces_size sep k _ p hp
        rw [ByteArray.size_extract] at this
        omega

/-- What words have in common, from a range on; whether there was one. -/
def wordsF : Rg → Bool → List ByteArray → Option (Rg × Bool)
  | R, f, [] => some (R, f)
  | R, f, p :: ps => if p.size = 0 then wordsF R f ps else match wordR p with
    | none => none
    | some X => wordsF (meetR R X) true ps
def wordsB (ps : List ByteArray) : Bool := match wordsF allR false ps with
  | some (_, f) => f
  | none => false
def wordsL (ps : List ByteArray) : Rg := match wordsF allR false ps with
  | some (R, _) => R
  | none => []
theorem wordsF_rg : ∀ {ps : List ByteArray} {R R' : Rg} {f f' : Bool}, RangeR R → wordsF R f ps = some (R', f') → RangeR R'
  | [], _, _, _, _, h, e => by simp only [wordsF, Option.some.injEq, Prod.mk.injEq] at e; rw [← e.1]; exact h
  | p :: ps, R, _, f, _, h, e => by
    unfold wordsF at e
    split at e
    · exact wordsF_rg h e
    · split at e
      · cases e
      · rename_i X hX
        exact wordsF_rg (h.meet (word_rg hX)) e
theorem wordsL_rg (ps : List ByteArray) : RangeR (wordsL ps) := by
  unfold wordsL
  split
  · rename_i h; exact wordsF_rg allR_ok h
  · trivial

theorem empty_size {p : ByteArray} : p.toList.isEmpty = decide (p.size = 0) := by
  rw [ByteArray.toList_eq]
  have := list_size p
  cases h : p.data.toList with
  | nil => rw [h, List.length_nil] at this; exact (decide_eq_true this.symm).symm
  | cons _ _ => rw [h, List.length_cons] at this; exact (decide_eq_false (by omega)).symm

end Go.Proofs.YtogpkhpephhbiaaGreatDoor
namespace Go.Proofs.YtogpkhpephhbiaaGreatDoor
open Go.RowKit
set_option maxRecDepth 100000

/-- What alternatives have, from a range on. -/
def altF : Rg → List ByteArray → Option Rg
  | R, [] => some R
  | R, a :: l => if wordsB (piecesB a ⟨#[32]⟩) = true then altF (joinR R (wordsL (piecesB a ⟨#[32]⟩))) l else none
/-- What a text of at most 4096 bytes says. -/
def altR (s : ByteArray) : Option Rg := altF [] (piecesB s ⟨#[124, 124]⟩)
theorem altF_rg : ∀ {l : List ByteArray} {R R' : Rg}, RangeR R → altF R l = some R' → RangeR R'
  | [], _, _, h, e => by simp only [altF, Option.some.injEq] at e; rw [← e]; exact h
  | a :: l, R, _, h, e => by
    unfold altF at e
    split at e
    · exact altF_rg (h.join (wordsL_rg _)) e
    · cases e
theorem altR_rg {s : ByteArray} {R : Rg} (h : altR s = some R) : RangeR R := altF_rg (R := []) trivial h

/-- What Parse makes of what a text says. -/
def parL : Option Rg → Rg
  | none => []
  | some R => fitR R
def parE : Option Rg → Int
  | none => 21
  | some R => fullE R.length

/-- Every word of a text is plain enough. -/
def PlainT (s : ByteArray) : Prop := ∀ a ∈ piecesB s ⟨#[124, 124]⟩, ∀ p ∈ piecesB a ⟨#[32]⟩, p.size ≠ 0 → Plain8 p

end Go.Proofs.YtogpkhpephhbiaaGreatDoor
namespace Go.Proofs.YtogpkhpephhbiaaGreatDoor
open Go.RowKit
set_option maxRecDepth 100000

/-- A span's text. -/
def spanT (a b c x y z : Int) : ByteArray :=
  if a = x ∧ b = y ∧ c = z then textV a b c else if (a = 0 ∧ b = 0 ∧ c = 0) ∧ (x = 999 ∧ y = 999 ∧ z = 999) then ⟨#[42]⟩ else if a = 0 ∧ b = 0 ∧ c = 0 then ⟨#[60, 61]⟩ ++ textV x y z else
  if x = 999 ∧ y = 999 ∧ z = 999 then ⟨#[62, 61]⟩ ++ textV a b c else ((⟨#[62, 61]⟩ ++ textV a b c) ++ ⟨#[32, 60, 61]⟩) ++ textV x y z

theorem text_size (a b c : Int) : (textV a b c).size ≤ 11 := by
  unfold textV
  split
  · rename_i h
    obtain ⟨a0, a1, b0, b1, c0, c1⟩ := may_all h
    have za := itoa_three a0 a1
    have zb := itoa_three b0 b1
    have zc := itoa_three c0 c1
    have zd : (⟨#[46]⟩ : ByteArray).size = 1 := rfl
    rw [size_cat, size_cat, size_cat, size_cat]; omega
  · decide

set_option maxHeartbeats 3200000 in
theorem printSpan_any (a b c x y z : Int) (w : World) (he : Env w) (hf : FL w) :
    Calls Tryz.prog 105 #[.agg #[.int .i64 a, .int .i64 b, .int .i64 c, .int .i64 x, .int .i64 y, .int .i64 z]] w fun e w' => e = .returned (.string (spanT a b c x y z)) ∧ Below w.heap.size w w' := by
  have hg := guardV
  have HPL : Hid (∀ w1, Below w.heap.size w w1 → Calls Tryz.prog 86 #[.agg #[.int .i64 a, .int .i64 b, .int .i64 c]] w1 fun e w' => e = .returned (.string (textV a b c)) ∧ Below w1.heap.size w1 w') := fun w1 hb => print_on he.tab a b c w1 hb
  have HPH : Hid (∀ w1, Below w.heap.size w w1 → Calls Tryz.prog 86 #[.agg #[.int .i64 x, .int .i64 y, .int .i64 z]] w1 fun e w' => e = .returned (.string (textV x y z)) ∧ Below w1.heap.size w1 w') := fun w1 hb => print_on he.tab x y z w1 hb
  have HO : Hid (Below w.heap.size w (w.alloc (.cells #[.int .i64 a, .int .i64 b, .int .i64 c, .int .i64 x, .int .i64 y, .int .i64 z] 148)) ∧ Bx6 (w.alloc (.cells #[.int .i64 a, .int .i64 b, .int .i64 c, .int .i64 x, .int .i64 y, .int .i64 z] 148)) w.heap.size a b c x y z) := ⟨boxB _ _, Bx6.new rfl _ _ _ _ _ _⟩
  have HK : Hid (KeepP fun w1 => Below w.heap.size w w1 ∧ Bx6 w1 w.heap.size a b c x y z) := (keepBelow w).and (keep6 _ _ _ _ _ _ _)
  obtain ⟨⟨g0, g1, g2⟩, ⟨l0, l1, l2⟩, _, _⟩ := hf.below (boxB w (.cells #[.int .i64 a, .int .i64 b, .int .i64 c, .int .i64 x, .int .i64 y, .int .i64 z] 148))
  have e1 := eqlV a b c x y z
  have e2 := eqlV a b c 0 0 0
  have e3 := eqlV x y z 999 999 999
  clear hf he
  by_cases h1 : a = x ∧ b = y ∧ c = z
  · have HT : Hid (spanT a b c x y z = textV a b c) := by unfold Hid spanT; rw [if_pos h1]
    rw [decide_eq_true h1] at e1
    clear h1 e2 e3
    go_enter Tryz.func105, Tryz.ntmps105
    go_wp2_with (go_at_call 86; refine (HPL.out _ HO.out.1).mono ?_; rintro e w1 ⟨rfl, ok1⟩; have HO1 := hide3 ok1; clear ok1)
    go_ret
    exact ⟨by rw [HT.out]; rfl, below_then HO.out.1 HO1.out⟩
  rw [decide_eq_false h1] at e1
  by_cases h2 : a = 0 ∧ b = 0 ∧ c = 0
  · rw [decide_eq_true h2] at e2
    by_cases h3 : x = 999 ∧ y = 999 ∧ z = 999
    · rw [decide_eq_true h3] at e3
      have HT : Hid (spanT a b c x y z = ⟨#[42]⟩) := by unfold Hid spanT; rw [if_neg h1, if_pos ⟨h2, h3⟩]
      clear h1 h2 h3
      go_enter Tryz.func105, Tryz.ntmps105
      go_wp2_with fail
      go_ret
      exact ⟨by rw [HT.out]; rfl, HO.out.1⟩
    · rw [decide_eq_false h3] at e3
      have HT : Hid (spanT a b c x y z = ⟨#[60, 61]⟩ ++ textV x y z) := by unfold Hid spanT; rw [if_neg h1, if_neg (fun h => h3 h.2), if_pos h2]
      clear h1 h2 h3
      have zT := text_size x y z
      have z2 : (⟨#[60, 61]⟩ : ByteArray).size = 2 := rfl
      generalize textV x y z = T at *
      have s1 := fun W : World => run_string_add_sum (P := Tryz.prog) (w := W) ⟨#[60, 61]⟩ T (by omega)
      clear zT z2
      go_enter Tryz.func105, Tryz.ntmps105
      go_wp2_with (go_at_call 86; refine (HPH.out _ HO.out.1).mono ?_; rintro e w1 ⟨rfl, ok1⟩; have HO1 := hide3 ok1; clear ok1)
      go_ret
      exact ⟨by rw [HT.out]; rfl, below_then HO.out.1 HO1.out⟩
  · rw [decide_eq_false h2] at e2
    by_cases h3 : x = 999 ∧ y = 999 ∧ z = 999
    · rw [decide_eq_true h3] at e3
      have HT : Hid (spanT a b c x y z = ⟨#[62, 61]⟩ ++ textV a b c) := by unfold Hid spanT; rw [if_neg h1, if_neg (fun h => h2 h.1), if_neg h2, if_pos h3]
      clear h1 h2 h3
      have zT := text_size a b c
      have z2 : (⟨#[62, 61]⟩ : ByteArray).size = 2 := rfl
      generalize textV a b c = T at *
      have s1 := fun W : World => run_string_add_sum (P := Tryz.prog) (w := W) ⟨#[62, 61]⟩ T (by omega)
      clear zT z2
      go_enter Tryz.func105, Tryz.ntmps105
      go_wp2_with (go_at_call 86; refine (HPL.out _ HO.out.1).mono ?_; rintro e w1 ⟨rfl, ok1⟩; have HO1 := hide3 ok1; clear ok1)
      go_ret
      exact ⟨by rw [HT.out]; rfl, below_then HO.out.1 HO1.out⟩
    · rw [decide_eq_false h3] at e3
      have HT : Hid (spanT a b c x y z = ((⟨#[62, 61]⟩ ++ textV a b c) ++ ⟨#[32, 60, 61]⟩) ++ textV x y z) := by unfold Hid spanT; rw [if_neg h1, if_neg (fun h => h2 h.1), if_neg h2, if_neg h3]
      have HQL : Hid (∀ w1, (Below w.heap.size w w1 ∧ Bx6 w1 w.heap.size a b c x y z) → Calls Tryz.prog 86 #[.agg #[.int .i64 a, .int .i64 b, .int .i64 c]] w1 fun e w' => e = .returned (.string (textV a b c)) ∧ Below w1.heap.size w1 w') := fun w1 h => HPL.out w1 h.1
      have HQH : Hid (∀ w1, (Below w.heap.size w w1 ∧ Bx6 w1 w.heap.size a b c x y z) → Calls Tryz.prog 86 #[.agg #[.int .i64 x, .int .i64 y, .int .i64 z]] w1 fun e w' => e = .returned (.string (textV x y z)) ∧ Below w1.heap.size w1 w') := fun w1 h => HPH.out w1 h.1
      clear h1 h2 h3
      have zT := text_size a b c
      have zU := text_size x y z
      have z2 : (⟨#[62, 61]⟩ : ByteArray).size = 2 := rfl
      have z3 : (⟨#[32, 60, 61]⟩ : ByteArray).size = 3 := rfl
      generalize textV a b c = T at *
      generalize textV x y z = U at *
      have s1 := fun W : World => run_string_add_sum (P := Tryz.prog) (w := W) ⟨#[62, 61]⟩ T (by omega)
      have s2 := fun W : World => run_string_add_sum (P := Tryz.prog) (w := W) (⟨#[62, 61]⟩ ++ T) ⟨#[32, 60, 61]⟩ (by rw [size_cat]; omega)
      have s3 := fun W : World => run_string_add_sum (P := Tryz.prog) (w := W) ((⟨#[62, 61]⟩ ++ T) ++ ⟨#[32, 60, 61]⟩) U (by rw [size_cat, size_cat]; omega)
      clear zT zU z2 z3
      go_enter Tryz.func105, Tryz.ntmps105
      go_wp2_with fail
      refine wp_region_keep HK.out (by kernel_rfl) (by kernel_rfl) (by first | exact HO.out | exact HK.out.drew HO.out) ?_
      intro C hin hout
      have HIN := hide3 hin
      have HOUT := hide3 hout
      clear hin hout HO
      repeat
        (with_reducible refine wpQuiet_step (fun K hK => ?_)
         go_simp
         first
           | (refine hK _ ?_; clear hK K)
           | (apply Exists.intro; refine ⟨fun w1 hC => ?_, hK _ ?_⟩; (focus ((first | (go_at_call 86; with_reducible exact callC' HIN.out HOUT.out HK.out HQL.out w1 hC) | (go_at_call 86; with_reducible exact callC' HIN.out HOUT.out HK.out HQH.out w1 hC) | (exact rfl) | (obtain ⟨hb1, k0, k1, k2, k3, k4, k5, k6⟩ := HOUT.out w1 hC; clear hC; go_simp; first | done | exact rfl)); done)); clear hK K))
      refine wpQuiet_nil ?_
      intro wn hC
      have HO := hide3 (HOUT.out _ hC)
      clear hC HIN HOUT C
      obtain ⟨hb1, k0, k1, k2, k3, k4, k5, k6⟩ := HO.out
      go_wp2
      go_ret
      exact ⟨by rw [HT.out]; rfl, HO.out.1⟩
end Go.Proofs.YtogpkhpephhbiaaGreatDoor
namespace Go.Proofs.YtogpkhpephhbiaaGreatDoor
open Go.RowKit
set_option maxRecDepth 100000

theorem infoStr : (Tryz.prog.info? 9).map (fun i => (i.zero, i.size, i.bytes)) = some (some (.string ByteArray.empty), 1, 16) := by kernel_rfl

/-- A row of texts of one's own. -/
def OwnT (w : World) (B : Nat) (v : Value) (ts : List ByteArray) : Prop := w.ownsRow B 9 1 v ts.length (ts.map Value.string)
theorem OwnT.nil (w : World) (B : Nat) : OwnT w B (.slice none 0 0) [] := ⟨rfl, Or.inl ⟨rfl, rfl⟩⟩
theorem OwnT.lt {w : World} {B : Nat} {v : Value} {L : List ByteArray} (h : OwnT w B v L) {g : Nat} (hg : v.ownBlock = some g) : g < w.heap.size ∧ B ≤ g := by
  rcases h.2 with ⟨rfl, _⟩ | ⟨g', cap, cur, rfl, hB, hgg, _⟩
  · cases hg
  · cases hg
    exact ⟨by rw [Array.getElem?_eq_some_iff] at hgg; exact hgg.1, hB⟩
theorem OwnT.below {w w' : World} {B : Nat} {v : Value} {L : List ByteArray} (h : OwnT w B v L) (hb : Below w.heap.size w w') : OwnT w' B v L := by
  refine ⟨h.1, ?_⟩
  have hl := fun g hg => (h.lt (g := g) hg).1
  rcases h.2 with hn | ⟨g, cap, cur, rfl, hB, hgg, r⟩
  · exact Or.inl hn
  · exact Or.inr ⟨g, cap, cur, rfl, hB, (hb.block g (hl g rfl)).trans hgg, r⟩

/-- A text is put behind a row. -/
theorem wp_appT {w wx : World} {uo : Value} {ts : List ByteArray} {tx : ByteArray} {ops : Array Oper} {rest : List Oper} {o : Oper} {f : Act} {Q : Exit → Act → World → Prop} (hgd : o.guard = none) (s t : Operand)
    (ho : o.op = .call { callee := .builtin .append, args := #[s, t], argTypes := #[53, 53] }) (hs : f.eval s = uo)
    (hK : Below w.heap.size w wx ∧ OwnT wx w.heap.size uo ts) {M : Nat} (hM : wx.heap.size = M) (hx : f.eval t = .slice (some ⟨M, 0, none⟩) 1 1) (hlen : ts.length + 1 ≤ 1000000000000)
    (h : ∀ v1 w1, (Below w.heap.size w w1 ∧ OwnT w1 w.heap.size v1 (ts ++ [tx])) → wpList Tryz.prog ops Q rest (f.put o.dst v1) w1) :
    wpList Tryz.prog ops Q (o :: rest) f (wx.alloc (.cells #[.string tx] 9)) := by
  subst hM
  obtain ⟨i0, hi, hz0, hz1, hz2⟩ : ∃ i, Tryz.prog.info? 9 = some i ∧ i.zero = some (.string ByteArray.empty) ∧ i.size = 1 ∧ i.bytes = 16 := by
    have := infoStr
    cases hq : Tryz.prog.info? 9 with
    | none => rw [hq] at this; cases this
    | some i =>
      rw [hq] at this
      simp only [Option.map_some, Option.some.injEq, Prod.mk.injEq] at this
      exact ⟨i, rfl, this.1, this.2.1, this.2.2⟩
  have hob : OwnT (wx.alloc (.cells #[.string tx] 9)) w.heap.size uo ts := hK.2.below (boxB _ _)
  have hsz : (wx.alloc (.cells #[.string tx] 9)).heap.size = wx.heap.size + 1 := by simp
  have hwx := hK.1.size
  refine wpList_append_own_at _ hgd s t 53 ho w.heap.size 9 i0 _ 1 16 Tryz.underlying53 hi hz0 hz1 hz2 rfl (by decide) uo _ _ hs hob ⟨wx.heap.size, 0, none⟩ 1 1 [.string tx] hx rfl
    (World.news_of_block (cs := #[.string tx]) (t := 9) (fr := (0, 0)) (by show (wx.heap.push _)[wx.heap.size]? = _; rw [Array.getElem?_push, if_pos rfl])) (by simp [Value.oneCell']) (by unfold maxLen; omega) (by omega) (by omega) ?_
  intro v1 w1 hown1 hg1 _ hat
  refine h v1 w1 ⟨(below_then hK.1 (boxB _ _)).grown hg1 (by omega) (fun k hk => (hK.2.lt hk).2), ?_⟩
  unfold OwnT
  rw [List.map_append, List.map_singleton, List.length_append]
  exact hown1

/-- A span's text, by its places; a range's. -/
def spT (p : Int × Int) : ByteArray := spanT (atA p.1) (atB p.1) (atC p.1) (atA p.2) (atB p.2) (atC p.2)
def printR (A : Rg) : ByteArray := match A with
  | [] => ⟨#[60]⟩ ++ textV 0 0 0
  | p :: A => ⟨(Lib.join ((p :: A).map fun p => (spT p).data.toList) [32, 124, 124, 32]).toArray⟩

theorem spanT_size (a b c x y z : Int) : (spanT a b c x y z).size ≤ 27 := by
  have h1 := text_size a b c
  have h2 := text_size x y z
  have z2 : (⟨#[62, 61]⟩ : ByteArray).size = 2 := rfl
  have z4 : (⟨#[60, 61]⟩ : ByteArray).size = 2 := rfl
  have z5 : (⟨#[42]⟩ : ByteArray).size = 1 := rfl
  have z3 : (⟨#[32, 60, 61]⟩ : ByteArray).size = 3 := rfl
  unfold spanT
  repeat' split
  all_goals first | omega | (simp only [size_cat]; omega)
theorem lens_le (m : Nat) : ∀ (l : List (List UInt8)), (∀ x ∈ l, x.length ≤ m) → Lib.lens l ≤ m * l.length
  | [], _ => by simp [Lib.lens]
  | x :: l, h => by
    have ih := lens_le m l fun y hy => h y (List.mem_cons_of_mem _ hy)
    have hx := h x List.mem_cons_self
    have : Lib.lens (x :: l) = x.length + Lib.lens l := by simp [Lib.lens]
    rw [this, List.length_cons, Nat.mul_succ]; omega

theorem join_fits {A : Rg} (h : A.length ≤ 64) : (Lib.join (A.map fun p => (spT p).data.toList) [32, 124, 124, 32]).length ≤ 10000 := by
  cases A with
  | nil => simp [Lib.join_nil]
  | cons p A =>
    rw [List.map_cons, Lib.join_length, ← List.map_cons (f := fun p => (spT p).data.toList)]
    have := lens_le 27 ((p :: A).map fun p => (spT p).data.toList) (by
      intro x hx
      obtain ⟨q, _, rfl⟩ := List.mem_map.1 hx
      exact spanT_size _ _ _ _ _ _)
    simp only [List.length_map, List.length_cons, List.length_nil] at *
    omega

theorem Join_own {w : World} {B : Nat} {v : Value} {A : Rg} (h : OwnT w B v (A.map spT)) (hl : A.length ≤ 64) (h0 : A ≠ []) :
    Calls Tryz.prog 106 #[v, .string ⟨#[32, 124, 124, 32]⟩] w fun e w' => e = .returned (.string (printR A)) ∧ Below w.heap.size w w' := by
  have hlt := fun g hg => (h.lt (g := g) hg).1
  rcases h.2 with ⟨_, hn⟩ | ⟨g, cap, cur, rfl, hB, hgg, hc, hm, hs, hx⟩
  · rw [List.length_map] at hn
    exact (h0 (List.eq_nil_of_length_eq_zero hn)).elim
  · have hj := join_fits hl
    have hmm : (A.map spT).map (·.data.toList) = A.map fun p => (spT p).data.toList := by rw [List.map_map]; rfl
    refine (Tryz.strings_Join g 0 cap (A.map spT) ⟨#[32, 124, 124, 32]⟩ w ?_ (hlt g rfl) (by rw [List.length_map]; omega) hc (by rw [hmm]; show (Lib.join _ [32, 124, 124, 32]).length ≤ _; omega)).mono ?_
    · intro j x hj
      have : (((A.map spT).map Value.string))[j]? = some (.string x) := by rw [List.getElem?_map, hj]; rfl
      rw [← hx, List.getElem?_take] at this
      split at this
      · rw [Nat.zero_add]
        simp [World.cell?, hgg]
        simpa using this
      · cases this
    · rintro e w' ⟨rfl, hb⟩
      refine ⟨?_, hb⟩
      rw [hmm]
      cases A with
      | nil => exact (h0 rfl).elim
      | cons p A => rfl

set_option maxHeartbeats 3200000 in
theorem sPrint_walk (A : Rg) (g o cap : Nat) (w : World) (he : Env w) (hf : FL w) (hlen : A.length ≤ 64) (h0 : ((A.length : Int) == 0) = false) (hg : g < w.heap.size) (hl : ∀ i (h : i < A.length), SpAt w g (o + i * 6) (spR A[i]))
    (HMay : Hid (Calls Tryz.prog 104 #[.slice (some ⟨g, o, none⟩) A.length cap] w fun e w' => e = .returned (.bool true) ∧ Below w.heap.size w w')) :
    Calls Tryz.prog 99 #[.slice (some ⟨g, o, none⟩) A.length cap] w fun e w' => e = .returned (.string (printR A)) ∧ Below w.heap.size w w' := by
  have HL : Hid (∀ w1, Below w.heap.size w w1 → ∀ i (h : i < A.length), SpAt w1 g (o + i * 6) (spR A[i])) := fun w1 hb i hi => (hl i hi).below hb hg
  have HP : Hid (∀ (p : Int × Int) w1, Below w.heap.size w w1 → Calls Tryz.prog 105 #[.agg #[.int .i64 (atA p.1), .int .i64 (atB p.1), .int .i64 (atC p.1), .int .i64 (atA p.2), .int .i64 (atB p.2), .int .i64 (atC p.2)]] w1 fun e w' => e = .returned (.string (spT p)) ∧ Below w1.heap.size w1 w') := fun p w1 hb => printSpan_any _ _ _ _ _ _ w1 (he.below hb) (hf.below hb)
  have HJ : Hid (∀ w1 v1, OwnT w1 w.heap.size v1 (A.map spT) → Calls Tryz.prog 106 #[v1, .string ⟨#[32, 124, 124, 32]⟩] w1 fun e w' => e = .returned (.string (printR A)) ∧ Below w1.heap.size w1 w') := fun w1 v1 h => Join_own h hlen (fun e => by subst e; simp at h0)
  clear hl he hf
  go_enter Tryz.func99, Tryz.ntmps99
  go_wp2_with (go_at_call 104; refine HMay.out.mono ?_; rintro e w1 ⟨rfl, ok1⟩; have HO1 := hide3 ok1; clear ok1)
  go_loopw [3, 17] (fun out i wr => ∃ k : Nat, k ≤ A.length ∧ i = .int .i64 k ∧ Below w.heap.size w wr ∧ OwnT wr w.heap.size out ((A.take k).map spT)) (fun _ i _ => A.length - (intOf i).toNat)
  case atStart => exact ⟨0, Nat.zero_le _, rfl, HO1.out, OwnT.nil _ _⟩
  case round =>
    obtain ⟨k, hk, rfl, hb, hown⟩ := hrel
    have HB := hide3 hb
    have HOWN := hide3 hown
    clear hown
    by_cases hlt : k < A.length
    · have hs := HL.out wr hb k hlt
      have HD : Hid ((A.take k).map spT ++ [spT A[k]] = (A.take (k + 1)).map spT) := by unfold Hid; rw [List.take_succ_eq_append_getElem hlt, List.map_append]; rfl
      generalize A[k] = p at *
      obtain ⟨lo, hi⟩ := p
      obtain ⟨c0, c1, c2, c3, c4, c5⟩ := hs
      simp only [spR] at c0 c1 c2 c3 c4 c5
      have HPp := hide3 (fun w1 hb => HP.out (lo, hi) w1 hb)
      have HLN : Hid (((A.take k).map spT).length + 1 ≤ 1000000000000) := by unfold Hid; simp; omega
      clear hb
      go_wp2_with (first
        | (go_at_call 105; refine (HPp.out _ (below_then HB.out (boxB _ _))).mono ?_; rintro e w2 ⟨rfl, ok2⟩; have HO2 : Hid (Below w.heap.size w w2 ∧ OwnT w2 w.heap.size u3 ((A.take k).map spT)) := ⟨below_then (below_then HB.out (boxB _ _)) ok2, (HOWN.out.below (boxB _ _)).below ok2⟩; clear ok2)
        | (at_builtin; refine wp_appT (uo := u3) (ts := (A.take k).map spT) rfl (.tmp 21) (.tmp 24) rfl rfl HO2.out rfl rfl HLN.out ?_; intro v3 w3 ok3; have HO3 := hide3 ok3; clear ok3))
      exact ⟨⟨k + 1, by omega, by go_num, HO3.out.1, by rw [← HD.out]; exact HO3.out.2⟩, by simp [intOf]; omega⟩
    · have hke : k = A.length := by omega
      subst hke
      have HOW2 : Hid (OwnT wr w.heap.size u3 (A.map spT)) := by have := HOWN.out; rw [List.take_length] at this; exact this
      clear hb
      go_wp2_with (go_at_call 106; refine (HJ.out _ _ HOW2.out).mono ?_; rintro e w2 ⟨rfl, ok2⟩; have HO2 := hide3 ok2; clear ok2)
      go_ret
      exact ⟨rfl, below_then HB.out HO2.out⟩

theorem sPrint_no (v : Value) (w : World) (HMay : Hid (Calls Tryz.prog 104 #[v] w fun e w' => e = .returned (.bool false) ∧ Below w.heap.size w w')) :
    Calls Tryz.prog 99 #[v] w fun e w' => e = .returned (.string ByteArray.empty) ∧ Below w.heap.size w w' := by
  go_enter Tryz.func99, Tryz.ntmps99
  go_wp2_with (go_at_call 104; refine HMay.out.mono ?_; rintro e w1 ⟨rfl, ok1⟩; have HO1 := hide3 ok1; clear ok1)
  go_ret
  exact ⟨rfl, HO1.out⟩

theorem sPrint_nil (ad : Option Addr) (cap : Nat) (w : World) (he : Env w) (hf : FL w) :
    Calls Tryz.prog 99 #[.slice ad 0 cap] w fun e w' => e = .returned (.string (printR [])) ∧ Below w.heap.size w w' := by
  have HMay := hide3 (sMay_nil ad cap w)
  have HP : Hid (∀ w1, Below w.heap.size w w1 → Calls Tryz.prog 86 #[.agg #[.int .i64 0, .int .i64 0, .int .i64 0]] w1 fun e w' => e = .returned (.string (textV 0 0 0)) ∧ Below w1.heap.size w1 w') := fun w1 hb => print_on he.tab 0 0 0 w1 hb
  have HF := hide3 hf
  have HR : Hid (printR [] = ⟨#[60]⟩ ++ textV 0 0 0) := rfl
  have zT := text_size 0 0 0
  have z2 : (⟨#[60]⟩ : ByteArray).size = 1 := rfl
  generalize textV 0 0 0 = T at *
  have s1 := fun W : World => run_string_add_sum (P := Tryz.prog) (w := W) ⟨#[60]⟩ T (by omega)
  clear zT z2 he hf
  go_enter Tryz.func99, Tryz.ntmps99
  go_wp2_with (first
    | (go_at_call 104; refine HMay.out.mono ?_; rintro e w1 ⟨rfl, ok1⟩; obtain ⟨⟨g0, g1, g2⟩, _⟩ := HF.out.below ok1; have HO1 := hide3 ok1; clear ok1)
    | (go_at_call 86; refine (HP.out _ HO1.out).mono ?_; rintro e w2 ⟨rfl, ok2⟩; have HO2 := hide3 ok2; clear ok2))
  go_ret
  exact ⟨by rw [HR.out]; rfl, below_then HO1.out HO2.out⟩

theorem sPrint_rg {A : Rg} (hA : RangeR A) (hl : A.length ≤ 64) {v : Value} {w : World} (h : SpansR w v A) (he : Env w) (hf : FL w) :
    Calls Tryz.prog 99 #[v] w fun e w' => e = .returned (.string (printR A)) ∧ Below w.heap.size w w' := by
  have HM : Hid (Calls Tryz.prog 104 #[v] w fun e w' => e = .returned (.bool true) ∧ Below w.heap.size w w') := by have := sMay_any h.at; rw [may_rg hA hl] at this; exact this
  obtain ⟨ad, cap, rfl, hc, hs⟩ := h
  rcases hs with rfl | ⟨g, o, rfl, hg, hs⟩
  · exact sPrint_nil ad cap w he hf
  · cases A with
    | nil => exact sPrint_nil _ cap w he hf
    | cons p A => exact sPrint_walk (p :: A) g o cap w he hf hl (by simp; omega) hg hs HM
end Go.Proofs.YtogpkhpephhbiaaGreatDoor
namespace Go.Proofs.YtogpkhpephhbiaaGreatDoor
open Go.RowKit
set_option maxRecDepth 100000

theorem eqInV (p q r : Int) (w : World) : (Op.equalIn 9999 59 (.agg #[.int .i64 p, .int .i64 q, .int .i64 r]) (.agg #[.int .i64 p, .int .i64 q, .int .i64 r])).run Tryz.prog w = .ok true w := by
  have u3 := Tryz.underlying3
  have a3 := Tryz.isAgg3
  have z3 := Tryz.sizeOf3
  rw [show (9999 : Nat) = 9998 + 1 from rfl, run_equalIn_agg w 9998 59 _ _ (by kernel_rfl) (by kernel_rfl)]
  simp only [Program.fieldsOf, Tryz.underlying59]
  go_simp

theorem neqSp (a b c x y z : Int) (w : World) : (binOp .neq 148 (.agg #[.int .i64 a, .int .i64 b, .int .i64 c, .int .i64 x, .int .i64 y, .int .i64 z]) (.agg #[.int .i64 a, .int .i64 b, .int .i64 c, .int .i64 x, .int .i64 y, .int .i64 z])).run Tryz.prog w = .ok (.bool false) w := by
  have av := Tryz.isAgg59
  have zv := Tryz.sizeOf59
  have h1 := eqInV a b c w
  have h2 := eqInV x y z w
  rw [run_neq_struct, show (10000 : Nat) = 9999 + 1 from rfl, run_equalIn_agg w 9999 148 _ _ (by kernel_rfl) (by kernel_rfl)]
  simp only [Program.fieldsOf, Tryz.underlying148]
  go_simp
theorem guardSp (op : BinOp) (x y : Operand) (xs ys : Array Value) (w : World) : (eqGuard op 148 x y (.agg xs) (.agg ys)).run Tryz.prog w = .ok () w := run_eqGuard_agg w op 148 x y xs ys (by kernel_rfl)

end Go.Proofs.YtogpkhpephhbiaaGreatDoor
namespace Go.Proofs.YtogpkhpephhbiaaGreatDoor
open Go.RowKit
set_option maxRecDepth 100000

/-- Whether two things are one. -/
noncomputable def eqB {α : Type} (x y : α) : Bool := @decide (x = y) (Classical.propDecidable _)
theorem eqB_yes {α : Type} {x y : α} (h : x = y) : eqB x y = true := by unfold eqB; exact @decide_eq_true _ (Classical.propDecidable _) h
theorem eqB_no {α : Type} {x y : α} (h : x ≠ y) : eqB x y = false := by unfold eqB; exact @decide_eq_false _ (Classical.propDecidable _) h
theorem eqB_iff {α : Type} {x y : α} : eqB x y = true ↔ x = y := ⟨fun h => by unfold eqB at h; exact @of_decide_eq_true _ (Classical.propDecidable _) h, eqB_yes⟩

/-- Two versions compared. -/
theorem eqInV2 (p q r p' q' r' : Int) (w : World) : (Op.equalIn 9999 59 (.agg #[.int .i64 p, .int .i64 q, .int .i64 r]) (.agg #[.int .i64 p', .int .i64 q', .int .i64 r'])).run Tryz.prog w = .ok (decide (p = p') && decide (q = q') && decide (r = r')) w := by
  have u3 := Tryz.underlying3
  have a3 := Tryz.isAgg3
  have z3 := Tryz.sizeOf3
  rw [show (9999 : Nat) = 9998 + 1 from rfl, run_equalIn_agg w 9998 59 _ _ (by kernel_rfl) (by kernel_rfl)]
  simp only [Program.fieldsOf, Tryz.underlying59]
  by_cases h1 : p = p'
  · by_cases h2 : q = q'
    · by_cases h3 : r = r'
      · subst h1 h2 h3; go_simp
      · subst h1 h2; simp only [h3, decide_false, Bool.and_false]; go_simp
    · subst h1; simp only [h2, decide_false, Bool.and_false, Bool.false_and]; go_simp
  · simp only [h1, decide_false, Bool.false_and]; go_simp

theorem eqV2 (p q r p' q' r' : Int) (w : World) : (binOp .eql 59 (.agg #[.int .i64 p, .int .i64 q, .int .i64 r]) (.agg #[.int .i64 p', .int .i64 q', .int .i64 r'])).run Tryz.prog w = .ok (.bool (decide (p = p') && decide (q = q') && decide (r = r'))) w := by
  have u3 := Tryz.underlying3
  have a3 := Tryz.isAgg3
  have z3 := Tryz.sizeOf3
  rw [run_eql_struct, show (10000 : Nat) = 9999 + 1 from rfl, run_equalIn_agg w 9999 59 _ _ (by kernel_rfl) (by kernel_rfl)]
  simp only [Program.fieldsOf, Tryz.underlying59]
  by_cases h1 : p = p'
  · by_cases h2 : q = q'
    · by_cases h3 : r = r'
      · subst h1 h2 h3; go_simp
      · subst h1 h2; simp only [h3, decide_false, Bool.and_false]; go_simp
    · subst h1; simp only [h2, decide_false, Bool.and_false, Bool.false_and]; go_simp
  · simp only [h1, decide_false, Bool.false_and]; go_simp

/-- The same numbers. -/
def eqS (s t : Sp) : Bool := decide (s.a = t.a) && decide (s.b = t.b) && decide (s.c = t.c) && (decide (s.x = t.x) && decide (s.y = t.y) && decide (s.z = t.z))
theorem eqS_iff {s t : Sp} : eqS s t = true ↔ s = t := by
  obtain ⟨a, b, c, x, y, z⟩ := s
  obtain ⟨a', b', c', x', y', z'⟩ := t
  unfold eqS
  simp only [Bool.and_eq_true, decide_eq_true_eq, Sp.mk.injEq]
  exact ⟨fun ⟨⟨⟨h1, h2⟩, h3⟩, ⟨h4, h5⟩, h6⟩ => ⟨h1, h2, h3, h4, h5, h6⟩, fun ⟨h1, h2, h3, h4, h5, h6⟩ => ⟨⟨⟨h1, h2⟩, h3⟩, ⟨h4, h5⟩, h6⟩⟩

theorem neqSp2 (a b c x y z a' b' c' x' y' z' : Int) (w : World) : (binOp .neq 148 (.agg #[.int .i64 a, .int .i64 b, .int .i64 c, .int .i64 x, .int .i64 y, .int .i64 z]) (.agg #[.int .i64 a', .int .i64 b', .int .i64 c', .int .i64 x', .int .i64 y', .int .i64 z'])).run Tryz.prog w = .ok (.bool (!(eqS ⟨a, b, c, x, y, z⟩ ⟨a', b', c', x', y', z'⟩))) w := by
  have av := Tryz.isAgg59
  have zv := Tryz.sizeOf59
  have h1 := eqInV2 a b c a' b' c' w
  have h2 := eqInV2 x y z x' y' z' w
  rw [run_neq_struct, show (10000 : Nat) = 9999 + 1 from rfl, run_equalIn_agg w 9999 148 _ _ (by kernel_rfl) (by kernel_rfl)]
  simp only [Program.fieldsOf, Tryz.underlying148]
  cases hq : eqS ⟨a, b, c, x, y, z⟩ ⟨a', b', c', x', y', z'⟩
  · have hn : ¬ (a = a' ∧ b = b' ∧ c = c' ∧ x = x' ∧ y = y' ∧ z = z') := by
      rintro ⟨rfl, rfl, rfl, rfl, rfl, rfl⟩
      rw [eqS_iff.2 rfl] at hq
      cases hq
    go_simp
    intro e1 e2 e3 e4 e5 e6
    exact hn ⟨e1, e2, e3, e4, e5, e6⟩
  · obtain ⟨rfl, rfl, rfl, rfl, rfl, rfl⟩ := Sp.mk.injEq .. ▸ eqS_iff.1 hq
    go_simp

set_option maxHeartbeats 1600000 in
theorem Equal_walk (A B : List Sp) (hAB : A.length = B.length) (hsz : A.length ≤ 9223372036854775807) (ga oa ca gb ob cb : Nat) (w : World) (hga : ga < w.heap.size) (hgb : gb < w.heap.size) (hla : ∀ i (h : i < A.length), SpAt w ga (oa + i * 6) A[i]) (hlb : ∀ i (h : i < B.length), SpAt w gb (ob + i * 6) B[i]) :
    Calls Tryz.prog 94 #[.slice (some ⟨ga, oa, none⟩) A.length ca, .slice (some ⟨gb, ob, none⟩) B.length cb] w fun e w' => e = .returned (.bool (eqB A B)) ∧ Below w.heap.size w w' := by
  have HL : Hid (∀ w1, Below w.heap.size w w1 → ∀ i (h : i < A.length) (h2 : i < B.length), SpIn w1 ga (oa + i * 6) A[i] ∧ SpIn w1 gb (ob + i * 6) B[i]) := fun w1 hb i hi hi2 => ⟨⟨(hla i hi).below hb hga, Nat.lt_of_lt_of_le hga hb.size⟩, ⟨(hlb i hi2).below hb hgb, Nat.lt_of_lt_of_le hgb hb.size⟩⟩
  have HAB := hide3 hAB
  clear hla hlb
  rw [← hAB]
  clear hAB
  go_enter Tryz.func94, Tryz.ntmps94
  go_wp2_with fail
  go_loopw [13] (fun i wr => ∃ k : Nat, k ≤ A.length ∧ i = .int .i64 k ∧ Below w.heap.size w wr ∧ ∀ j (h : j < k) (h1 : j < A.length) (h2 : j < B.length), A[j] = B[j]) (fun i _ => A.length - (intOf i).toNat)
  case atStart => exact ⟨0, Nat.zero_le _, rfl, Below.refl _ _, fun j h => by omega⟩
  case round =>
    obtain ⟨k, hk, rfl, hb, hall⟩ := hrel
    have HALL := hide3 hall
    have HB := hide3 hb
    clear hall
    by_cases hlt : k < A.length
    · have hltB : k < B.length := HAB.out ▸ hlt
      have HO : Hid (Below w.heap.size w wr ∧ SpIn wr ga (oa + k * 6) A[k] ∧ SpIn wr gb (ob + k * 6) B[k]) := ⟨hb, HL.out wr hb k hlt hltB⟩
      have HK : Hid (KeepP fun w1 => Below w.heap.size w w1 ∧ SpIn w1 ga (oa + k * 6) A[k] ∧ SpIn w1 gb (ob + k * 6) B[k]) := (keepBelow w).and ((keepSp _ _ _).and (keepSp _ _ _))
      have HNE : Hid (eqS A[k] B[k] = false → eqB A B = false) := fun h => eqB_no fun e => by subst e; rw [(eqS_iff).2 rfl] at h; cases h
      have HST : Hid (eqS A[k] B[k] = true → ∀ j (h : j < k + 1) (h1 : j < A.length) (h2 : j < B.length), A[j] = B[j]) := fun h j hj h1 h2 => by
        rcases Nat.lt_or_ge j k with hjk | hjk
        · exact HALL.out j hjk h1 h2
        · obtain rfl : j = k := by omega
          exact eqS_iff.1 h
      generalize A[k] = s at *
      generalize B[k] = t at *
      obtain ⟨a, b, c, x, y, z⟩ := s
      obtain ⟨a', b', c', x', y', z'⟩ := t
      have he := neqSp2 a b c x y z a' b' c' x' y' z'
      have hgd := guardSp
      cases hq : eqS ⟨a, b, c, x, y, z⟩ ⟨a', b', c', x', y', z'⟩
      · have HR := hide3 (HNE.out hq)
        rw [hq] at he
        clear hb HNE HST HALL
        go_wp2_with fail
        refine wp_region_keep HK.out (by kernel_rfl) (by kernel_rfl) (by first | exact HO.out | exact HK.out.drew HO.out) ?_
        intro C hin hout
        have HIN := hide3 hin
        have HOUT := hide3 hout
        clear hin hout HO
        repeat
          (with_reducible refine wpQuiet_step (fun K hK => ?_)
           go_simp
           first
             | (refine hK _ ?_; clear hK K)
             | (apply Exists.intro; refine ⟨fun w1 hC => ?_, hK _ ?_⟩; (focus ((first | (exact rfl) | (obtain ⟨hb1, ⟨⟨p0, p1, p2, p3, p4, p5⟩, p6⟩, ⟨⟨q0, q1, q2, q3, q4, q5⟩, q6⟩⟩ := HOUT.out w1 hC; clear hC; go_simp; first | done | exact rfl)); done)); clear hK K))
        refine wpQuiet_nil ?_
        intro wn hC
        have HO := hide3 (HOUT.out _ hC)
        clear hC HIN HOUT C
        obtain ⟨hb1, ⟨⟨p0, p1, p2, p3, p4, p5⟩, p6⟩, ⟨⟨q0, q1, q2, q3, q4, q5⟩, q6⟩⟩ := HO.out
        go_wp2
        go_ret
        exact ⟨ret_bool HR.out.symm, HO.out.1⟩
      · have HR := hide3 (HST.out hq)
        rw [hq] at he
        clear hb HNE HST HALL
        go_wp2_with fail
        refine wp_region_keep HK.out (by kernel_rfl) (by kernel_rfl) (by first | exact HO.out | exact HK.out.drew HO.out) ?_
        intro C hin hout
        have HIN := hide3 hin
        have HOUT := hide3 hout
        clear hin hout HO
        repeat
          (with_reducible refine wpQuiet_step (fun K hK => ?_)
           go_simp
           first
             | (refine hK _ ?_; clear hK K)
             | (apply Exists.intro; refine ⟨fun w1 hC => ?_, hK _ ?_⟩; (focus ((first | (exact rfl) | (obtain ⟨hb1, ⟨⟨p0, p1, p2, p3, p4, p5⟩, p6⟩, ⟨⟨q0, q1, q2, q3, q4, q5⟩, q6⟩⟩ := HOUT.out w1 hC; clear hC; go_simp; first | done | exact rfl)); done)); clear hK K))
        refine wpQuiet_nil ?_
        intro wn hC
        have HO := hide3 (HOUT.out _ hC)
        clear hC HIN HOUT C
        obtain ⟨hb1, ⟨⟨p0, p1, p2, p3, p4, p5⟩, p6⟩, ⟨⟨q0, q1, q2, q3, q4, q5⟩, q6⟩⟩ := HO.out
        go_wp2
        exact ⟨⟨k + 1, by omega, by go_num, HO.out.1, HR.out⟩, by simp [intOf]; omega⟩
    · have hke : k = A.length := by omega
      subst hke
      have HR : Hid (eqB A B = true) := eqB_yes (List.ext_getElem HAB.out fun j h1 h2 => HALL.out j h1 h1 h2)
      clear hb
      go_wp2
      go_ret
      exact ⟨ret_bool HR.out.symm, HB.out⟩

theorem Equal_nil (ad bd : Option Addr) (ca cb : Nat) (w : World) :
    Calls Tryz.prog 94 #[.slice ad 0 ca, .slice bd 0 cb] w fun e w' => e = .returned (.bool true) ∧ Below w.heap.size w w' := by
  go_enter Tryz.func94, Tryz.ntmps94
  go_wp2_with fail
  go_loop [13] (fun i => i = .int .i64 0) (fun _ => 0)
  case atStart => rfl
  case round =>
    subst hrel
    go_wp2
    go_ret
    exact ⟨rfl, Below.refl _ _⟩

theorem Equal_len (ad bd : Option Addr) (n m ca cb : Nat) (h : n ≠ m) (w : World) :
    Calls Tryz.prog 94 #[.slice ad n ca, .slice bd m cb] w fun e w' => e = .returned (.bool false) ∧ Below w.heap.size w w' := by
  have hn : ((n : Int) = (m : Int)) = False := by simp; omega
  go_enter Tryz.func94, Tryz.ntmps94
  go_wp2
  go_ret
  exact ⟨rfl, Below.refl _ _⟩

theorem Equal_any {A B : List Sp} {va vb : Value} {w : World} (ha : SpansAt w va A) (hb : SpansAt w vb B) (hsz : A.length ≤ 9223372036854775807) :
    Calls Tryz.prog 94 #[va, vb] w fun e w' => e = .returned (.bool (eqB A B)) ∧ Below w.heap.size w w' := by
  obtain ⟨ad, ca, rfl, hl⟩ := ha
  obtain ⟨bd, cb, rfl, hm⟩ := hb
  by_cases hn : A.length = B.length
  · rcases hl with rfl | ⟨ga, oa, rfl, hga, hla⟩
    · obtain rfl : B = [] := List.eq_nil_of_length_eq_zero (by simpa using hn.symm)
      rw [eqB_yes rfl]
      exact Equal_nil _ _ _ _ w
    · rcases hm with rfl | ⟨gb, ob, rfl, hgb, hlb⟩
      · obtain rfl : A = [] := List.eq_nil_of_length_eq_zero (by simpa using hn)
        rw [eqB_yes rfl]
        exact Equal_nil _ _ _ _ w
      · exact Equal_walk A B hn hsz ga oa ca gb ob cb w hga hgb hla hlb
  · rw [eqB_no fun e => hn (by rw [e])]
    exact Equal_len _ _ _ _ _ _ hn w
end Go.Proofs.YtogpkhpephhbiaaGreatDoor
