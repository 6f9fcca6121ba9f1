/- Py5, Py7, ScPl1, ScBa1, laid in one text. -/
import Derived.Test.YtpaoimhebheaeaaGreatDoorProg
import Derived.Test.YtpaoimhebheaeaaGreatDoorRows
import Derived.WalkKit
import Derived.WalkSpells
import Derived.WalkLawsBesides
import Derived.Deep.QuietTactic
import Derived.BigQuiet
import Derived.Maps.AppendAt
import Derived.Deep.AppendLies
import Derived.Laws.OwnMore
import Derived.Laws.AppendOwn
import Derived.OwnWalk
import Derived.WalkMore
import Derived.Scope
import Derived.Deep.LoopGhost
import Derived.Test.YtpaoimhebheaeaaGreatDoorMg10
namespace Go.Proofs.YtpaoimhebheaeaaGreatDoor
open Go.RowKit Dk
set_option maxRecDepth 100000

def sp1 : ByteArray := ⟨#[32]⟩
def nl1 : ByteArray := ⟨#[10]⟩
/-- A deed's line. -/
def lineD (d : De) (acc : ByteArray) : ByteArray := (if (d.kd == 4) = true then acc ++ wordP d.kd ++ sp1 ++ d.pa ++ sp1 ++ hexT d.da else acc ++ wordP d.kd ++ sp1 ++ d.pa) ++ nl1
/-- A plan's text. -/
def textD (l : List De) : ByteArray := l.foldl (fun acc d => lineD d acc) ⟨#[112, 108, 97, 110, 10]⟩
theorem textD_snoc (l : List De) (d : De) : textD (l ++ [d]) = lineD d (textD l) := by unfold textD; rw [List.foldl_append]; rfl

theorem by_app (x y : ByteArray) : (x ++ y).size = x.size + y.size := ByteArray.size_append
theorem lineD_le (d : De) (acc : ByteArray) : acc.size ≤ (lineD d acc).size := by
  unfold lineD
  split <;> simp only [by_app] <;> omega
theorem foldD_le : ∀ (l : List De) (acc : ByteArray), acc.size ≤ (l.foldl (fun acc d => lineD d acc) acc).size
  | [], _ => Nat.le_refl _
  | d :: l, acc => Nat.le_trans (lineD_le d acc) (foldD_le l (lineD d acc))
theorem textD_take (l : List De) (k : Nat) : (textD (l.take k)).size ≤ (textD l).size := by
  conv => rhs; rw [← List.take_append_drop k l]
  unfold textD
  rw [List.foldl_append]
  exact foldD_le _ _

set_option maxHeartbeats 8000000 in
theorem pText_any (l : List De) (a : Option Addr) (cap : Nat) (w : World) (hlen : l.length ≤ 8388608) (hc : IsDes w a l) (hz : ∀ d ∈ l, d.da.size ≤ 100000000) (hsz : (textD l).size ≤ 9223372036854775807) :
    Calls Tryz.prog 75 #[.slice a l.length cap] w fun e w' => e = .returned (.string (textD l)) ∧ Below w.heap.size w w' := by
  have HC := hide3 hc
  have HZ := hide3 hz
  have HSZ := hide3 hsz
  have HT0 : Hid (textD (l.take 0) = ⟨#[112, 108, 97, 110, 10]⟩) := rfl
  clear hc hz hsz
  go_enter Tryz.func75, Tryz.ntmps75
  go_wp2_with fail
  go_loopw [3, 4] (fun v3 v4 wr => ∃ k : Nat, k ≤ l.length ∧ v4 = .int .i64 k ∧ v3 = .string (textD (l.take k)) ∧ Below w.heap.size w wr) (fun _ v4 _ => l.length - (intOf v4).toNat)
  case atStart => exact ⟨0, Nat.zero_le _, rfl, rfl, Below.refl _ _⟩
  case round =>
    obtain ⟨k, hk, rfl, rfl, hb⟩ := hrel
    have HB := hide3 hb
    clear hb
    by_cases hlt : k < l.length
    · obtain ⟨g, off, rfl, hg, hcs⟩ : ∃ g off, a = some ⟨g, off, none⟩ ∧ g < w.heap.size ∧ DesIn w g off l := by
        rcases HC.out with h | h
        · rw [h] at hlt; exact absurd hlt (Nat.not_lt_zero _)
        · exact h
      have HCW : Hid (∀ W, Below wr.heap.size wr W → W.cell? ⟨g, off + k * 3, none⟩ = some (.int .i64 l[k].kd) ∧ W.cell? ⟨g, off + k * 3 + 1, none⟩ = some (.string l[k].pa) ∧ W.cell? ⟨g, off + k * 3 + 1 + 1, none⟩ = some (.string l[k].da)) := fun W hW => by
        have hb2 := HB.out.trans (hW.mono HB.out.size)
        obtain ⟨a0, a1, a2⟩ := hcs k hlt
        exact ⟨(hb2.cell (p := ⟨g, off + k * 3, none⟩) hg).trans a0, (hb2.cell (p := ⟨g, off + k * 3 + 1, none⟩) hg).trans a1, (hb2.cell (p := ⟨g, off + k * 3 + 1 + 1, none⟩) hg).trans a2⟩
      obtain ⟨b0, b1, b2⟩ := HCW.out wr (Below.refl _ _)
      have HTK : Hid (textD (l.take (k + 1)) = lineD l[k] (textD (l.take k))) := by unfold Hid; rw [List.take_succ_eq_append_getElem hlt, textD_snoc]
      have HWD : Hid (∀ W, Calls Tryz.prog 83 #[.int .i64 l[k].kd] W fun e w' => e = .returned (.string (wordP l[k].kd)) ∧ w' = W) := fun W => word_any _ W
      have HHX : Hid (∀ W, Calls Tryz.prog 111 #[.string l[k].da] W fun e w' => e = .returned (.string (hexT l[k].da)) ∧ Below W.heap.size W w') := fun W => hex_any _ W (HZ.out _ (List.getElem_mem hlt))
      have HLD : Hid (lineD l[k] (textD (l.take k)) = (if (l[k].kd == 4) = true then textD (l.take k) ++ wordP l[k].kd ++ sp1 ++ l[k].pa ++ sp1 ++ hexT l[k].da else textD (l.take k) ++ wordP l[k].kd ++ sp1 ++ l[k].pa) ++ nl1) := rfl
      have HTS : Hid ((textD (l.take (k + 1))).size ≤ 9223372036854775807) := Nat.le_trans (textD_take l (k + 1)) HSZ.out
      rw [HTK.out] at HTS
      rw [HLD.out] at HTK HTS
      have hki : (k : Int) < (l.length : Int) := by omega
      have hk0 : (0 : Int) ≤ (k : Int) := by omega
      have HB0 : Hid (Below wr.heap.size wr wr.drew) := (Below.refl _ _).drew
      clear hcs HLD
      generalize textD (l.take k) = acc at *
      generalize l[k].kd = kd at *
      generalize l[k].pa = p at *
      generalize l[k].da = t at *
      generalize wordP kd = wd at *
      generalize hexT t = hx at *
      unfold sp1 nl1 at HTK HTS
      cases h4 : (kd == 4)
      · rw [h4] at HTK HTS
        simp only [Bool.false_eq_true, if_false] at HTK HTS
        have hs := HTS.out
        simp only [by_app] at hs
        have e1 := fun W : World => run_string_add_sum (P := Tryz.prog) (w := W) acc wd (by omega)
        have e2 := fun W : World => run_string_add_sum (P := Tryz.prog) (w := W) (acc ++ wd) ⟨#[32]⟩ (by simp only [by_app]; omega)
        have e3 := fun W : World => run_string_add_sum (P := Tryz.prog) (w := W) (acc ++ wd ++ ⟨#[32]⟩) p (by simp only [by_app]; omega)
        have e4 := fun W : World => run_string_add_sum (P := Tryz.prog) (w := W) (acc ++ wd ++ ⟨#[32]⟩ ++ p) ⟨#[10]⟩ (by simp only [by_app]; omega)
        clear hs HTS
        go_wp2_with fail
        go_region_held3 (fun w' => w'.cell? ⟨g, off + k * 3, none⟩ = some (.int .i64 kd) ∧ w'.cell? ⟨g, off + k * 3 + 1, none⟩ = some (.string p)) (go_keep) (first | (go_at_call 83; refine (HWD.out _).mono ?_; rintro e w5 ⟨rfl, hw5⟩; subst w5))
        all_goals go_wp2
        all_goals exact ⟨⟨k + 1, by omega, by go_num, by rw [HTK.out], HB.out.trans (HB0.out.mono HB.out.size)⟩, by simp [intOf]; omega⟩
      · rw [h4] at HTK HTS
        simp only [if_true] at HTK HTS
        have hs := HTS.out
        simp only [by_app] at hs
        have e1 := fun W : World => run_string_add_sum (P := Tryz.prog) (w := W) acc wd (by omega)
        have e2 := fun W : World => run_string_add_sum (P := Tryz.prog) (w := W) (acc ++ wd) ⟨#[32]⟩ (by simp only [by_app]; omega)
        have e3 := fun W : World => run_string_add_sum (P := Tryz.prog) (w := W) (acc ++ wd ++ ⟨#[32]⟩) p (by simp only [by_app]; omega)
        have e4 := fun W : World => run_string_add_sum (P := Tryz.prog) (w := W) (acc ++ wd ++ ⟨#[32]⟩ ++ p) ⟨#[32]⟩ (by simp only [by_app]; omega)
        have e5 := fun W : World => run_string_add_sum (P := Tryz.prog) (w := W) (acc ++ wd ++ ⟨#[32]⟩ ++ p ++ ⟨#[32]⟩) hx (by simp only [by_app]; omega)
        have e6 := fun W : World => run_string_add_sum (P := Tryz.prog) (w := W) (acc ++ wd ++ ⟨#[32]⟩ ++ p ++ ⟨#[32]⟩ ++ hx) ⟨#[10]⟩ (by simp only [by_app]; omega)
        clear hs HTS
        obtain ⟨c0, c1, c2⟩ := HCW.out _ HB0.out
        go_wp2_with fail
        go_region_held3 (fun w' => w'.cell? ⟨g, off + k * 3, none⟩ = some (.int .i64 kd) ∧ w'.cell? ⟨g, off + k * 3 + 1, none⟩ = some (.string p)) (go_keep) (first | (go_at_call 83; refine (HWD.out _).mono ?_; rintro e w5 ⟨rfl, hw5⟩; subst w5))
        all_goals go_wp2_with (go_at_call 111; refine (HHX.out _).mono ?_; rintro e w6 ⟨rfl, hb6⟩; have HB6 := hide3 (HB0.out.trans (hb6.mono HB0.out.size)); clear hb6)
        all_goals exact ⟨⟨k + 1, by omega, by go_num, by rw [HTK.out], HB.out.trans (HB6.out.mono HB.out.size)⟩, by simp [intOf]; omega⟩
    · obtain rfl : k = l.length := by omega
      rw [List.take_length]
      go_wp2
      go_ret
      exact ⟨rfl, HB.out⟩

set_option maxHeartbeats 800000 in
theorem pPrint_any17 (l : List De) (a : Option Addr) (cap : Nat) (w : World) (hlen : l.length ≤ 8388608) (hc : IsDes w a l) (hz : ∀ d ∈ l, d.pa.size ≤ maxLen ∧ d.da.size ≤ 100000000) (hsz : (textD l).size ≤ 9223372036854775807) :
    Calls Tryz.prog 34 #[.slice a l.length cap] w fun e w' => ((Plan l ∧ e = .returned (.tuple #[.string (textD l), .int .i64 0])) ∨ (¬ Plan l ∧ e = .returned (.tuple #[.string ⟨#[]⟩, .int .i64 44]))) ∧ Below w.heap.size w w' := by
  have HK : Hid (Calls Tryz.prog 73 #[.slice a l.length cap] w fun e w' => (∃ r, e = .returned (.int .i64 r) ∧ ((Plan l ∧ r = 0) ∨ (¬ Plan l ∧ r = 44))) ∧ Below w.heap.size w w') := pCheck_any l a cap w hlen hc (fun d hd => (hz d hd).1)
  have HT : Hid (∀ W, Below w.heap.size w W → Calls Tryz.prog 75 #[.slice a l.length cap] W fun e w' => e = .returned (.string (textD l)) ∧ Below w.heap.size w w') := fun W hW => (pText_any l a cap W hlen (hc.below hW) (fun d hd => (hz d hd).2) hsz).mono fun e w' hq => ⟨hq.1, hW.trans (hq.2.mono hW.size)⟩
  clear hc hz hsz
  by_cases hP : Plan l
  · have HK2 : Hid (Calls Tryz.prog 73 #[.slice a l.length cap] w fun e w' => e = .returned (.int .i64 0) ∧ Below w.heap.size w w') := HK.out.mono fun e w' hq => by
      obtain ⟨⟨r, he, ⟨_, rfl⟩ | ⟨h, _⟩⟩, hb⟩ := hq
      · exact ⟨he, hb⟩
      · exact absurd hP h
    have HPP := hide3 hP
    clear HK hP
    go_enter Tryz.func34, Tryz.ntmps34
    go_wp2_with (first
      | (go_at_call 73; refine HK2.out.mono ?_; rintro e w1 ⟨rfl, hb1⟩; have HB1 := hide3 hb1; clear hb1)
      | (go_at_call 75; refine (HT.out _ HB1.out).mono ?_; rintro e w2 ⟨rfl, hb2⟩; have HB2 := hide3 hb2; clear hb2))
    go_ret2
    exact ⟨Or.inl ⟨HPP.out, rfl⟩, HB2.out⟩
  · have HK2 : Hid (Calls Tryz.prog 73 #[.slice a l.length cap] w fun e w' => e = .returned (.int .i64 44) ∧ Below w.heap.size w w') := HK.out.mono fun e w' hq => by
      obtain ⟨⟨r, he, ⟨h, _⟩ | ⟨_, rfl⟩⟩, hb⟩ := hq
      · exact absurd h hP
      · exact ⟨he, hb⟩
    have HPP := hide3 hP
    clear HK hP
    go_enter Tryz.func34, Tryz.ntmps34
    go_wp2_with (go_at_call 73; refine HK2.out.mono ?_; rintro e w1 ⟨rfl, hb1⟩; have HB1 := hide3 hb1; clear hb1)
    go_ret2
    exact ⟨Or.inr ⟨HPP.out, rfl⟩, HB1.out⟩
end Go.Proofs.YtpaoimhebheaeaaGreatDoor
namespace Go.Proofs.YtpaoimhebheaeaaGreatDoor
open Go.RowKit Dk
set_option maxRecDepth 100000

/-- The worth of a digit; what is none is 0. -/
def digN (n : Nat) : Nat := if 48 ≤ n ∧ n ≤ 57 then n - 48 else if 97 ≤ n ∧ n ≤ 102 then n - 87 else 0
theorem digN_lt (n : Nat) : digN n < 16 := by unfold digN; split <;> (try split) <;> omega

set_option maxHeartbeats 800000 in
theorem digit_any (n : Nat) (hn : n < 256) (w : World) : Calls Tryz.prog 117 #[.int .u8 n] w fun e w' => e = .returned (.int .u8 (digN n)) ∧ w' = w := by
  by_cases h1 : 48 ≤ n
  · by_cases h2 : n ≤ 57
    · have HR : Hid (digN n = n - 48) := by unfold Hid digN; rw [if_pos ⟨h1, h2⟩]
      have w1 : IntKind.u8.wrap ((n : Int) - 48) = ((n - 48 : Nat) : Int) := by rw [IntKind.wrap_u8]; omega
      have i1 : (48 : Int) ≤ (n : Int) := by omega
      have i2 : (n : Int) ≤ 57 := by omega
      go_enter Tryz.func117, Tryz.ntmps117
      go_wp2
      go_ret
      exact ⟨by rw [HR.out]; rfl, rfl⟩
    · have i2 : ¬ (n : Int) ≤ 57 := by omega
      have i1 : (48 : Int) ≤ (n : Int) := by omega
      by_cases h3 : 97 ≤ n
      · have i3 : (97 : Int) ≤ (n : Int) := by omega
        by_cases h4 : n ≤ 102
        · have i4 : (n : Int) ≤ 102 := by omega
          have HR : Hid (digN n = n - 87) := by unfold Hid digN; rw [if_neg (by omega), if_pos ⟨h3, h4⟩]
          have w1 : IntKind.u8.wrap ((n : Int) - 97) = (n : Int) - 97 := by rw [IntKind.wrap_u8]; omega
          have w2 : IntKind.u8.wrap ((n : Int) - 97 + 10) = ((n - 87 : Nat) : Int) := by rw [IntKind.wrap_u8]; omega
          go_enter Tryz.func117, Tryz.ntmps117
          go_wp2
          go_ret
          exact ⟨by rw [HR.out]; rfl, rfl⟩
        · have i4 : ¬ (n : Int) ≤ 102 := by omega
          have HR : Hid (digN n = 0) := by unfold Hid digN; rw [if_neg (by omega), if_neg (by omega)]
          go_enter Tryz.func117, Tryz.ntmps117
          go_wp2
          go_ret
          exact ⟨by rw [HR.out]; rfl, rfl⟩
      · have i3 : ¬ (97 : Int) ≤ (n : Int) := by omega
        have HR : Hid (digN n = 0) := by unfold Hid digN; rw [if_neg (by omega), if_neg (by omega)]
        go_enter Tryz.func117, Tryz.ntmps117
        go_wp2
        go_ret
        exact ⟨by rw [HR.out]; rfl, rfl⟩
  · have i1 : ¬ (48 : Int) ≤ (n : Int) := by omega
    have i3 : ¬ (97 : Int) ≤ (n : Int) := by omega
    have HR : Hid (digN n = 0) := by unfold Hid digN; rw [if_neg (by omega), if_neg (by omega)]
    go_enter Tryz.func117, Tryz.ntmps117
    go_wp2
    go_ret
    exact ⟨by rw [HR.out]; rfl, rfl⟩

/-- The bytes of digits. -/
def dataL : List UInt8 → List UInt8
  | a :: b :: r => UInt8.ofNat (16 * digN a.toNat + digN b.toNat) :: dataL r
  | _ => []
theorem dataL_app : ∀ (n : Nat) (l m : List UInt8), l.length = 2 * n → dataL (l ++ m) = dataL l ++ dataL m
  | 0, [], m, _ => rfl
  | 0, _ :: _, _, h => by simp at h
  | n + 1, [], _, h => by simp at h
  | n + 1, [_], _, h => by simp at h; omega
  | n + 1, a :: b :: r, m, h => by
      simp only [List.cons_append, dataL]
      rw [dataL_app n r m (by simp at h; omega)]
theorem dataL_len : ∀ (n : Nat) (l : List UInt8), l.length = 2 * n → (dataL l).length = n
  | 0, [], _ => rfl
  | 0, _ :: _, h => by simp at h
  | n + 1, [], h => by simp at h
  | n + 1, [_], h => by simp at h; omega
  | n + 1, a :: b :: r, h => by
      simp only [dataL, List.length_cons]
      rw [dataL_len n r (by simp at h; omega)]
theorem dataL_short {l : List UInt8} (h : l.length < 2) : dataL l = [] := by
  match l, h with
  | [], _ => rfl
  | [_], _ => rfl
  | _ :: _ :: _, h => simp at h; omega
theorem dataL_take {l : List UInt8} {k : Nat} (h : 2 * k + 1 < l.length) : dataL (l.take (2 * (k + 1))) = dataL (l.take (2 * k)) ++ [UInt8.ofNat (16 * digN l[2 * k].toNat + digN l[2 * k + 1].toNat)] := by
  rw [show 2 * (k + 1) = 2 * k + 1 + 1 from by omega, List.take_succ_eq_append_getElem h, List.take_succ_eq_append_getElem (by omega : 2 * k < l.length), List.append_assoc, dataL_app k _ _ (by rw [List.length_take]; omega)]
  rfl
theorem dataL_full {l : List UInt8} {k : Nat} (h : 2 * k ≤ l.length) (h2 : l.length ≤ 2 * k + 1) : dataL (l.take (2 * k)) = dataL l := by
  conv => rhs; rw [← List.take_append_drop (2 * k) l]
  rw [dataL_app k _ _ (by rw [List.length_take]; omega), dataL_short (l := l.drop (2 * k)) (by rw [List.length_drop]; omega), List.append_nil]

theorem step_by {B : Nat} {wx : World} {v : Value} {l : List UInt8} {ops : Array Oper} {o : Oper} {f : Act} {K : Act → World → Prop} {Q : Exit → Act → World → Prop} {E : Prop}
    (hgd : o.guard = none) (s t : Operand) (ho : o.op = .call { callee := .builtin .append, args := #[s, t], argTypes := #[132, 132] }) (hs : f.eval s = v)
    (hown : OwnBy wx B v l) (hB : B ≤ wx.heap.size) (x : UInt8) {M : Nat} (hM : wx.heap.size = M) (hx : f.eval t = .slice (some ⟨M, 0, none⟩) 1 1) (hlen : l.length ≤ 1000000000) {z : Int} (hz : z = x.toNat)
    (h : ∀ v1 w1, OwnBy w1 B v1 (l ++ [x]) → wx.grownBy w1 v.ownBlock → K (f.put o.dst v1) w1) :
    if Region.wanted o (yielded ops f.tmps) = true then Oper.wp Tryz.prog o f (wx.alloc (.cells #[.int .u8 z] 5)) K Q else E := by
  have hw : Region.wanted o (yielded ops f.tmps) = true := by simp [Region.wanted, hgd]
  rw [if_pos hw]
  subst hM hz
  obtain ⟨i0, hi, hz0, hz1, hz2⟩ := info_parts infoBy
  obtain ⟨v1, w1, hr, hown1, hg1, _, _⟩ := run_append_own_at (P := Tryz.prog) (wx.alloc (.cells #[.int .u8 x.toNat] 5)) B 132 o.type 5 i0 _ 1 1 Tryz.underlying132 hi hz0 hz1 hz2 rfl (by decide) v l.length _ (World.ownsRow.alloc hown _) ⟨wx.heap.size, 0, none⟩ 1 1 [.int .u8 x.toNat] rfl
    (World.news_of_block (cs := #[.int .u8 x.toNat]) (t := 5) (fr := (0, 0)) (by show (wx.heap.push _)[wx.heap.size]? = _; rw [Array.getElem?_push, if_pos rfl])) (by simp [Value.oneCell']) (by unfold maxLen; omega) (by omega) (by simp; omega)
  unfold Oper.wp execOp
  simp only [ho, resolve, invoke, builtin, Sem.run_bind, Sem.run_pure, Result.andThen_ok, List.map_toArray, List.map_cons, List.map_nil, hs, hx, hr]
  refine h v1 w1 ?_ (grown_pre ((Below.refl _ _).alloc (Nat.le_refl _) _) hg1)
  unfold OwnBy byC
  rw [List.length_append, List.map_append]
  exact hown1

theorem nil_text (w : World) : (convert 132 9 (.slice none 0 0)).run Tryz.prog w = .ok (.string ⟨#[]⟩) w := by
  rw [run_convert_bytes_string w 132 9 5 none 0 0 Tryz.underlying132 Tryz.underlying5 Tryz.underlying9]
  rfl

set_option maxHeartbeats 4000000 in
theorem data_any (s : ByteArray) (w : World) (hs : s.size ≤ 1000000000) : Calls Tryz.prog 84 #[.string s] w fun e w' => e = .returned (.string ⟨(dataL s.data.toList).toArray⟩) ∧ Below w.heap.size w w' := by
  by_cases h2 : s.size < 2
  · have HT : Hid ((⟨(dataL s.data.toList).toArray⟩ : ByteArray) = ⟨#[]⟩) := by unfold Hid; rw [dataL_short (by rw [size_list]; exact h2)]
    have HB0 : Hid (Below w.heap.size w w) := Below.refl _ _
    have hni : ¬ ((1 : Int) < (s.size : Int)) := by omega
    have hcv : (convert 132 9 (.slice none 0 0)).run Tryz.prog w = .ok (.string ⟨#[]⟩) w := nil_text w
    go_enter Tryz.func84, Tryz.ntmps84
    go_wp2_with fail
    go_loopw [3, 4] (fun v3 v4 wr => v3 = .slice none 0 0 ∧ v4 = .int .i64 0 ∧ wr = w) (fun _ _ _ => 0)
    case atStart => exact ⟨rfl, rfl, rfl⟩
    case round =>
      obtain ⟨rfl, rfl, rfl⟩ := hrel
      go_wp2
      go_ret
      rw [HT.out]
      exact ⟨rfl, HB0.out⟩
  · have HDG : Hid (∀ (b : UInt8) W, Calls Tryz.prog 117 #[.int .u8 b.toNat] W fun e w' => e = .returned (.int .u8 (digN b.toNat)) ∧ w' = W) := fun b W => digit_any b.toNat b.toNat_lt W
    go_enter Tryz.func84, Tryz.ntmps84
    go_wp2_with fail
    go_loopw [3, 4] (fun v3 v4 wr => ∃ k : Nat, 2 * k ≤ s.size ∧ v4 = .int .i64 (2 * k : Nat) ∧ OwnBy wr w.heap.size v3 (dataL (s.data.toList.take (2 * k))) ∧ Below w.heap.size w wr) (fun _ v4 _ => s.size - (intOf v4).toNat)
    case atStart => exact ⟨0, Nat.zero_le _, rfl, ⟨rfl, Or.inl ⟨rfl, rfl⟩⟩, Below.refl _ _⟩
    case round =>
      obtain ⟨k, hk, rfl, ho, hb⟩ := hrel
      have HO := hide3 ho
      have HB := hide3 hb
      have hLn : (dataL (s.data.toList.take (2 * k))).length = k := dataL_len k _ (by rw [List.length_take, size_list]; omega)
      clear ho hb
      by_cases hlt : 2 * k + 1 < s.size
      · obtain ⟨j, hj⟩ : ∃ j, j = 2 * k := ⟨_, rfl⟩
        have HJ : Hid (j = 2 * k) := hj
        have hltj : j + 1 < s.size := by omega
        have hj1 : j < s.size := by omega
        have hkb : k ≤ 1000000000 := by omega
        have HTK : Hid (dataL (s.data.toList.take (2 * (k + 1))) = dataL (s.data.toList.take j) ++ [UInt8.ofNat (16 * digN (s[j]'hj1).toNat + digN (s[j + 1]'hltj).toNat)]) := by subst hj; exact dataL_take (by rw [size_list]; exact hlt)
        rw [← hj] at hk HO hLn ⊢
        clear hlt hj
        have HD1 : Hid (∀ W, Calls Tryz.prog 117 #[.int .u8 (s[j]'hj1).toNat] W fun e w' => e = .returned (.int .u8 (digN (s[j]'hj1).toNat)) ∧ w' = W) := fun W => HDG.out _ W
        have HD2 : Hid (∀ W, Calls Tryz.prog 117 #[.int .u8 (s[j + 1]'hltj).toNat] W fun e w' => e = .returned (.int .u8 (digN (s[j + 1]'hltj).toNat)) ∧ w' = W) := fun W => HDG.out _ W
        obtain ⟨d1, hd1⟩ : ∃ d, d = digN (s[j]'hj1).toNat := ⟨_, rfl⟩
        obtain ⟨d2, hd2⟩ : ∃ d, d = digN (s[j + 1]'hltj).toNat := ⟨_, rfl⟩
        have l1 : d1 < 16 := by rw [hd1]; exact digN_lt _
        have l2 : d2 < 16 := by rw [hd2]; exact digN_lt _
        rw [← hd1, ← hd2] at HTK
        rw [← hd1] at HD1
        rw [← hd2] at HD2
        have m1 : IntKind.u8.wrap (16 * (d1 : Int)) = 16 * (d1 : Int) := by rw [IntKind.wrap_u8]; omega
        have m2 : IntKind.u8.wrap (16 * (d1 : Int) + (d2 : Int)) = 16 * (d1 : Int) + (d2 : Int) := by rw [IntKind.wrap_u8]; omega
        have HX : Hid (16 * (d1 : Int) + (d2 : Int) = ((UInt8.ofNat (16 * d1 + d2)).toNat : Int)) := by
          unfold Hid
          rw [UInt8.toNat_ofNat', Nat.mod_eq_of_lt (by omega)]
          omega
        have hki : (j : Int) < (s.size : Int) := by omega
        have hki1 : (j : Int) + 1 < (s.size : Int) := by omega
        have hk0 : (0 : Int) ≤ (j : Int) := by omega
        have hw1 : IntKind.i64.wrap ((j : Int) + 1) = ((j + 1 : Nat) : Int) := by rw [IntKind.wrap_i64]; omega
        have hki2 : ((j + 1 : Nat) : Int) < (s.size : Int) := by omega
        have HBS : Hid (w.heap.size ≤ wr.drew.heap.size) := HB.out.size
        have HOD : Hid (OwnBy wr.drew w.heap.size u3 (dataL (s.data.toList.take j))) := HO.out
        have HBD : Hid (Below w.heap.size w wr.drew) := HB.out.drew
        clear hd1 hd2 HDG HO HB
        generalize dataL (s.data.toList.take j) = old at *
        go_wp2_with fail
        go_region_held3 (fun _ => True) (go_keep) (first
          | (refine step_by (B := w.heap.size) (M := wr.drew.heap.size) (wx := wr.drew) (v := u3) (l := old) rfl (.tmp 12) (.tmp 24) rfl rfl HOD.out HBS.out (UInt8.ofNat (16 * d1 + d2)) rfl rfl (by omega) HX.out ?_; intro v8 w8 ho hgr; have HO8 := hide3 ho; have HB8 := hide3 (HBD.out.grown hgr HBD.out.size (fun q hq => (row_lt HOD.out hq).2)); clear ho hgr)
          | (have _t := HM1; go_at_call 117; refine (HD2.out _).mono ?_; rintro e w6 ⟨rfl, hw6⟩; subst w6)
          | (go_at_call 117; refine (HD1.out _).mono ?_; rintro e w5 ⟨rfl, hw5⟩; subst w5; have HM1 : Hid True := trivial))
        all_goals go_wp2
        all_goals exact ⟨⟨k + 1, by have := HJ.out; omega, by have := HJ.out; go_num, by rw [HTK.out]; exact HO8.out, HB8.out⟩, by have := HJ.out; simp [intOf]; omega⟩
      · have hfull := dataL_full (l := s.data.toList) (k := k) (by rw [size_list]; exact hk) (by rw [size_list]; omega)
        rw [hfull] at HO hLn
        obtain ⟨g, cp, rfl, hcv⟩ := by_text HO.out (by omega)
        have hni : ¬ ((2 * k + 1 : Nat) : Int) < (s.size : Int) := by omega
        have hw1 : IntKind.i64.wrap (((2 * k : Nat) : Int) + 1) = ((2 * k + 1 : Nat) : Int) := by rw [IntKind.wrap_i64]; omega
        clear hfull
        rw [hLn] at hcv ⊢
        go_wp2
        go_ret
        exact ⟨rfl, HB.out⟩
end Go.Proofs.YtpaoimhebheaeaaGreatDoor
namespace Go.Proofs.YtpaoimhebheaeaaGreatDoor.Sc
set_option maxRecDepth 100000

abbrev Bs := List UInt8
/-- A byte that a word may have. -/
def wB (b : UInt8) : Bool := decide (33 ≤ b.toNat) && decide (b.toNat ≤ 126)
/-- A word. -/
def isW (w : Bs) : Bool := w.all wB && !w.isEmpty
/-- A line. -/
def isL (ws : List Bs) : Bool := ws.all isW && !ws.isEmpty

/-- The scanner: what is left, the word under way, the line under way, the lines. -/
def scanR : Bs → Bs → List Bs → List (List Bs) → Except Nat (List (List Bs))
  | [], cur, ws, ls => if cur = [] ∧ ws = [] then .ok ls else .error (ls.length + 1)
  | b :: r, cur, ws, ls =>
    if wB b = true then scanR r (cur ++ [b]) ws ls
    else if cur = [] then .error (ls.length + 1)
    else if b = 32 then scanR r [] (ws ++ [cur]) ls
    else if b = 10 then scanR r [] [] (ls ++ [ws ++ [cur]])
    else .error (ls.length + 1)

/-- What stands between a byte. -/
def cutF (by_ : UInt8) : Bs → Bs → List Bs
  | cur, [] => [cur]
  | cur, b :: r => if b = by_ then cur :: cutF by_ [] r else cutF by_ (cur ++ [b]) r
theorem cutF_hit (s : UInt8) (c r : Bs) : cutF s c (s :: r) = c :: cutF s [] r := by conv => lhs; unfold cutF; rw [if_pos rfl]
theorem cutF_go {s b : UInt8} (h : b ≠ s) (c r : Bs) : cutF s c (b :: r) = cutF s (c ++ [b]) r := by conv => lhs; unfold cutF; rw [if_neg h]
theorem cutF_ne (s : UInt8) : ∀ (t cur : Bs), cutF s cur t ≠ []
  | [], _ => by simp [cutF]
  | b :: r, cur => by
    unfold cutF
    split
    · simp
    · exact cutF_ne s r _

def lineR (s : Bs) : Option (List Bs) := if (cutF 32 [] s).all isW = true then some (cutF 32 [] s) else none

def refR : List (List Bs) → List Bs → Except Nat (List (List Bs))
  | ls, [] => .ok ls
  | ls, [p] => if p = [] then .ok ls else .error (ls.length + 1)
  | ls, p :: q :: r => match lineR p with
    | none => .error (ls.length + 1)
    | some w => refR (ls ++ [w]) (q :: r)

theorem refR_no {p : Bs} (h : lineR p = none) (ls : List (List Bs)) (q : Bs) (r : List Bs) : refR ls (p :: q :: r) = .error (ls.length + 1) := by conv => lhs; unfold refR; rw [h]
theorem refR_ok {p : Bs} {w : List Bs} (h : lineR p = some w) (ls : List (List Bs)) (q : Bs) (r : List Bs) : refR ls (p :: q :: r) = refR (ls ++ [w]) (q :: r) := by conv => lhs; unfold refR; rw [h]
theorem scan_b {b : UInt8} (h : wB b = true) (r cur : Bs) (ws : List Bs) (ls : List (List Bs)) : scanR (b :: r) cur ws ls = scanR r (cur ++ [b]) ws ls := by conv => lhs; unfold scanR; rw [if_pos h]
theorem scan_none {b : UInt8} (h : wB b = false) (r : Bs) (ws : List Bs) (ls : List (List Bs)) : scanR (b :: r) [] ws ls = .error (ls.length + 1) := by conv => lhs; unfold scanR; rw [if_neg (by simp [h]), if_pos rfl]
theorem scan_32 {cur : Bs} (hc : cur ≠ []) (r : Bs) (ws : List Bs) (ls : List (List Bs)) : scanR (32 :: r) cur ws ls = scanR r [] (ws ++ [cur]) ls := by conv => lhs; unfold scanR; rw [if_neg (by decide), if_neg hc, if_pos rfl]
theorem scan_10 {cur : Bs} (hc : cur ≠ []) (r : Bs) (ws : List Bs) (ls : List (List Bs)) : scanR (10 :: r) cur ws ls = scanR r [] [] (ls ++ [ws ++ [cur]]) := by conv => lhs; unfold scanR; rw [if_neg (by decide), if_neg hc, if_neg (by decide), if_pos rfl]
theorem scan_bad {b : UInt8} (h : wB b = false) (h32 : b ≠ 32) (h10 : b ≠ 10) (r cur : Bs) (ws : List Bs) (ls : List (List Bs)) : scanR (b :: r) cur ws ls = .error (ls.length + 1) := by conv => lhs; unfold scanR; rw [if_neg (by simp [h]), if_neg h32, if_neg h10, ite_self]
theorem scan_end {cur : Bs} {ws : List Bs} (h : cur ≠ [] ∨ ws ≠ []) (ls : List (List Bs)) : scanR [] cur ws ls = .error (ls.length + 1) := by unfold scanR; rw [if_neg]; rintro ⟨rfl, rfl⟩; simp at h

theorem cutF_append {s : UInt8} : ∀ {a c : Bs} {pre : List Bs} {last : Bs} (b : Bs), cutF s c a = pre ++ [last] → cutF s c (a ++ b) = pre ++ cutF s last b
  | [], c, pre, last, b, h => by
    simp only [cutF] at h
    cases pre with
    | nil => simp at h; subst h; rfl
    | cons x l => simp at h
  | x :: a, c, pre, last, b, h => by
    rw [List.cons_append]
    by_cases hx : x = s
    · subst hx
      rw [cutF_hit] at h ⊢
      cases pre with
      | nil =>
        simp only [List.nil_append, List.cons.injEq] at h
        exact absurd h.2 (cutF_ne _ _ _)
      | cons p l =>
        simp only [List.cons_append, List.cons.injEq] at h
        rw [h.1, cutF_append b h.2]; rfl
    · rw [cutF_go hx] at h ⊢
      exact cutF_append b h

theorem cutF_head (s : UInt8) : ∀ (t c : Bs), ∃ Y rest, cutF s c t = (c ++ Y) :: rest
  | [], c => ⟨[], [], by simp [cutF]⟩
  | b :: r, c => by
    by_cases hx : b = s
    · subst hx
      rw [cutF_hit]
      exact ⟨[], cutF b [] r, by simp⟩
    · rw [cutF_go hx]
      obtain ⟨Y, rest, h⟩ := cutF_head s r (c ++ [b])
      exact ⟨b :: Y, rest, by rw [h]; simp⟩

theorem cutF_nil {s : UInt8} {t c : Bs} (h : cutF s c t = [[]]) : t = [] ∧ c = [] := by
  cases t with
  | nil => simp [cutF] at h; exact ⟨rfl, h⟩
  | cons b r =>
    unfold cutF at h
    split at h
    · simp only [List.cons.injEq] at h; exact absurd h.2 (cutF_ne _ _ _)
    · obtain ⟨Y, rest, h2⟩ := cutF_head s r (c ++ [b])
      rw [h2] at h
      simp at h

theorem bad_line {ls : List (List Bs)} {X : Bs} (h : ∀ Y, lineR (X ++ Y) = none) (hX : X ≠ []) (r : Bs) : refR ls (cutF 10 X r) = .error (ls.length + 1) := by
  obtain ⟨Y, rest, e⟩ := cutF_head 10 r X
  rw [e]
  cases rest with
  | nil => unfold refR; rw [if_neg (by simp [hX])]
  | cons q r => unfold refR; rw [h Y]

theorem lineR_of {s : Bs} {l : List Bs} (h : cutF 32 [] s = l) : lineR s = if l.all isW = true then some l else none := by unfold lineR; rw [h]

/-- The scanner is the document's answer. -/
theorem scan_ref : ∀ (t cur : Bs) (ws : List Bs) (ls : List (List Bs)) (X : Bs), cutF 32 [] X = ws ++ [cur] → ws.all isW = true → cur.all wB = true → scanR t cur ws ls = refR ls (cutF 10 X t)
  | [], cur, ws, ls, X, hX, hw, hc => by
    unfold scanR cutF refR
    by_cases hx : X = []
    · subst hx
      have : ws = [] ∧ cur = [] := by
        cases ws with
        | nil => simp [cutF] at hX; exact ⟨rfl, hX⟩
        | cons a l => simp [cutF] at hX
      rw [if_pos ⟨this.2, this.1⟩, if_pos rfl]
    · rw [if_neg hx, if_neg]
      rintro ⟨rfl, rfl⟩
      exact hx (cutF_nil hX).1
  | b :: r, cur, ws, ls, X, hX, hw, hc => by
    by_cases hb : wB b = true
    · have n10 : b ≠ 10 := by rintro rfl; revert hb; decide
      have n32 : b ≠ 32 := by rintro rfl; revert hb; decide
      rw [scan_b hb, cutF_go n10]
      refine scan_ref r _ ws ls (X ++ [b]) ?_ hw ?_
      · rw [cutF_append [b] hX]; simp [cutF, n32]
      · simp [hc, hb]
    · by_cases h10 : b = 10
      · subst h10
        rw [cutF_hit]
        obtain ⟨Y, rest, e⟩ := cutF_head 10 r []
        have hl : lineR X = if (ws ++ [cur]).all isW = true then some (ws ++ [cur]) else none := lineR_of hX
        by_cases hcur : cur = []
        · subst hcur
          rw [if_neg (by simp [isW])] at hl
          rw [scan_none (by decide), e, refR_no hl]
        · have hall : (ws ++ [cur]).all isW = true := by
            simp only [List.all_append, List.all_cons, List.all_nil, Bool.and_true, hw, Bool.true_and, isW, hc]
            cases cur with
            | nil => exact absurd rfl hcur
            | cons _ _ => rfl
          rw [if_pos hall] at hl
          rw [scan_10 hcur, scan_ref r [] [] (ls ++ [ws ++ [cur]]) [] rfl rfl rfl, e, refR_ok hl]
      · by_cases h32 : b = 32
        · subst h32
          have e1 : cutF 10 X (32 :: r) = cutF 10 (X ++ [32]) r := cutF_go (by decide) _ _
          have e2 : cutF 32 [] (X ++ [32]) = ws ++ [cur] ++ [[]] := by rw [cutF_append [32] hX]; simp [cutF]
          by_cases hcur : cur = []
          · subst hcur
            rw [scan_none (by decide), e1, bad_line (fun Y => ?_) (by simp)]
            rw [lineR_of (cutF_append Y e2), if_neg (by simp [isW])]
          · rw [scan_32 hcur, e1]
            refine scan_ref r [] (ws ++ [cur]) ls (X ++ [32]) e2 ?_ rfl
            simp only [List.all_append, List.all_cons, List.all_nil, Bool.and_true, hw, Bool.true_and, isW, hc]
            cases cur with
            | nil => exact absurd rfl hcur
            | cons _ _ => rfl
        · have e1 : cutF 10 X (b :: r) = cutF 10 (X ++ [b]) r := cutF_go h10 _ _
          have e2 : cutF 32 [] (X ++ [b]) = ws ++ [cur ++ [b]] := by rw [cutF_append [b] hX]; simp [cutF, h32]
          rw [scan_bad (by simpa using hb) h32 h10, e1, bad_line (fun Y => ?_) (by simp)]
          rw [lineR_of (cutF_append Y e2), if_neg]
          obtain ⟨Z, rest, e⟩ := cutF_head 32 Y (cur ++ [b])
          rw [e]
          simp [isW, hb]

/-- A line's text. -/
def pend (ws : List Bs) (cur : Bs) : Bs := ws.flatMap (· ++ [32]) ++ cur
def lineT : List Bs → Bs
  | [] => [10]
  | [w] => w ++ [10]
  | w :: q :: r => w ++ [32] ++ lineT (q :: r)
def textT (ls : List (List Bs)) : Bs := ls.flatMap lineT
theorem lineT_snoc (ws : List Bs) (cur : Bs) : lineT (ws ++ [cur]) = pend ws cur ++ [10] := by
  induction ws with
  | nil => rfl
  | cons w l ih =>
    cases l with
    | nil => simp [lineT, pend]
    | cons q r =>
      have : lineT (w :: q :: r ++ [cur]) = w ++ [32] ++ lineT (q :: r ++ [cur]) := rfl
      rw [this, ih]
      simp [pend]
theorem textT_snoc (ls : List (List Bs)) (l : List Bs) : textT (ls ++ [l]) = textT ls ++ lineT l := by simp [textT]

theorem wB_not {b : UInt8} (h : wB b = true) : b ≠ 10 ∧ b ≠ 32 := ⟨by rintro rfl; revert h; decide, by rintro rfl; revert h; decide⟩
theorem isW_of {cur : Bs} (hc : cur.all wB = true) (h : cur ≠ []) : isW cur = true := by
  unfold isW
  rw [hc]
  cases cur with
  | nil => exact absurd rfl h
  | cons _ _ => rfl

/-- What is taken is the lines of that text. -/
theorem scan_back : ∀ (t cur : Bs) (ws : List Bs) (ls L : List (List Bs)), scanR t cur ws ls = .ok L → cur.all wB = true → ws.all isW = true → ls.all isL = true → L.all isL = true ∧ textT L = textT ls ++ pend ws cur ++ t
  | [], cur, ws, ls, L, h, hc, hw, hl => by
    unfold scanR at h
    split at h
    · rename_i hq
      cases h
      rw [hq.1, hq.2]
      exact ⟨hl, by simp [pend]⟩
    · cases h
  | b :: r, cur, ws, ls, L, h, hc, hw, hl => by
    unfold scanR at h
    split at h
    · rename_i hb
      obtain ⟨h1, h2⟩ := scan_back r _ ws ls L h (by simp [hc, hb]) hw hl
      exact ⟨h1, by rw [h2]; simp [pend]⟩
    · split at h
      · cases h
      · rename_i hb hcur
        split at h
        · rename_i h32
          obtain ⟨h1, h2⟩ := scan_back r [] (ws ++ [cur]) ls L h rfl (by simp [hw, isW_of hc hcur]) hl
          exact ⟨h1, by rw [h2, h32]; simp [pend]⟩
        · split at h
          · rename_i h32 h10
            obtain ⟨h1, h2⟩ := scan_back r [] [] (ls ++ [ws ++ [cur]]) L h rfl rfl (by simp [hl, isL, hw, isW_of hc hcur])
            exact ⟨h1, by rw [h2, h10, textT_snoc, lineT_snoc]; simp [pend]⟩
          · cases h

theorem scan_word : ∀ (x r cur : Bs) (ws : List Bs) (ls : List (List Bs)), x.all wB = true → scanR (x ++ r) cur ws ls = scanR r (cur ++ x) ws ls
  | [], r, cur, ws, ls, _ => by simp
  | b :: x, r, cur, ws, ls, h => by
    simp only [List.all_cons, Bool.and_eq_true] at h
    rw [List.cons_append]
    conv => lhs; unfold scanR; rw [if_pos h.1]
    rw [scan_word x r _ ws ls h.2]; simp

theorem scan_line : ∀ (l : List Bs) (ws : List Bs) (r : Bs) (ls : List (List Bs)), l.all isW = true → l ≠ [] → scanR (lineT l ++ r) [] ws ls = scanR r [] [] (ls ++ [ws ++ l])
  | [], _, _, _, _, h => absurd rfl h
  | [w], ws, r, ls, h, _ => by
    simp only [List.all_cons, List.all_nil, Bool.and_true, isW, Bool.and_eq_true] at h
    have hne : w ≠ [] := by rintro rfl; simp at h
    show scanR (w ++ [10] ++ r) [] ws ls = _
    rw [List.append_assoc, scan_word w _ [] ws ls h.1]
    show scanR (10 :: r) ([] ++ w) ws ls = _
    conv => lhs; unfold scanR; rw [if_neg (by decide), if_neg (by simpa using hne), if_neg (by decide), if_pos rfl]
    simp
  | w :: q :: l, ws, r, ls, h, _ => by
    rw [List.all_cons, Bool.and_eq_true] at h
    obtain ⟨h1, h2⟩ := h
    simp only [isW, Bool.and_eq_true] at h1
    have hne : w ≠ [] := by rintro rfl; simp at h1
    show scanR (w ++ [32] ++ lineT (q :: l) ++ r) [] ws ls = _
    have e : w ++ [32] ++ lineT (q :: l) ++ r = w ++ (32 :: (lineT (q :: l) ++ r)) := by simp
    rw [e, scan_word w _ [] ws ls h1.1]
    conv => lhs; unfold scanR; rw [if_neg (by decide), if_neg (by simpa using hne), if_pos rfl]
    rw [List.nil_append, scan_line (q :: l) (ws ++ [w]) r ls h2 (by simp)]
    simp

/-- Lines of Join. -/
theorem scan_text : ∀ (L : List (List Bs)) (ls : List (List Bs)), L.all isL = true → scanR (textT L) [] [] ls = .ok (ls ++ L)
  | [], ls, _ => by simp [textT, scanR]
  | l :: L, ls, h => by
    simp only [List.all_cons, Bool.and_eq_true, isL] at h
    have hne : l ≠ [] := by rintro rfl; simp at h
    show scanR (lineT l ++ textT L) [] [] ls = _
    rw [scan_line l [] _ ls h.1.1 hne, scan_text L _ h.2]
    simp

end Go.Proofs.YtpaoimhebheaeaaGreatDoor.Sc
namespace Go.Proofs.YtpaoimhebheaeaaGreatDoor.Sc
open Go.RowKit
set_option maxRecDepth 100000

theorem hide3 {p : Prop} (h : p) : Hid p := h
theorem ret_bool {a b : Bool} (h : a = b) : Ending.returned (.bool a) = .returned (.bool b) := by rw [h]
theorem ret_int {a b : Int} (h : a = b) : Ending.returned (.int .i64 a) = .returned (.int .i64 b) := by rw [h]
theorem boxB (w : World) (o : Obj) : Below w.heap.size w (w.alloc o) := (Below.refl _ _).alloc (Nat.le_refl _) _
theorem below_then {w w1 w' : World} (h : Below w.heap.size w w1) (hb : Below w1.heap.size w1 w') : Below w.heap.size w w' := h.trans (hb.mono h.size)
theorem bytes_same {s t : ByteArray} (h : s.toList = t.toList) : s = t := by
  rw [ByteArray.toList_eq, ByteArray.toList_eq] at h
  cases s; cases t
  simp only [ByteArray.mk.injEq]
  exact Array.toList_inj.1 h
theorem list_size (s : ByteArray) : s.data.toList.length = s.size := rfl
theorem cell_in {W : World} {a : Addr} {v : Value} (h : W.cell? a = some v) : a.block < W.heap.size := by
  rcases Nat.lt_or_ge a.block W.heap.size with h' | h'
  · exact h'
  · simp [World.cell?, Array.getElem?_eq_none h'] at h
theorem info_parts {e : TypeId} {z : Value} {n b : Nat} (h : (Tryz.prog.info? e).map (fun i => (i.zero, i.size, i.bytes)) = some (some z, n, b)) : ∃ i, Tryz.prog.info? e = some i ∧ i.zero = some z ∧ i.size = n ∧ i.bytes = b := by
  cases hi : Tryz.prog.info? e with
  | none => rw [hi] at h; cases h
  | some i =>
    rw [hi] at h
    simp only [Option.map_some, Option.some.injEq, Prod.mk.injEq] at h
    exact ⟨i, rfl, h.1, h.2.1, h.2.2⟩
theorem infoStr : (Tryz.prog.info? 9).map (fun i => (i.zero, i.size, i.bytes)) = some (some (.string ByteArray.empty), 1, 16) := by kernel_rfl
theorem infoStrs : (Tryz.prog.info? 71).map (fun i => (i.zero, i.size, i.bytes)) = some (some (.slice none 0 0), 1, 24) := by kernel_rfl

/-- As Q; by a goto to a label: J. -/
def jumpM (J : Nat → Act → World → Prop) (Q : Exit → Act → World → Prop) : Exit → Act → World → Prop
  | .goto l, a, w => J l a w
  | e, a, w => Q e a w
section
variable {J : Nat → Act → World → Prop} {Q : Exit → Act → World → Prop} {a : Act} {w : World}
theorem jumpM_normal : jumpM J Q .normal a w = Q .normal a w := rfl
theorem jumpM_exit (id : Nat) : jumpM J Q (.exit id) a w = Q (.exit id) a w := rfl
theorem jumpM_ret : jumpM J Q .ret a w = Q .ret a w := rfl
theorem jumpM_goto (l : Nat) : jumpM J Q (.goto l) a w = J l a w := rfl
end
/-- A scope in which the run jumps among labels: what holds at each jump, and a measure that every pass lowers. -/
theorem wp_scope_many {P : Program} {a : Act} {w : World} {Q : Exit → Act → World → Prop} {c : Code} (J : Nat → Act → World → Prop) (μ : Nat → Act → World → Nat)
    (first : c.wp P (jumpM J Q) a w)
    (pass : ∀ l a w, J l a w → ∃ rest, findLabel c l = some rest ∧ rest.wp P (jumpM (fun l' a' w' => J l' a' w' ∧ μ l' a' w' < μ l a w) Q) a w) : (Code.scope c).wp P Q a w := by
  intro b k cs
  have key : ∀ n l a w, μ l a w = n → J l a w → ∃ rest, findLabel c l = some rest ∧ ∃ e a' w', Q e a' w' ∧ Arrives P (lone (b.at a (.code rest :: .inScope c :: k)) cs w) b k cs e a' w' := by
    intro n
    induction n using Nat.strongRecOn with
    | _ n ih =>
      intro l a w hn hJ
      obtain ⟨rest, hf, hp⟩ := pass l a w hJ
      refine ⟨rest, hf, ?_⟩
      obtain ⟨e, a₁, w₁, hq, harr⟩ := hp b (.inScope c :: k) cs
      cases e with
      | normal => exact ⟨.normal, a₁, w₁, hq, Steps.trans harr (.one step_inScope)⟩
      | exit id => exact ⟨.exit id, a₁, w₁, hq, fun k' hk => harr k' (by simp [exitTo, hk])⟩
      | goto l' =>
        obtain ⟨hJ', hlt⟩ := hq
        obtain ⟨rest', hf', e₂, a₂, w₂, hq₂, harr₂⟩ := ih _ (by omega) l' a₁ w₁ rfl hJ'
        have hg : gotoIn l' (.inScope c :: k) = some (.code rest' :: .inScope c :: k) := by simp [gotoIn, hf']
        exact ⟨e₂, a₂, w₂, hq₂, .of_steps (harr _ hg) harr₂⟩
      | ret => exact ⟨_, a₁, w₁, hq, harr⟩
      | panic ch => exact ⟨_, a₁, w₁, hq, harr⟩
      | outgrown => exact ⟨_, a₁, w₁, hq, harr⟩
  obtain ⟨e, a₁, w₁, hq, harr⟩ := first b (.inScope c :: k) cs
  cases e with
  | normal => exact ⟨.normal, a₁, w₁, hq, .head step_scope (Steps.trans harr (.one step_inScope))⟩
  | exit id => exact ⟨.exit id, a₁, w₁, hq, fun k' hk => .head step_scope (harr k' (by simp [exitTo, hk]))⟩
  | goto l' =>
    obtain ⟨rest', hf', e₂, a₂, w₂, hq₂, harr₂⟩ := key _ l' a₁ w₁ rfl hq
    have hg : gotoIn l' (.inScope c :: k) = some (.code rest' :: .inScope c :: k) := by simp [gotoIn, hf']
    exact ⟨e₂, a₂, w₂, hq₂, .of_steps (.head step_scope (harr _ hg)) harr₂⟩
  | ret => exact ⟨_, a₁, w₁, hq, .of_steps (.one step_scope) harr⟩
  | panic ch => exact ⟨_, a₁, w₁, hq, .of_steps (.one step_scope) harr⟩
  | outgrown => exact ⟨_, a₁, w₁, hq, .of_steps (.one step_scope) harr⟩

/-- Bytes as a text. -/
def ba (l : Bs) : ByteArray := ⟨l.toArray⟩
theorem ba_list (l : Bs) : (ba l).data.toList = l := by simp [ba]
theorem ba_of (s : ByteArray) : ba s.data.toList = s := by cases s; simp [ba]
theorem ba_inj {a b : Bs} (h : ba a = ba b) : a = b := by rw [← ba_list a, h, ba_list]
theorem ba_size (l : Bs) : (ba l).size = l.length := by show l.toArray.size = _; simp
theorem ba_extract (s : ByteArray) (f k : Nat) : s.extract f k = ba ((s.data.toList.take k).drop f) := by
  have : (s.extract f k).data.toList = (s.data.toList.take k).drop f := by
    rw [ByteArray.data_extract, Array.toList_extract, List.extract_eq_take_drop, List.drop_take]
  rw [← this, ba_of]

/-- Words as cells. -/
def strs (ws : List Bs) : List Value := ws.map fun w => .string (ba w)
theorem strs_length (ws : List Bs) : (strs ws).length = ws.length := by simp [strs]
theorem strs_snoc (ws : List Bs) (x : Bs) : strs (ws ++ [x]) = strs ws ++ [.string (ba x)] := by simp [strs]

/-- Words that lie in memory, wherever. -/
def WordsAt (w : World) (v : Value) (ws : List Bs) : Prop := ∃ ad cap, v = .slice ad ws.length cap ∧ ws.length ≤ cap ∧ (ws = [] ∨ ∃ g o, ad = some ⟨g, o, none⟩ ∧ g < w.heap.size ∧ ∀ i (h : i < ws.length), w.cell? ⟨g, o + i, none⟩ = some (.string (ba ws[i])))
/-- Lines that lie in memory. -/
def LinesAt (w : World) (v : Value) (L : List (List Bs)) : Prop := ∃ ad cap, v = .slice ad L.length cap ∧ L.length ≤ cap ∧ (L = [] ∨ ∃ g o, ad = some ⟨g, o, none⟩ ∧ g < w.heap.size ∧ ∀ i (h : i < L.length), ∃ u, w.cell? ⟨g, o + i, none⟩ = some u ∧ WordsAt w u L[i])

theorem WordsAt.below {w w' : World} {v : Value} {ws : List Bs} (h : WordsAt w v ws) (hb : Below w.heap.size w w') : WordsAt w' v ws := by
  obtain ⟨ad, cap, hv, hc, hl⟩ := h
  refine ⟨ad, cap, hv, hc, hl.imp id ?_⟩
  rintro ⟨g, o, ha, hg, hs⟩
  exact ⟨g, o, ha, Nat.lt_of_lt_of_le hg hb.size, fun i hi => (hb.cell (p := ⟨g, o + i, none⟩) hg).trans (hs i hi)⟩
theorem LinesAt.below {w w' : World} {v : Value} {L : List (List Bs)} (h : LinesAt w v L) (hb : Below w.heap.size w w') : LinesAt w' v L := by
  obtain ⟨ad, cap, hv, hc, hl⟩ := h
  refine ⟨ad, cap, hv, hc, hl.imp id ?_⟩
  rintro ⟨g, o, ha, hg, hs⟩
  refine ⟨g, o, ha, Nat.lt_of_lt_of_le hg hb.size, fun i hi => ?_⟩
  obtain ⟨u, h1, h2⟩ := hs i hi
  exact ⟨u, (hb.cell (p := ⟨g, o + i, none⟩) hg).trans h1, h2.below hb⟩

/-- Words of one's own. -/
def OwnW (w : World) (B : Nat) (v : Value) (ws : List Bs) : Prop := w.ownsRow B 9 1 v ws.length (strs ws)
theorem OwnW.nil (w : World) (B : Nat) : OwnW w B (.slice none 0 0) [] := ⟨rfl, Or.inl ⟨rfl, rfl⟩⟩
theorem OwnW.block {w : World} {B : Nat} {v : Value} {ws : List Bs} (h : OwnW w B v ws) (hne : ws ≠ []) : ∃ g, v.ownBlock = some g := by
  rcases h.2 with ⟨_, h0⟩ | ⟨g, cap, cur, rfl, _⟩
  · exact absurd (List.eq_nil_of_length_eq_zero h0) hne
  · exact ⟨g, rfl⟩
theorem OwnW.at {w : World} {B : Nat} {v : Value} {ws : List Bs} (h : OwnW w B v ws) : WordsAt w v ws := by
  have h0 := h
  rcases h.2 with ⟨rfl, hn⟩ | ⟨g, cap, cur, rfl, hB, hg, hc, _⟩
  · exact ⟨none, 0, by rw [hn], by omega, Or.inl (List.eq_nil_of_length_eq_zero hn)⟩
  · refine ⟨_, cap, rfl, hc, Or.inr ⟨g, 0, rfl, (Array.getElem?_eq_some_iff.1 hg).1, fun i hi => ?_⟩⟩
    have := World.ownsRow.cellAt h0 i (by omega)
    rw [Nat.zero_add, this]
    simp [strs, hi]

/-- Lines of one's own: no two of their rows are one. -/
def LL (w : World) (B : Nat) (vl : Value) (ps : List (Value × List Bs)) : Prop :=
  w.ownsRow B 71 1 vl ps.length (ps.map (·.1)) ∧ (∀ p ∈ ps, OwnW w B p.1 p.2 ∧ p.2 ≠ []) ∧ (ps.map (·.1.ownBlock)).Nodup ∧ (∀ p ∈ ps, vl.ownBlock ≠ p.1.ownBlock) ∧ (ps = [] → vl = .slice none 0 0)
theorem LL.nil (w : World) (B : Nat) : LL w B (.slice none 0 0) [] := ⟨⟨rfl, Or.inl ⟨rfl, rfl⟩⟩, (fun p hp => by cases hp), List.nodup_nil, (fun p hp => by cases hp), fun _ => rfl⟩
theorem LL.len {w : World} {B : Nat} {vl : Value} {ps : List (Value × List Bs)} (h : LL w B vl ps) : ∃ ad cap, vl = .slice ad ps.length cap := by
  rcases h.1.2 with ⟨rfl, hn⟩ | ⟨g, cap, cur, rfl, _⟩
  · exact ⟨none, 0, by rw [hn]⟩
  · exact ⟨_, cap, rfl⟩
theorem LL.kept {w w' : World} {B : Nat} {vl : Value} {ps : List (Value × List Bs)} {row : Option Nat} (h : LL w B vl ps) (hg : w.grownBy w' row) (h1 : vl.ownBlock = none ∨ vl.ownBlock ≠ row) (h2 : ∀ p ∈ ps, p.1.ownBlock ≠ row) : LL w' B vl ps :=
  ⟨h.1.kept hg h1, fun p hp => ⟨(h.2.1 p hp).1.kept hg (Or.inr (h2 p hp)), (h.2.1 p hp).2⟩, h.2.2.1, h.2.2.2⟩
theorem LL.at {w : World} {B : Nat} {vl : Value} {ps : List (Value × List Bs)} (h : LL w B vl ps) : LinesAt w vl (ps.map (·.2)) := by
  have h0 := h.1
  rcases h.1.2 with ⟨rfl, hn⟩ | ⟨g, cap, cur, rfl, hB, hg, hc, _⟩
  · have : ps = [] := List.eq_nil_of_length_eq_zero hn
    subst this
    exact ⟨none, 0, rfl, Nat.le_refl _, Or.inl rfl⟩
  · refine ⟨_, cap, by rw [List.length_map], by rw [List.length_map]; exact hc, Or.inr ⟨g, 0, rfl, (Array.getElem?_eq_some_iff.1 hg).1, fun i hi => ?_⟩⟩
    have hi' : i < ps.length := by simpa using hi
    have := World.ownsRow.cellAt h0 i (by omega)
    refine ⟨ps[i].1, by rw [Nat.zero_add, this]; simp [hi'], ?_⟩
    rw [List.getElem_map]
    exact (h.2.1 _ (List.getElem_mem hi')).1.at

/-- What the scanner has made: lines, and a line under way. -/
def St (w0 : World) (vl vw : Value) (ps : List (Value × List Bs)) (ws : List Bs) (w : World) : Prop :=
  LL w w0.heap.size vl ps ∧ OwnW w w0.heap.size vw ws ∧ (∀ p ∈ ps, vw.ownBlock ≠ p.1.ownBlock) ∧ (vw.ownBlock = none ∨ vw.ownBlock ≠ vl.ownBlock) ∧ Below w0.heap.size w0 w
theorem St.start (w : World) : St w (.slice none 0 0) (.slice none 0 0) [] [] w := ⟨LL.nil _ _, OwnW.nil _ _, (fun p hp => by cases hp), Or.inl rfl, Below.refl _ _⟩
theorem LL.below {w w' : World} {B : Nat} {vl : Value} {ps : List (Value × List Bs)} (h : LL w B vl ps) (hb : Below w.heap.size w w') : LL w' B vl ps := by
  have own : ∀ {e : TypeId} {v : Value} {n : Nat} {xs : List Value}, w.ownsRow B e 1 v n xs → w'.ownsRow B e 1 v n xs := by
    intro e v n xs ho
    refine ⟨ho.1, ?_⟩
    rcases ho.2 with hn | ⟨g, cap, cur, rfl, hB, hgg, r⟩
    · exact Or.inl hn
    · exact Or.inr ⟨g, cap, cur, rfl, hB, (hb.block g (Array.getElem?_eq_some_iff.1 hgg).1).trans hgg, r⟩
  exact ⟨own h.1, fun p hp => ⟨own (h.2.1 p hp).1, (h.2.1 p hp).2⟩, h.2.2.1, h.2.2.2⟩
theorem OwnW.below {w w' : World} {B : Nat} {v : Value} {ws : List Bs} (h : OwnW w B v ws) (hb : Below w.heap.size w w') : OwnW w' B v ws := by
  refine ⟨h.1, ?_⟩
  rcases h.2 with hn | ⟨g, cap, cur, rfl, hB, hgg, r⟩
  · exact Or.inl hn
  · exact Or.inr ⟨g, cap, cur, rfl, hB, (hb.block g (Array.getElem?_eq_some_iff.1 hgg).1).trans hgg, r⟩
theorem St.below {w0 : World} {vl vw : Value} {ps : List (Value × List Bs)} {ws : List Bs} {w w' : World} (h : St w0 vl vw ps ws w) (hb : Below w.heap.size w w') : St w0 vl vw ps ws w' :=
  ⟨h.1.below hb, h.2.1.below hb, h.2.2.1, h.2.2.2.1, below_then h.2.2.2.2 hb⟩

theorem St.word {w0 : World} {vl vw : Value} {ps : List (Value × List Bs)} {ws : List Bs} {w w' : World} {v' : Value} (x : Bs) (h : St w0 vl vw ps ws w) (ho : w'.ownsRow w0.heap.size 9 1 v' (ws.length + 1) (strs ws ++ [.string (ba x)])) (hg : w.grownBy w' vw.ownBlock) (hat : v'.ownBlock = vw.ownBlock ∨ v'.ownBlock = some w.heap.size) : St w0 vl v' ps (ws ++ [x]) w' := by
  obtain ⟨h1, h2, h3, h4, h5⟩ := h
  have hs := h5.size
  refine ⟨h1.kept hg ?_ fun p hp => (h3 p hp).symm, ?_, ?_, ?_, ?_⟩
  · rcases h4 with h4 | h4
    · rw [h4]
      cases hv : vl.ownBlock with
      | none => exact Or.inl rfl
      | some _ => exact Or.inr (by simp)
    · exact Or.inr h4.symm
  · unfold OwnW; rw [strs_snoc, List.length_append]; exact ho
  · intro p hp
    rcases hat with e | e
    · rw [e]; exact h3 p hp
    · rw [e]
      intro e2
      have := (World.ownsRow.lt (h1.2.1 p hp).1 _ e2.symm).2
      omega
  · rcases hat with e | e
    · rw [e]; exact h4
    · refine Or.inr ?_
      rw [e]
      intro e2
      have := (World.ownsRow.lt h1.1 _ e2.symm).2
      omega
  · exact h5.grown hg hs fun k hk => (World.ownsRow.lt h2 k hk).1

theorem St.line {w0 : World} {vl vw : Value} {ps : List (Value × List Bs)} {ws : List Bs} {w w' : World} {v' : Value} (h : St w0 vl vw ps ws w) (hne : ws ≠ []) (ho : w'.ownsRow w0.heap.size 71 1 v' (ps.length + 1) (ps.map (·.1) ++ [vw])) (hg : w.grownBy w' vl.ownBlock) (hat : v'.ownBlock = vl.ownBlock ∨ v'.ownBlock = some w.heap.size) : St w0 v' (.slice none 0 0) (ps ++ [(vw, ws)]) [] w' := by
  obtain ⟨h1, h2, h3, h4, h5⟩ := h
  have hs := h5.size
  obtain ⟨g, hgb⟩ := h2.block hne
  have hvw : vw.ownBlock ≠ vl.ownBlock := by
    rcases h4 with h4 | h4
    · rw [hgb] at h4; cases h4
    · exact h4
  have hlt := (World.ownsRow.lt h2 g hgb).2
  refine ⟨⟨?_, ?_, ?_, ?_, fun e => absurd e (by simp)⟩, OwnW.nil _ _, ?_, Or.inl rfl, ?_⟩
  · rw [List.length_append, List.map_append]; exact ho
  · intro p hp
    rcases List.mem_append.1 hp with hp | hp
    · exact ⟨(h1.2.1 p hp).1.kept hg (Or.inr (h1.2.2.2.1 p hp).symm), (h1.2.1 p hp).2⟩
    · obtain rfl : p = (vw, ws) := by simpa using hp
      exact ⟨h2.kept hg (Or.inr hvw), hne⟩
  · rw [List.map_append, List.nodup_append]
    refine ⟨h1.2.2.1, by simp, ?_⟩
    intro x hx y hy
    obtain ⟨p, hp, rfl⟩ := List.mem_map.1 hx
    simp only [List.map_cons, List.map_nil, List.mem_singleton] at hy
    rw [hy]
    exact (h3 p hp).symm
  · intro p hp
    have hold : ∀ k, p.1.ownBlock = some k → k < w.heap.size := by
      intro k hk
      rcases List.mem_append.1 hp with hp | hp
      · exact (World.ownsRow.lt (h1.2.1 p hp).1 k hk).2
      · obtain rfl : p = (vw, ws) := by simpa using hp
        exact (World.ownsRow.lt h2 k hk).2
    rcases hat with e | e
    · rw [e]
      rcases List.mem_append.1 hp with hp | hp
      · exact h1.2.2.2.1 p hp
      · obtain rfl : p = (vw, ws) := by simpa using hp
        exact hvw.symm
    · rw [e]
      intro e2
      have := hold _ e2.symm
      omega
  · intro p hp
    rcases List.mem_append.1 hp with hp | hp
    · obtain ⟨k, hk⟩ := (h1.2.1 p hp).1.block (h1.2.1 p hp).2
      rw [hk]; simp [Value.ownBlock]
    · obtain rfl : p = (vw, ws) := by simpa using hp
      show _ ≠ vw.ownBlock
      rw [hgb]; simp [Value.ownBlock]
  · exact h5.grown hg hs fun k hk => (World.ownsRow.lt h1.1 k hk).1
/-- What stays behind a call that writes new blocks alone. -/
def KeepP (K : World → Prop) : Prop := ∀ w w', K w → Below w.heap.size w w' → K w'
theorem KeepP.and {K M : World → Prop} (hk : KeepP K) (hm : KeepP M) : KeepP fun w => K w ∧ M w := fun _ _ h hb => ⟨hk _ _ h.1 hb, hm _ _ h.2 hb⟩
theorem KeepP.drew {K : World → Prop} (hk : KeepP K) {w : World} (h : K w) : K w.drew := hk _ _ h (Below.refl _ _).drew
theorem keepBelow (w : World) : KeepP fun w1 => Below w.heap.size w w1 := fun _ _ h hb => below_then h hb
def CellK (w : World) (g i : Nat) (v : Value) : Prop := w.cell? ⟨g, i, none⟩ = some v ∧ g < w.heap.size
theorem keepCell (g i : Nat) (v : Value) : KeepP fun w1 => CellK w1 g i v := fun _ _ h hb => ⟨(hb.cell (p := ⟨g, i, none⟩) h.2).trans h.1, Nat.lt_of_lt_of_le h.2 hb.size⟩
theorem keepWords (v : Value) (ws : List Bs) : KeepP fun w1 => WordsAt w1 v ws := fun _ _ h hb => h.below hb
theorem keepLines (v : Value) (L : List (List Bs)) : KeepP fun w1 => LinesAt w1 v L := fun _ _ h hb => h.below hb
theorem liftK {K : World → Prop} (hk : KeepP K) {P : Program} {f : Nat} {args : Array Value} {R : Ending} (h : ∀ w1, Calls P f args w1 fun e w' => e = R ∧ Below w1.heap.size w1 w') (w1 : World) (ok : K w1) :
    Calls P f args w1 fun e w' => e = R ∧ K w' := by
  refine (h w1).mono ?_
  rintro e w' ⟨rfl, hb⟩
  exact ⟨rfl, hk _ _ ok hb⟩
theorem liftK' {K : World → Prop} (hk : KeepP K) {P : Program} {f : Nat} {args : Array Value} {R : Ending} (h : ∀ w1, K w1 → Calls P f args w1 fun e w' => e = R ∧ Below w1.heap.size w1 w') (w1 : World) (ok : K w1) :
    Calls P f args w1 fun e w' => e = R ∧ K w' := by
  refine (h w1 ok).mono ?_
  rintro e w' ⟨rfl, hb⟩
  exact ⟨rfl, hk _ _ ok hb⟩
/-- A region that draws its order, whose operations read, and whose calls keep K: one walk in the order of the text serves. -/
theorem wp_region_keep {K : World → Prop} (hk : KeepP K) {P : Program} {id : Nat} {Q : Exit → Act → World → Prop} {a : Act} {w : World} {l : List Oper} (hm : P.follows .mixedOrders = true) (hB : Region.lexB .any l.toArray = true) (hC : K w)
    (h : ∀ C : World → Prop, (∀ w, K w → C w) → (∀ w, C w → K w) → wpQuiet P l.toArray C (fun a' => ∀ w', C w' → Q .normal a' w') l a) : (Code.region id l.toArray true).wp P Q a w :=
  wp_region_quiet (C := K) hm hB (hk.drew hC) (by simpa using h K (fun _ h => h) (fun _ h => h))
theorem callC {C K : World → Prop} (hin : ∀ w, K w → C w) (hout : ∀ w, C w → K w) (hk : KeepP K) {P : Program} {f : Nat} {args : Array Value} {v : Value} (h : ∀ w1, Calls P f args w1 fun e w' => e = .returned v ∧ Below w1.heap.size w1 w') (w1 : World) (hC : C w1) :
    Calls P f args w1 fun e w' => e = .returned v ∧ C w' := by
  refine (h w1).mono ?_
  rintro e w' ⟨rfl, hb⟩
  exact ⟨rfl, hin _ (hk _ _ (hout _ hC) hb)⟩
theorem callC' {C K : World → Prop} (hin : ∀ w, K w → C w) (hout : ∀ w, C w → K w) (hk : KeepP K) {P : Program} {f : Nat} {args : Array Value} {v : Value} (h : ∀ w1, K w1 → Calls P f args w1 fun e w' => e = .returned v ∧ Below w1.heap.size w1 w') (w1 : World) (hC : C w1) :
    Calls P f args w1 fun e w' => e = .returned v ∧ C w' := by
  refine (h w1 (hout _ hC)).mono ?_
  rintro e w' ⟨rfl, hb⟩
  exact ⟨rfl, hin _ (hk _ _ (hout _ hC) hb)⟩
end Go.Proofs.YtpaoimhebheaeaaGreatDoor.Sc
