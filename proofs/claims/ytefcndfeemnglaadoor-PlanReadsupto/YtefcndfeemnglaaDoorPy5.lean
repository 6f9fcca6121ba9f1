/- The document's text and Print of package halyardref17. Conditions: sizes. -/
import Derived.Test.YtefcndfeemnglaaDoorPy4
namespace Go.Proofs.YtefcndfeemnglaaDoor
open Go.RowKit Dk
set_option maxRecDepth 100000

def sp1 : ByteArray := ⟨#[32]⟩
def nl1 : ByteArray := ⟨#[10]⟩
/-- A deed's line. -/
def lineD (d : De) (acc : ByteArray) : ByteArray := (if (d.kd == 4) = true then acc ++ wordP d.kd ++ sp1 ++ d.pa ++ sp1 ++ hexT d.da else acc ++ wordP d.kd ++ sp1 ++ d.pa) ++ nl1
/-- A plan's text. -/
def textD (l : List De) : ByteArray := l.foldl (fun acc d => lineD d acc) ⟨#[112, 108, 97, 110, 10]⟩
theorem textD_snoc (l : List De) (d : De) : textD (l ++ [d]) = lineD d (textD l) := by unfold textD; rw [List.foldl_append]; rfl

theorem by_app (x y : ByteArray) : (x ++ y).size = x.size + y.size := ByteArray.size_append
theorem lineD_le (d : De) (acc : ByteArray) : acc.size ≤ (lineD d acc).size := by
  unfold lineD
  split <;> simp only [by_app] <;> omega
theorem foldD_le : ∀ (l : List De) (acc : ByteArray), acc.size ≤ (l.foldl (fun acc d => lineD d acc) acc).size
  | [], _ => Nat.le_refl _
  | d :: l, acc => Nat.le_trans (lineD_le d acc) (foldD_le l (lineD d acc))
theorem textD_take (l : List De) (k : Nat) : (textD (l.take k)).size ≤ (textD l).size := by
  conv => rhs; rw [← List.take_append_drop k l]
  unfold textD
  rw [List.foldl_append]
  exact foldD_le _ _

set_option maxHeartbeats 8000000 in
theorem pText_any (l : List De) (a : Option Addr) (cap : Nat) (w : World) (hlen : l.length ≤ 8388608) (hc : IsDes w a l) (hz : ∀ d ∈ l, d.da.size ≤ 100000000) (hsz : (textD l).size ≤ 9223372036854775807) :
    Calls Tryd.prog 17 #[.slice a l.length cap] w fun e w' => e = .returned (.string (textD l)) ∧ Below w.heap.size w w' := by
  have HC := hide3 hc
  have HZ := hide3 hz
  have HSZ := hide3 hsz
  have HT0 : Hid (textD (l.take 0) = ⟨#[112, 108, 97, 110, 10]⟩) := rfl
  clear hc hz hsz
  go_enter Tryd.func17, Tryd.ntmps17
  go_wp2_with fail
  go_loopw [3, 4] (fun v3 v4 wr => ∃ k : Nat, k ≤ l.length ∧ v4 = .int .i64 k ∧ v3 = .string (textD (l.take k)) ∧ Below w.heap.size w wr) (fun _ v4 _ => l.length - (intOf v4).toNat)
  case atStart => exact ⟨0, Nat.zero_le _, rfl, rfl, Below.refl _ _⟩
  case round =>
    obtain ⟨k, hk, rfl, rfl, hb⟩ := hrel
    have HB := hide3 hb
    clear hb
    by_cases hlt : k < l.length
    · obtain ⟨g, off, rfl, hg, hcs⟩ : ∃ g off, a = some ⟨g, off, none⟩ ∧ g < w.heap.size ∧ DesIn w g off l := by
        rcases HC.out with h | h
        · rw [h] at hlt; exact absurd hlt (Nat.not_lt_zero _)
        · exact h
      have HCW : Hid (∀ W, Below wr.heap.size wr W → W.cell? ⟨g, off + k * 3, none⟩ = some (.int .i64 l[k].kd) ∧ W.cell? ⟨g, off + k * 3 + 1, none⟩ = some (.string l[k].pa) ∧ W.cell? ⟨g, off + k * 3 + 1 + 1, none⟩ = some (.string l[k].da)) := fun W hW => by
        have hb2 := HB.out.trans (hW.mono HB.out.size)
        obtain ⟨a0, a1, a2⟩ := hcs k hlt
        exact ⟨(hb2.cell (p := ⟨g, off + k * 3, none⟩) hg).trans a0, (hb2.cell (p := ⟨g, off + k * 3 + 1, none⟩) hg).trans a1, (hb2.cell (p := ⟨g, off + k * 3 + 1 + 1, none⟩) hg).trans a2⟩
      obtain ⟨b0, b1, b2⟩ := HCW.out wr (Below.refl _ _)
      have HTK : Hid (textD (l.take (k + 1)) = lineD l[k] (textD (l.take k))) := by unfold Hid; rw [List.take_succ_eq_append_getElem hlt, textD_snoc]
      have HWD : Hid (∀ W, Calls Tryd.prog 28 #[.int .i64 l[k].kd] W fun e w' => e = .returned (.string (wordP l[k].kd)) ∧ w' = W) := fun W => word_any _ W
      have HHX : Hid (∀ W, Calls Tryd.prog 37 #[.string l[k].da] W fun e w' => e = .returned (.string (hexT l[k].da)) ∧ Below W.heap.size W w') := fun W => hex_any _ W (HZ.out _ (List.getElem_mem hlt))
      have HLD : Hid (lineD l[k] (textD (l.take k)) = (if (l[k].kd == 4) = true then textD (l.take k) ++ wordP l[k].kd ++ sp1 ++ l[k].pa ++ sp1 ++ hexT l[k].da else textD (l.take k) ++ wordP l[k].kd ++ sp1 ++ l[k].pa) ++ nl1) := rfl
      have HTS : Hid ((textD (l.take (k + 1))).size ≤ 9223372036854775807) := Nat.le_trans (textD_take l (k + 1)) HSZ.out
      rw [HTK.out] at HTS
      rw [HLD.out] at HTK HTS
      have hki : (k : Int) < (l.length : Int) := by omega
      have hk0 : (0 : Int) ≤ (k : Int) := by omega
      have HB0 : Hid (Below wr.heap.size wr wr.drew) := (Below.refl _ _).drew
      clear hcs HLD
      generalize textD (l.take k) = acc at *
      generalize l[k].kd = kd at *
      generalize l[k].pa = p at *
      generalize l[k].da = t at *
      generalize wordP kd = wd at *
      generalize hexT t = hx at *
      unfold sp1 nl1 at HTK HTS
      cases h4 : (kd == 4)
      · rw [h4] at HTK HTS
        simp only [Bool.false_eq_true, if_false] at HTK HTS
        have hs := HTS.out
        simp only [by_app] at hs
        have e1 := fun W : World => run_string_add_sum (P := Tryd.prog) (w := W) acc wd (by omega)
        have e2 := fun W : World => run_string_add_sum (P := Tryd.prog) (w := W) (acc ++ wd) ⟨#[32]⟩ (by simp only [by_app]; omega)
        have e3 := fun W : World => run_string_add_sum (P := Tryd.prog) (w := W) (acc ++ wd ++ ⟨#[32]⟩) p (by simp only [by_app]; omega)
        have e4 := fun W : World => run_string_add_sum (P := Tryd.prog) (w := W) (acc ++ wd ++ ⟨#[32]⟩ ++ p) ⟨#[10]⟩ (by simp only [by_app]; omega)
        clear hs HTS
        go_wp2_with fail
        go_region_held3 (fun w' => w'.cell? ⟨g, off + k * 3, none⟩ = some (.int .i64 kd) ∧ w'.cell? ⟨g, off + k * 3 + 1, none⟩ = some (.string p)) (go_keep) (first | (go_at_call 28; refine (HWD.out _).mono ?_; rintro e w5 ⟨rfl, hw5⟩; subst w5))
        all_goals go_wp2
        all_goals exact ⟨⟨k + 1, by omega, by go_num, by rw [HTK.out], HB.out.trans (HB0.out.mono HB.out.size)⟩, by simp [intOf]; omega⟩
      · rw [h4] at HTK HTS
        simp only [if_true] at HTK HTS
        have hs := HTS.out
        simp only [by_app] at hs
        have e1 := fun W : World => run_string_add_sum (P := Tryd.prog) (w := W) acc wd (by omega)
        have e2 := fun W : World => run_string_add_sum (P := Tryd.prog) (w := W) (acc ++ wd) ⟨#[32]⟩ (by simp only [by_app]; omega)
        have e3 := fun W : World => run_string_add_sum (P := Tryd.prog) (w := W) (acc ++ wd ++ ⟨#[32]⟩) p (by simp only [by_app]; omega)
        have e4 := fun W : World => run_string_add_sum (P := Tryd.prog) (w := W) (acc ++ wd ++ ⟨#[32]⟩ ++ p) ⟨#[32]⟩ (by simp only [by_app]; omega)
        have e5 := fun W : World => run_string_add_sum (P := Tryd.prog) (w := W) (acc ++ wd ++ ⟨#[32]⟩ ++ p ++ ⟨#[32]⟩) hx (by simp only [by_app]; omega)
        have e6 := fun W : World => run_string_add_sum (P := Tryd.prog) (w := W) (acc ++ wd ++ ⟨#[32]⟩ ++ p ++ ⟨#[32]⟩ ++ hx) ⟨#[10]⟩ (by simp only [by_app]; omega)
        clear hs HTS
        obtain ⟨c0, c1, c2⟩ := HCW.out _ HB0.out
        go_wp2_with fail
        go_region_held3 (fun w' => w'.cell? ⟨g, off + k * 3, none⟩ = some (.int .i64 kd) ∧ w'.cell? ⟨g, off + k * 3 + 1, none⟩ = some (.string p)) (go_keep) (first | (go_at_call 28; refine (HWD.out _).mono ?_; rintro e w5 ⟨rfl, hw5⟩; subst w5))
        all_goals go_wp2_with (go_at_call 37; refine (HHX.out _).mono ?_; rintro e w6 ⟨rfl, hb6⟩; have HB6 := hide3 (HB0.out.trans (hb6.mono HB0.out.size)); clear hb6)
        all_goals exact ⟨⟨k + 1, by omega, by go_num, by rw [HTK.out], HB.out.trans (HB6.out.mono HB.out.size)⟩, by simp [intOf]; omega⟩
    · obtain rfl : k = l.length := by omega
      rw [List.take_length]
      go_wp2
      go_ret
      exact ⟨rfl, HB.out⟩

set_option maxHeartbeats 800000 in
theorem pPrint_any17 (l : List De) (a : Option Addr) (cap : Nat) (w : World) (hlen : l.length ≤ 8388608) (hc : IsDes w a l) (hz : ∀ d ∈ l, d.pa.size ≤ maxLen ∧ d.da.size ≤ 100000000) (hsz : (textD l).size ≤ 9223372036854775807) :
    Calls Tryd.prog 8 #[.slice a l.length cap] w fun e w' => ((Plan l ∧ e = .returned (.tuple #[.string (textD l), .int .i64 0])) ∨ (¬ Plan l ∧ e = .returned (.tuple #[.string ⟨#[]⟩, .int .i64 44]))) ∧ Below w.heap.size w w' := by
  have HK : Hid (Calls Tryd.prog 10 #[.slice a l.length cap] w fun e w' => (∃ r, e = .returned (.int .i64 r) ∧ ((Plan l ∧ r = 0) ∨ (¬ Plan l ∧ r = 44))) ∧ Below w.heap.size w w') := pCheck_any l a cap w hlen hc (fun d hd => (hz d hd).1)
  have HT : Hid (∀ W, Below w.heap.size w W → Calls Tryd.prog 17 #[.slice a l.length cap] W fun e w' => e = .returned (.string (textD l)) ∧ Below w.heap.size w w') := fun W hW => (pText_any l a cap W hlen (hc.below hW) (fun d hd => (hz d hd).2) hsz).mono fun e w' hq => ⟨hq.1, hW.trans (hq.2.mono hW.size)⟩
  clear hc hz hsz
  by_cases hP : Plan l
  · have HK2 : Hid (Calls Tryd.prog 10 #[.slice a l.length cap] w fun e w' => e = .returned (.int .i64 0) ∧ Below w.heap.size w w') := HK.out.mono fun e w' hq => by
      obtain ⟨⟨r, he, ⟨_, rfl⟩ | ⟨h, _⟩⟩, hb⟩ := hq
      · exact ⟨he, hb⟩
      · exact absurd hP h
    have HPP := hide3 hP
    clear HK hP
    go_enter Tryd.func8, Tryd.ntmps8
    go_wp2_with (first
      | (go_at_call 10; refine HK2.out.mono ?_; rintro e w1 ⟨rfl, hb1⟩; have HB1 := hide3 hb1; clear hb1)
      | (go_at_call 17; refine (HT.out _ HB1.out).mono ?_; rintro e w2 ⟨rfl, hb2⟩; have HB2 := hide3 hb2; clear hb2))
    go_ret2
    exact ⟨Or.inl ⟨HPP.out, rfl⟩, HB2.out⟩
  · have HK2 : Hid (Calls Tryd.prog 10 #[.slice a l.length cap] w fun e w' => e = .returned (.int .i64 44) ∧ Below w.heap.size w w') := HK.out.mono fun e w' hq => by
      obtain ⟨⟨r, he, ⟨h, _⟩ | ⟨_, rfl⟩⟩, hb⟩ := hq
      · exact absurd h hP
      · exact ⟨he, hb⟩
    have HPP := hide3 hP
    clear HK hP
    go_enter Tryd.func8, Tryd.ntmps8
    go_wp2_with (go_at_call 10; refine HK2.out.mono ?_; rintro e w1 ⟨rfl, hb1⟩; have HB1 := hide3 hb1; clear hb1)
    go_ret2
    exact ⟨Or.inr ⟨HPP.out, rfl⟩, HB1.out⟩
end Go.Proofs.YtefcndfeemnglaaDoor
