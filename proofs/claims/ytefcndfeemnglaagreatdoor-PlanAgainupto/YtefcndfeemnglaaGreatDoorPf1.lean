/- The law's same and known of package halyardlaw17; PlanBack: the walk. Conditions: sizes. -/
import Derived.Test.YtefcndfeemnglaaGreatDoorPe3
import Derived.BigQuiet
namespace Go.Proofs.YtefcndfeemnglaaGreatDoor
open Go.RowKit Go.Maps Go.WideMaps Go.WideElems Dk
set_option maxRecDepth 100000

theorem below_drewP {B : Nat} {a w : World} (h : Below B a w) (q : Nat) : Below B a (w.drewN q) := ⟨h.os, h.tape, h.output, h.size, h.block⟩
theorem sameDe_any {w : World} {ao bo : Option Addr} {ca cb n : Nat} (ds : List De) (hn : n = ds.length) (hlen : n ≤ 8388608) (ha : IsDes w ao ds) (hb : IsDes w bo ds) :
    Calls Tryz.prog 14 #[.slice ao n ca, .slice bo n cb] w fun e w' => e = .returned (.bool true) ∧ Below w.heap.size w w' := by
  have HA := hide3 ha
  have HB := hide3 hb
  have HN := hide3 hn
  have hne : ((n : Int) != (n : Int)) = false := by simp
  have HB0 : Hid (Below w.heap.size w w) := Below.refl _ _
  clear ha hb hn
  go_enter Tryz.func14, Tryz.ntmps14
  go_wp2_with fail
  go_loopw [5] (fun i wr => ∃ k : Nat, k ≤ n ∧ i = .int .i64 k ∧ ∃ q, wr = w.drewN q) (fun i _ => n - (intOf i).toNat)
  case atStart => exact ⟨0, Nat.zero_le _, rfl, 0, rfl⟩
  case round =>
    obtain ⟨k, hk, rfl, q, rfl⟩ := hrel
    by_cases hlt : k < n
    · have hkd : k < ds.length := by rw [← HN.out]; exact hlt
      have hnn : ds ≠ [] := fun e => by rw [e] at hkd; cases hkd
      obtain ⟨g, o, rfl, _, hca⟩ := HA.out.resolve_left hnn
      obtain ⟨h, p, rfl, _, hcb⟩ := HB.out.resolve_left hnn
      obtain ⟨a0, a1, a2⟩ := hca k hkd
      obtain ⟨b0, b1, b2⟩ := hcb k hkd
      have hnq := fun w => neqDe ds[k] ds[k] w
      rw [eqDe_iff.2 rfl] at hnq
      have hgd := fun op x y xs ys w => guardDe op x y xs ys w
      clear hca hcb hnn
      generalize ds[k].kd = v0 at *
      generalize ds[k].pa = v1 at *
      generalize ds[k].da = v2 at *
      have hki : (k : Int) < (n : Int) := by omega
      go_wp2_with fail
      go_quiet (fail)
      go_wp2
      exact ⟨⟨k + 1, by omega, by go_num, q + nq, rfl⟩, by simp [intOf]; omega⟩
    · go_wp2
      go_ret
      exact ⟨rfl, below_drewP HB0.out q⟩

/-- The plan whose text is fixed. -/
def kl : List De := [⟨3, ⟨#[47, 98]⟩, ⟨#[]⟩⟩, ⟨4, ⟨#[47, 98, 47, 103]⟩, ⟨#[65, 255]⟩⟩]
def kt : ByteArray := ⟨#[112, 108, 97, 110, 10, 109, 107, 100, 105, 114, 32, 47, 98, 10, 112, 117, 116, 32, 47, 98, 47, 103, 32, 52, 49, 102, 102, 10]⟩
theorem kl_plan : Plan kl := by
  intro i hi
  match i, hi with
  | 0, _ => show okDe (List.take 0 kl) (kl[0]'(by decide)) = true; decide +kernel
  | 1, _ => show okDe (List.take 1 kl) (kl[1]'(by decide)) = true; decide +kernel
theorem kl_text : textD kl = kt := by decide +kernel
theorem kl_new (w : World) : IsDes (w.alloc (.cells #[.int .i64 3, .string ⟨#[47, 98]⟩, .string ⟨#[]⟩, .int .i64 4, .string ⟨#[47, 98, 47, 103]⟩, .string ⟨#[65, 255]⟩] 32)) (some ⟨w.heap.size, 0, none⟩) kl := by
  refine Or.inr ⟨w.heap.size, 0, rfl, by simp, fun k hk => ?_⟩
  match k, hk with
  | 0, _ => simp [kl]
  | 1, _ => simp [kl]

set_option maxHeartbeats 4000000 in
theorem known17_any (m : Int) (w : World) (hm : w.cell? ⟨0, 0, none⟩ = some (.int .i64 m)) : Calls Tryz.prog 4 #[] w fun e w' => e = .returned (.bool true) ∧ Below w.heap.size w w' := by
  obtain ⟨W0, hW0⟩ : ∃ W0, W0 = w.alloc (.cells #[.int .i64 3, .string ⟨#[47, 98]⟩, .string ⟨#[]⟩, .int .i64 4, .string ⟨#[47, 98, 47, 103]⟩, .string ⟨#[65, 255]⟩] 32) := ⟨_, rfl⟩
  have HX : Hid (Below w.heap.size w W0) := by rw [hW0]; exact (Below.refl _ _).alloc (Nat.le_refl _) _
  have HD : Hid (IsDes W0 (some ⟨w.heap.size, 0, none⟩) kl) := by rw [hW0]; exact kl_new w
  have HMW : Hid (∀ W, Below w.heap.size w W → W.cell? ⟨0, 0, none⟩ = some (.int .i64 m)) := fun W hb => (hb.cell (p := ⟨0, 0, none⟩) (cell_lt hm)).trans hm
  have HDW : Hid (∀ W, Below W0.heap.size W0 W → IsDes W (some ⟨w.heap.size, 0, none⟩) kl) := fun W hb => HD.out.below hb
  have hz : ∀ d ∈ kl, d.pa.size ≤ maxLen ∧ d.da.size ≤ 100000000 := by
    intro d hd
    rcases List.mem_cons.1 hd with rfl | hd
    · exact ⟨by decide, by decide⟩
    · rw [List.mem_singleton.1 hd]; exact ⟨by decide, by decide⟩
  have HP : Hid (Calls Tryz.prog 12 #[.slice (some ⟨w.heap.size, 0, none⟩) 2 2] W0 fun e w' => e = .returned (.tuple #[.string kt, .int .i64 0]) ∧ Below W0.heap.size W0 w') := by
    have := Print_any kl (some ⟨w.heap.size, 0, none⟩) 2 m W0 (HMW.out W0 HX.out) (by decide) HD.out hz (by rw [kl_text]; decide)
    rw [(prn_yes kl_plan).1, (prn_yes kl_plan).2, kl_text] at this
    exact this
  have HR : Hid (∀ W, Below w.heap.size w W → Calls Tryz.prog 13 #[.string kt] W fun e w' => ∃ a cap, e = .returned (.tuple #[.slice a 2 cap, .int .i64 0]) ∧ IsDes w' a kl ∧ Below W.heap.size W w') := fun W hb => by
    refine (Parse_any kt (by decide) m W (HMW.out W hb)).mono ?_
    rw [← kl_text, parO_text kl_plan]
    rintro e w' ⟨v, rfl, hd, hb⟩
    obtain ⟨a, cap, rfl, h⟩ := hd.isDes
    exact ⟨a, cap, rfl, h, hb⟩
  have HC : Hid (∀ W, Below W0.heap.size W0 W → Below w.heap.size w W → Calls Tryz.prog 6 #[.slice (some ⟨w.heap.size, 0, none⟩) 2 2] W fun e w' => e = .returned (.int .i64 0) ∧ Below W.heap.size W w') := fun W hb hb2 => by
    have := Check_is kl (some ⟨w.heap.size, 0, none⟩) 2 m W (HMW.out W hb2) (by decide) (HDW.out W hb) fun d hd => (hz d hd).1
    rw [(prn_yes kl_plan).2] at this
    exact this
  have HS : Hid (∀ W a cap, IsDes W a kl → IsDes W (some ⟨w.heap.size, 0, none⟩) kl → Calls Tryz.prog 14 #[.slice (some ⟨w.heap.size, 0, none⟩) 2 2, .slice a 2 cap] W fun e w' => e = .returned (.bool true) ∧ Below W.heap.size W w') := fun W a cap h1 h2 => sameDe_any kl rfl (by decide) h2 h1
  have hkt : (kt.toList == [112, 108, 97, 110, 10, 109, 107, 100, 105, 114, 32, 47, 98, 10, 112, 117, 116, 32, 47, 98, 47, 103, 32, 52, 49, 102, 102, 10]) = true := by decide +kernel
  clear hz hm HMW
  generalize kt = T at *
  go_enter Tryz.func4, Tryz.ntmps4
  go_wp2_with fail
  rw [← hW0]
  clear hW0
  go_wp2_with (first
    | (go_at_call 6; have _t := HB3; refine (HC.out _ HC3.out HB3.out).mono ?_; rintro e w4 ⟨rfl, hb4⟩; have HB4 : Hid (Below w.heap.size w w4) := HB3.out.trans (hb4.mono HB3.out.size); clear hb4)
    | (go_at_call 14; have _t := HD2; refine (HS.out _ _ _ HD2.out (HDW.out _ HC2.out)).mono ?_; rintro e w3 ⟨rfl, hb3⟩; have HC3 : Hid (Below W0.heap.size W0 w3) := HC2.out.trans (hb3.mono HC2.out.size); have HB3 : Hid (Below w.heap.size w w3) := HX.out.trans (HC3.out.mono HX.out.size); clear hb3)
    | (go_at_call 13; have _t := HB1; refine (HR.out _ HB1.out).mono ?_; rintro e w2 ⟨a2, c2, rfl, hd2, hb2⟩; have HD2 := hide3 hd2; have HC2 : Hid (Below W0.heap.size W0 w2) := HC1.out.trans (hb2.mono HC1.out.size); clear hb2 hd2)
    | (go_at_call 12; refine HP.out.mono ?_; rintro e w1 ⟨rfl, hb1⟩; have HC1 := hide3 hb1; have HB1 : Hid (Below w.heap.size w w1) := HX.out.trans (hb1.mono HX.out.size); clear hb1))
  go_ret
  exact ⟨rfl, HB4.out⟩
end Go.Proofs.YtefcndfeemnglaaGreatDoor
