/- DeltaTells: the deeds are the document's, in their order. Conditions: sizes. -/
import Derived.Test.YtcpmfhalphoppaaDoorDx16
namespace Go.Proofs.YtcpmfhalphoppaaDoor
open Go.RowKit Go.Maps Go.WideMaps Go.WideElems Dk
set_option maxRecDepth 100000

set_option maxHeartbeats 4000000 in
theorem cmpDe_any {w : World} {B1 B2 : Nat} {ao bo : Option Addr} {ca cb n : Nat} (ds : List De) (hn : n = ds.length) (hlen : n ≤ 8388608) (ha : OwnDe w B1 (.slice ao n ca) ds) (hb : OwnDe w B2 (.slice bo n cb) ds) :
    Calls Tryd.prog 8 #[.slice ao n ca, .slice bo n cb] w fun e w' => e = .returned (.bool true) ∧ Below w.heap.size w w' := by
  have HA := hide3 ha
  have HB := hide3 hb
  have HN := hide3 hn
  have hne : ((n : Int) != (n : Int)) = false := by simp
  have HB0 : Hid (Below w.heap.size w w) := Below.refl _ _
  clear ha hb hn
  go_enter Tryd.func8, Tryd.ntmps8
  go_wp2_with fail
  go_loopw [5] (fun i wr => ∃ k : Nat, k ≤ n ∧ i = .int .i64 k ∧ ∃ q, wr = w.drewN q) (fun i _ => n - (intOf i).toNat)
  case atStart => exact ⟨0, Nat.zero_le _, rfl, 0, rfl⟩
  case round =>
    obtain ⟨k, hk, rfl, q, rfl⟩ := hrel
    by_cases hlt : k < n
    · have hkd : k < ds.length := by rw [← HN.out]; exact hlt
      obtain ⟨g, cp, hv, _, _⟩ := HA.out.some (by omega)
      obtain rfl : ao = some ⟨g, 0, none⟩ := by cases hv; rfl
      clear hv
      obtain ⟨h, cp', hv, _, _⟩ := HB.out.some (by omega)
      obtain rfl : bo = some ⟨h, 0, none⟩ := by cases hv; rfl
      clear hv
      obtain ⟨a0, a1, a2⟩ := HA.out.cells k hkd
      obtain ⟨b0, b1, b2⟩ := HB.out.cells k hkd
      have hnq := fun w => neqDe ds[k] ds[k] w
      rw [eqDe_iff.2 rfl] at hnq
      have hgd := fun op x y xs ys w => guardDe op x y xs ys w
      generalize ds[k].kd = v0 at *
      generalize ds[k].pa = v1 at *
      generalize ds[k].da = v2 at *
      have hki : (k : Int) < (n : Int) := by omega
      go_wp2_with fail
      go_quiet (fail)
      go_wp2
      exact ⟨⟨k + 1, by omega, by go_num, q + nq, rfl⟩, by simp [intOf]; omega⟩
    · go_wp2
      go_ret
      exact ⟨rfl, below_drewQ HB0.out q⟩

set_option maxHeartbeats 4000000 in
theorem tells_walk (fs gs : List Fl) (a b : Option Addr) (ca cb : Nat) (m : Int) (w : World) (hm : w.cell? ⟨0, 0, none⟩ = some (.int .i64 m)) (hlf : fs.length ≤ 1048576) (hlg : gs.length ≤ 1048576) (hcf : IsFiles w a fs) (hcg : IsFiles w b gs)
    (hzf : ∀ f ∈ fs, f.1.size ≤ maxLen ∧ f.2.2.size ≤ 281474976710656) (hzg : ∀ f ∈ gs, f.1.size ≤ maxLen ∧ f.2.2.size ≤ 281474976710656) :
    Calls Tryd.prog 3 #[.slice a fs.length ca, .slice b gs.length cb] w fun e w' => e = .returned (.bool true) ∧ Below w.heap.size w w' := by
  have hmax : ∀ n : Nat, n ≤ 281474976710656 → n ≤ maxLen := fun n h => by unfold maxLen; omega
  have HD : Hid (Calls Tryd.prog 6 #[.slice a fs.length ca, .slice b gs.length cb] w (DdQ w fs gs)) := deeds_any fs gs a b ca cb m w hm hlf hlg hcf hcg hzf hzg
  have HLV : Hid (∀ W, Below w.heap.size w W → Calls Tryd.prog 9 #[] W fun e w' => e = .returned (.bool true) ∧ Below w.heap.size w w') := fun W hb => (lives_any m W ((hb.cell (p := ⟨0, 0, none⟩) (cell_lt hm)).trans hm)).mono fun e w' hq => ⟨hq.1, hb.trans (hq.2.mono hb.size)⟩
  have HCM : Hid (∀ W B1 B2 ao bo c1 c2 n, n = (deeds fs gs).length → n ≤ 8388608 → OwnDe W B1 (.slice ao n c1) (deeds fs gs) → OwnDe W B2 (.slice bo n c2) (deeds fs gs) → Calls Tryd.prog 8 #[.slice ao n c1, .slice bo n c2] W fun e w' => e = .returned (.bool true) ∧ Below W.heap.size W w') := fun W B1 B2 ao bo c1 c2 n hn hl h1 h2 => cmpDe_any _ hn hl h1 h2
  by_cases hok : OkJ fs ∧ OkJ gs
  · have HD1 : Hid (Calls Tryd.prog 6 #[.slice a fs.length ca, .slice b gs.length cb] w fun e w' => ∃ ad n cp, e = .returned (.tuple #[.slice ad n cp, .int .i64 0]) ∧ n = (deeds fs gs).length ∧ Below w.heap.size w w' ∧ OwnDe w' w.heap.size (.slice ad n cp) (deeds fs gs)) := HD.out.mono fun e w' hq => by
      obtain ⟨hb, ⟨_, v, he, hd⟩ | ⟨hn, _⟩⟩ := hq
      · obtain ⟨ad, cp, rfl, _⟩ := hd.sl
        exact ⟨ad, _, cp, he, rfl, hb, hd⟩
      · exact absurd hok hn
    have HE1 : Hid (∀ W, Below w.heap.size w W → Calls Tryd.prog 7 #[.slice a fs.length ca, .slice b gs.length cb] W fun e w' => ∃ ad n cp, e = .returned (.tuple #[.slice ad n cp, .int .i64 0]) ∧ n = (deeds fs gs).length ∧ Below W.heap.size W w' ∧ OwnDe w' W.heap.size (.slice ad n cp) (deeds fs gs)) := fun W hW => (rDeeds_yes fs gs a b ca cb W hlf hlg (hcf.below hW) (hcg.below hW) (fun f hf => ⟨(hzf f hf).1, hmax _ (hzf f hf).2⟩) (fun f hf => ⟨(hzg f hf).1, hmax _ (hzg f hf).2⟩) hok.1 hok.2).mono fun e w' hq => by
      obtain ⟨v, he, hd, hb⟩ := hq
      obtain ⟨ad, cp, rfl, _⟩ := hd.sl
      exact ⟨ad, _, cp, he, rfl, hb, hd⟩
    have HND : Hid ((deeds fs gs).length ≤ 8388608) := by
      have hU := List.length_filter_le (wU (filesD (loadD gs))) (filesD (loadD fs)).reverse
      have hR := List.length_filter_le (wR (filesD (loadD gs))) (filesD (loadD fs)).reverse
      have hM := List.length_filter_le (wM (filesD (loadD fs))) (filesD (loadD gs))
      have hP := List.length_filter_le (wP (filesD (loadD fs))) (filesD (loadD gs))
      have e1 := (ordL hok.1.1).perm.length_eq
      have e2 := (ordL hok.2.1).perm.length_eq
      rw [List.length_reverse] at hU hR
      unfold Hid deeds deD lU lR lM lP
      simp only [List.length_append, List.length_map]
      omega
    clear HD hok hcf hcg hm hzf hzg hmax
    generalize deeds fs gs = ds at *
    go_enter Tryd.func3, Tryd.ntmps3
    go_upto_region 2 with (go_at_call 6; refine HD1.out.mono ?_; rintro e w1 ⟨ad1, n1, cp1, rfl, hn1, hb1, ho1⟩; have HN1 := hide3 hn1; have HB1 := hide3 hb1; have HO1 := hide3 ho1; clear hb1 ho1 hn1)
    go_upto_region 3 with (go_at_call 7; refine (HE1.out _ HB1.out).mono ?_; rintro e w2 ⟨ad2, n2, cp2, rfl, hn2, hb2, ho2⟩; have HN2 := hide3 hn2; have HB2 := hide3 (HB1.out.trans (hb2.mono HB1.out.size)); have HO2 := hide3 ho2; have HO12 := hide3 (HO1.out.below hb2); clear hb2 ho2 hn2)
    obtain rfl : n2 = n1 := HN2.out.trans HN1.out.symm
    have HLN : Hid (n2 ≤ 8388608) := by unfold Hid; rw [HN2.out]; exact HND.out
    go_wp2_with (first
      | (go_at_call 8; refine (HCM.out _ _ _ _ _ _ _ _ HN2.out HLN.out HO12.out HO2.out).mono ?_; rintro e w3 ⟨rfl, hb3⟩; have HB3 := hide3 (HB2.out.trans (hb3.mono HB2.out.size)); clear hb3)
      | (go_at_call 9; refine (HLV.out _ HB3.out).mono ?_; rintro e w4 ⟨rfl, hb4⟩; have HB4 := hide3 hb4; clear hb4))
    go_ret
    exact ⟨rfl, HB4.out⟩
  · have HD1 : Hid (Calls Tryd.prog 6 #[.slice a fs.length ca, .slice b gs.length cb] w fun e w' => e = .returned (.tuple #[.slice none 0 0, .int .i64 1]) ∧ Below w.heap.size w w') := HD.out.mono fun e w' hq => by
      obtain ⟨hb, ⟨h, _⟩ | ⟨_, he⟩⟩ := hq
      · exact absurd h hok
      · exact ⟨he, hb⟩
    have HE1 : Hid (∀ W, Below w.heap.size w W → Calls Tryd.prog 7 #[.slice a fs.length ca, .slice b gs.length cb] W fun e w' => e = .returned (.tuple #[.slice none 0 0, .int .i64 1]) ∧ Below W.heap.size W w') := fun W hW => rDeeds_no fs gs a b ca cb W hlf hlg (hcf.below hW) (hcg.below hW) (fun f hf => ⟨(hzf f hf).1, hmax _ (hzf f hf).2⟩) (fun f hf => ⟨(hzg f hf).1, hmax _ (hzg f hf).2⟩) hok
    have HC0 : Hid (∀ W, Calls Tryd.prog 8 #[.slice none 0 0, .slice none 0 0] W fun e w' => e = .returned (.bool true) ∧ Below W.heap.size W w') := fun W => cmpDe_any (B1 := 0) (B2 := 0) [] rfl (by decide) (OwnDe.nil _ _) (OwnDe.nil _ _)
    clear HD hok hcf hcg hm hzf hzg hmax HCM
    go_enter Tryd.func3, Tryd.ntmps3
    go_wp2_with (first
      | (go_at_call 6; refine HD1.out.mono ?_; rintro e w1 ⟨rfl, hb1⟩; have HB1 := hide3 hb1; clear hb1)
      | (go_at_call 7; refine (HE1.out _ HB1.out).mono ?_; rintro e w2 ⟨rfl, hb2⟩; have HB2 := hide3 (HB1.out.trans (hb2.mono HB1.out.size)); clear hb2)
      | (go_at_call 8; refine (HC0.out _).mono ?_; rintro e w3 ⟨rfl, hb3⟩; have HB3 := hide3 (HB2.out.trans (hb3.mono HB2.out.size)); clear hb3)
      | (go_at_call 9; refine (HLV.out _ HB3.out).mono ?_; rintro e w4 ⟨rfl, hb4⟩; have HB4 := hide3 hb4; clear hb4))
    go_ret
    exact ⟨rfl, HB4.out⟩
end Go.Proofs.YtcpmfhalphoppaaDoor
