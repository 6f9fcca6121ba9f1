/- words and same of the statements at equal lists. -/
import Derived.Test.YtiahoaneinojgaaDoorBa1
namespace Go.Proofs.YtiahoaneinojgaaDoor.Sc
open Go.RowKit
set_option maxRecDepth 100000

set_option maxHeartbeats 1600000 in
theorem words_walk (ws : List Bs) (ga oa ca gb ob cb : Nat) (w : World) (hlen : ws.length ≤ 1000000000) (hga : ga < w.heap.size) (hgb : gb < w.heap.size) (hla : ∀ i (h : i < ws.length), w.cell? ⟨ga, oa + i, none⟩ = some (.string (ba ws[i]))) (hlb : ∀ i (h : i < ws.length), w.cell? ⟨gb, ob + i, none⟩ = some (.string (ba ws[i]))) :
    Calls Tryd.prog 22 #[.slice (some ⟨ga, oa, none⟩) ws.length ca, .slice (some ⟨gb, ob, none⟩) ws.length cb] w fun e w' => e = .returned (.bool true) ∧ Below w.heap.size w w' := by
  have HL : Hid (∀ w1, Below w.heap.size w w1 → ∀ i (h : i < ws.length), CellK w1 ga (oa + i) (.string (ba ws[i])) ∧ CellK w1 gb (ob + i) (.string (ba ws[i]))) := fun w1 hb i hi => ⟨keepCell _ _ _ _ _ ⟨hla i hi, hga⟩ hb, keepCell _ _ _ _ _ ⟨hlb i hi, hgb⟩ hb⟩
  clear hla hlb
  go_enter Tryd.func22, Tryd.ntmps22
  go_wp2_with fail
  go_loopw [5] (fun i wr => ∃ k : Nat, k ≤ ws.length ∧ i = .int .i64 k ∧ Below w.heap.size w wr) (fun i _ => ws.length - (intOf i).toNat)
  case atStart => exact ⟨0, Nat.zero_le _, rfl, Below.refl _ _⟩
  case round =>
    obtain ⟨k, hk, rfl, hb⟩ := hrel
    have HB := hide3 hb
    by_cases hlt : k < ws.length
    · have HO : Hid (Below w.heap.size w wr ∧ CellK wr ga (oa + k) (.string (ba ws[k])) ∧ CellK wr gb (ob + k) (.string (ba ws[k]))) := ⟨hb, HL.out wr hb k hlt⟩
      have HK : Hid (KeepP fun w1 => Below w.heap.size w w1 ∧ CellK w1 ga (oa + k) (.string (ba ws[k])) ∧ CellK w1 gb (ob + k) (.string (ba ws[k]))) := (keepBelow w).and ((keepCell _ _ _).and (keepCell _ _ _))
      generalize ba ws[k] = x at *
      clear hb
      go_wp2_with fail
      refine wp_region_keep HK.out (by kernel_rfl) (by kernel_rfl) (by first | exact HO.out | exact HK.out.drew HO.out) ?_
      intro C hin hout
      have HIN := hide3 hin
      have HOUT := hide3 hout
      clear hin hout HO
      repeat
        (with_reducible refine wpQuiet_step (fun K hK => ?_)
         go_simp
         first
           | (refine hK _ ?_; clear hK K)
           | (apply Exists.intro; refine ⟨fun w1 hC => ?_, hK _ ?_⟩; (focus ((first | (exact rfl) | (obtain ⟨hb1, ⟨p0, p1⟩, ⟨q0, q1⟩⟩ := HOUT.out w1 hC; clear hC; go_simp; first | done | exact rfl)); done)); clear hK K))
      refine wpQuiet_nil ?_
      intro wn hC
      have HO := hide3 (HOUT.out _ hC)
      clear hC HIN HOUT C
      obtain ⟨hb1, ⟨p0, p1⟩, ⟨q0, q1⟩⟩ := HO.out
      go_wp2
      exact ⟨⟨k + 1, by omega, by go_num, HO.out.1⟩, by simp [intOf]; omega⟩
    · have hke : k = ws.length := by omega
      subst hke
      clear hb
      go_wp2
      go_ret
      exact ⟨rfl, HB.out⟩

theorem words_nil (ad bd : Option Addr) (ca cb : Nat) (w : World) :
    Calls Tryd.prog 22 #[.slice ad 0 ca, .slice bd 0 cb] w fun e w' => e = .returned (.bool true) ∧ Below w.heap.size w w' := by
  go_enter Tryd.func22, Tryd.ntmps22
  go_wp2_with fail
  go_loop [5] (fun i => i = .int .i64 0) (fun _ => 0)
  case atStart => rfl
  case round =>
    subst hrel
    go_wp2
    go_ret
    exact ⟨rfl, Below.refl _ _⟩

theorem words_yes {ws : List Bs} {va vb : Value} {w : World} (ha : WordsAt w va ws) (hb : WordsAt w vb ws) (hlen : ws.length ≤ 1000000000) :
    Calls Tryd.prog 22 #[va, vb] w fun e w' => e = .returned (.bool true) ∧ Below w.heap.size w w' := by
  obtain ⟨ad, ca, rfl, _, hl⟩ := ha
  obtain ⟨bd, cb, rfl, _, hm⟩ := hb
  rcases hl with rfl | ⟨ga, oa, rfl, hga, hla⟩
  · exact words_nil _ _ _ _ w
  · rcases hm with rfl | ⟨gb, ob, rfl, hgb, hlb⟩
    · exact words_nil _ _ _ _ w
    · exact words_walk ws ga oa ca gb ob cb w hlen hga hgb hla hlb

/-- A place that holds words. -/
def CellW (w : World) (g i : Nat) (u : Value) (ws : List Bs) : Prop := CellK w g i u ∧ WordsAt w u ws
theorem keepCW (g i : Nat) (u : Value) (ws : List Bs) : KeepP fun w1 => CellW w1 g i u ws := (keepCell _ _ _).and (keepWords _ _)

set_option maxHeartbeats 1600000 in
theorem same_walk (L : List (List Bs)) (ga oa ca gb ob cb : Nat) (w : World) (hlen : L.length ≤ 1000000000) (hle : ∀ l ∈ L, l.length ≤ 1000000000) (hga : ga < w.heap.size) (hgb : gb < w.heap.size) (hla : ∀ i (h : i < L.length), ∃ u, w.cell? ⟨ga, oa + i, none⟩ = some u ∧ WordsAt w u L[i]) (hlb : ∀ i (h : i < L.length), ∃ u, w.cell? ⟨gb, ob + i, none⟩ = some u ∧ WordsAt w u L[i]) :
    Calls Tryd.prog 10 #[.slice (some ⟨ga, oa, none⟩) L.length ca, .slice (some ⟨gb, ob, none⟩) L.length cb] w fun e w' => e = .returned (.bool true) ∧ Below w.heap.size w w' := by
  have HL : Hid (∀ w1, Below w.heap.size w w1 → ∀ i (h : i < L.length), (∃ u, CellW w1 ga (oa + i) u L[i]) ∧ (∃ u, CellW w1 gb (ob + i) u L[i])) := by
    intro w1 hb i hi
    obtain ⟨u, h1, h2⟩ := hla i hi
    obtain ⟨v, h3, h4⟩ := hlb i hi
    exact ⟨⟨u, keepCell _ _ _ _ _ ⟨h1, hga⟩ hb, h2.below hb⟩, ⟨v, keepCell _ _ _ _ _ ⟨h3, hgb⟩ hb, h4.below hb⟩⟩
  have HE := hide3 hle
  clear hla hlb hle
  go_enter Tryd.func10, Tryd.ntmps10
  go_wp2_with fail
  go_loopw [5] (fun i wr => ∃ k : Nat, k ≤ L.length ∧ i = .int .i64 k ∧ Below w.heap.size w wr) (fun i _ => L.length - (intOf i).toNat)
  case atStart => exact ⟨0, Nat.zero_le _, rfl, Below.refl _ _⟩
  case round =>
    obtain ⟨k, hk, rfl, hb⟩ := hrel
    have HB := hide3 hb
    by_cases hlt : k < L.length
    · obtain ⟨⟨u, hu⟩, ⟨v, hv⟩⟩ := HL.out wr hb k hlt
      have HO : Hid (Below w.heap.size w wr ∧ CellW wr ga (oa + k) u L[k] ∧ CellW wr gb (ob + k) v L[k]) := ⟨hb, hu, hv⟩
      have HK : Hid (KeepP fun w1 => Below w.heap.size w w1 ∧ CellW w1 ga (oa + k) u L[k] ∧ CellW w1 gb (ob + k) v L[k]) := (keepBelow w).and ((keepCW _ _ _ _).and (keepCW _ _ _ _))
      have hl := HE.out _ (List.getElem_mem hlt)
      obtain ⟨ad, ca', rfl, _⟩ := hu.2
      obtain ⟨bd, cb', rfl, _⟩ := hv.2
      generalize L[k] = l at *
      have HWD : Hid (∀ w1, (Below w.heap.size w w1 ∧ CellW w1 ga (oa + k) (.slice ad l.length ca') l ∧ CellW w1 gb (ob + k) (.slice bd l.length cb') l) → Calls Tryd.prog 22 #[.slice ad l.length ca', .slice bd l.length cb'] w1 fun e w' => e = .returned (.bool true) ∧ Below w1.heap.size w1 w') := fun w1 h1 => words_yes h1.2.1.2 h1.2.2.2 hl
      clear hb hu hv
      go_wp2_with fail
      refine wp_region_keep HK.out (by kernel_rfl) (by kernel_rfl) (by first | exact HO.out | exact HK.out.drew HO.out) ?_
      intro C hin hout
      have HIN := hide3 hin
      have HOUT := hide3 hout
      clear hin hout HO
      repeat
        (with_reducible refine wpQuiet_step (fun K hK => ?_)
         go_simp
         first
           | (refine hK _ ?_; clear hK K)
           | (apply Exists.intro; refine ⟨fun w1 hC => ?_, hK _ ?_⟩; (focus ((first | (go_at_call 22; with_reducible exact callC' HIN.out HOUT.out HK.out HWD.out w1 hC) | (exact rfl) | (obtain ⟨hb1, ⟨⟨p0, p1⟩, p2⟩, ⟨⟨q0, q1⟩, q2⟩⟩ := HOUT.out w1 hC; clear hC; go_simp; first | done | exact rfl)); done)); clear hK K))
      refine wpQuiet_nil ?_
      intro wn hC
      have HO := hide3 (HOUT.out _ hC)
      clear hC HIN HOUT C
      obtain ⟨hb1, ⟨⟨p0, p1⟩, p2⟩, ⟨⟨q0, q1⟩, q2⟩⟩ := HO.out
      go_wp2
      exact ⟨⟨k + 1, by omega, by go_num, HO.out.1⟩, by simp [intOf]; omega⟩
    · have hke : k = L.length := by omega
      subst hke
      clear hb
      go_wp2
      go_ret
      exact ⟨rfl, HB.out⟩

theorem same_nil (ad bd : Option Addr) (ca cb : Nat) (w : World) :
    Calls Tryd.prog 10 #[.slice ad 0 ca, .slice bd 0 cb] w fun e w' => e = .returned (.bool true) ∧ Below w.heap.size w w' := by
  go_enter Tryd.func10, Tryd.ntmps10
  go_wp2_with fail
  go_loop [5] (fun i => i = .int .i64 0) (fun _ => 0)
  case atStart => rfl
  case round =>
    subst hrel
    go_wp2
    go_ret
    exact ⟨rfl, Below.refl _ _⟩

/-- Lists that are not too great. -/
def Fits (L : List (List Bs)) : Prop := L.length ≤ 1000000000 ∧ ∀ l ∈ L, l.length ≤ 1000000000

theorem same_yes {L : List (List Bs)} {va vb : Value} {w : World} (ha : LinesAt w va L) (hb : LinesAt w vb L) (hf : Fits L) :
    Calls Tryd.prog 10 #[va, vb] w fun e w' => e = .returned (.bool true) ∧ Below w.heap.size w w' := by
  obtain ⟨ad, ca, rfl, _, hl⟩ := ha
  obtain ⟨bd, cb, rfl, _, hm⟩ := hb
  rcases hl with rfl | ⟨ga, oa, rfl, hga, hla⟩
  · exact same_nil _ _ _ _ w
  · rcases hm with rfl | ⟨gb, ob, rfl, hgb, hlb⟩
    · exact same_nil _ _ _ _ w
    · exact same_walk L ga oa ca gb ob cb w hf.1 hf.2 hga hgb hla hlb
end Go.Proofs.YtiahoaneinojgaaDoor.Sc
