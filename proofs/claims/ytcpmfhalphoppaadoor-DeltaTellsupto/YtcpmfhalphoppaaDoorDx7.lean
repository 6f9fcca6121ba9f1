/- byPath and Deeds of package delta. Conditions: sizes. -/
import Derived.Test.YtcpmfhalphoppaaDoorDx6
import Derived.Deep.DeepAppendWide
namespace Go.Proofs.YtcpmfhalphoppaaDoor
open Go.RowKit Go.Maps Go.WideMaps Go.WideElems Dk
set_option maxRecDepth 100000

/-- What byPath answers. -/
def ByQ (w : World) (fs : List Fl) (e : Ending) (w' : World) : Prop := Below w.heap.size w w' ∧
  ((OkJ fs ∧ ∃ mb D, e = .returned (.tuple #[.map (some mb), .bool true]) ∧ MapAt w' mb fs.length D fs.reverse) ∨ (¬ OkJ fs ∧ e = .returned (.tuple #[.map none, .bool false])))
theorem putL_rev {fs : List Fl} (h : Apart fs) (k : Nat) (hk : k < fs.length) : putL ((fs.take k).reverse.map fi) (fi fs[k]) = (fs.take (k + 1)).reverse.map fi := by
  unfold putL
  rw [List.take_succ_eq_append_getElem hk, List.reverse_append, List.reverse_singleton, List.singleton_append, List.map_cons]
  congr 1
  rw [List.filter_eq_self]
  intro y hy
  obtain ⟨z, hz, rfl⟩ := List.mem_map.1 hy
  rw [List.mem_reverse] at hz
  obtain ⟨j, hj, rfl⟩ := List.getElem_of_mem hz
  rw [List.length_take] at hj
  rw [List.getElem_take]
  exact decide_eq_true (List.pairwise_iff_getElem.1 h j k (by omega) hk (by omega))

set_option maxHeartbeats 4000000 in
theorem byPath_any (fs : List Fl) (a : Option Addr) (cap : Nat) (m : Int) (w : World) (hm : w.cell? ⟨0, 0, none⟩ = some (.int .i64 m)) (hlen : fs.length ≤ 1048576) (hc : IsFiles w a fs) (hz : ∀ f ∈ fs, f.1.size ≤ maxLen ∧ f.2.2.size ≤ maxLen) :
    Calls Tryd.prog 10 #[.slice a fs.length cap] w (ByQ w fs) := by
  have HL : Hid (Calls Tryd.prog 17 #[.slice a fs.length cap] w (LoadQ w fs)) := Load_any fs a cap m w hm (by omega) hc hz
  have HC := hide3 hc
  have HZ := hide3 hz
  have hmm := @run_makeMap Tryd.prog
  have HNO : Hid (∀ w', ¬ OkJ fs → Below w.heap.size w w' → ByQ w fs (.returned (.tuple #[.map none, .bool false])) w') := fun w' h hb => ⟨hb, Or.inr ⟨h, rfl⟩⟩
  have HYES : Hid (∀ w' mb D, OkJ fs → Below w.heap.size w w' → MapAt w' mb fs.length D fs.reverse → ByQ w fs (.returned (.tuple #[.map (some mb), .bool true])) w') := fun w' mb D h hb hd => ⟨hb, Or.inl ⟨h, mb, D, rfl, hd⟩⟩
  clear hc hz hm
  by_cases hl : Loads fs
  · have HL2 : Hid (Calls Tryd.prog 17 #[.slice a fs.length cap] w fun e w' => e = .returned (.tuple #[.pointer (some ⟨w.heap.size + 1, 0, none⟩), .int .i64 0]) ∧ Below w.heap.size w w' ∧ ∃ n, IsDisk w.heap.size w' (w.heap.size + 1) w.heap.size n (.slice none 0 0) ⟨loadD fs, [], -1⟩) := HL.out.mono fun e w' hq => by
      obtain ⟨hb, ⟨_, he, n, _, hd⟩ | ⟨hn, _⟩⟩ := hq
      · exact ⟨he, hb, n, hd⟩
      · exact absurd hl hn
    have HJ := hide3 (jour hl)
    have HLL := hide3 hl
    have HKY : Hid (∀ f ∈ fs, f.1.size ≤ maxLen) := fun f hf => (HZ.out f hf).1
    have HAP : Hid (Apart fs) := loads_apart hl.1
    clear HL hl
    by_cases hk : kindD (loadD fs) jn = 0
    · have HOK : Hid (OkJ fs) := ⟨HLL.out, HJ.out.1 hk⟩
      have HK0 : Hid (∀ n W, IsDisk w.heap.size W (w.heap.size + 1) w.heap.size n (.slice none 0 0) ⟨loadD fs, [], -1⟩ → Calls Tryd.prog 18 #[.pointer (some ⟨w.heap.size + 1, 0, none⟩), .string ⟨#[47, 106, 111, 117, 114, 110, 97, 108]⟩] W fun e w' => e = .returned (.int .i64 0) ∧ Below W.heap.size W w') := fun n W hd => by
        have := Kind_any hd jn (by decide)
        rw [hk] at this
        exact this
      clear hk HJ HLL
      generalize ByQ w fs = HQ at *
      go_enter Tryd.func10, Tryd.ntmps10
      go_wp2_with (first
        | (go_at_call 17; refine HL2.out.mono ?_; rintro e w1 ⟨rfl, hb1, n1, hd1⟩; have HB1 := hide3 hb1; have HD1 := hide3 hd1; clear hb1 hd1)
        | (go_at_call 18; refine (HK0.out _ _ HD1.out).mono ?_; rintro e w2 ⟨rfl, hb2⟩; have HB2 := hide3 (HB1.out.trans (hb2.mono HB1.out.size)); clear hb2))
      have HM0 : Hid (MapAt (w2.alloc (.map #[] 0)) w2.heap.size 0 (.map []) ([] : List Fl)) := ⟨World.ownsMap_made w2 Tryd.prog 9 hldR, MapF.new⟩
      have HB3 : Hid (Below w.heap.size w (w2.alloc (.map #[] 0))) := HB2.out.alloc HB2.out.size _
      have HBW : Hid (w.heap.size ≤ w2.heap.size) := HB2.out.size
      generalize w2.heap.size = mb at *
      go_loopw [24] (fun i wr => ∃ k : Nat, k ≤ fs.length ∧ i = .int .i64 k ∧ (∃ D, MapAt wr mb k D (fs.take k).reverse) ∧ Below w.heap.size w wr) (fun i _ => fs.length - (intOf i).toNat)
      case atStart => exact ⟨0, Nat.zero_le _, rfl, ⟨_, HM0.out⟩, HB3.out⟩
      case round =>
        obtain ⟨k, hk, rfl, ⟨D, hd⟩, hb⟩ := hrel
        have HD := hide3 hd
        have HB := hide3 hb
        clear hd hb
        by_cases hlt : k < fs.length
        · obtain ⟨g, off, rfl, hg, hc⟩ : ∃ g off, a = some ⟨g, off, none⟩ ∧ g < w.heap.size ∧ FilesAt w g off fs := by
            rcases HC.out with h | h
            · rw [h] at hlt; exact absurd hlt (Nat.not_lt_zero _)
            · exact h
          have HPR := hide3 (putL_rev HAP.out k hlt)
          have hzz := HKY.out fs[k] (List.getElem_mem hlt)
          have hcs := hc k hlt
          obtain ⟨f, hf⟩ : ∃ f, f = fs[k] := ⟨_, rfl⟩
          rw [← hf] at HPR hzz hcs
          obtain ⟨p, c, t⟩ := f
          obtain ⟨a0, a1, a2⟩ := hcs
          have b0 := (HB.out.cell (p := ⟨g, off + k * 3, none⟩) hg).trans a0
          have b1 := (HB.out.cell (p := ⟨g, off + k * 3 + 1, none⟩) hg).trans a1
          have b2 := (HB.out.cell (p := ⟨g, off + k * 3 + 1 + 1, none⟩) hg).trans a2
          have hX : Below wr.heap.size wr (wr.alloc (.cells #[.string p, .bool c, .string t] 31)) := (Below.refl _ _).alloc (Nat.le_refl _) _
          have HML : Hid (mb < wr.heap.size) := HD.out.1.lt
          obtain ⟨w4, hup, ho4, hg4⟩ := World.ownsMap.update (t := 35) (e := 31) (HD.out.below hX).1 keyedF Tryd.underlying35 (by unfold maxLen; omega) (key := .string p) (val := filC (fi (p, c, t))) (keyOfF hzz) rfl
          have HM4 : Hid (MapAt w4 mb (k + 1) (D.put (keyF (fi (p, c, t)).pa) (.held (filC (fi (p, c, t))))) (fs.take (k + 1)).reverse) := ⟨ho4, by rw [← HPR.out]; exact HD.out.2.put _⟩
          have HB4 : Hid (Below w.heap.size w w4) := (HB.out.trans (hX.mono HB.out.size)).grown hg4 (Nat.le_trans HB.out.size hX.size) (fun j hj => by cases hj; exact HBW.out)
          have hki : (k : Int) < (fs.length : Int) := by omega
          unfold filC fi at hup
          simp only at hup
          clear hf a0 a1 a2 hc hzz hX ho4 hg4
          go_wp2
          exact ⟨⟨k + 1, by omega, by go_num, ⟨_, HM4.out⟩, HB4.out⟩, by simp [intOf]; omega⟩
        · obtain rfl : k = fs.length := by omega
          rw [List.take_length] at HD
          go_wp2
          exact HYES.out _ _ _ HOK.out HB.out HD.out
    · have HNOK : Hid (¬ OkJ fs) := fun h => hk (HJ.out.2 h.2)
      have hk0 : (kindD (loadD fs) jn == 0) = false := by simpa using hk
      have HK0 : Hid (∀ n W, IsDisk w.heap.size W (w.heap.size + 1) w.heap.size n (.slice none 0 0) ⟨loadD fs, [], -1⟩ → Calls Tryd.prog 18 #[.pointer (some ⟨w.heap.size + 1, 0, none⟩), .string ⟨#[47, 106, 111, 117, 114, 110, 97, 108]⟩] W fun e w' => e = .returned (.int .i64 (kindD (loadD fs) jn)) ∧ Below W.heap.size W w') := fun n W hd => Kind_any hd jn (by decide)
      clear hk HJ HLL
      generalize kindD (loadD fs) jn = kd at *
      generalize ByQ w fs = HQ at *
      go_enter Tryd.func10, Tryd.ntmps10
      go_wp2_with (first
        | (go_at_call 17; refine HL2.out.mono ?_; rintro e w1 ⟨rfl, hb1, n1, hd1⟩; have HB1 := hide3 hb1; have HD1 := hide3 hd1; clear hb1 hd1)
        | (go_at_call 18; refine (HK0.out _ _ HD1.out).mono ?_; rintro e w2 ⟨rfl, hb2⟩; have HB2 := hide3 (HB1.out.trans (hb2.mono HB1.out.size)); clear hb2))
      exact HNO.out _ HNOK.out HB2.out
  · have HL2 : Hid (Calls Tryd.prog 17 #[.slice a fs.length cap] w fun e w' => e = .returned (.tuple #[.pointer none, .int .i64 1]) ∧ Below w.heap.size w w') := HL.out.mono fun e w' hq => by
      obtain ⟨hb, ⟨h, _⟩ | ⟨_, he⟩⟩ := hq
      · exact absurd h hl
      · exact ⟨he, hb⟩
    have HNOK : Hid (¬ OkJ fs) := fun h => hl h.1
    clear HL hl
    generalize ByQ w fs = HQ at *
    go_enter Tryd.func10, Tryd.ntmps10
    go_wp2_with (go_at_call 17; refine HL2.out.mono ?_; rintro e w1 ⟨rfl, hb1⟩; have HB1 := hide3 hb1; clear hb1)
    exact HNO.out _ HNOK.out HB1.out
end Go.Proofs.YtcpmfhalphoppaaDoor
