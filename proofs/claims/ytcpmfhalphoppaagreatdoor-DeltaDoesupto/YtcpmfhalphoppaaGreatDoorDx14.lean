/- DeltaDoes: done one behind the other each deed is possible, and in the end there is just the other set. Conditions: sizes. -/
import Derived.Test.YtcpmfhalphoppaaGreatDoorDx13
import Derived.BigQuiet
namespace Go.Proofs.YtcpmfhalphoppaaGreatDoor
open Go.RowKit Go.Maps Go.WideMaps Go.WideElems Dk
set_option maxRecDepth 100000

/-- While the deeds are done: the disk is at d, what is there is known, nothing else has turned. -/
def DoI (B : Nat) (w3 wr : World) (m : Int) (d mb N : Nat) (L : List Fl) (pre : List De) : Prop :=
  ∃ n rv D rs, Fit B wr d mb n rv ⟨D, rs, -1⟩ m ∧ n ≤ N + pre.length ∧ rs.length = pre.length ∧ Plain D ∧ (∀ y : Fl, y ∈ filesD D ↔ StD L pre y) ∧ Upd (fun j => j = d ∨ j = mb) w3 wr ∧ ∀ j, rv.ownBlock = some j → w3.heap.size ≤ j
theorem DoI.upd {B : Nat} {w3 wr : World} {m : Int} {d mb N : Nat} {L : List Fl} {pre : List De} (h : DoI B w3 wr m d mb N L pre) : Upd (fun j => j = d ∨ j = mb) w3 wr := by
  obtain ⟨n, rv, D, rs, _, _, _, _, _, hu, _⟩ := h
  exact hu
theorem do_next {B : Nat} {w3 wr w' : World} {m : Int} {d mb N n : Nat} {rv : Value} {D D' : DataW Unit} {rs : List (Int × ByteArray × ByteArray)} {r : Int × ByteArray × ByteArray} {L : List Fl} {pre : List De} {x : De} (h0 : 0 < B) (hf : Fit B wr d mb n rv ⟨D, rs, -1⟩ m) (hn : n ≤ N + pre.length) (hN : N + pre.length < 1099511627776) (hr : rs.length = pre.length)
    (hu : Upd (fun j => j = d ∨ j = mb) w3 wr) (hrv : ∀ j, rv.ownBlock = some j → w3.heap.size ≤ j) (ha : After B wr w' d mb n rv ⟨D', rs ++ [r], -1⟩) (hP : Plain D') (hS : ∀ y : Fl, y ∈ filesD D' ↔ StD L (pre ++ [x]) y) : DoI B w3 w' m d mb N L (pre ++ [x]) := by
  obtain ⟨n', rv', h1, h2, h3, h4⟩ := ha
  have hb : Below B wr w' := h3.below hf.base (fun i hi => (hf.disk.foot_lt hi).2)
  refine ⟨n', rv', D', rs ++ [r], ⟨h2, (hb.cell (p := ⟨0, 0, none⟩) h0).trans hf.max, by omega, by simp; omega, (by show (-1 : Int) ≤ -1; omega), (by show (-1 : Int) ≤ 9223372036854775807; omega), Nat.le_trans hf.base hb.size⟩, by simp; omega, by simp [hr], hP, hS, hu.trans h3 (fun i hi q => ?_), fun j hj => ?_⟩
  · rcases q with q | q | q
    · exact Or.inl q
    · exact Or.inr q
    · have := hrv i q; omega
  · rcases h4 j hj with q | q
    · exact hrv j q
    · exact Nat.le_trans hu.size q
theorem take_len (ds : List De) (k : Nat) (hk : k ≤ ds.length) : (ds.take k).length = k := by rw [List.length_take]; omega
theorem take_split (ds : List De) (k : Nat) (hk : k < ds.length) : ds.take k ++ ds[k] :: ds.drop (k + 1) = ds := by
  rw [← List.drop_eq_getElem_cons hk, List.take_append_drop]

set_option maxHeartbeats 16000000 in
theorem does_walk (fs gs : List Fl) (a b : Option Addr) (ca cb : Nat) (m : Int) (w : World) (hm : w.cell? ⟨0, 0, none⟩ = some (.int .i64 m)) (hlf : fs.length ≤ 1048576) (hlg : gs.length ≤ 1048576) (hcf : IsFiles w a fs) (hcg : IsFiles w b gs)
    (hzf : ∀ f ∈ fs, f.1.size ≤ maxLen ∧ f.2.2.size ≤ 281474976710656) (hzg : ∀ f ∈ gs, f.1.size ≤ maxLen ∧ f.2.2.size ≤ 281474976710656) :
    Calls Tryz.prog 3 #[.slice a fs.length ca, .slice b gs.length cb] w fun e w' => e = .returned (.bool true) ∧ Below w.heap.size w w' := by
  have hmax : ∀ n : Nat, n ≤ 281474976710656 → n ≤ maxLen := fun n h => by unfold maxLen; omega
  have HD : Hid (Calls Tryz.prog 4 #[.slice a fs.length ca, .slice b gs.length cb] w (DdQ w fs gs)) := deeds_any fs gs a b ca cb m w hm hlf hlg hcf hcg hzf hzg
  have HLV : Hid (∀ W, Below w.heap.size w W → Calls Tryz.prog 5 #[] W fun e w' => e = .returned (.bool true) ∧ Below w.heap.size w w') := fun W hb => (lives_any m W ((hb.cell (p := ⟨0, 0, none⟩) (cell_lt hm)).trans hm)).mono fun e w' hq => ⟨hq.1, hb.trans (hq.2.mono hb.size)⟩
  by_cases hok : OkJ fs ∧ OkJ gs
  · have HD1 : Hid (Calls Tryz.prog 4 #[.slice a fs.length ca, .slice b gs.length cb] w fun e w' => ∃ ad n cp, e = .returned (.tuple #[.slice ad n cp, .int .i64 0]) ∧ n = (deeds fs gs).length ∧ Below w.heap.size w w' ∧ OwnDe w' w.heap.size (.slice ad n cp) (deeds fs gs)) := HD.out.mono fun e w' hq => by
      obtain ⟨hb, ⟨_, v, he, hd⟩ | ⟨hn, _⟩⟩ := hq
      · obtain ⟨ad, cp, rfl, _⟩ := hd.sl
        exact ⟨ad, _, cp, he, rfl, hb, hd⟩
      · exact absurd hok hn
    have HL1 : Hid (∀ W, Below w.heap.size w W → Calls Tryz.prog 6 #[.slice a fs.length ca] W fun e w' => e = .returned (.tuple #[.pointer (some ⟨W.heap.size + 1, 0, none⟩), .int .i64 0]) ∧ Below W.heap.size W w' ∧ ∃ n, n ≤ fs.length ∧ IsDisk W.heap.size w' (W.heap.size + 1) W.heap.size n (.slice none 0 0) ⟨loadD fs, [], -1⟩) := fun W hW => (Load_any fs a ca m W ((hW.cell (p := ⟨0, 0, none⟩) (cell_lt hm)).trans hm) (by omega) (hcf.below hW) (fun f hf => ⟨(hzf f hf).1, hmax _ (hzf f hf).2⟩)).mono fun e w' hq => by
      obtain ⟨hb, ⟨_, he, n, hn, hd⟩ | ⟨hn, _⟩⟩ := hq
      · exact ⟨he, hb, n, hn, hd⟩
      · exact absurd hok.1.1 hn
    have HL2 : Hid (∀ W, Below w.heap.size w W → Calls Tryz.prog 7 #[.slice b gs.length cb] W fun e w' => e = .returned (.tuple #[.pointer (some ⟨W.heap.size, 0, none⟩), .bool true]) ∧ Below W.heap.size W w' ∧ ∃ lv rv, IsRef W.heap.size w' W.heap.size lv rv (filesD (loadD gs)) [] (-1)) := fun W hW => (rLoad_any gs b cb W hlg (hcg.below hW) (fun f hf => ⟨(hzg f hf).1, hmax _ (hzg f hf).2⟩)).mono fun e w' hq => by
      obtain ⟨hb, ⟨_, he, lv, rv, hd⟩ | ⟨hn, _⟩⟩ := hq
      · exact ⟨he, hb, lv, rv, hd⟩
      · exact absurd hok.2.1 hn
    have HND : Hid ((deeds fs gs).length ≤ 4194304) := by
      have hU := List.length_filter_le (wU (filesD (loadD gs))) (filesD (loadD fs)).reverse
      have hR := List.length_filter_le (wR (filesD (loadD gs))) (filesD (loadD fs)).reverse
      have hM := List.length_filter_le (wM (filesD (loadD fs))) (filesD (loadD gs))
      have hP := List.length_filter_le (wP (filesD (loadD fs))) (filesD (loadD gs))
      have e1 := (ordL hok.1.1).perm.length_eq
      have e2 := (ordL hok.2.1).perm.length_eq
      rw [List.length_reverse] at hU hR
      unfold Hid deeds deD lU lR lM lP
      simp only [List.length_append, List.length_map]
      omega
    have HLG : Hid ((filesD (loadD gs)).length ≤ 1048576) := by unfold Hid; rw [← (ordL hok.2.1).perm.length_eq]; exact hlg
    have HDA : Hid (∀ x ∈ deeds fs gs, x.da.size ≤ maxLen) := fun x hx => by
      rcases mem_deD.1 hx with ⟨u, hu, _, rfl⟩ | ⟨u, hu, _, rfl⟩ | ⟨u, hu, _, rfl⟩ | ⟨u, hu, _, rfl⟩
      · exact Nat.zero_le _
      · exact Nat.zero_le _
      · exact Nat.zero_le _
      · exact hmax _ (hzg u (((ordL hok.2.1).mem u).1 hu)).2
    have hHL := hang_of hok.1
    have hHM := hang_of hok.2
    have HKD : Hid (∀ i (hi : i < (deeds fs gs).length), (deeds fs gs)[i].kd = 1 ∨ (deeds fs gs)[i].kd = 2 ∨ (deeds fs gs)[i].kd = 3 ∨ (deeds fs gs)[i].kd = 4) := fun i hi => kinds1 (List.getElem_mem hi)
    have HST : Hid (∀ k (hk : k < (deeds fs gs).length) {D : DataW Unit}, Plain D → (∀ y : Fl, y ∈ filesD D ↔ StD (filesD (loadD fs)) ((deeds fs gs).take k) y) → ∀ rs, okPath (deeds fs gs)[k].pa = true ∧ ((deeds fs gs)[k].kd = 1 → kindD D (deeds fs gs)[k].pa = 1) ∧ ((deeds fs gs)[k].kd = 2 → kindD D (deeds fs gs)[k].pa = 2) ∧ ∃ D' r, doesD ⟨D, rs, -1⟩ (deeds fs gs)[k] = (0, ⟨D', rs ++ [r], -1⟩) ∧ Plain D' ∧ ∀ y : Fl, y ∈ filesD D' ↔ StD (filesD (loadD fs)) ((deeds fs gs).take k ++ [(deeds fs gs)[k]]) y) := fun k hk {D} hP hS rs => does_step hHL hHM (take_split _ k hk) hP hS rs
    have HEN : Hid (∀ {D : DataW Unit}, Plain D → (∀ y : Fl, y ∈ filesD D ↔ StD (filesD (loadD fs)) (deeds fs gs) y) → filesD D = filesD (loadD gs)) := fun hP hS => does_end hHL hHM hP hS
    have HS0 : Hid (Plain (loadD fs) ∧ ∀ y : Fl, y ∈ filesD (loadD fs) ↔ StD (filesD (loadD fs)) [] y) := ⟨loads_plain hok.1.1, fun y => ⟨fun h => Or.inl ⟨h, fun _ h => by cases h⟩, fun h => by
      rcases h with ⟨h, _⟩ | ⟨_, h, _⟩ | ⟨_, h, _⟩
      · exact h
      · cases h
      · cases h⟩⟩
    have HMW : Hid (∀ W, Below w.heap.size w W → W.cell? ⟨0, 0, none⟩ = some (.int .i64 m)) := fun W hW => (hW.cell (p := ⟨0, 0, none⟩) (cell_lt hm)).trans hm
    have HW0 : Hid (0 < w.heap.size) := cell_lt hm
    clear HD hok hcf hcg hm hzf hzg hmax hHL hHM
    generalize deeds fs gs = ds at *
    generalize hL : filesD (loadD fs) = L at *
    generalize filesD (loadD gs) = M at *
    go_enter Tryz.func3, Tryz.ntmps3
    go_upto_region 8 with (first
      | (go_at_call 4; refine HD1.out.mono ?_; rintro e w1 ⟨ad, n1, cp, rfl, hn1, hb1, ho1⟩; have HN1 := hide3 hn1; have HB1 := hide3 hb1; have HO1 := hide3 ho1; have hnn1 : n1 ≤ 4194304 := (by rw [hn1]; exact HND.out); clear hb1 ho1 hn1)
      | (go_at_call 6; refine (HL1.out _ HB1.out).mono ?_; rintro e w2 ⟨rfl, hb2, n2, hn2, hd2⟩; have HB2 := hide3 hb2; have HN2 := hide3 hn2; have HD2 := hide3 hd2; clear hb2 hn2 hd2)
      | (go_at_call 7; refine (HL2.out _ (HB1.out.trans (HB2.out.mono HB1.out.size))).mono ?_; rintro e w3 ⟨rfl, hb3, lv, rv3, hr3⟩; have HB3 := hide3 hb3; have HR3 := hide3 hr3; clear hb3 hr3))
    have HB03 : Hid (Below w.heap.size w w3) := (HB1.out.trans (HB2.out.mono HB1.out.size)).trans (HB3.out.mono (Nat.le_trans HB1.out.size HB2.out.size))
    have HB13 : Hid (Below w1.heap.size w1 w3) := HB2.out.trans (HB3.out.mono HB2.out.size)
    have HW1 : Hid (0 < w1.heap.size) := Nat.lt_of_lt_of_le HW0.out HB1.out.size
    have HSZ : Hid (w1.heap.size + 1 < w2.heap.size ∧ w2.heap.size ≤ w3.heap.size ∧ w.heap.size ≤ w1.heap.size) := ⟨HD2.out.ld, HB3.out.size, HB1.out.size⟩
    have HDO : Hid (DoI w1.heap.size w3 w3 m (w1.heap.size + 1) w1.heap.size fs.length L (ds.take 0)) :=
      ⟨n2, _, loadD fs, [], ⟨HD2.out.below HB3.out, HMW.out _ HB03.out, by have := HN2.out; omega, (by show 0 < 2199023255552; omega), (by show (-1 : Int) ≤ -1; omega), (by show (-1 : Int) ≤ 9223372036854775807; omega), Nat.le_trans HB2.out.size HB3.out.size⟩, HN2.out, rfl, HS0.out.1, by rw [hL]; exact HS0.out.2, Upd.refl _ _, fun j hj => by cases hj⟩
    clear hL HS0 HL1 HL2 HD1
    go_wp2_with fail
    go_loopw [11] (fun i wr => ∃ k : Nat, k ≤ n1 ∧ i = .int .i64 k ∧ DoI w1.heap.size w3 wr m (w1.heap.size + 1) w1.heap.size fs.length L (ds.take k)) (fun i _ => n1 - (intOf i).toNat)
    case atStart => exact ⟨0, Nat.zero_le _, rfl, HDO.out⟩
    case round =>
      obtain ⟨k, hk, rfl, hdo⟩ := hrel
      have HDI := hide3 hdo
      clear hdo HDO
      by_cases hlt : k < n1
      · have hkd : k < ds.length := by rw [← HN1.out]; exact hlt
        obtain ⟨gd, cpd, hv, hgd, _⟩ := HO1.out.some (by omega)
        obtain rfl : ad = some ⟨gd, 0, none⟩ := by cases hv; rfl
        clear hv
        have HCE : Hid (∀ W, Upd (fun j => j = w1.heap.size + 1 ∨ j = w1.heap.size) w3 W → W.cell? ⟨gd, k * 3, none⟩ = some (.int .i64 ds[k].kd) ∧ W.cell? ⟨gd, k * 3 + 1, none⟩ = some (.string ds[k].pa) ∧ W.cell? ⟨gd, k * 3 + 1 + 1, none⟩ = some (.string ds[k].da)) := fun W hu => by
          obtain ⟨d0, d1, d2⟩ := HO1.out.cells k hkd
          have hbk : W.heap[gd]? = w1.heap[gd]? := (hu.block gd (by have := HSZ.out; omega) (by omega)).trans (HB13.out.block gd hgd)
          exact ⟨(World.cell?_of_block (a := ⟨gd, k * 3, none⟩) hbk).trans d0, (World.cell?_of_block (a := ⟨gd, k * 3 + 1, none⟩) hbk).trans d1, (World.cell?_of_block (a := ⟨gd, k * 3 + 1 + 1, none⟩) hbk).trans d2⟩
        obtain ⟨d0, d1, d2⟩ := HCE.out wr HDI.out.upd
        have HDK := hide3 (HDA.out ds[k] (List.getElem_mem hkd))
        have HTK : Hid (ds.take (k + 1) = ds.take k ++ [ds[k]]) := List.take_succ_eq_append_getElem hkd
        obtain ⟨n, rv, D, rs, hf, hn, hrs, hP, hS, hu, hrv⟩ := HDI.out
        have hpl := take_len ds k (Nat.le_of_lt hkd)
        obtain ⟨hok, h1, h2, D', r, hdoes, hP', hS'⟩ := HST.out k hkd hP hS rs
        have HKY : Hid (Calls Tryz.prog 8 #[.pointer (some ⟨w1.heap.size + 1, 0, none⟩), .string ds[k].pa] wr fun e w' => e = .returned (.int .i64 (kindD D ds[k].pa)) ∧ Below wr.heap.size wr w') := Kind_any hf.disk _ (Nat.le_trans (okPath_parts hok).1 (by unfold maxLen; omega))
        have HNX : Hid (∀ W w', Below wr.heap.size wr W → After w1.heap.size W w' (w1.heap.size + 1) w1.heap.size n rv ⟨D', rs ++ [r], -1⟩ → DoI w1.heap.size w3 w' m (w1.heap.size + 1) w1.heap.size fs.length L (ds.take (k + 1))) := fun W w' hW ha => by
          rw [HTK.out]
          exact do_next HW1.out hf hn (by rw [hpl]; omega) hrs hu hrv (After.ahead hW ha) hP' hS'
        have HFB : Hid (∀ W, Below wr.heap.size wr W → Fit w1.heap.size W (w1.heap.size + 1) w1.heap.size n rv ⟨D, rs, -1⟩ m) := fun W hW => hf.below hW
        have HUB : Hid (∀ W, Below wr.heap.size wr W → Upd (fun j => j = w1.heap.size + 1 ∨ j = w1.heap.size) w3 W) := fun W hW => hu.trans (Upd.of_below (F := fun _ => False) hW) (fun _ _ q => absurd q id)
        have hki : (k : Int) < (n1 : Int) := by omega
        clear hf hn hrs hP hS hu hrv hpl hok hP' hS' HST HDI HTK
        rcases HKD.out k hkd with e | e | e | e
        · have HRM : Hid (∀ W, Below wr.heap.size wr W → Calls Tryz.prog 9 #[.pointer (some ⟨w1.heap.size + 1, 0, none⟩), .string ds[k].pa] W fun e w' => e = .returned (.int .i64 0) ∧ DoI w1.heap.size w3 w' m (w1.heap.size + 1) w1.heap.size fs.length L (ds.take (k + 1))) := fun W hW => by
            have hq : removeD ⟨D, rs, -1⟩ ds[k].pa = (0, ⟨D', rs ++ [r], -1⟩) := by rw [← hdoes]; unfold doesD; rw [if_pos (by rw [e]; decide)]
            have := Remove_any (HFB.out W hW) ds[k].pa
            rw [hq] at this
            exact this.mono fun e' w' hh => ⟨hh.1, HNX.out W w' hW hh.2⟩
          rw [h1 e] at HKY
          rw [e] at d0
          have HCE2 := HCE
          rw [e] at HCE2
          clear h1 h2 hdoes e HNX HFB HCE
          generalize ds[k].pa = p at *
          generalize ds[k].da = t at *
          go_wp2_with (first
            | (go_at_call 8; refine HKY.out.mono ?_; rintro e w5 ⟨rfl, hb5⟩; have HB5 := hide3 hb5; clear d0 d1 d2; obtain ⟨d0, d1, d2⟩ := HCE2.out _ (HUB.out _ hb5); clear hb5)
            | (go_at_call 9; refine (HRM.out _ HB5.out).mono ?_; rintro e w6 ⟨rfl, hd6⟩; have HD6 := hide3 hd6; clear hd6))
          exact ⟨⟨k + 1, by omega, by go_num, HD6.out⟩, by simp [intOf]; omega⟩
        · have HRM : Hid (∀ W, Below wr.heap.size wr W → Calls Tryz.prog 9 #[.pointer (some ⟨w1.heap.size + 1, 0, none⟩), .string ds[k].pa] W fun e w' => e = .returned (.int .i64 0) ∧ DoI w1.heap.size w3 w' m (w1.heap.size + 1) w1.heap.size fs.length L (ds.take (k + 1))) := fun W hW => by
            have hq : removeD ⟨D, rs, -1⟩ ds[k].pa = (0, ⟨D', rs ++ [r], -1⟩) := by rw [← hdoes]; unfold doesD; rw [if_pos (by rw [e]; decide)]
            have := Remove_any (HFB.out W hW) ds[k].pa
            rw [hq] at this
            exact this.mono fun e' w' hh => ⟨hh.1, HNX.out W w' hW hh.2⟩
          rw [h2 e] at HKY
          rw [e] at d0
          have HCE2 := HCE
          rw [e] at HCE2
          clear h1 h2 hdoes e HNX HFB HCE
          generalize ds[k].pa = p at *
          generalize ds[k].da = t at *
          go_wp2_with (first
            | (go_at_call 8; refine HKY.out.mono ?_; rintro e w5 ⟨rfl, hb5⟩; have HB5 := hide3 hb5; clear d0 d1 d2; obtain ⟨d0, d1, d2⟩ := HCE2.out _ (HUB.out _ hb5); clear hb5)
            | (go_at_call 9; refine (HRM.out _ HB5.out).mono ?_; rintro e w6 ⟨rfl, hd6⟩; have HD6 := hide3 hd6; clear hd6))
          exact ⟨⟨k + 1, by omega, by go_num, HD6.out⟩, by simp [intOf]; omega⟩
        · have HRM : Hid (∀ W, Below wr.heap.size wr W → Calls Tryz.prog 10 #[.pointer (some ⟨w1.heap.size + 1, 0, none⟩), .string ds[k].pa] W fun e w' => e = .returned (.int .i64 0) ∧ DoI w1.heap.size w3 w' m (w1.heap.size + 1) w1.heap.size fs.length L (ds.take (k + 1))) := fun W hW => by
            have hq : mkdirD ⟨D, rs, -1⟩ ds[k].pa = (0, ⟨D', rs ++ [r], -1⟩) := by rw [← hdoes]; unfold doesD; rw [if_neg (by rw [e]; decide), if_pos e]
            have := Mkdir_any (HFB.out W hW) ds[k].pa
            rw [hq] at this
            exact this.mono fun e' w' hh => ⟨hh.1, HNX.out W w' hW hh.2⟩
          rw [e] at d0
          have HCE2 := HCE
          rw [e] at HCE2
          clear h1 h2 hdoes e HNX HFB HCE
          generalize kindD D ds[k].pa = kd at *
          generalize ds[k].pa = p at *
          generalize ds[k].da = t at *
          go_wp2_with (first
            | (go_at_call 8; refine HKY.out.mono ?_; rintro e w5 ⟨rfl, hb5⟩; have HB5 := hide3 hb5; clear d0 d1 d2; obtain ⟨d0, d1, d2⟩ := HCE2.out _ (HUB.out _ hb5); clear hb5)
            | (go_at_call 10; refine (HRM.out _ HB5.out).mono ?_; rintro e w6 ⟨rfl, hd6⟩; have HD6 := hide3 hd6; clear hd6))
          exact ⟨⟨k + 1, by omega, by go_num, HD6.out⟩, by simp [intOf]; omega⟩
        · have HRM : Hid (∀ W, Below wr.heap.size wr W → Calls Tryz.prog 11 #[.pointer (some ⟨w1.heap.size + 1, 0, none⟩), .string ds[k].pa, .string ds[k].da] W fun e w' => e = .returned (.int .i64 0) ∧ DoI w1.heap.size w3 w' m (w1.heap.size + 1) w1.heap.size fs.length L (ds.take (k + 1))) := fun W hW => by
            have hq : writeFD ⟨D, rs, -1⟩ ds[k].pa ds[k].da = (0, ⟨D', rs ++ [r], -1⟩) := by rw [← hdoes]; unfold doesD; rw [if_neg (by rw [e]; decide), if_neg (by rw [e]; decide)]
            have := Write_any (HFB.out W hW) ds[k].pa ds[k].da HDK.out
            rw [hq] at this
            exact this.mono fun e' w' hh => ⟨hh.1, HNX.out W w' hW hh.2⟩
          rw [e] at d0
          have HCE2 := HCE
          rw [e] at HCE2
          clear h1 h2 hdoes e HNX HFB HCE HDK
          generalize kindD D ds[k].pa = kd at *
          generalize ds[k].pa = p at *
          generalize ds[k].da = t at *
          go_wp2_with (go_at_call 8; refine HKY.out.mono ?_; rintro e w5 ⟨rfl, hb5⟩; have HB5 := hide3 (hb5.drew); clear d0 d1 d2; obtain ⟨d0, d1, d2⟩ := HCE2.out _ (HUB.out _ hb5); clear hb5)
          go_region_held3 (fun w' => w'.cell? ⟨gd, k * 3 + 1, none⟩ = some (.string p) ∧ w'.cell? ⟨gd, k * 3 + 1 + 1, none⟩ = some (.string t)) (go_keep) (first | (go_at_call 11; refine (HRM.out _ HB5.out).mono ?_; rintro e w6 ⟨rfl, hd6⟩; have HD6 := hide3 hd6; obtain ⟨_, s1, s2⟩ := HCE2.out _ hd6.upd; clear hd6))
          all_goals go_wp2
          all_goals exact ⟨⟨k + 1, by omega, by go_num, HD6.out⟩, by simp [intOf]; omega⟩
      · obtain rfl : k = n1 := by omega
        obtain ⟨n, rv, D, rs, hf, hn, hrs, hP, hS, hu, hrv⟩ := HDI.out
        have hpl := take_len ds k (Nat.le_of_eq HN1.out)
        rw [List.take_of_length_le (Nat.le_of_eq HN1.out.symm)] at hS
        have hfi := HEN.out hP hS
        have HAL : Hid (∀ W, Below wr.heap.size wr W → Calls Tryz.prog 13 #[.pointer (some ⟨w1.heap.size + 1, 0, none⟩)] W fun e w' => ∃ ao cap, e = .returned (.slice ao M.length cap) ∧ w'.ownsRow W.heap.size 50 3 (.slice ao M.length cap) M.length (fileCells M) ∧ Below W.heap.size W w') := fun W hW => by
          have := All_any (hf.disk.below hW) (by have h5 := hn; rw [hpl] at h5; omega)
          simp only [hfi] at this
          exact this
        have hrf : IsRef w2.heap.size wr w2.heap.size lv rv3 M [] (-1) := HR3.out.upd hu (fun j hj => by have := (HR3.out.foot_lt hj).2; have := HSZ.out; omega)
        have HRF := hide3 hrf
        have hlr := hrf.lrow
        obtain ⟨ao, cp2, rfl⟩ := row_form hlr
        have HFL : Hid (∀ W ao2 cp3 B1, Below wr.heap.size wr W → W.ownsRow B1 50 3 (.slice ao2 M.length cp3) M.length (fileCells M) → Calls Tryz.prog 12 #[.slice ao2 M.length cp3, .slice ao M.length cp2] W fun e w' => e = .returned (.bool true) ∧ Below W.heap.size W w') := fun W ao2 cp3 B1 hW h1 => (files_any M (by have := HLG.out; omega) h1 (HRF.out.below hW).lrow).mono fun e w' hq => by
          obtain ⟨he, q, rfl⟩ := hq
          exact ⟨he, ⟨rfl, rfl, rfl, Nat.le_refl _, fun _ _ => rfl⟩⟩
        have c0 := hrf.c0
        have HCW : Hid (∀ W, Below wr.heap.size wr W → W.cell? ⟨w2.heap.size, 0, none⟩ = some (.slice ao M.length cp2)) := fun W hW => (HRF.out.below hW).c0
        have HBW : Hid (Below w.heap.size w wr) := HB03.out.trans (hu.below HB03.out.size (fun i hi => by have := HSZ.out; omega))
        have HB0 : Hid (Below wr.heap.size wr wr.drew) := (Below.refl _ _).drew
        clear hf hn hrs hP hS hu hrv hpl hfi hrf hlr HDI
        generalize M.length = nM at *
        go_wp2_with fail
        go_region_held3 (fun w' => w'.cell? ⟨w2.heap.size, 0, none⟩ = some (.slice ao nM cp2)) (go_keep) (first
          | (have _t := HO5; go_at_call 12; refine (HFL.out _ _ _ _ HB5.out HO5.out).mono ?_; rintro e w6 ⟨rfl, hb6⟩; have HB6 := hide3 (HB5.out.trans (hb6.mono HB5.out.size)); have z0 := HCW.out _ HB6.out; clear hb6)
          | (go_at_call 13; refine (HAL.out _ HB0.out).mono ?_; rintro e w5 ⟨ao5, cp5, rfl, ho5, hb5⟩; have HO5 := hide3 ho5; have HB5 := hide3 (HB0.out.trans (hb5.mono HB0.out.size)); have y0 := HCW.out _ HB5.out; clear ho5 hb5))
        all_goals have HBF := hide3 (HBW.out.trans (HB6.out.mono HBW.out.size))
        all_goals go_wp2_with (go_at_call 5; refine (HLV.out _ HBF.out).mono ?_; rintro e w7 ⟨rfl, hb7⟩; have HB7 := hide3 hb7; clear hb7)
        all_goals go_ret
        all_goals exact ⟨rfl, HB7.out⟩
  · have HD1 : Hid (Calls Tryz.prog 4 #[.slice a fs.length ca, .slice b gs.length cb] w fun e w' => e = .returned (.tuple #[.slice none 0 0, .int .i64 1]) ∧ Below w.heap.size w w') := HD.out.mono fun e w' hq => by
      obtain ⟨hb, ⟨h, _⟩ | ⟨_, he⟩⟩ := hq
      · exact absurd h hok
      · exact ⟨he, hb⟩
    clear HD hok hcf hcg hm hzf hzg hmax
    go_enter Tryz.func3, Tryz.ntmps3
    go_wp2_with (first
      | (go_at_call 4; refine HD1.out.mono ?_; rintro e w1 ⟨rfl, hb1⟩; have HB1 := hide3 hb1; clear hb1)
      | (go_at_call 5; refine (HLV.out _ HB1.out).mono ?_; rintro e w4 ⟨rfl, hb4⟩; have HB4 := hide3 hb4; clear hb4))
    go_ret
    exact ⟨rfl, HB4.out⟩
end Go.Proofs.YtcpmfhalphoppaaGreatDoor
