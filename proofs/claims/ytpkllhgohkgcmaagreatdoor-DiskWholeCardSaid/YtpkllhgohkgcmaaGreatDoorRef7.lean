/- The reference's put, New, Down, Up, Cut, may, home and noted, of its disk in memory. -/
import Derived.Test.YtpkllhgohkgcmaaGreatDoorRef6
namespace Go.Proofs.YtpkllhgohkgcmaaGreatDoor
open Go.RowKit Go.Maps
set_option maxRecDepth 100000

set_option maxHeartbeats 1000000 in
theorem put_nil {w : World} {e : Nat} (c0 : w.cell? ⟨e, 0, none⟩ = some (.slice none 0 0)) (f0 : w.frozen? ⟨e, 0, none⟩ = false) (fp : ByteArray) (fc : Bool) (ft : ByteArray) (gone : Bool) :
    Calls Tryz.prog 45 #[.pointer (some ⟨e, 0, none⟩), .agg #[.string fp, .bool fc, .string ft], .bool gone] w fun e' w' => e' = .returned (.tuple #[]) ∧
      ∃ lv' w1, w1.ownsRow (w.heap.size + 1) 49 3 lv' (putD [] (fp, fc, ft) gone).length (fileCells (putD [] (fp, fc, ft) gone)) ∧ Below w.heap.size w w1 ∧ w' = w1.setCell ⟨e, 0, none⟩ lv' := by
  obtain ⟨i0, hi, hz0, hz1, hz2⟩ := info_parts infoFile
  have le : e < w.heap.size := cell_lt c0
  have hbx := alloc_below w (.cells #[.string fp, .bool fc, .string ft] 49)
  have k0 : (w.alloc (.cells #[.string fp, .bool fc, .string ft] 49)).cell? ⟨e, 0, none⟩ = some (.slice none 0 0) := cell_below c0 hbx
  have k1 : (w.alloc (.cells #[.string fp, .bool fc, .string ft] 49)).frozen? ⟨e, 0, none⟩ = false := by rw [hbx.frozen (p := ⟨e, 0, none⟩) le]; exact f0
  have HBX := hide3 hbx
  have HSW : Hid ((w.setCell ⟨e, 0, none⟩ (.slice none 0 0)).alloc (.cells #[.string fp, .bool fc, .string ft] 49) = (w.alloc (.cells #[.string fp, .bool fc, .string ft] 49)).setCell ⟨e, 0, none⟩ (.slice none 0 0)) := by
    unfold Hid
    rw [World.setCell_alloc_past]
    exact le
  clear hbx
  cases gone
  · have NW : Hid (∀ j u, [Value.string fp, .bool fc, .string ft][j]? = some u → ((w.alloc (.cells #[.string fp, .bool fc, .string ft] 49)).alloc (.cells #[.string fp, .bool fc, .string ft] 49)).cell? ((⟨w.heap.size + 1, 0, none⟩ : Addr).add j) = some u) :=
      World.news_of_block (cs := #[.string fp, .bool fc, .string ft]) (t := 49) (fr := (0, 0)) (by
        show ((w.heap.push _).push _)[w.heap.size + 1]? = _
        rw [Array.getElem?_push, if_pos (by simp)])
    have HFX : Hid (∀ w1, ((w.alloc (.cells #[.string fp, .bool fc, .string ft] 49)).alloc (.cells #[.string fp, .bool fc, .string ft] 49)).grownBy w1 none → w1.cell? ⟨e, 0, none⟩ = some (.slice none 0 0) ∧ w1.frozen? ⟨e, 0, none⟩ = false ∧ Below w.heap.size w w1) := by
      intro w1 hg
      have hb : Below w.heap.size w w1 := ((HBX.out.alloc (by simp) _).grown hg (by simp; omega) (fun j hj => by cases hj))
      exact ⟨by rw [hb.cell (p := ⟨e, 0, none⟩) le]; exact c0, by rw [hb.frozen (p := ⟨e, 0, none⟩) le]; exact f0, hb⟩
    go_enter Tryz.func45, Tryz.ntmps45
    go_wp2_with fail
    go_loop [6, 7, 8] (fun v d i => v = .slice none 0 0 ∧ d = .bool false ∧ i = .int .i64 0) (fun _ _ _ => 0)
    case atStart => exact ⟨rfl, rfl, rfl⟩
    case round =>
      obtain ⟨rfl, rfl, rfl⟩ := hrel
      have tok1 : True := trivial
      go_wp2_with (first | (at_builtin; have _t := tok1; refine wpList_append_own _ rfl _ _ 33 rfl (w.heap.size + 1) 49 i0 (.agg #[.string ByteArray.empty, .bool false, .string ByteArray.empty]) 3 40 Tryz.underlying33 hi hz0 hz1 hz2 rfl (by decide) (.slice none 0 0) 0 [] rfl ⟨rfl, Or.inl ⟨rfl, rfl⟩⟩ ⟨w.heap.size + 1, 0, none⟩ 1 1 [.string fp, .bool fc, .string ft] rfl rfl NW.out (by simp [Value.oneCell']) (by decide) (by decide) (by simp) ?_; intro v1 w1 hown1 hg1 _; obtain ⟨gv, cv, hv1⟩ := own_form hown1 (by decide); rw [hv1] at hown1 ⊢; obtain ⟨m0, m1, hb1⟩ := HFX.out w1 hg1; have HOWN1 := hide3 hown1; clear tok1 hown1 hg1 hv1) | fail)
      go_end0
      exact ⟨rfl, _, w1, HOWN1.out, hb1, rfl⟩
  · go_enter Tryz.func45, Tryz.ntmps45
    go_wp2_with fail
    go_loop [6, 7, 8] (fun v d i => v = .slice none 0 0 ∧ d = .bool true ∧ i = .int .i64 0) (fun _ _ _ => 0)
    case atStart => exact ⟨rfl, rfl, rfl⟩
    case round =>
      obtain ⟨rfl, rfl, rfl⟩ := hrel
      go_wp2
      go_end0
      exact ⟨rfl, _, _, ⟨rfl, Or.inl ⟨rfl, rfl⟩⟩, HBX.out, HSW.out⟩

/-- Behind put. -/
def AfterR (B : Nat) (w w' : World) (e : Nat) (lv rv : Value) (fs : List Fl) (rs : List (Int × ByteArray × ByteArray)) (left : Int) : Prop :=
  ∃ lv' rv', IsRef B w' e lv' rv' fs rs left ∧ Upd (FootR e lv rv) w w' ∧ (∀ j, FootR e lv' rv' j → FootR e lv rv j ∨ w.heap.size ≤ j)

theorem put_any {B : Nat} {w : World} {e : Nat} {lv rv : Value} {fs : List Fl} {rs : List (Int × ByteArray × ByteArray)} {left : Int} (h : IsRef B w e lv rv fs rs left) (fp : ByteArray) (fc : Bool) (ft : ByteArray) (gone : Bool) (hlen : fs.length < 2199023255552) (hB : B ≤ w.heap.size) :
    Calls Tryz.prog 45 #[.pointer (some ⟨e, 0, none⟩), .agg #[.string fp, .bool fc, .string ft], .bool gone] w fun e' w' => e' = .returned (.tuple #[]) ∧ AfterR B w w' e lv rv (putD fs (fp, fc, ft) gone) rs left := by
  have hw : Calls Tryz.prog 45 #[.pointer (some ⟨e, 0, none⟩), .agg #[.string fp, .bool fc, .string ft], .bool gone] w fun e' w' => e' = .returned (.tuple #[]) ∧
      ∃ lv' w1, w1.ownsRow (w.heap.size + 1) 49 3 lv' (putD fs (fp, fc, ft) gone).length (fileCells (putD fs (fp, fc, ft) gone)) ∧ Below w.heap.size w w1 ∧ w' = w1.setCell ⟨e, 0, none⟩ lv' := by
    rcases h.lrow.2 with ⟨rfl, h0⟩ | ⟨g, cap, cur, rfl, _, _, _, _, _, _⟩
    · have hf : fs = [] := List.eq_nil_of_length_eq_zero h0
      rw [hf]
      exact put_nil h.c0 h.f0 fp fc ft gone
    · exact put_walk h fp fc ft gone hlen
  refine hw.mono ?_
  rintro e' w' ⟨rfl, lv', w1, hown, hb, rfl⟩
  have h1 := h.below hb
  have hlt : ∀ j, lv'.ownBlock = some j → w.heap.size < j := fun j hj => by have := (row_lt hown hj).2; omega
  have hne : lv'.ownBlock ≠ some e := fun hj => by have := hlt e hj; have := h.lt; omega
  have hu := Upd.setCell w1 ⟨e, 0, none⟩ lv'
  refine ⟨rfl, lv', rv, ?_, (Upd.of_below hb).trans hu (fun j _ hj => Or.inl hj), fun j hj => ?_⟩
  · have o1 : (w1.setCell ⟨e, 0, none⟩ lv').cell? ⟨e, 1, none⟩ = w1.cell? ⟨e, 1, none⟩ := World.cell?_setCell_other _ _ _ _ (by simp)
    have o2 : (w1.setCell ⟨e, 0, none⟩ lv').cell? ⟨e, 2, none⟩ = w1.cell? ⟨e, 2, none⟩ := World.cell?_setCell_other _ _ _ _ (by simp)
    have hl : w1.ownsRow B 49 3 lv' (putD fs (fp, fc, ft) gone).length (fileCells (putD fs (fp, fc, ft) gone)) := by
      refine ⟨hown.1, ?_⟩
      rcases hown.2 with hv | ⟨g, cap, cur, hv, hg, r⟩
      · exact Or.inl hv
      · exact Or.inr ⟨g, cap, cur, hv, by omega, r⟩
    exact { c0 := World.cell?_setCell_same _ _ _ h1.c0, c1 := by rw [o1]; exact h1.c1, c2 := by rw [o2]; exact h1.c2, f0 := by rw [World.frozen?_setCell]; exact h1.f0, f1 := by rw [World.frozen?_setCell]; exact h1.f1, f2 := by rw [World.frozen?_setCell]; exact h1.f2,
            lrow := ownsRow_upd hl hu (fun k hk hk' => hne (by rw [hk]; exact congrArg some hk')), rrow := ownsRow_upd h1.rrow hu (fun k hk hk' => h1.re (by rw [hk]; exact congrArg some hk')),
            le := hne, re := h.re, be := h.be, lt := by have := h.lt; have := hb.size; simp [World.setCell]; omega }
  · rcases hj with rfl | hj | hj
    · exact Or.inl (Or.inl rfl)
    · exact Or.inr (Nat.le_of_lt (hlt j hj))
    · exact Or.inl (Or.inr (Or.inr hj))

set_option maxHeartbeats 400000 in
theorem rNew_walk (w : World) : Calls Tryz.prog 9 #[] w fun e w' => e = .returned (.pointer (some ⟨w.heap.size, 0, none⟩)) ∧ w' = w.alloc (.cells #[.slice none 0 0, .slice none 0 0, .int .i64 (-1)] 35) := by
  go_enter Tryz.func9, Tryz.ntmps9
  go_wp2
  go_ret
  exact ⟨rfl, rfl⟩

theorem rnew_is {w : World} {B : Nat} (hB : B ≤ w.heap.size) : IsRef B (w.alloc (.cells #[.slice none 0 0, .slice none 0 0, .int .i64 (-1)] 35)) w.heap.size (.slice none 0 0) (.slice none 0 0) [] [] (-1) := by
  have fz : ∀ i, (w.alloc (.cells #[.slice none 0 0, .slice none 0 0, .int .i64 (-1)] 35)).frozen? ⟨w.heap.size, i, none⟩ = false := by
    intro i
    have e : (w.alloc (.cells #[.slice none 0 0, .slice none 0 0, .int .i64 (-1)] 35)).heap[w.heap.size]? = some (.cells #[.slice none 0 0, .slice none 0 0, .int .i64 (-1)] 35 (0, 0)) := by
      show (w.heap.push _)[w.heap.size]? = _
      rw [Array.getElem?_push, if_pos rfl]
    unfold World.frozen?
    simp only [e]
    simp
  exact { c0 := by rw [World.cell?_alloc_new]; rfl, c1 := by rw [World.cell?_alloc_new]; rfl, c2 := by rw [World.cell?_alloc_new]; rfl, f0 := fz 0, f1 := fz 1, f2 := fz 2,
          lrow := ⟨rfl, Or.inl ⟨rfl, rfl⟩⟩, rrow := ⟨rfl, Or.inl ⟨rfl, rfl⟩⟩, le := by simp [Value.ownBlock], re := by simp [Value.ownBlock], be := hB, lt := by simp }

set_option maxHeartbeats 400000 in
theorem rDown_any {B : Nat} {w : World} {e : Nat} {lv rv : Value} {fs : List Fl} {rs : List (Int × ByteArray × ByteArray)} {left : Int} (h : IsRef B w e lv rv fs rs left) :
    Calls Tryz.prog 14 #[.pointer (some ⟨e, 0, none⟩)] w fun e w' => e = .returned (.bool (left == 0)) ∧ w' = w := by
  have c2 := h.c2
  clear h
  go_enter Tryz.func14, Tryz.ntmps14
  go_wp2
  go_ret
  exact ⟨rfl, rfl⟩

set_option maxHeartbeats 400000 in
theorem may_any {B : Nat} {w : World} {e : Nat} {lv rv : Value} {fs : List Fl} {rs : List (Int × ByteArray × ByteArray)} {left : Int} (h : IsRef B w e lv rv fs rs left) (s : ByteArray) (hs : s.size ≤ maxLen) :
    Calls Tryz.prog 62 #[.pointer (some ⟨e, 0, none⟩), .string s] w fun e w' => e = .returned (.int .i64 (writeD left [s])) ∧ w' = w := by
  have c2 := h.c2
  have hp := rPath_any s w hs
  have HW : Hid (writeD left [s] = if (left == 0) = true then 15 else if okPath s = true then 0 else 10) := by unfold Hid writeD; simp
  clear h hs
  generalize okPath s = b at *
  by_cases h0 : (left == 0) = true
  · go_enter Tryz.func62, Tryz.ntmps62
    go_wp2_with (go_at_call 43; refine hp.mono ?_; rintro e w' ⟨rfl, rfl⟩)
    go_ret
    exact ⟨ret_int (by rw [HW.out, if_pos h0]), rfl⟩
  · rw [Bool.not_eq_true] at h0
    cases b
    · go_enter Tryz.func62, Tryz.ntmps62
      go_wp2_with (go_at_call 43; refine hp.mono ?_; rintro e w' ⟨rfl, rfl⟩)
      go_ret
      exact ⟨ret_int (by rw [HW.out, h0]; rfl), rfl⟩
    · go_enter Tryz.func62, Tryz.ntmps62
      go_wp2_with (go_at_call 43; refine hp.mono ?_; rintro e w' ⟨rfl, rfl⟩)
      go_ret
      exact ⟨ret_int (by rw [HW.out, h0]; rfl), rfl⟩

set_option maxHeartbeats 400000 in
theorem home_any {B : Nat} {w : World} {e : Nat} {lv rv : Value} {D : DataW Unit} {rs : List (Int × ByteArray × ByteArray)} {left : Int} (h : IsRef B w e lv rv (filesD D) rs left) (hD : Good D) (s : ByteArray) (hlen : (filesD D).length ≤ 2199023255552) (hs : okPath s = true) :
    Calls Tryz.prog 63 #[.pointer (some ⟨e, 0, none⟩), .string s] w fun e w' => e = .returned (.int .i64 (parentD D s)) ∧ w' = w := by
  have hp := rParent_any s w (okPath_size hs) (okPath_parts hs).2
  have hk := rKind_any h hD (parentOf s) hlen
  have HP : Hid (parentD D s = if (kindD D (parentOf s) == 0) = true then 12 else if (kindD D (parentOf s) == 1) = true then 13 else 0) := by unfold Hid parentD; rfl
  clear h
  generalize kindD D (parentOf s) = k at *
  generalize parentOf s = q at *
  by_cases h0 : (k == 0) = true
  · go_enter Tryz.func63, Tryz.ntmps63
    go_wp2_with (first
      | (go_at_call 21; refine hp.mono ?_; rintro e w' ⟨rfl, rfl⟩)
      | (go_at_call 27; refine hk.mono ?_; rintro e w' ⟨rfl, rfl⟩))
    go_ret
    exact ⟨ret_int (by rw [HP.out, if_pos h0]), rfl⟩
  · rw [Bool.not_eq_true] at h0
    by_cases h1 : (k == 1) = true
    · go_enter Tryz.func63, Tryz.ntmps63
      go_wp2_with (first
        | (go_at_call 21; refine hp.mono ?_; rintro e w' ⟨rfl, rfl⟩)
        | (go_at_call 27; refine hk.mono ?_; rintro e w' ⟨rfl, rfl⟩))
      go_ret
      exact ⟨ret_int (by rw [HP.out, if_neg (by rw [h0]; decide), if_pos h1]), rfl⟩
    · rw [Bool.not_eq_true] at h1
      go_enter Tryz.func63, Tryz.ntmps63
      go_wp2_with (first
        | (go_at_call 21; refine hp.mono ?_; rintro e w' ⟨rfl, rfl⟩)
        | (go_at_call 27; refine hk.mono ?_; rintro e w' ⟨rfl, rfl⟩))
      go_ret
      exact ⟨ret_int (by rw [HP.out, if_neg (by rw [h0]; decide), if_neg (by rw [h1]; decide)]), rfl⟩

end Go.Proofs.YtpkllhgohkgcmaaGreatDoor
