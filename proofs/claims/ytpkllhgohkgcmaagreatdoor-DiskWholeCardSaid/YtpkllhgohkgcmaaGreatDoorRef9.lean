/- The reference's Mkdir and Write: each answers, and leaves its disk, as the plain function of the raw write says. -/
import Derived.Test.YtpkllhgohkgcmaaGreatDoorRef8
namespace Go.Proofs.YtpkllhgohkgcmaaGreatDoor
open Go.RowKit Go.Maps
set_option maxRecDepth 100000

/-- What the reference's raw writes are told of its disk and of the numbers. -/
structure FitR (B : Nat) (w : World) (e : Nat) (lv rv : Value) (x : Ab) : Prop where
  ref : IsRef B w e lv rv (filesD x.D) x.rs x.left
  good : Good x.D
  map : IsMap x.D
  room : (filesD x.D).length < 2199023255552
  len : x.rs.length < 2199023255552
  lo : -1 ≤ x.left
  hi : x.left ≤ 9223372036854775807
  base : B ≤ w.heap.size

theorem AfterR.same {B : Nat} {w : World} {e : Nat} {lv rv : Value} {fs : List Fl} {rs : List (Int × ByteArray × ByteArray)} {left : Int} (h : IsRef B w e lv rv fs rs left) : AfterR B w w e lv rv fs rs left :=
  ⟨lv, rv, h, Upd.refl _ _, fun _ hj => Or.inl hj⟩

theorem AfterR.trans {B : Nat} {w w1 w' : World} {e : Nat} {lv rv lv1 rv1 : Value} {fs : List Fl} {rs : List (Int × ByteArray × ByteArray)} {left : Int} (hu : Upd (FootR e lv rv) w w1) (hj : ∀ j, FootR e lv1 rv1 j → FootR e lv rv j ∨ w.heap.size ≤ j) (h : AfterR B w1 w' e lv1 rv1 fs rs left) : AfterR B w w' e lv rv fs rs left := by
  obtain ⟨lv', rv', h1, h2, h3⟩ := h
  refine ⟨lv', rv', h1, hu.trans h2 (fun i hi hf => (hj i hf).elim id (fun q => by omega)), fun j hf => ?_⟩
  rcases h3 j hf with q | q
  · exact hj j q
  · exact Or.inr (Nat.le_trans hu.size q)

theorem leftNext_eq (x : Ab) (r : Int × ByteArray × ByteArray) : (noteAb x r).left = leftNext x.left := rfl

/-- put, then noted. -/
theorem put_noted {B : Nat} {w : World} {e : Nat} {lv rv : Value} {x : Ab} (h : FitR B w e lv rv x) (fp : ByteArray) (fc : Bool) (ft : ByteArray) (gone : Bool) (k : Int) (p t : ByteArray) (D' : DataW Unit) (hD : putD (filesD x.D) (fp, fc, ft) gone = filesD D') :
    Calls Tryz.prog 45 #[.pointer (some ⟨e, 0, none⟩), .agg #[.string fp, .bool fc, .string ft], .bool gone] w fun e' w1 => e' = .returned (.tuple #[]) ∧
      Calls Tryz.prog 64 #[.pointer (some ⟨e, 0, none⟩), .int .i64 k, .string p, .string t] w1 fun e' w' => e' = .returned (.int .i64 0) ∧ AfterR B w w' e lv rv (filesD D') (x.rs ++ [(k, p, t)]) (leftNext x.left) := by
  refine (put_any h.ref fp fc ft gone h.room h.base).mono ?_
  rintro e' w1 ⟨rfl, lv1, rv1, h1, hu, hj⟩
  refine ⟨rfl, ?_⟩
  rw [hD] at h1
  refine (noted_any h1 k p t h.len h.lo h.hi (Nat.le_trans h.base hu.size)).mono ?_
  rintro e' w' ⟨rfl, ha⟩
  exact ⟨rfl, AfterR.trans hu hj ha⟩

set_option maxHeartbeats 1000000 in
theorem rMkdir_any {B : Nat} {w : World} {e : Nat} {lv rv : Value} {x : Ab} (h : FitR B w e lv rv x) (s : ByteArray) (hs : s.size ≤ maxLen) (hG : Good (mkdirD x s).2.D) :
    Calls Tryz.prog 46 #[.pointer (some ⟨e, 0, none⟩), .string s] w fun e' w' => e' = .returned (.int .i64 (mkdirD x s).1) ∧ AfterR B w w' e lv rv (filesD (mkdirD x s).2.D) (mkdirD x s).2.rs (mkdirD x s).2.left := by
  have hm := may_any h.ref s hs
  by_cases h0 : (writeD x.left [s] != 0) = true
  · have HE : Hid (mkdirD x s = (writeD x.left [s], x)) := by unfold Hid mkdirD; rw [if_pos h0]
    have HA := hide3 (AfterR.same h.ref)
    clear h hG
    generalize writeD x.left [s] = e0 at *
    go_enter Tryz.func46, Tryz.ntmps46
    go_wp2_with (go_at_call 62; refine hm.mono ?_; rintro e w1 ⟨rfl, rfl⟩)
    go_ret
    rw [HE.out]
    exact ⟨rfl, HA.out⟩
  rw [Bool.not_eq_true] at h0
  have hok : okPath s = true := by simpa using writeD_ok h0
  have hh := home_any h.ref h.good s (Nat.le_of_lt h.room) hok
  have hk := rKind_any h.ref h.good s (Nat.le_of_lt h.room)
  by_cases h1 : (parentD x.D s != 0) = true
  · have HE : Hid (mkdirD x s = (parentD x.D s, x)) := by unfold Hid mkdirD; rw [if_neg (by rw [h0]; decide), if_pos h1]
    have HA := hide3 (AfterR.same h.ref)
    clear h hG hk
    generalize writeD x.left [s] = e0 at *
    generalize parentD x.D s = e1 at *
    go_enter Tryz.func46, Tryz.ntmps46
    go_wp2_with (first
      | (go_at_call 62; refine hm.mono ?_; rintro e w1 ⟨rfl, rfl⟩)
      | (go_at_call 63; refine hh.mono ?_; rintro e w1 ⟨rfl, rfl⟩))
    go_ret
    rw [HE.out]
    exact ⟨rfl, HA.out⟩
  rw [Bool.not_eq_true] at h1
  by_cases h2 : (kindD x.D s != 0) = true
  · have HE : Hid (mkdirD x s = (11, x)) := by unfold Hid mkdirD; rw [if_neg (by rw [h0]; decide), if_neg (by rw [h1]; decide), if_pos h2]
    have HA := hide3 (AfterR.same h.ref)
    clear h hG
    generalize writeD x.left [s] = e0 at *
    generalize parentD x.D s = e1 at *
    generalize kindD x.D s = e2 at *
    go_enter Tryz.func46, Tryz.ntmps46
    go_wp2_with (first
      | (go_at_call 62; refine hm.mono ?_; rintro e w1 ⟨rfl, rfl⟩)
      | (go_at_call 63; refine hh.mono ?_; rintro e w1 ⟨rfl, rfl⟩)
      | (go_at_call 27; refine hk.mono ?_; rintro e w1 ⟨rfl, rfl⟩))
    go_ret
    rw [HE.out]
    exact ⟨rfl, HA.out⟩
  rw [Bool.not_eq_true] at h2
  have he : mkdirD x s = (0, noteAb { D := x.D.put (keyD s) (itemD true ByteArray.empty), rs := x.rs, left := x.left } (1, s, ByteArray.empty)) := by
    unfold mkdirD; rw [if_neg (by rw [h0]; decide), if_neg (by rw [h1]; decide), if_neg (by rw [h2]; decide)]
  have hpn := put_noted h s true ByteArray.empty false 1 s ByteArray.empty _ (put_files h.good h.map (by rw [he] at hG; exact hG))
  have HE := hide3 he
  clear h hG he
  generalize writeD x.left [s] = e0 at *
  generalize parentD x.D s = e1 at *
  generalize kindD x.D s = e2 at *
  go_enter Tryz.func46, Tryz.ntmps46
  go_wp2_with (first
    | (go_at_call 62; refine hm.mono ?_; rintro e w1 ⟨rfl, rfl⟩)
    | (go_at_call 63; refine hh.mono ?_; rintro e w1 ⟨rfl, rfl⟩)
    | (go_at_call 27; refine hk.mono ?_; rintro e w1 ⟨rfl, rfl⟩)
    | (go_at_call 45; refine hpn.mono ?_; rintro e w2 ⟨rfl, hnt⟩; have HNT := hide3 hnt; clear hnt)
    | (go_at_call 64; refine HNT.out.mono ?_; rintro e w3 ⟨rfl, ha⟩))
  go_ret
  rw [HE.out]
  exact ⟨rfl, ha⟩

end Go.Proofs.YtpkllhgohkgcmaaGreatDoor
