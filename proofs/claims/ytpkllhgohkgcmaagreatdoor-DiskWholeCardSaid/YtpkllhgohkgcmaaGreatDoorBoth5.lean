/- Whatever is asked of both disks is answered alike; two new disks; a row of deeds in memory. -/
import Derived.Test.YtpkllhgohkgcmaaGreatDoorBoth4
namespace Go.Proofs.YtpkllhgohkgcmaaGreatDoor
open Go.RowKit Go.Maps Go.WideMaps Go.WideElems Go.Sort Go.Shelf
set_option maxRecDepth 100000

theorem asks_any {B : Nat} {w : World} {d e : Nat} {x : Ab} {m : Int} {k : Nat} (h : Two B w d e x m k) (hk : k + 1 < 2199023255552) (kd : Int) (p t u : ByteArray) (z : Int) (hp : p.size ≤ maxLen) (ht : t.size ≤ maxLen) (hu : u.size ≤ maxLen) (hk0 : -9223372036854775808 ≤ kd) (hk1 : kd ≤ 9223372036854775807) (hz : z ≤ 9223372036854775807) :
    Calls Tryz.prog 10 #[.pointer (some ⟨d, 0, none⟩), .pointer (some ⟨e, 0, none⟩), .agg #[.int .i64 kd, .string p, .string t, .string u, .int .i64 z]] w fun e' w' => e' = .returned (.bool true) ∧ Two B w' d e (asksD x (pickD kd 11) p t u z) m (k + 1) ∧ Below B w w' := by
  unfold asksD
  by_cases k4 : (pickD kd 11 == 4) = true
  · rw [if_pos k4]; exact asks_read h hk kd p t u z hp hk0 hk1 k4
  rw [if_neg k4]
  by_cases k5 : (pickD kd 11 == 5) = true
  · rw [if_pos k5]; exact asks_kind h hk kd p t u z hp hk0 hk1 k5
  rw [if_neg k5]
  by_cases k6 : (pickD kd 11 == 6) = true
  · rw [if_pos k6]; exact asks_list h hk kd p t u z hp hk0 hk1 k6
  rw [if_neg k6]
  by_cases k7 : (pickD kd 11 == 7) = true
  · rw [if_pos k7]; exact asks_cut h hk kd p t u z hk0 hk1 hz k7
  rw [if_neg k7]
  by_cases k8 : (pickD kd 11 == 8) = true
  · rw [if_pos k8]; exact asks_up h hk kd p t u z hk0 hk1 k8
  rw [if_neg k8]
  by_cases k9 : (pickD kd 11 == 9) = true
  · rw [if_pos k9]; exact asks_clear h kd p t u z hk0 hk1 k9
  rw [if_neg k9]
  by_cases k10 : (pickD kd 11 == 10) = true
  · rw [if_pos k10]; exact asks_all h hk kd p t u z hk0 hk1 k10
  rw [if_neg k10]
  exact asks_writes h hk kd p t u z hp ht hu hk0 hk1 (not_kind k4) (not_kind k5) (not_kind k6) (not_kind k7) (not_kind k8) (not_kind k9) (not_kind k10)

/-- A deed in memory: its five cells, in their bounds. -/
def DeedAt (w : World) (g o : Nat) : Prop := ∃ (k : Int) (p t u : ByteArray) (z : Int),
  w.cell? ⟨g, o, none⟩ = some (.int .i64 k) ∧ w.cell? ⟨g, o + 1, none⟩ = some (.string p) ∧ w.cell? ⟨g, o + 1 + 1, none⟩ = some (.string t) ∧ w.cell? ⟨g, o + 1 + 1 + 1, none⟩ = some (.string u) ∧ w.cell? ⟨g, o + 1 + 1 + 1 + 1, none⟩ = some (.int .i64 z) ∧
  -9223372036854775808 ≤ k ∧ k ≤ 9223372036854775807 ∧ p.size ≤ maxLen ∧ t.size ≤ maxLen ∧ u.size ≤ maxLen ∧ -9223372036854775808 ≤ z ∧ z ≤ 9223372036854775807

theorem DeedAt.below {w w' : World} {g o B : Nat} (h : DeedAt w g o) (hb : Below B w w') (hg : g < B) : DeedAt w' g o := by
  obtain ⟨k, p, t, u, z, h0, h1, h2, h3, h4, r⟩ := h
  have q : ∀ i, w'.cell? ⟨g, i, none⟩ = w.cell? ⟨g, i, none⟩ := fun i => hb.cell (p := ⟨g, i, none⟩) hg
  exact ⟨k, p, t, u, z, by rw [q]; exact h0, by rw [q]; exact h1, by rw [q]; exact h2, by rw [q]; exact h3, by rw [q]; exact h4, r⟩

def wNew (w : World) : World := (w.alloc (.map #[] 0)).alloc (.cells #[.map (some w.heap.size), .slice none 0 0, .int .i64 (-1)] 59)
theorem New_any (w : World) : Calls Tryz.prog 8 #[] w fun e w' => e = .returned (.pointer (some ⟨w.heap.size + 1, 0, none⟩)) ∧ w' = wNew w := New_walk w
theorem size_wNew (w : World) : (wNew w).heap.size = w.heap.size + 2 := by simp [wNew]

/-- Two new disks. -/
def wTwo (w : World) : World := (wNew w).alloc (.cells #[.slice none 0 0, .slice none 0 0, .int .i64 (-1)] 35)
theorem rNew_any (w : World) : Calls Tryz.prog 9 #[] (wNew w) fun e w' => e = .returned (.pointer (some ⟨w.heap.size + 2, 0, none⟩)) ∧ w' = wTwo w := by
  have := rNew_walk (wNew w)
  rw [size_wNew] at this
  exact this

theorem start_two (w : World) (m : Int) (hm : w.cell? ⟨0, 0, none⟩ = some (.int .i64 m)) : Two w.heap.size (wTwo w) (w.heap.size + 1) (w.heap.size + 2) newAb m 0 ∧ Below w.heap.size w (wTwo w) := by
  have h0 : 0 < w.heap.size := cell_lt hm
  have fa : Fit w.heap.size (wNew w) (w.heap.size + 1) w.heap.size 0 (.slice none 0 0) newAb m := new_fit hm (Nat.le_refl _)
  have hb1 : Below w.heap.size w (wNew w) := new_below w
  have hb2 : Below (wNew w).heap.size (wNew w) (wTwo w) := (Below.refl _ _).alloc (Nat.le_refl _) _
  have hr : IsRef w.heap.size (wTwo w) (w.heap.size + 2) (.slice none 0 0) (.slice none 0 0) (filesD newAb.D) newAb.rs newAb.left := by
    have := rnew_is (w := wNew w) (B := w.heap.size) hb1.size
    rw [size_wNew] at this
    exact this
  have hbw : Below w.heap.size w (wTwo w) := hb1.trans (hb2.mono hb1.size)
  refine ⟨{ ex := ⟨w.heap.size, 0, .slice none 0 0, .slice none 0 0, .slice none 0 0, fa.disk.below hb2, hr, ?_, Nat.le_refl _⟩, sound := ?_, len := Nat.le_refl _, lo := by decide, hi := by decide, max := by rw [hbw.cell (p := ⟨0, 0, none⟩) h0]; exact hm, base := hbw.size, zero := h0 }, hbw⟩
  · rintro j (rfl | rfl | hj) (e | e | e)
    · omega
    · cases e
    · cases e
    · omega
    · cases e
    · cases e
    · cases hj
    · cases hj
    · cases hj
  · intro s hs
    cases hs

end Go.Proofs.YtpkllhgohkgcmaaGreatDoor
