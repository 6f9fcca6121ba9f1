/- The reference's disk in memory: a list of files by their paths, the raw writes, the count; the walks of its New, Down, Up, Cut, find and Kind. -/
import Derived.Test.YtpkllhgohkgcmaaGreatDoorRef3
namespace Go.Proofs.YtpkllhgohkgcmaaGreatDoor
open Go.RowKit Go.Maps
set_option maxRecDepth 100000

theorem hide3 {p : Prop} (h : p) : Hid p := h

/-- A pointer leads to the reference's disk. -/
structure IsRef (B : Nat) (w : World) (e : Nat) (lv rv : Value) (fs : List Fl) (rs : List (Int × ByteArray × ByteArray)) (left : Int) : Prop where
  c0 : w.cell? ⟨e, 0, none⟩ = some lv
  c1 : w.cell? ⟨e, 1, none⟩ = some rv
  c2 : w.cell? ⟨e, 2, none⟩ = some (.int .i64 left)
  f0 : w.frozen? ⟨e, 0, none⟩ = false
  f1 : w.frozen? ⟨e, 1, none⟩ = false
  f2 : w.frozen? ⟨e, 2, none⟩ = false
  lrow : w.ownsRow B 49 3 lv fs.length (fileCells fs)
  rrow : w.ownsRow B 56 3 rv rs.length (rawCells rs)
  le : lv.ownBlock ≠ some e
  re : rv.ownBlock ≠ some e
  be : B ≤ e
  lt : e < w.heap.size

def FootR (e : Nat) (lv rv : Value) (k : Nat) : Prop := k = e ∨ lv.ownBlock = some k ∨ rv.ownBlock = some k

theorem IsRef.upd {F : Nat → Prop} {B : Nat} {w w' : World} {e : Nat} {lv rv : Value} {fs : List Fl} {rs : List (Int × ByteArray × ByteArray)} {left : Int} (h : IsRef B w e lv rv fs rs left) (hu : Upd F w w') (hF : ∀ k, FootR e lv rv k → ¬ F k) : IsRef B w' e lv rv fs rs left := by
  have hb := hu.block e h.lt (hF e (Or.inl rfl))
  exact { c0 := by rw [World.cell?_of_block (w := w) hb]; exact h.c0, c1 := by rw [World.cell?_of_block (w := w) hb]; exact h.c1, c2 := by rw [World.cell?_of_block (w := w) hb]; exact h.c2,
          f0 := by rw [World.frozen?_of_block (w := w) hb]; exact h.f0, f1 := by rw [World.frozen?_of_block (w := w) hb]; exact h.f1, f2 := by rw [World.frozen?_of_block (w := w) hb]; exact h.f2,
          lrow := ownsRow_upd h.lrow hu (fun k hk => hF k (Or.inr (Or.inl hk))), rrow := ownsRow_upd h.rrow hu (fun k hk => hF k (Or.inr (Or.inr hk))),
          le := h.le, re := h.re, be := h.be, lt := Nat.lt_of_lt_of_le h.lt hu.size }

theorem IsRef.below {B : Nat} {w w' : World} {e : Nat} {lv rv : Value} {fs : List Fl} {rs : List (Int × ByteArray × ByteArray)} {left : Int} (h : IsRef B w e lv rv fs rs left) (hu : Below w.heap.size w w') : IsRef B w' e lv rv fs rs left :=
  h.upd (Upd.of_below (F := fun _ => False) hu) (fun _ _ f => f)

theorem IsRef.foot_lt {B : Nat} {w : World} {e : Nat} {lv rv : Value} {fs : List Fl} {rs : List (Int × ByteArray × ByteArray)} {left : Int} (h : IsRef B w e lv rv fs rs left) {k : Nat} (hk : FootR e lv rv k) : k < w.heap.size ∧ B ≤ k := by
  rcases hk with rfl | hk | hk
  · exact ⟨h.lt, h.be⟩
  · exact row_lt h.lrow hk
  · exact row_lt h.rrow hk

/-- The place of a path; -1: nothing is there. -/
def findD : List Fl → ByteArray → Int
  | [], _ => -1
  | f :: r, s => if (f.1.toList == s.toList) = true then 0 else (if findD r s = -1 then -1 else findD r s + 1)

theorem findD_ge (fs : List Fl) (s : ByteArray) : -1 ≤ findD fs s := by
  induction fs with
  | nil => simp [findD]
  | cons f r ih =>
    unfold findD
    split
    · omega
    · split <;> omega

theorem findD_none {fs : List Fl} {s : ByteArray} (h : ∀ j (hj : j < fs.length), (fs[j].1.toList == s.toList) = false) : findD fs s = -1 := by
  induction fs with
  | nil => rfl
  | cons f r ih =>
    unfold findD
    rw [if_neg (by have := h 0 (by simp); simp only [List.getElem_cons_zero] at this; rw [this]; decide), if_pos (ih fun j hj => by have := h (j + 1) (by simpa using hj); simpa using this)]

theorem findD_some {fs : List Fl} {s : ByteArray} (k : Nat) (hk : k < fs.length) (h : ∀ j (_ : j < k) (hj' : j < fs.length), (fs[j].1.toList == s.toList) = false) (hc : (fs[k].1.toList == s.toList) = true) : findD fs s = k := by
  induction fs generalizing k with
  | nil => simp at hk
  | cons f r ih =>
    unfold findD
    cases k with
    | zero => rw [if_pos (by simpa using hc)]; rfl
    | succ k =>
      have := ih k (by simpa using hk) (fun j hj hj' => by have := h (j + 1) (by omega) (by simpa using hj'); simpa using this) (by simpa using hc)
      rw [if_neg (by have := h 0 (by omega) (by simp); simp only [List.getElem_cons_zero] at this; rw [this]; decide), this, if_neg (by omega)]
      omega

theorem file_cells {w : World} {B : Nat} {g cap : Nat} {fs : List Fl} (h : w.ownsRow B 49 3 (.slice (some ⟨g, 0, none⟩) fs.length cap) fs.length (fileCells fs)) (k : Nat) (hk : k < fs.length) :
    w.cell? ⟨g, k * 3, none⟩ = some (.string fs[k].1) ∧ w.cell? ⟨g, k * 3 + 1, none⟩ = some (.bool fs[k].2.1) ∧ w.cell? ⟨g, k * 3 + 1 + 1, none⟩ = some (.string fs[k].2.2) := by
  obtain ⟨h0, h1, h2⟩ := fileCells_get fs k hk
  exact ⟨row_cells h _ _ h0, row_cells h _ _ h1, row_cells h _ _ h2⟩

set_option maxHeartbeats 1000000 in
theorem find_any {B : Nat} {w : World} {e : Nat} {lv rv : Value} {fs : List Fl} {rs : List (Int × ByteArray × ByteArray)} {left : Int} (h : IsRef B w e lv rv fs rs left) (s : ByteArray) (hlen : fs.length ≤ 2199023255552) :
    Calls Tryz.prog 44 #[.pointer (some ⟨e, 0, none⟩), .string s] w fun e w' => e = .returned (.int .i64 (findD fs s)) ∧ w' = w := by
  have c0 := h.c0
  rcases h.lrow.2 with ⟨rfl, h0⟩ | ⟨g, cap, cur, rfl, _, _, _, _, _, _⟩
  · have hF : Hid (findD fs s = -1) := by
      have : fs = [] := List.eq_nil_of_length_eq_zero h0
      rw [this]; rfl
    clear h
    go_enter Tryz.func44, Tryz.ntmps44
    go_wp2_with fail
    go_loop [5] (fun i => i = .int .i64 0) (fun _ => 0)
    case atStart => rfl
    case round =>
      subst hrel
      go_wp2
      go_ret
      exact ⟨ret_int hF.out.symm, rfl⟩
  · have HL := hide3 h.lrow
    clear h
    go_enter Tryz.func44, Tryz.ntmps44
    go_wp2_with fail
    go_loop [5] (fun i => ∃ k : Nat, k ≤ fs.length ∧ i = .int .i64 k ∧ ∀ j (hj : j < k) (hj' : j < fs.length), (fs[j].1.toList == s.toList) = false) (fun i => fs.length - (intOf i).toNat)
    case atStart => exact ⟨0, Nat.zero_le _, rfl, fun j hj => absurd hj (Nat.not_lt_zero _)⟩
    case round =>
      obtain ⟨k, hk, rfl, hall⟩ := hrel
      have HA := hide3 hall
      clear hall
      by_cases hlt : k < fs.length
      · obtain ⟨a0, _, _⟩ := file_cells HL.out k hlt
        by_cases hc : (fs[k].1.toList == s.toList) = true
        · have HF : Hid (findD fs s = k) := findD_some k hlt HA.out hc
          generalize fs[k].1 = fp at *
          go_wp2
          go_ret
          exact ⟨ret_int HF.out.symm, rfl⟩
        · rw [Bool.not_eq_true] at hc
          have HC := hide3 hc
          obtain ⟨fp, hfp⟩ : ∃ fp, fp = fs[k].1 := ⟨_, rfl⟩
          rw [← hfp] at a0 hc
          clear hfp
          go_wp2
          refine ⟨⟨k + 1, by omega, by go_num, fun j hj hj' => ?_⟩, by simp [intOf]; omega⟩
          by_cases ej : j = k
          · subst ej; exact HC.out
          · exact HA.out j (by omega) hj'
      · go_wp2
        go_ret
        exact ⟨ret_int (findD_none fun j hj => HA.out j (by omega) hj).symm, rfl⟩

/-- What is known of a map's datum apart from memory. -/
structure Good (D : DataW Unit) : Prop where
  rise : Rising (filesD D)
  mem : ∀ f : Fl, f ∈ filesD D ↔ Maps.has D (keyD f.1) = true ∧ D.atKey (keyD f.1) zeroD = itemD f.2.1 f.2.2
  item : ∀ s, Maps.has D (keyD s) = true → ∃ c t, D.atKey (keyD s) zeroD = itemD c t
  keys : ∀ kl, Maps.has D kl = true → ∃ s, kl = keyD s ∧ okPath s = true

theorem IsDisk.good {B : Nat} {w : World} {d mb n : Nat} {rv : Value} {x : Ab} (h : IsDisk B w d mb n rv x) : Good x.D := by
  obtain ⟨h1, _, h3⟩ := files_facts h.own
  refine ⟨h1, h3, fun s hs => ?_, h.keys⟩
  obtain ⟨es, he, hr, _, hf⟩ := own_entries h.own
  rw [he, has_eq, List.any_eq_true] at hs
  obtain ⟨p, hp, hk⟩ := hs
  obtain ⟨s', c, t, rfl⟩ := hf p hp
  have es' : s' = s := (sameKey_keyD _ _).1 hk
  subst es'
  exact ⟨c, t, by rw [he]; exact WideAt.atKey_mem zeroD (isKey s') (apart_of_rising hr) hp⟩

theorem beq_bytes {a b : ByteArray} : (a.toList == b.toList) = true ↔ a = b := by
  rw [toList_data, toList_data, beq_iff_eq]
  exact ⟨fun h => bytes_eq h, fun h => by rw [h]⟩

/-- find, said of the map. -/
theorem find_has {D : DataW Unit} (hD : Good D) (s : ByteArray) : (findD (filesD D) s = -1 ∧ Maps.has D (keyD s) = false) ∨
    ∃ (k : Nat) (hk : k < (filesD D).length), findD (filesD D) s = k ∧ (filesD D)[k].1 = s ∧ Maps.has D (keyD s) = true ∧ D.atKey (keyD s) zeroD = itemD (filesD D)[k].2.1 (filesD D)[k].2.2 := by
  by_cases hs : Maps.has D (keyD s) = true
  · right
    obtain ⟨c, t, hct⟩ := hD.item s hs
    have hm : ((s, c, t) : Fl) ∈ filesD D := (hD.mem _).2 ⟨hs, hct⟩
    obtain ⟨k, hk, ek⟩ := List.getElem_of_mem hm
    refine ⟨k, hk, findD_some k hk (fun j hj hj' => ?_) (by rw [ek]; simp), by rw [ek], hs, by rw [ek]; exact hct⟩
    rw [Bool.eq_false_iff]
    intro e
    have e1 := beq_bytes.1 e
    have h1 := List.pairwise_iff_getElem.1 hD.rise j k hj' hk hj
    rw [e1, ek, WideAt.bytes_irrefl] at h1
    cases h1
  · left
    rw [Bool.not_eq_true] at hs
    refine ⟨findD_none fun j hj => ?_, hs⟩
    rw [Bool.eq_false_iff]
    intro e
    have e1 := beq_bytes.1 e
    have := ((hD.mem _).1 (List.getElem_mem hj)).1
    rw [e1, hs] at this
    cases this

set_option maxHeartbeats 1000000 in
theorem rKind_any {B : Nat} {w : World} {e : Nat} {lv rv : Value} {D : DataW Unit} {rs : List (Int × ByteArray × ByteArray)} {left : Int} (h : IsRef B w e lv rv (filesD D) rs left) (hD : Good D) (s : ByteArray) (hlen : (filesD D).length ≤ 2199023255552) :
    Calls Tryz.prog 27 #[.pointer (some ⟨e, 0, none⟩), .string s] w fun e w' => e = .returned (.int .i64 (kindD D s)) ∧ w' = w := by
  have hf := find_any h s hlen
  have c0 := h.c0
  by_cases h1 : (s.toList == [47]) = true
  · have HK : Hid (kindD D s = 2) := by unfold Hid kindD; rw [if_pos h1]
    clear h
    generalize findD (filesD D) s = r at *
    go_enter Tryz.func27, Tryz.ntmps27
    go_wp2_with (go_at_call 44; refine hf.mono ?_; rintro e w' ⟨rfl, rfl⟩)
    go_ret
    exact ⟨ret_int HK.out.symm, rfl⟩
  rw [Bool.not_eq_true] at h1
  rcases find_has hD s with ⟨hr, hh⟩ | ⟨k, hk, hr, hp, hh, hat⟩
  · have HK : Hid (kindD D s = 0) := by unfold Hid kindD; rw [if_neg (by rw [h1]; decide), if_neg (by rw [hh]; decide)]
    rw [hr] at hf
    clear h hr hh
    go_enter Tryz.func27, Tryz.ntmps27
    go_wp2_with (go_at_call 44; refine hf.mono ?_; rintro e w' ⟨rfl, rfl⟩)
    go_ret
    exact ⟨ret_int HK.out.symm, rfl⟩
  · rw [hr] at hf
    rcases h.lrow.2 with ⟨_, h0⟩ | ⟨g, cap, cur, rfl, _, _, _, _, _, _⟩
    · omega
    obtain ⟨_, a1, _⟩ := file_cells h.lrow k hk
    have HK : Hid (kindD D s = if (filesD D)[k].2.1 = true then 2 else 1) := by unfold Hid kindD; rw [if_neg (by rw [h1]; decide), if_pos hh, hat, itDir_mk]
    generalize (filesD D)[k].2.1 = c at *
    clear h hr hh hat hp
    cases c
    · go_enter Tryz.func27, Tryz.ntmps27
      go_wp2_with (go_at_call 44; refine hf.mono ?_; rintro e w' ⟨rfl, rfl⟩)
      go_ret
      exact ⟨ret_int (by rw [HK.out]; rfl), rfl⟩
    · go_enter Tryz.func27, Tryz.ntmps27
      go_wp2_with (go_at_call 44; refine hf.mono ?_; rintro e w' ⟨rfl, rfl⟩)
      go_ret
      exact ⟨ret_int (by rw [HK.out]; rfl), rfl⟩

end Go.Proofs.YtpkllhgohkgcmaaGreatDoor
