/- The walk of used: of a disk in memory, it answers whether a path of the map has this parent, in whatever order the map is gone through; old memory stays as it was. -/
import Derived.Test.YtpkllhgohkgcmaaGreatDoorDisk4
namespace Go.Proofs.YtpkllhgohkgcmaaGreatDoor
open Go.RowKit Go.Maps Go.WideMaps Go.WideElems
set_option maxRecDepth 100000

/-- The text of a key. -/
def litB : Lit → ByteArray
  | .string l => ⟨l.toArray⟩
  | _ => ByteArray.empty
/-- The paths of a map, in their order. -/
def keysD : DataW Unit → List ByteArray
  | .map es => es.map fun p => litB p.1
  | _ => []
/-- Is something in a directory? -/
def usedD (D : DataW Unit) (s : ByteArray) : Bool := (keysD D).any fun k => (parentOf k).toList == s.toList

theorem litB_key (s : ByteArray) : litB (keyD s) = s := by unfold litB keyD; exact bytes_mk s
theorem keyD_inj {s t : ByteArray} (h : keyD s = keyD t) : s = t := by rw [← litB_key s, h, litB_key]
theorem sameKey_keyD (s t : ByteArray) : (keyD s).sameKey (keyD t) = true ↔ s = t := by
  unfold keyD Lit.sameKey
  simp only [beq_iff_eq]
  exact ⟨fun h => bytes_eq h, fun h => by rw [h]⟩

/-- Each key of the map is a text. -/
def StrKeys (D : DataW Unit) : Prop := ∃ es, D = .map es ∧ ∀ p ∈ es, ∃ s, p.1 = keyD s

theorem mem_keys {D : DataW Unit} (h : StrKeys D) (s : ByteArray) : s ∈ keysD D ↔ Maps.has D (keyD s) = true := by
  obtain ⟨es, rfl, hes⟩ := h
  rw [has_eq, List.any_eq_true]
  unfold keysD
  rw [List.mem_map]
  constructor
  · rintro ⟨p, hp, rfl⟩
    obtain ⟨t, ht⟩ := hes p hp
    exact ⟨p, hp, by rw [ht, litB_key]; exact (sameKey_keyD _ _).2 rfl⟩
  · rintro ⟨p, hp, h⟩
    obtain ⟨t, ht⟩ := hes p hp
    rw [ht] at h
    exact ⟨p, hp, by rw [ht, litB_key]; exact (sameKey_keyD _ _).1 h⟩

theorem IsDisk.strKeys {B : Nat} {w : World} {d mb n : Nat} {rv : Value} {x : Ab} (h : IsDisk B w d mb n rv x) : StrKeys x.D := by
  obtain ⟨es, he, _, hk⟩ := h.own.entries keyed
  refine ⟨es, he, fun p hp => ?_⟩
  have : Maps.has x.D p.1 = true := by
    rw [he, has_eq, List.any_eq_true]
    exact ⟨p, hp, WideAt.sameKey_self (hk p hp)⟩
  obtain ⟨s, hs, _⟩ := h.keys _ this
  exact ⟨s, hs⟩

theorem keyOf_inv {key : Value} {kl : Lit} (h : keyOf Tryz.prog 9 key = some kl) : ∃ s, key = .string s ∧ kl = keyD s ∧ s.size ≤ maxLen := by
  cases key <;> simp [keyOf, Tryz.underlying9, mapKey] at h
  rename_i s
  obtain ⟨hs, rfl⟩ := h
  exact ⟨s, rfl, rfl, hs⟩

/-- An item of the map. -/
structure It where
  dir : Bool
  data : ByteArray
def mkItem (c : It) : Value := .agg #[.bool c.dir, .string c.data]

set_option maxHeartbeats 1000000 in
theorem used_any {B : Nat} {w : World} {d mb n : Nat} {rv : Value} {x : Ab} (h : IsDisk B w d mb n rv x) (s : ByteArray) :
    Calls Tryz.prog 65 #[.pointer (some ⟨d, 0, none⟩), .string s] w fun e w' => e = .returned (.bool (usedD x.D s)) ∧ Below w.heap.size w w' := by
  have c0 := h.c0
  have hown := h.own
  have HO : Hid (w.ownsMap Tryz.prog 9 itemR mb n x.D) := hown
  have HKS : Hid (∀ kl, Maps.has x.D kl = true → ∃ s, kl = keyD s ∧ okPath s = true) := h.keys
  have HSK : Hid (StrKeys x.D) := h.strKeys
  have hml := hown.lt
  clear h hown
  go_enter Tryz.func65, Tryz.ntmps65
  go_wp2_with (at_range; refine wpList_range_own _ rfl _ 57 rfl 9 66 keyed Tryz.underlying57 _ mb n _ rfl HO.out ?_; intro w0 hrg0 hg0 hs0; have HS0 : Hid (w0.heap.size = w.heap.size + 1) := hs0; clear hs0)
  go_frame
  go_loopw [5] (fun _ wr => ∃ (left : Lit → Bool) (cnt : Nat), wr.ranges Tryz.prog 9 itemR mb w.heap.size n x.D left cnt ∧
      (∀ k : ByteArray, Maps.has x.D (keyD k) = true → left (keyD k) = false → ((parentOf k).toList == s.toList) = false) ∧ (∀ kl, left kl = true → Maps.has x.D kl = true) ∧ Below w.heap.size w wr)
    (fun _ wr => wr.rangeLeft mb w.heap.size)
  case atStart =>
    exact ⟨_, _, hrg0, fun k h1 h2 => (by rw [h1] at h2; cases h2), fun kl hk => hk, (Below.refl _ _).grown hg0 (Nat.le_refl _) (fun j hj => by cases hj)⟩
  case round =>
    obtain ⟨left, cnt, hrg, hno, hlh, hb⟩ := hrel
    have HN : Hid (∀ k : ByteArray, Maps.has x.D (keyD k) = true → left (keyD k) = false → ((parentOf k).toList == s.toList) = false) := hno
    have HL : Hid (∀ kl, left kl = true → Maps.has x.D kl = true) := hlh
    have HR : Hid (wr.ranges Tryz.prog 9 itemR mb w.heap.size n x.D left cnt) := hrg
    clear hno hlh hrg
    go_wp2_with (at_next; refine wpList_next_ranges _ rfl _ rfl 9 keyed itemR Value.string mkItem (fun key kl hk => by obtain ⟨x, hx, _⟩ := keyOf_inv hk; exact ⟨x, hx⟩) (fun v y hv => by obtain ⟨c, t, rfl, _⟩ := itemR_inv hv; exact ⟨⟨c, t⟩, rfl⟩) mb w.heap.size n _ _ _ rfl HR.out ?_ ?_)
    · intro hc0 hl0
      have HL0 : Hid (∀ kl, left kl = false) := hl0
      clear hl0
      go_wp2
      go_ret
      refine ⟨ret_bool ?_, hb⟩
      unfold usedD
      symm
      rw [List.any_eq_false]
      intro k hk
      rw [HN.out k ((mem_keys HSK.out k).1 hk) (HL0.out _)]; decide
    · intro q c kl yd yp w2 cnt2 hkey hlk hv hat hrg2 hlt hg2 hs2 hen
      obtain ⟨q', eq, rfl, _⟩ := keyOf_inv hkey
      obtain rfl : q = q' := by simpa using eq
      obtain ⟨q', eq', hok⟩ := HKS.out _ (HL.out _ hlk)
      obtain rfl : q = q' := keyD_inj eq'
      obtain ⟨p1, p2⟩ := okPath_parts hok
      have HQ : Hid (Maps.has x.D (keyD q) = true) := HL.out _ hlk
      have HR2 : Hid (w2.ranges Tryz.prog 9 itemR mb w.heap.size n x.D (fun z => left z && !z.sameKey (keyD q)) cnt2) := hrg2
      have hb2 : Below w.heap.size w w2 := hb.grown hg2 (by have := hb.size; exact this) (fun j hj => by cases hj; exact Nat.le_refl _)
      have hsp := split_any q w2 p1 p2
      clear hs2 hkey hlk hv hat hrg2 hok eq eq' p1 p2 hg2
      by_cases hu : ((parentOf q).toList == s.toList) = true
      · have HU : Hid (usedD x.D s = true) := by
          unfold Hid usedD; rw [List.any_eq_true]
          exact ⟨q, (mem_keys HSK.out q).2 HQ.out, hu⟩
        generalize parentOf q = pq at *
        go_wp2_with (go_at_call 53; refine hsp.mono ?_; rintro e w3 ⟨rfl, rfl⟩)
        go_ret
        exact ⟨ret_bool HU.out.symm, hb2.drew⟩
      · rw [Bool.not_eq_true] at hu
        obtain ⟨pq, hpq⟩ : ∃ pq, pq = parentOf q := ⟨_, rfl⟩
        have HPQ : Hid (pq = parentOf q) := hpq
        rw [← hpq] at hsp hu
        clear hpq
        go_wp2_with (go_at_call 53; refine hsp.mono ?_; rintro e w3 ⟨rfl, rfl⟩)
        go_roundw
        case rel =>
          refine ⟨_, cnt2, HR2.out.kept (w' := w2.drew) (row := none) ⟨rfl, rfl, rfl, Nat.le_refl _, fun _ _ _ => rfl⟩ (by simp) (by simp), fun k hk hl => ?_, fun kl hl => ?_, hb2.drew⟩
          · by_cases e : k = q
            · subst e; rw [← HPQ.out]; exact hu
            · have : (keyD k).sameKey (keyD q) = false := by
                rw [Bool.eq_false_iff]; intro h; exact e ((sameKey_keyD _ _).1 h)
              simp only [this, Bool.not_false, Bool.and_true] at hl
              exact HN.out k hk hl
          · simp only [Bool.and_eq_true] at hl
            exact HL.out kl hl.1
        case measure => rw [(HR2.out.kept (w' := w2.drew) (row := none) ⟨rfl, rfl, rfl, Nat.le_refl _, fun _ _ _ => rfl⟩ (by simp) (by simp)).left_eq, HR.out.left_eq]; exact hlt

end Go.Proofs.YtpkllhgohkgcmaaGreatDoor
