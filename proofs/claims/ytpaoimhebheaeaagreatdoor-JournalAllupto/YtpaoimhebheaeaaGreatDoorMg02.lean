/- Dd2, laid in one text. -/
import Derived.Deep.AppendLies
import Derived.Deep.RegionLaw
import Derived.Test.YtpaoimhebheaeaaGreatDoorMg01
namespace Go.Proofs.YtpaoimhebheaeaaGreatDoor.Dk
open Go.RowKit Go.Maps Go.WideMaps Go.WideElems
set_option maxRecDepth 100000

set_option maxHeartbeats 600000 in
theorem writeFault_any {B : Nat} {w : World} {d mb n : Nat} {rv : Value} {x : Ab} (h : IsDisk B w d mb n rv x) (m : Int) (hm : w.cell? ⟨0, 0, none⟩ = some (.int .i64 m)) (g cap : Nat) (ps : List ByteArray)
    (hlen : ps.length ≤ 2) (hc : ∀ k (hk : k < ps.length), w.cell? ⟨g, k, none⟩ = some (.string ps[k])) :
    Calls Tryz.prog 104 #[.pointer (some ⟨d, 0, none⟩), .slice (some ⟨g, 0, none⟩) ps.length cap] w fun e w' => e = .returned (.int .i64 (writeD x.left ps)) ∧ Below w.heap.size w w' := by
  have hd := Down_any h
  clear h
  by_cases h0 : (x.left == 0) = true
  · have HP : Hid (writeD x.left ps = 15) := by unfold Hid writeD; rw [if_pos h0]
    go_enter Tryz.func104, Tryz.ntmps104
    go_wp2_with (go_at_call 28; refine hd.mono ?_; rintro e w1 ⟨rfl, rfl⟩)
    go_ret
    exact ⟨ret_int HP.out.symm, Below.refl _ _⟩
  rw [Bool.not_eq_true] at h0
  have HP : Hid (writeD x.left ps = if ps.all okPath = true then 0 else 10) := by unfold Hid writeD; rw [if_neg (by rw [h0]; decide)]
  have HC : Hid (∀ k (hk : k < ps.length), w.cell? ⟨g, k, none⟩ = some (.string ps[k])) := hc
  have HM : Hid (w.cell? ⟨0, 0, none⟩ = some (.int .i64 m)) := hm
  clear hc hm
  go_enter Tryz.func104, Tryz.ntmps104
  go_wp2_with (go_at_call 28; refine hd.mono ?_; rintro e w1 ⟨rfl, rfl⟩)
  go_loopw [11] (fun i wr => ∃ k : Nat, k ≤ ps.length ∧ i = .int .i64 k ∧ (∀ j (hj : j < k) (hj' : j < ps.length), okPath ps[j] = true) ∧ Below w1.heap.size w1 wr) (fun i _ => ps.length - (intOf i).toNat)
  case atStart => exact ⟨0, Nat.zero_le _, rfl, fun j hj => absurd hj (Nat.not_lt_zero _), Below.refl _ _⟩
  case round =>
    obtain ⟨k, hk, rfl, hall, hb⟩ := hrel
    have HA : Hid (∀ j (hj : j < k) (hj' : j < ps.length), okPath ps[j] = true) := hall
    clear hall
    by_cases hlt : k < ps.length
    · obtain ⟨P, hP⟩ : ∃ P, P = ps[k] := ⟨_, rfl⟩
      have hck := cell_below (HC.out k hlt) hb
      rw [← hP] at hck
      have HPe : Hid (P = ps[k]) := hP
      have hp := isPath_any P m wr (cell_below HM.out hb)
      clear hP
      by_cases h1 : (P.toList == [47]) = true
      · go_wp2_with (go_at_call 63; refine hp.mono ?_; rintro e w2 ⟨rfl, hb2⟩)
        go_ret
        exact ⟨ret_int (by rw [HP.out, all_not' k hlt (by rw [← HPe.out]; unfold okPath; rw [h1]; simp)]; rfl), hb⟩
      · rw [Bool.not_eq_true] at h1
        by_cases h2 : pathB P = true
        · go_wp2_with (go_at_call 63; refine hp.mono ?_; rintro e w2 ⟨rfl, hb2⟩)
          go_roundw
          case rel =>
            refine ⟨k + 1, by omega, by go_num, fun j hj hj' => ?_, hb.trans (hb2.mono hb.size)⟩
            by_cases e : j = k
            · subst e; rw [← HPe.out]; unfold okPath; rw [h1, h2]; rfl
            · exact HA.out j (by omega) hj'
          case measure => simp [intOf]; omega
        · rw [Bool.not_eq_true] at h2
          go_wp2_with (go_at_call 63; refine hp.mono ?_; rintro e w2 ⟨rfl, hb2⟩)
          go_ret
          exact ⟨ret_int (by rw [HP.out, all_not' k hlt (by rw [← HPe.out]; unfold okPath; rw [h2]; rfl)]; rfl), hb.trans (hb2.mono hb.size)⟩
    · go_wp2
      go_ret
      exact ⟨ret_int (by rw [HP.out, all_get' (fun j hj => HA.out j (by omega) hj)]; rfl), hb⟩

/-- The text of a key. -/
def litB : Lit → ByteArray
  | .string l => ⟨l.toArray⟩
  | _ => ByteArray.empty
/-- The paths of a map, in their order. -/
def keysD : DataW Unit → List ByteArray
  | .map es => es.map fun p => litB p.1
  | _ => []
/-- Is something in a directory? -/
def usedD (D : DataW Unit) (s : ByteArray) : Bool := (keysD D).any fun k => (parentOf k).toList == s.toList

theorem litB_key (s : ByteArray) : litB (keyD s) = s := by unfold litB keyD; exact bytes_mk s
theorem keyD_inj {s t : ByteArray} (h : keyD s = keyD t) : s = t := by rw [← litB_key s, h, litB_key]
theorem sameKey_keyD (s t : ByteArray) : (keyD s).sameKey (keyD t) = true ↔ s = t := by
  unfold keyD Lit.sameKey
  simp only [beq_iff_eq]
  exact ⟨fun h => bytes_eq h, fun h => by rw [h]⟩

/-- Each key of the map is a text. -/
def StrKeys (D : DataW Unit) : Prop := ∃ es, D = .map es ∧ ∀ p ∈ es, ∃ s, p.1 = keyD s

theorem mem_keys {D : DataW Unit} (h : StrKeys D) (s : ByteArray) : s ∈ keysD D ↔ Maps.has D (keyD s) = true := by
  obtain ⟨es, rfl, hes⟩ := h
  rw [has_eq, List.any_eq_true]
  unfold keysD
  rw [List.mem_map]
  constructor
  · rintro ⟨p, hp, rfl⟩
    obtain ⟨t, ht⟩ := hes p hp
    exact ⟨p, hp, by rw [ht, litB_key]; exact (sameKey_keyD _ _).2 rfl⟩
  · rintro ⟨p, hp, h⟩
    obtain ⟨t, ht⟩ := hes p hp
    rw [ht] at h
    exact ⟨p, hp, by rw [ht, litB_key]; exact (sameKey_keyD _ _).1 h⟩

theorem IsDisk.strKeys {B : Nat} {w : World} {d mb n : Nat} {rv : Value} {x : Ab} (h : IsDisk B w d mb n rv x) : StrKeys x.D := by
  obtain ⟨es, he, _, hk⟩ := h.own.entries keyed
  refine ⟨es, he, fun p hp => ?_⟩
  have : Maps.has x.D p.1 = true := by
    rw [he, has_eq, List.any_eq_true]
    exact ⟨p, hp, WideAt.sameKey_self (hk p hp)⟩
  obtain ⟨s, hs, _⟩ := h.keys _ this
  exact ⟨s, hs⟩

theorem keyOf_inv {key : Value} {kl : Lit} (h : keyOf Tryz.prog 9 key = some kl) : ∃ s, key = .string s ∧ kl = keyD s ∧ s.size ≤ maxLen := by
  cases key <;> simp [keyOf, Tryz.underlying9, mapKey] at h
  rename_i s
  obtain ⟨hs, rfl⟩ := h
  exact ⟨s, rfl, rfl, hs⟩

/-- An item of the map. -/
structure It where
  dir : Bool
  data : ByteArray
def mkItem (c : It) : Value := .agg #[.bool c.dir, .string c.data]

set_option maxHeartbeats 1000000 in
theorem used_any {B : Nat} {w : World} {d mb n : Nat} {rv : Value} {x : Ab} (h : IsDisk B w d mb n rv x) (s : ByteArray) :
    Calls Tryz.prog 107 #[.pointer (some ⟨d, 0, none⟩), .string s] w fun e w' => e = .returned (.bool (usedD x.D s)) ∧ Below w.heap.size w w' := by
  have c0 := h.c0
  have hown := h.own
  have HO : Hid (w.ownsMap Tryz.prog 9 itemR mb n x.D) := hown
  have HKS : Hid (∀ kl, Maps.has x.D kl = true → ∃ s, kl = keyD s ∧ okPath s = true) := h.keys
  have HSK : Hid (StrKeys x.D) := h.strKeys
  have hml := hown.lt
  clear h hown
  go_enter Tryz.func107, Tryz.ntmps107
  go_wp2_with (at_range; refine wpList_range_own _ rfl _ 60 rfl 9 88 keyed Tryz.underlying60 _ mb n _ rfl HO.out ?_; intro w0 hrg0 hg0 hs0; have HS0 : Hid (w0.heap.size = w.heap.size + 1) := hs0; clear hs0)
  go_frame
  go_loopw [5] (fun _ wr => ∃ (left : Lit → Bool) (cnt : Nat), wr.ranges Tryz.prog 9 itemR mb w.heap.size n x.D left cnt ∧
      (∀ k : ByteArray, Maps.has x.D (keyD k) = true → left (keyD k) = false → ((parentOf k).toList == s.toList) = false) ∧ (∀ kl, left kl = true → Maps.has x.D kl = true) ∧ Below w.heap.size w wr)
    (fun _ wr => wr.rangeLeft mb w.heap.size)
  case atStart =>
    exact ⟨_, _, hrg0, fun k h1 h2 => (by rw [h1] at h2; cases h2), fun kl hk => hk, (Below.refl _ _).grown hg0 (Nat.le_refl _) (fun j hj => by cases hj)⟩
  case round =>
    obtain ⟨left, cnt, hrg, hno, hlh, hb⟩ := hrel
    have HN : Hid (∀ k : ByteArray, Maps.has x.D (keyD k) = true → left (keyD k) = false → ((parentOf k).toList == s.toList) = false) := hno
    have HL : Hid (∀ kl, left kl = true → Maps.has x.D kl = true) := hlh
    have HR : Hid (wr.ranges Tryz.prog 9 itemR mb w.heap.size n x.D left cnt) := hrg
    clear hno hlh hrg
    go_wp2_with (at_next; refine wpList_next_ranges _ rfl _ rfl 9 keyed itemR Value.string mkItem (fun key kl hk => by obtain ⟨x, hx, _⟩ := keyOf_inv hk; exact ⟨x, hx⟩) (fun v y hv => by obtain ⟨c, t, rfl, _⟩ := itemR_inv hv; exact ⟨⟨c, t⟩, rfl⟩) mb w.heap.size n _ _ _ rfl HR.out ?_ ?_)
    · intro hc0 hl0
      have HL0 : Hid (∀ kl, left kl = false) := hl0
      clear hl0
      go_wp2
      go_ret
      refine ⟨ret_bool ?_, hb⟩
      unfold usedD
      symm
      rw [List.any_eq_false]
      intro k hk
      rw [HN.out k ((mem_keys HSK.out k).1 hk) (HL0.out _)]; decide
    · intro q c kl yd yp w2 cnt2 hkey hlk hv hat hrg2 hlt hg2 hs2 hen
      obtain ⟨q', eq, rfl, _⟩ := keyOf_inv hkey
      obtain rfl : q = q' := by simpa using eq
      obtain ⟨q', eq', hok⟩ := HKS.out _ (HL.out _ hlk)
      obtain rfl : q = q' := keyD_inj eq'
      obtain ⟨p1, p2⟩ := okPath_parts hok
      have HQ : Hid (Maps.has x.D (keyD q) = true) := HL.out _ hlk
      have HR2 : Hid (w2.ranges Tryz.prog 9 itemR mb w.heap.size n x.D (fun z => left z && !z.sameKey (keyD q)) cnt2) := hrg2
      have hb2 : Below w.heap.size w w2 := hb.grown hg2 (by have := hb.size; exact this) (fun j hj => by cases hj; exact Nat.le_refl _)
      have hsp := split_any q w2 p1 p2
      clear hs2 hkey hlk hv hat hrg2 hok eq eq' p1 p2 hg2
      by_cases hu : ((parentOf q).toList == s.toList) = true
      · have HU : Hid (usedD x.D s = true) := by
          unfold Hid usedD; rw [List.any_eq_true]
          exact ⟨q, (mem_keys HSK.out q).2 HQ.out, hu⟩
        generalize parentOf q = pq at *
        go_wp2_with (go_at_call 95; refine hsp.mono ?_; rintro e w3 ⟨rfl, rfl⟩)
        go_ret
        exact ⟨ret_bool HU.out.symm, hb2.drew⟩
      · rw [Bool.not_eq_true] at hu
        obtain ⟨pq, hpq⟩ : ∃ pq, pq = parentOf q := ⟨_, rfl⟩
        have HPQ : Hid (pq = parentOf q) := hpq
        rw [← hpq] at hsp hu
        clear hpq
        go_wp2_with (go_at_call 95; refine hsp.mono ?_; rintro e w3 ⟨rfl, rfl⟩)
        go_roundw
        case rel =>
          refine ⟨_, cnt2, HR2.out.kept (w' := w2.drew) (row := none) ⟨rfl, rfl, rfl, Nat.le_refl _, fun _ _ _ => rfl⟩ (by simp) (by simp), fun k hk hl => ?_, fun kl hl => ?_, hb2.drew⟩
          · by_cases e : k = q
            · subst e; rw [← HPQ.out]; exact hu
            · have : (keyD k).sameKey (keyD q) = false := by
                rw [Bool.eq_false_iff]; intro h; exact e ((sameKey_keyD _ _).1 h)
              simp only [this, Bool.not_false, Bool.and_true] at hl
              exact HN.out k hk hl
          · simp only [Bool.and_eq_true] at hl
            exact HL.out kl hl.1
        case measure => rw [(HR2.out.kept (w' := w2.drew) (row := none) ⟨rfl, rfl, rfl, Nat.le_refl _, fun _ _ _ => rfl⟩ (by simp) (by simp)).left_eq, HR.out.left_eq]; exact hlt

theorem infoRaw : (Tryz.prog.info? 52).map (fun i => (i.zero, i.size, i.bytes)) = some (some (.agg #[.int .i64 0, .string ByteArray.empty, .string ByteArray.empty]), 3, 40) := by kernel_rfl

def rawObj (k : Int) (p t : ByteArray) : Obj := .cells #[.int .i64 k, .string p, .string t] 52

theorem raw_block (w : World) (k : Int) (p t : ByteArray) : ((w.alloc (rawObj k p t)).alloc (rawObj k p t)).drew.heap[w.heap.size + 1]? = some (.cells #[.int .i64 k, .string p, .string t] 52 (0, 0)) := by
  show ((w.heap.push _).push _)[w.heap.size + 1]? = _
  rw [Array.getElem?_push, if_pos (by simp)]; rfl

theorem raw_below (w : World) (o1 o2 : Obj) : Below w.heap.size w ((w.alloc o1).alloc o2).drew := (((Below.refl _ _).alloc (Nat.le_refl _) _).alloc (by simp) _).drew

theorem grown_far {w w' : World} {row : Option Nat} (hg : w.grownBy w' row) {d : Nat} (hd : d < w.heap.size) (hr : row ≠ some d) (i : Nat) : w'.cell? ⟨d, i, none⟩ = w.cell? ⟨d, i, none⟩ ∧ w'.frozen? ⟨d, i, none⟩ = w.frozen? ⟨d, i, none⟩ :=
  ⟨World.cell?_of_block (w := w) (hg.block d hd (fun e => hr e.symm)), World.frozen?_of_block (w := w) (hg.block d hd (fun e => hr e.symm))⟩

set_option maxHeartbeats 1000000 in
theorem note_walk {B : Nat} {w : World} {d mb n : Nat} {rv : Value} {x : Ab} (h : IsDisk B w d mb n rv x) (k : Int) (p t : ByteArray) (hlen : x.rs.length < 2199023255552) (hl0 : -1 ≤ x.left) (hl1 : x.left ≤ 9223372036854775807) (hB : B ≤ w.heap.size) :
    Calls Tryz.prog 105 #[.pointer (some ⟨d, 0, none⟩), .agg #[.int .i64 k, .string p, .string t]] w fun e w' => e = .returned (.tuple #[]) ∧
      ∃ g cap w1, w1.ownsRow B 52 3 (.slice (some ⟨g, 0, none⟩) (x.rs.length + 1) cap) (x.rs.length + 1) (rawCells x.rs ++ [.int .i64 k, .string p, .string t]) ∧
        ((w.alloc (rawObj k p t)).alloc (rawObj k p t)).drew.grownBy w1 rv.ownBlock ∧ (rv.ownBlock = some g ∨ g = w.heap.size + 2) ∧ g < w1.heap.size ∧
        (w' = (w1.setCell ⟨d, 1, none⟩ (.slice (some ⟨g, 0, none⟩) (x.rs.length + 1) cap)) ∧ x.left ≤ 0 ∨
         w' = (w1.setCell ⟨d, 1, none⟩ (.slice (some ⟨g, 0, none⟩) (x.rs.length + 1) cap)).setCell ⟨d, 2, none⟩ (.int .i64 (x.left - 1)) ∧ 0 < x.left) := by
  obtain ⟨i0, hi, hz0, hz1, hz2⟩ := info_parts infoRaw
  have c1 := h.c1
  have f1 := h.f1
  have ld := h.ld
  have HR : Hid (((w.alloc (rawObj k p t)).alloc (rawObj k p t)).drew.ownsRow B 52 3 rv x.rs.length (rawCells x.rs)) := ownsRow_upd h.row (Upd.of_below (F := fun _ => False) (raw_below w _ _)) (fun _ _ f => f)
  have HN : Hid (∀ j u, [Value.int .i64 k, .string p, .string t][j]? = some u → ((w.alloc (rawObj k p t)).alloc (rawObj k p t)).drew.cell? ((⟨w.heap.size + 1, 0, none⟩ : Addr).add j) = some u) := World.news_of_block (raw_block w k p t)
  have HF : Hid (∀ w1, ((w.alloc (rawObj k p t)).alloc (rawObj k p t)).drew.grownBy w1 rv.ownBlock → w1.cell? ⟨d, 1, none⟩ = some rv ∧ w1.frozen? ⟨d, 1, none⟩ = false ∧ w1.cell? ⟨d, 2, none⟩ = some (.int .i64 x.left) ∧ w1.frozen? ⟨d, 2, none⟩ = false) := by
    intro w1 hg
    have hb := raw_below w (rawObj k p t) (rawObj k p t)
    have q1 := grown_far hg (Nat.lt_of_lt_of_le h.ld hb.size) h.rd 1
    have q2 := grown_far hg (Nat.lt_of_lt_of_le h.ld hb.size) h.rd 2
    have p1 := hb.cell (p := ⟨d, 1, none⟩) h.ld
    have p2 := hb.cell (p := ⟨d, 2, none⟩) h.ld
    have p3 := hb.frozen (p := ⟨d, 1, none⟩) h.ld
    have p4 := hb.frozen (p := ⟨d, 2, none⟩) h.ld
    exact ⟨by rw [q1.1, p1]; exact h.c1, by rw [q1.2, p3]; exact h.f1, by rw [q2.1, p2]; exact h.c2, by rw [q2.2, p4]; exact h.f2⟩
  clear h
  by_cases h0 : 0 < x.left
  · go_enter Tryz.func105, Tryz.ntmps105
    go_wp2
    go_region_law (refine step_append_lies _ rfl (.tmp 8) (.tmp 10) 43 rfl B 52 i0 (.agg #[.int .i64 0, .string ByteArray.empty, .string ByteArray.empty]) 3 40 Tryz.underlying43 hi hz0 hz1 hz2 rfl (by decide) rv x.rs.length (rawCells x.rs) (by simp [Act.eval]) HR.out ⟨w.heap.size + 1, 0, none⟩ 1 1 [.int .i64 k, .string p, .string t] (by simp [Act.eval]) rfl HN.out (by simp [Value.oneCell']) (by decide) (by unfold maxLen; omega) (by omega) (by simp; omega) (w.heap.size + 2) (by simp) ?_; intro g cap w1 hown hgrow hat hlt; obtain ⟨k1, k2, k3, k4⟩ := HF.out _ hgrow)
    all_goals
      go_wp2
      go_end0
      exact ⟨rfl, g, cap, w1, hown, hgrow, hat, hlt, Or.inr ⟨rfl, h0⟩⟩
  · go_enter Tryz.func105, Tryz.ntmps105
    go_wp2
    go_region_law (refine step_append_lies _ rfl (.tmp 8) (.tmp 10) 43 rfl B 52 i0 (.agg #[.int .i64 0, .string ByteArray.empty, .string ByteArray.empty]) 3 40 Tryz.underlying43 hi hz0 hz1 hz2 rfl (by decide) rv x.rs.length (rawCells x.rs) (by simp [Act.eval]) HR.out ⟨w.heap.size + 1, 0, none⟩ 1 1 [.int .i64 k, .string p, .string t] (by simp [Act.eval]) rfl HN.out (by simp [Value.oneCell']) (by decide) (by unfold maxLen; omega) (by omega) (by simp; omega) (w.heap.size + 2) (by simp) ?_; intro g cap w1 hown hgrow hat hlt; obtain ⟨k1, k2, k3, k4⟩ := HF.out _ hgrow)
    all_goals
      go_wp2
      go_end0
      exact ⟨rfl, g, cap, w1, hown, hgrow, hat, hlt, Or.inl ⟨rfl, by omega⟩⟩

/-- A raw write is noted. -/
def noteAb (x : Ab) (r : Int × ByteArray × ByteArray) : Ab := { D := x.D, rs := x.rs ++ [r], left := if 0 < x.left then x.left - 1 else x.left }

/-- A call has left a disk at d, and nothing else has turned. -/
def After (B : Nat) (w w' : World) (d mb n : Nat) (rv : Value) (x' : Ab) : Prop :=
  ∃ n' rv', n' ≤ n + 1 ∧ IsDisk B w' d mb n' rv' x' ∧ Upd (Foot d mb rv) w w' ∧ ∀ j, rv'.ownBlock = some j → rv.ownBlock = some j ∨ w.heap.size ≤ j

theorem After.same {B : Nat} {w w' : World} {d mb n : Nat} {rv : Value} {x : Ab} (h : IsDisk B w d mb n rv x) (hb : Below w.heap.size w w') : After B w w' d mb n rv x :=
  ⟨n, rv, Nat.le_succ _, h.below hb, Upd.of_below hb, fun _ hj => Or.inl hj⟩

theorem After.from {B : Nat} {w w1 w' : World} {d mb n : Nat} {rv : Value} {x' : Ab} (hu : Upd (Foot d mb rv) w w1) {n1 : Nat} (h : ∃ rv', IsDisk B w' d mb n1 rv' x' ∧ Upd (Foot d mb rv) w1 w' ∧ ∀ j, rv'.ownBlock = some j → rv.ownBlock = some j ∨ w1.heap.size ≤ j) (hn : n1 ≤ n + 1) : After B w w' d mb n rv x' := by
  obtain ⟨rv', h1, h2, h3⟩ := h
  exact ⟨n1, rv', hn, h1, hu.trans h2 (fun _ _ f => f), fun j hj => (h3 j hj).imp id (fun q => Nat.le_trans hu.size q)⟩

theorem rawCells_snoc (rs : List (Int × ByteArray × ByteArray)) (k : Int) (p t : ByteArray) : rawCells (rs ++ [(k, p, t)]) = rawCells rs ++ [.int .i64 k, .string p, .string t] := by simp [rawCells]

theorem noted {B : Nat} {w w1 : World} {d mb n : Nat} {rv : Value} {x : Ab} (h : IsDisk B w d mb n rv x) {k : Int} {p t : ByteArray} {g cap : Nat}
    (hown : w1.ownsRow B 52 3 (.slice (some ⟨g, 0, none⟩) (x.rs.length + 1) cap) (x.rs.length + 1) (rawCells x.rs ++ [.int .i64 k, .string p, .string t]))
    (hgrow : ((w.alloc (rawObj k p t)).alloc (rawObj k p t)).drew.grownBy w1 rv.ownBlock) (hat : rv.ownBlock = some g ∨ g = w.heap.size + 2) (_hlt : g < w1.heap.size) :
    IsDisk B (w1.setCell ⟨d, 1, none⟩ (.slice (some ⟨g, 0, none⟩) (x.rs.length + 1) cap)) d mb n (.slice (some ⟨g, 0, none⟩) (x.rs.length + 1) cap) { D := x.D, rs := x.rs ++ [(k, p, t)], left := x.left } ∧
      Upd (Foot d mb rv) w (w1.setCell ⟨d, 1, none⟩ (.slice (some ⟨g, 0, none⟩) (x.rs.length + 1) cap)) := by
  have hb := raw_below w (rawObj k p t) (rawObj k p t)
  have hu : Upd (fun j => rv.ownBlock = some j) w w1 := (Upd.of_below hb).trans (Upd.of_grown hgrow) (fun _ _ f => f)
  have q : ∀ i, w1.cell? ⟨d, i, none⟩ = w.cell? ⟨d, i, none⟩ ∧ w1.frozen? ⟨d, i, none⟩ = w.frozen? ⟨d, i, none⟩ := fun i =>
    ⟨World.cell?_of_block (w := w) (hu.block d h.ld h.rd), World.frozen?_of_block (w := w) (hu.block d h.ld h.rd)⟩
  have hml := h.own.lt
  have hgd : g ≠ d := by
    rcases hat with e | e
    · intro e'; exact h.rd (by rw [e, e'])
    · have := h.ld; omega
  have hgm : g ≠ mb := by
    rcases hat with e | e
    · intro e'; exact h.rm (by rw [e, e'])
    · omega
  have c1' : w1.cell? ⟨d, 1, none⟩ = some rv := by rw [(q 1).1]; exact h.c1
  have o0 : (w1.setCell ⟨d, 1, none⟩ (.slice (some ⟨g, 0, none⟩) (x.rs.length + 1) cap)).cell? ⟨d, 0, none⟩ = w1.cell? ⟨d, 0, none⟩ := World.cell?_setCell_other _ _ _ _ (by simp)
  have o2 : (w1.setCell ⟨d, 1, none⟩ (.slice (some ⟨g, 0, none⟩) (x.rs.length + 1) cap)).cell? ⟨d, 2, none⟩ = w1.cell? ⟨d, 2, none⟩ := World.cell?_setCell_other _ _ _ _ (by simp)
  refine ⟨?_, hu.mono (fun _ _ f => Or.inr (Or.inr f)) |>.trans (Upd.setCell w1 ⟨d, 1, none⟩ _) (fun i _ f => Or.inl f)⟩
  exact { c0 := by rw [o0, (q 0).1]; exact h.c0, c1 := World.cell?_setCell_same _ _ _ c1', c2 := by rw [o2, (q 2).1]; exact h.c2,
          f1 := by rw [World.frozen?_setCell, (q 1).2]; exact h.f1, f2 := by rw [World.frozen?_setCell, (q 2).2]; exact h.f2,
          own := (ownsMap_upd h.own hu h.rm).setCell (fun e => h.dm e.symm) _,
          row := by
            rw [rawCells_snoc, List.length_append]
            exact ownsRow_upd hown (Upd.setCell w1 ⟨d, 1, none⟩ _) (fun j hj e => by cases hj; exact hgd e)
          rd := by simp only [Value.ownBlock]; intro e; exact hgd (Option.some.inj e), rm := by simp only [Value.ownBlock]; intro e; exact hgm (Option.some.inj e),
          dm := h.dm, bd := h.bd, bm := h.bm, ld := by have := h.ld; have := hu.size; simp [World.setCell]; omega, keys := h.keys }

theorem note_any {B : Nat} {w : World} {d mb n : Nat} {rv : Value} {x : Ab} (h : IsDisk B w d mb n rv x) (k : Int) (p t : ByteArray) (hlen : x.rs.length < 2199023255552) (hl0 : -1 ≤ x.left) (hl1 : x.left ≤ 9223372036854775807) (hB : B ≤ w.heap.size) :
    Calls Tryz.prog 105 #[.pointer (some ⟨d, 0, none⟩), .agg #[.int .i64 k, .string p, .string t]] w fun e w' => e = .returned (.tuple #[]) ∧
      ∃ rv', IsDisk B w' d mb n rv' (noteAb x (k, p, t)) ∧ Upd (Foot d mb rv) w w' ∧ ∀ j, rv'.ownBlock = some j → rv.ownBlock = some j ∨ w.heap.size ≤ j := by
  refine (note_walk h k p t hlen hl0 hl1 hB).mono ?_
  rintro e w' ⟨rfl, g, cap, w1, hown, hgrow, hat, hlt, hw⟩
  refine ⟨rfl, .slice (some ⟨g, 0, none⟩) (x.rs.length + 1) cap, ?_⟩
  obtain ⟨hd, hu⟩ := noted h hown hgrow hat hlt
  have hj : ∀ j, (Value.slice (some ⟨g, 0, none⟩) (x.rs.length + 1) cap).ownBlock = some j → rv.ownBlock = some j ∨ w.heap.size ≤ j := by
    intro j hj
    cases hj
    rcases hat with e | e
    · exact Or.inl e
    · exact Or.inr (by simp only; omega)
  rcases hw with ⟨rfl, h0⟩ | ⟨rfl, h0⟩
  · refine ⟨?_, hu, hj⟩
    unfold noteAb; rw [if_neg (by omega)]; exact hd
  · refine ⟨?_, hu.trans (Upd.setCell _ ⟨d, 2, none⟩ _) (fun i _ f => Or.inl f), hj⟩
    unfold noteAb; rw [if_pos h0]; exact hd.setLeft (x.left - 1)

/-- The map has turned, and nothing else. -/
theorem turned {B : Nat} {w w1 : World} {d mb n n' : Nat} {rv : Value} {x : Ab} {D' : DataW Unit} (h : IsDisk B w d mb n rv x) (hown : w1.ownsMap Tryz.prog 9 itemR mb n' D') (hg : w.grownBy w1 (some mb))
    (hk : ∀ kl, Maps.has D' kl = true → ∃ s, kl = keyD s ∧ okPath s = true) : IsDisk B w1 d mb n' rv { D := D', rs := x.rs, left := x.left } ∧ Upd (Foot d mb rv) w w1 := by
  have q : ∀ i, w1.cell? ⟨d, i, none⟩ = w.cell? ⟨d, i, none⟩ ∧ w1.frozen? ⟨d, i, none⟩ = w.frozen? ⟨d, i, none⟩ := fun i => grown_far hg h.ld (fun e => h.dm (Option.some.inj e).symm) i
  have hu := Upd.of_grown hg
  refine ⟨?_, hu.mono (fun i _ f => Or.inr (Or.inl (Option.some.inj f).symm))⟩
  exact { c0 := by rw [(q 0).1]; exact h.c0, c1 := by rw [(q 1).1]; exact h.c1, c2 := by rw [(q 2).1]; exact h.c2, f1 := by rw [(q 1).2]; exact h.f1, f2 := by rw [(q 2).2]; exact h.f2,
          own := hown, row := ownsRow_upd h.row hu (fun j hj f => h.rm (by rw [hj]; exact f.symm)), rd := h.rd, rm := h.rm, dm := h.dm, bd := h.bd, bm := h.bm,
          ld := Nat.lt_of_lt_of_le h.ld hg.size, keys := hk }

theorem isKey (s : ByteArray) : WideAt.IsKeyLit (keyD s) := by unfold keyD WideAt.IsKeyLit; trivial

theorem keys_put {D : DataW Unit} {s : ByteArray} {v : DataW Unit} (hs : okPath s = true) (hk : ∀ kl, Maps.has D kl = true → ∃ s, kl = keyD s ∧ okPath s = true) : ∀ kl, Maps.has (D.put (keyD s) v) kl = true → ∃ s, kl = keyD s ∧ okPath s = true := by
  intro kl h
  by_cases e : kl = keyD s
  · exact ⟨s, e, hs⟩
  · rw [has_put_other e] at h; exact hk kl h

theorem keys_del {D : DataW Unit} {s : ByteArray} (hk : ∀ kl, Maps.has D kl = true → ∃ s, kl = keyD s ∧ okPath s = true) : ∀ kl, Maps.has (D.del (keyD s)) kl = true → ∃ s, kl = keyD s ∧ okPath s = true := by
  intro kl h
  by_cases e : kl = keyD s
  · rw [e, has_del_same] at h; cases h
  · rw [has_del_other e] at h; exact hk kl h

def mkdirD (x : Ab) (s : ByteArray) : Int × Ab :=
  if (writeD x.left [s] != 0) = true then (writeD x.left [s], x) else if (parentD x.D s != 0) = true then (parentD x.D s, x) else if (kindD x.D s != 0) = true then (11, x)
  else (0, noteAb { D := x.D.put (keyD s) (itemD true ByteArray.empty), rs := x.rs, left := x.left } (1, s, ByteArray.empty))

def writeFD (x : Ab) (s t : ByteArray) : Int × Ab :=
  if (writeD x.left [s] != 0) = true then (writeD x.left [s], x) else if (fileD x.D s != 0) = true then (fileD x.D s, x)
  else (0, noteAb { D := x.D.put (keyD s) (itemD false t), rs := x.rs, left := x.left } (2, s, ByteArray.empty))

def renameD (x : Ab) (s t : ByteArray) : Int × Ab :=
  if (writeD x.left [s, t] != 0) = true then (writeD x.left [s, t], x) else if (readE x.D s != 0) = true then (readE x.D s, x) else if (fileD x.D t != 0) = true then (fileD x.D t, x)
  else (0, noteAb { D := (x.D.del (keyD s)).put (keyD t) (itemD false (readT x.D s)), rs := x.rs, left := x.left } (3, s, t))

def removeD (x : Ab) (s : ByteArray) : Int × Ab :=
  if (writeD x.left [s] != 0) = true then (writeD x.left [s], x) else if (kindD x.D s == 0) = true then (12, x) else if (kindD x.D s == 2 && usedD x.D s) = true then (14, x)
  else (0, noteAb { D := x.D.del (keyD s), rs := x.rs, left := x.left } (4, s, ByteArray.empty))

theorem writeD_ok {l : Int} {ps : List ByteArray} (h : (writeD l ps != 0) = false) : ps.all okPath = true := by
  unfold writeD at h
  split at h
  · simp at h
  · split at h
    · assumption
    · simp at h

/-- What the four raw writes are told of the disk and of the numbers. -/
structure Fit (B : Nat) (w : World) (d mb n : Nat) (rv : Value) (x : Ab) (m : Int) : Prop where
  disk : IsDisk B w d mb n rv x
  max : w.cell? ⟨0, 0, none⟩ = some (.int .i64 m)
  room : n < 2199023255552
  len : x.rs.length < 2199023255552
  lo : -1 ≤ x.left
  hi : x.left ≤ 9223372036854775807
  base : B ≤ w.heap.size

theorem alloc_below (w : World) (o : Obj) : Below w.heap.size w (w.alloc o) := (Below.refl _ _).alloc (Nat.le_refl _) _

theorem wf_one {B : Nat} {w : World} {d mb n : Nat} {rv : Value} {x : Ab} {m : Int} (h : Fit B w d mb n rv x m) (s : ByteArray) :
    Calls Tryz.prog 104 #[.pointer (some ⟨d, 0, none⟩), .slice (some ⟨w.heap.size, 0, none⟩) 1 1] (w.alloc (.cells #[.string s] 9)) fun e w' => e = .returned (.int .i64 (writeD x.left [s])) ∧ Below w.heap.size w w' := by
  have := writeFault_any (h.disk.below (alloc_below w (.cells #[.string s] 9))) m (cell_below h.max (alloc_below w _)) w.heap.size 1 [s] (by simp) (fun k hk => by
    have : k = 0 := by simpa using hk
    subst this
    rw [World.cell?_alloc_new]; rfl)
  refine this.mono ?_
  rintro e w' ⟨rfl, hb⟩
  exact ⟨rfl, (alloc_below w _).trans (hb.mono (by simp))⟩

theorem wf_two {B : Nat} {w : World} {d mb n : Nat} {rv : Value} {x : Ab} {m : Int} (h : Fit B w d mb n rv x m) (s t : ByteArray) :
    Calls Tryz.prog 104 #[.pointer (some ⟨d, 0, none⟩), .slice (some ⟨w.heap.size, 0, none⟩) 2 2] (w.alloc (.cells #[.string s, .string t] 9)) fun e w' => e = .returned (.int .i64 (writeD x.left [s, t])) ∧ Below w.heap.size w w' := by
  have := writeFault_any (h.disk.below (alloc_below w (.cells #[.string s, .string t] 9))) m (cell_below h.max (alloc_below w _)) w.heap.size 2 [s, t] (by simp) (fun k hk => by
    have : k < 2 := by simpa using hk
    match k, this with
    | 0, _ => rw [World.cell?_alloc_new]; rfl
    | 1, _ => rw [World.cell?_alloc_new]; rfl)
  refine this.mono ?_
  rintro e w' ⟨rfl, hb⟩
  exact ⟨rfl, (alloc_below w _).trans (hb.mono (by simp))⟩

theorem note_at {B : Nat} {w : World} {d mb n : Nat} {rv : Value} {x : Ab} {m : Int} (h : Fit B w d mb n rv x m) (k : Int) (p t : ByteArray) (D' : DataW Unit) (n' : Nat) (w1 : World) (hw : w.heap.size ≤ w1.heap.size) (hd : IsDisk B w1 d mb n' rv { D := D', rs := x.rs, left := x.left }) :
    Calls Tryz.prog 105 #[.pointer (some ⟨d, 0, none⟩), .agg #[.int .i64 k, .string p, .string t]] w1 fun e w' => e = .returned (.tuple #[]) ∧
      ∃ rv', IsDisk B w' d mb n' rv' (noteAb { D := D', rs := x.rs, left := x.left } (k, p, t)) ∧ Upd (Foot d mb rv) w1 w' ∧ ∀ j, rv'.ownBlock = some j → rv.ownBlock = some j ∨ w1.heap.size ≤ j :=
  note_any hd k p t h.len h.lo h.hi (Nat.le_trans h.base hw)

set_option maxHeartbeats 1000000 in
theorem Mkdir_any {B : Nat} {w : World} {d mb n : Nat} {rv : Value} {x : Ab} {m : Int} (h : Fit B w d mb n rv x m) (s : ByteArray) :
    Calls Tryz.prog 68 #[.pointer (some ⟨d, 0, none⟩), .string s] w fun e w' => e = .returned (.int .i64 (mkdirD x s).1) ∧ After B w w' d mb n rv (mkdirD x s).2 := by
  have hwf := wf_one h s
  by_cases h0 : (writeD x.left [s] != 0) = true
  · have HE : Hid (mkdirD x s = (writeD x.left [s], x)) := by unfold Hid mkdirD; rw [if_pos h0]
    have HD : Hid (IsDisk B w d mb n rv x) := h.disk
    clear h
    generalize writeD x.left [s] = e0 at *
    go_enter Tryz.func68, Tryz.ntmps68
    go_wp2_with (go_at_call 104; refine hwf.mono ?_; rintro e w1 ⟨rfl, hb⟩)
    go_ret
    rw [HE.out]
    exact ⟨rfl, After.same HD.out hb⟩
  rw [Bool.not_eq_true] at h0
  have hok : okPath s = true := by simpa using writeD_ok h0
  have HPF : Hid (∀ w1, Below w.heap.size w w1 → Calls Tryz.prog 62 #[.pointer (some ⟨d, 0, none⟩), .string s] w1 fun e w' => e = .returned (.int .i64 (parentD x.D s)) ∧ Below w1.heap.size w1 w') :=
    fun w1 hb => parentFault_any (h.disk.below hb) s hok
  have HKD : Hid (∀ w1, Below w.heap.size w w1 → Calls Tryz.prog 22 #[.pointer (some ⟨d, 0, none⟩), .string s] w1 fun e w' => e = .returned (.int .i64 (kindD x.D s)) ∧ Below w1.heap.size w1 w') :=
    fun w1 hb => Kind_any (h.disk.below hb) s (okPath_size hok)
  have HKY : Hid (keyOf Tryz.prog 9 (.string s) = some (keyD s)) := keyOf_str (okPath_size hok)
  have HF : Hid (Fit B w d mb n rv x m) := h
  have HOK : Hid (okPath s = true) := hok
  clear h hok
  by_cases h1 : (parentD x.D s != 0) = true
  · have HE : Hid (mkdirD x s = (parentD x.D s, x)) := by unfold Hid mkdirD; rw [if_neg (by rw [h0]; decide), if_pos h1]
    generalize writeD x.left [s] = e0 at *
    generalize parentD x.D s = e1 at *
    go_enter Tryz.func68, Tryz.ntmps68
    go_wp2_with (first
      | (go_at_call 104; refine hwf.mono ?_; rintro e w1 ⟨rfl, hb⟩)
      | (go_at_call 62; refine (HPF.out _ hb).mono ?_; rintro e w2 ⟨rfl, hb2⟩))
    go_ret
    rw [HE.out]
    exact ⟨rfl, After.same HF.out.disk (hb.trans (hb2.mono hb.size))⟩
  rw [Bool.not_eq_true] at h1
  by_cases h2 : (kindD x.D s != 0) = true
  · have HE : Hid (mkdirD x s = (11, x)) := by unfold Hid mkdirD; rw [if_neg (by rw [h0]; decide), if_neg (by rw [h1]; decide), if_pos h2]
    generalize writeD x.left [s] = e0 at *
    generalize parentD x.D s = e1 at *
    generalize kindD x.D s = e2 at *
    go_enter Tryz.func68, Tryz.ntmps68
    go_wp2_with (first
      | (go_at_call 104; refine hwf.mono ?_; rintro e w1 ⟨rfl, hb⟩)
      | (go_at_call 62; refine (HPF.out _ hb).mono ?_; rintro e w2 ⟨rfl, hb2⟩)
      | (go_at_call 22; refine (HKD.out _ (hb.trans (hb2.mono hb.size))).mono ?_; rintro e w3 ⟨rfl, hb3⟩))
    go_ret
    rw [HE.out]
    have hb12 := hb.trans (hb2.mono hb.size)
    exact ⟨rfl, After.same HF.out.disk (hb12.trans (hb3.mono hb12.size))⟩
  rw [Bool.not_eq_true] at h2
  have HE : Hid (mkdirD x s = (0, noteAb { D := x.D.put (keyD s) (itemD true ByteArray.empty), rs := x.rs, left := x.left } (1, s, ByteArray.empty))) := by
    unfold Hid mkdirD; rw [if_neg (by rw [h0]; decide), if_neg (by rw [h1]; decide), if_neg (by rw [h2]; decide)]
  generalize writeD x.left [s] = e0 at *
  generalize parentD x.D s = e1 at *
  generalize kindD x.D s = e2 at *
  go_enter Tryz.func68, Tryz.ntmps68
  go_wp2_with (first
    | (go_at_call 104; refine hwf.mono ?_; rintro e w1 ⟨rfl, hb⟩)
    | (go_at_call 62; refine (HPF.out _ hb).mono ?_; rintro e w2 ⟨rfl, hb2⟩)
    | (go_at_call 22; refine (HKD.out _ (hb.trans (hb2.mono hb.size))).mono ?_; rintro e w3 ⟨rfl, hb3⟩; have hb12 := hb.trans (hb2.mono hb.size); have hb13 := hb12.trans (hb3.mono hb12.size); have c0 := (HF.out.disk.below hb13).c0)
    | (at_mapUpdate; refine wpList_mapUpdate_own _ rfl _ _ _ 60 rfl 9 88 keyed Tryz.underlying60 _ mb n x.D rfl (HF.out.disk.below hb13).own (by have := HF.out.room; unfold maxLen; omega) _ _ _ rfl rfl HKY.out _ [] (itemR_mk (by decide)) ?_; intro w4 hown4 hg4)
    | (go_at_call 105; refine (note_at HF.out _ _ _ _ _ _ (Nat.le_trans hb13.size hg4.size) (turned (HF.out.disk.below hb13) hown4 hg4 (keys_put HOK.out HF.out.disk.keys)).1).mono ?_; rintro e w5 ⟨rfl, ha⟩))
  go_ret
  rw [HE.out]
  exact ⟨rfl, After.from ((Upd.of_below hb13).trans (turned (HF.out.disk.below hb13) hown4 hg4 (keys_put HOK.out HF.out.disk.keys)).2 (fun _ _ f => f)) ha (Nat.le_refl _)⟩

set_option maxHeartbeats 1000000 in
theorem Write_any {B : Nat} {w : World} {d mb n : Nat} {rv : Value} {x : Ab} {m : Int} (h : Fit B w d mb n rv x m) (s t : ByteArray) (ht : t.size ≤ maxLen) :
    Calls Tryz.prog 69 #[.pointer (some ⟨d, 0, none⟩), .string s, .string t] w fun e w' => e = .returned (.int .i64 (writeFD x s t).1) ∧ After B w w' d mb n rv (writeFD x s t).2 := by
  have hwf := wf_one h s
  have HT : Hid (t.size ≤ maxLen) := ht
  clear ht
  by_cases h0 : (writeD x.left [s] != 0) = true
  · have HE : Hid (writeFD x s t = (writeD x.left [s], x)) := by unfold Hid writeFD; rw [if_pos h0]
    have HD : Hid (IsDisk B w d mb n rv x) := h.disk
    clear h
    generalize writeD x.left [s] = e0 at *
    go_enter Tryz.func69, Tryz.ntmps69
    go_wp2_with (go_at_call 104; refine hwf.mono ?_; rintro e w1 ⟨rfl, hb⟩)
    go_ret
    rw [HE.out]
    exact ⟨rfl, After.same HD.out hb⟩
  rw [Bool.not_eq_true] at h0
  have hok : okPath s = true := by simpa using writeD_ok h0
  have HPF : Hid (∀ w1, Below w.heap.size w w1 → Calls Tryz.prog 106 #[.pointer (some ⟨d, 0, none⟩), .string s] w1 fun e w' => e = .returned (.int .i64 (fileD x.D s)) ∧ Below w1.heap.size w1 w') :=
    fun w1 hb => fileFault_any (h.disk.below hb) s hok
  have HKY : Hid (keyOf Tryz.prog 9 (.string s) = some (keyD s)) := keyOf_str (okPath_size hok)
  have HF : Hid (Fit B w d mb n rv x m) := h
  have HOK : Hid (okPath s = true) := hok
  clear h hok
  by_cases h1 : (fileD x.D s != 0) = true
  · have HE : Hid (writeFD x s t = (fileD x.D s, x)) := by unfold Hid writeFD; rw [if_neg (by rw [h0]; decide), if_pos h1]
    generalize writeD x.left [s] = e0 at *
    generalize fileD x.D s = e1 at *
    go_enter Tryz.func69, Tryz.ntmps69
    go_wp2_with (first
      | (go_at_call 104; refine hwf.mono ?_; rintro e w1 ⟨rfl, hb⟩)
      | (go_at_call 106; refine (HPF.out _ hb).mono ?_; rintro e w2 ⟨rfl, hb2⟩))
    go_ret
    rw [HE.out]
    exact ⟨rfl, After.same HF.out.disk (hb.trans (hb2.mono hb.size))⟩
  rw [Bool.not_eq_true] at h1
  have HE : Hid (writeFD x s t = (0, noteAb { D := x.D.put (keyD s) (itemD false t), rs := x.rs, left := x.left } (2, s, ByteArray.empty))) := by
    unfold Hid writeFD; rw [if_neg (by rw [h0]; decide), if_neg (by rw [h1]; decide)]
  generalize writeD x.left [s] = e0 at *
  generalize fileD x.D s = e1 at *
  go_enter Tryz.func69, Tryz.ntmps69
  go_wp2_with (first
    | (go_at_call 104; refine hwf.mono ?_; rintro e w1 ⟨rfl, hb⟩)
    | (go_at_call 106; refine (HPF.out _ hb).mono ?_; rintro e w3 ⟨rfl, hb3⟩; have hb13 := hb.trans (hb3.mono hb.size); have c0 := (HF.out.disk.below hb13).c0)
    | (at_mapUpdate; refine wpList_mapUpdate_own _ rfl _ _ _ 60 rfl 9 88 keyed Tryz.underlying60 _ mb n x.D rfl (HF.out.disk.below hb13).own (by have := HF.out.room; unfold maxLen; omega) _ _ _ rfl rfl HKY.out _ [] (itemR_mk HT.out) ?_; intro w4 hown4 hg4)
    | (go_at_call 105; refine (note_at HF.out _ _ _ _ _ _ (Nat.le_trans hb13.size hg4.size) (turned (HF.out.disk.below hb13) hown4 hg4 (keys_put HOK.out HF.out.disk.keys)).1).mono ?_; rintro e w5 ⟨rfl, ha⟩))
  go_ret
  rw [HE.out]
  exact ⟨rfl, After.from ((Upd.of_below hb13).trans (turned (HF.out.disk.below hb13) hown4 hg4 (keys_put HOK.out HF.out.disk.keys)).2 (fun _ _ f => f)) ha (Nat.le_refl _)⟩

set_option maxHeartbeats 1000000 in
theorem Remove_any {B : Nat} {w : World} {d mb n : Nat} {rv : Value} {x : Ab} {m : Int} (h : Fit B w d mb n rv x m) (s : ByteArray) :
    Calls Tryz.prog 71 #[.pointer (some ⟨d, 0, none⟩), .string s] w fun e w' => e = .returned (.int .i64 (removeD x s).1) ∧ After B w w' d mb n rv (removeD x s).2 := by
  have hwf := wf_one h s
  by_cases h0 : (writeD x.left [s] != 0) = true
  · have HE : Hid (removeD x s = (writeD x.left [s], x)) := by unfold Hid removeD; rw [if_pos h0]
    have HD : Hid (IsDisk B w d mb n rv x) := h.disk
    clear h
    generalize writeD x.left [s] = e0 at *
    go_enter Tryz.func71, Tryz.ntmps71
    go_wp2_with (go_at_call 104; refine hwf.mono ?_; rintro e w1 ⟨rfl, hb⟩)
    go_ret
    rw [HE.out]
    exact ⟨rfl, After.same HD.out hb⟩
  rw [Bool.not_eq_true] at h0
  have hok : okPath s = true := by simpa using writeD_ok h0
  have HKD : Hid (∀ w1, Below w.heap.size w w1 → Calls Tryz.prog 22 #[.pointer (some ⟨d, 0, none⟩), .string s] w1 fun e w' => e = .returned (.int .i64 (kindD x.D s)) ∧ Below w1.heap.size w1 w') :=
    fun w1 hb => Kind_any (h.disk.below hb) s (okPath_size hok)
  have HUS : Hid (∀ w1, Below w.heap.size w w1 → Calls Tryz.prog 107 #[.pointer (some ⟨d, 0, none⟩), .string s] w1 fun e w' => e = .returned (.bool (usedD x.D s)) ∧ Below w1.heap.size w1 w') :=
    fun w1 hb => used_any (h.disk.below hb) s
  have HKY : Hid (keyOf Tryz.prog 9 (.string s) = some (keyD s)) := keyOf_str (okPath_size hok)
  have HF : Hid (Fit B w d mb n rv x m) := h
  clear h hok
  by_cases h1 : (kindD x.D s == 0) = true
  · have HE : Hid (removeD x s = (12, x)) := by unfold Hid removeD; rw [if_neg (by rw [h0]; decide), if_pos h1]
    generalize writeD x.left [s] = e0 at *
    generalize kindD x.D s = e1 at *
    go_enter Tryz.func71, Tryz.ntmps71
    go_wp2_with (first
      | (go_at_call 104; refine hwf.mono ?_; rintro e w1 ⟨rfl, hb⟩)
      | (go_at_call 22; refine (HKD.out _ hb).mono ?_; rintro e w2 ⟨rfl, hb2⟩))
    go_ret
    rw [HE.out]
    exact ⟨rfl, After.same HF.out.disk (hb.trans (hb2.mono hb.size))⟩
  rw [Bool.not_eq_true] at h1
  by_cases h2 : (kindD x.D s == 2) = true
  · by_cases h3 : usedD x.D s = true
    · have HE : Hid (removeD x s = (14, x)) := by unfold Hid removeD; rw [if_neg (by rw [h0]; decide), if_neg (by rw [h1]; decide), if_pos (by rw [h2, h3]; rfl)]
      generalize writeD x.left [s] = e0 at *
      generalize kindD x.D s = e1 at *
      generalize usedD x.D s = e2 at *
      go_enter Tryz.func71, Tryz.ntmps71
      go_wp2_with (first
        | (go_at_call 104; refine hwf.mono ?_; rintro e w1 ⟨rfl, hb⟩)
        | (go_at_call 22; refine (HKD.out _ hb).mono ?_; rintro e w2 ⟨rfl, hb2⟩; have hb12 := hb.trans (hb2.mono hb.size))
        | (go_at_call 107; refine (HUS.out _ hb12).mono ?_; rintro e w3 ⟨rfl, hb3⟩))
      go_ret
      rw [HE.out]
      exact ⟨rfl, After.same HF.out.disk (hb12.trans (hb3.mono hb12.size))⟩
    · rw [Bool.not_eq_true] at h3
      have HE : Hid (removeD x s = (0, noteAb { D := x.D.del (keyD s), rs := x.rs, left := x.left } (4, s, ByteArray.empty))) := by
        unfold Hid removeD; rw [if_neg (by rw [h0]; decide), if_neg (by rw [h1]; decide), if_neg (by rw [h2, h3]; decide)]
      generalize writeD x.left [s] = e0 at *
      generalize kindD x.D s = e1 at *
      generalize usedD x.D s = e2 at *
      go_enter Tryz.func71, Tryz.ntmps71
      go_wp2_with (first
        | (go_at_call 104; refine hwf.mono ?_; rintro e w1 ⟨rfl, hb⟩)
        | (go_at_call 22; refine (HKD.out _ hb).mono ?_; rintro e w2 ⟨rfl, hb2⟩; have hb12 := hb.trans (hb2.mono hb.size))
        | (go_at_call 107; refine (HUS.out _ hb12).mono ?_; rintro e w3 ⟨rfl, hb3⟩; have hb13 := hb12.trans (hb3.mono hb12.size); have c0 := (HF.out.disk.below hb13).c0)
        | (at_delete; refine wpList_delete_own _ rfl _ _ 60 9 rfl 88 keyed Tryz.underlying60 _ mb n x.D rfl (HF.out.disk.below hb13).own _ _ rfl HKY.out ?_; intro w4 hown4 ht4; have hg4 := ht4.grown)
        | (go_at_call 105; refine (note_at HF.out _ _ _ _ _ _ (Nat.le_trans hb13.size hg4.size) (turned (HF.out.disk.below hb13) hown4 hg4 (keys_del HF.out.disk.keys)).1).mono ?_; rintro e w5 ⟨rfl, ha⟩))
      go_ret
      rw [HE.out]
      exact ⟨rfl, After.from ((Upd.of_below hb13).trans (turned (HF.out.disk.below hb13) hown4 hg4 (keys_del HF.out.disk.keys)).2 (fun _ _ f => f)) ha (Nat.le_succ _)⟩
  · rw [Bool.not_eq_true] at h2
    have HE : Hid (removeD x s = (0, noteAb { D := x.D.del (keyD s), rs := x.rs, left := x.left } (4, s, ByteArray.empty))) := by
      unfold Hid removeD; rw [if_neg (by rw [h0]; decide), if_neg (by rw [h1]; decide), if_neg (by rw [h2]; simp)]
    generalize writeD x.left [s] = e0 at *
    generalize kindD x.D s = e1 at *
    go_enter Tryz.func71, Tryz.ntmps71
    go_wp2_with (first
      | (go_at_call 104; refine hwf.mono ?_; rintro e w1 ⟨rfl, hb⟩)
      | (go_at_call 22; refine (HKD.out _ hb).mono ?_; rintro e w2 ⟨rfl, hb2⟩; have hb13 := hb.trans (hb2.mono hb.size); have c0 := (HF.out.disk.below hb13).c0)
      | (at_delete; refine wpList_delete_own _ rfl _ _ 60 9 rfl 88 keyed Tryz.underlying60 _ mb n x.D rfl (HF.out.disk.below hb13).own _ _ rfl HKY.out ?_; intro w4 hown4 ht4; have hg4 := ht4.grown)
      | (go_at_call 105; refine (note_at HF.out _ _ _ _ _ _ (Nat.le_trans hb13.size hg4.size) (turned (HF.out.disk.below hb13) hown4 hg4 (keys_del HF.out.disk.keys)).1).mono ?_; rintro e w5 ⟨rfl, ha⟩))
    go_ret
    rw [HE.out]
    exact ⟨rfl, After.from ((Upd.of_below hb13).trans (turned (HF.out.disk.below hb13) hown4 hg4 (keys_del HF.out.disk.keys)).2 (fun _ _ f => f)) ha (Nat.le_succ _)⟩

theorem readT_size {B : Nat} {w : World} {d mb n : Nat} {rv : Value} {x : Ab} (h : IsDisk B w d mb n rv x) {s : ByteArray} (hs : s.size ≤ maxLen) : (readT x.D s).size ≤ maxLen := by
  unfold readT
  split
  · obtain ⟨v, ps, _, hv⟩ := h.own.lookup keyed Tryz.underlying60 (zeroItem _) (zd := zeroD) (zp := []) (itemR_mk (by decide)) (keyOf_str hs)
    obtain ⟨c, t, _, h2, h3⟩ := itemR_inv hv
    have e : x.D.atKey (keyD s) zeroD = itemD c t := congrArg Prod.fst h2
    rw [e, itData_mk, bytes_mk]; exact h3
  · decide
end Go.Proofs.YtpaoimhebheaeaaGreatDoor.Dk
