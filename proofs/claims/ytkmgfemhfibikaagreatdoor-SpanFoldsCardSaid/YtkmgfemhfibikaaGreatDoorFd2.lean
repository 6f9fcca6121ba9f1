/- The document's added: a number more in a list of ints that rises. -/
import Derived.Test.YtkmgfemhfibikaaGreatDoorFd1
import Derived.Test.YtkmgfemhfibikaaGreatDoorKn2
namespace Go.Proofs.YtkmgfemhfibikaaGreatDoor
open Go.RowKit
set_option maxRecDepth 100000

/-- Ints that lie in memory. -/
def IntsAt (w : World) (v : Value) (l : List Int) : Prop := ∃ g o cap, v = .slice (some ⟨g, o, none⟩) l.length cap ∧ l.length ≤ cap ∧ g < w.heap.size ∧ ∀ i (h : i < l.length), w.cell? ⟨g, o + i, none⟩ = some (.int .i64 l[i])
theorem IntsAt.below {w w' : World} {v : Value} {l : List Int} (h : IntsAt w v l) (hb : Below w.heap.size w w') : IntsAt w' v l := by
  obtain ⟨g, o, cap, hv, hc, hg, hs⟩ := h
  exact ⟨g, o, cap, hv, hc, Nat.lt_of_lt_of_le hg hb.size, fun i hi => (hb.cell (p := ⟨g, o + i, none⟩) hg).trans (hs i hi)⟩
theorem keepInts (v : Value) (l : List Int) : KeepP fun w1 => IntsAt w1 v l := fun _ _ h hb => h.below hb
theorem infoInt3 : (Tryz.prog.info? 3).map (fun i => (i.zero, i.size, i.bytes)) = some (some (.int .i64 0), 1, 8) := by kernel_rfl
theorem info_parts3 {e : TypeId} {z : Value} {n b : Nat} (h : (Tryz.prog.info? e).map (fun i => (i.zero, i.size, i.bytes)) = some (some z, n, b)) : ∃ i, Tryz.prog.info? e = some i ∧ i.zero = some z ∧ i.size = n ∧ i.bytes = b := by
  cases hi : Tryz.prog.info? e with
  | none => rw [hi] at h; cases h
  | some i =>
    rw [hi] at h
    simp only [Option.map_some, Option.some.injEq, Prod.mk.injEq] at h
    exact ⟨i, rfl, h.1, h.2.1, h.2.2⟩
def ints (l : List Int) : List Value := l.map (Value.int .i64)
theorem row_ints {w : World} {B : Nat} {v : Value} {l : List Int} (h : w.ownsRow B 3 1 v l.length (ints l)) (hl : l ≠ []) : IntsAt w v l := by
  have h0 := h
  rcases h.2 with ⟨_, hn⟩ | ⟨g, cap, cur, rfl, hB, hg, hc, _⟩
  · exact absurd (List.eq_nil_of_length_eq_zero hn) hl
  · refine ⟨g, 0, cap, rfl, hc, (Array.getElem?_eq_some_iff.1 hg).1, fun i hi => ?_⟩
    rw [Nat.zero_add, World.ownsRow.cellAt h0 i (by omega)]
    simp [ints, hi]
theorem ints_one (l : List Int) : ∀ u ∈ ints l, u.oneCell' = true := by
  intro u hu
  obtain ⟨x, _, rfl⟩ := List.mem_map.1 hu
  rfl

theorem ins_prefix {n : Int} : ∀ {a b : List Int}, (∀ x ∈ a, x < n) → insF (a ++ b) n = a ++ insF b n
  | [], _, _ => rfl
  | x :: a, b, h => by
    rw [List.cons_append]
    conv => lhs; unfold insF; rw [if_pos (h x List.mem_cons_self)]
    rw [ins_prefix fun y hy => h y (List.mem_cons_of_mem _ hy)]
    rfl
theorem ins_there {l : List Int} {n : Int} {k : Nat} (hk : k < l.length) (hp : ∀ x ∈ l.take k, x < n) (h : l[k] = n) : insF l n = l := by
  have e : l = l.take k ++ l.drop k := (List.take_append_drop k l).symm
  have hd : l.drop k = l[k] :: l.drop (k + 1) := List.drop_eq_getElem_cons hk
  conv => lhs; rw [e, ins_prefix hp, hd]
  unfold insF
  rw [if_neg (by omega), if_pos h, ← hd, List.take_append_drop]
theorem ins_new {l : List Int} {n : Int} {k : Nat} (hp : ∀ x ∈ l.take k, x < n) (h : ∀ (hk : k < l.length), n < l[k]) : insF l n = l.take k ++ [n] ++ l.drop k := by
  have e : l = l.take k ++ l.drop k := (List.take_append_drop k l).symm
  conv => lhs; rw [e, ins_prefix hp]
  rw [List.append_assoc]
  congr 1
  by_cases hk : k < l.length
  · have hd : l.drop k = l[k] :: l.drop (k + 1) := List.drop_eq_getElem_cons hk
    have := h hk
    rw [hd]
    unfold insF
    rw [if_neg (by omega), if_neg (by omega)]
    rfl
  · rw [List.drop_of_length_le (by omega)]
    rfl

theorem add_addr (g o j : Nat) : (⟨g, o, none⟩ : Addr).add j = ⟨g, o + j, none⟩ := by unfold Addr.add; split <;> simp_all
theorem newsA {w : World} {l : List Int} {g o : Nat} (hc : ∀ i (h : i < l.length), w.cell? ⟨g, o + i, none⟩ = some (.int .i64 l[i])) (hg : g < w.heap.size) (k : Nat) (j : Nat) (u : Value) (hj : (ints (l.take k))[j]? = some u) (w1 : World) (hb : Below w.heap.size w w1) : w1.cell? ((⟨g, o, none⟩ : Addr).add j) = some u := by
  rw [add_addr, (hb.cell (p := ⟨g, o + j, none⟩) hg)]
  unfold ints at hj
  rw [List.getElem?_map, List.getElem?_take] at hj
  split at hj
  · by_cases hl : j < l.length
    · rw [List.getElem?_eq_getElem hl] at hj
      simp only [Option.map_some, Option.some.injEq] at hj
      rw [hc j hl, hj]
    · rw [List.getElem?_eq_none (by omega)] at hj; cases hj
  · cases hj
theorem newsB {w : World} {l : List Int} {g o : Nat} (hc : ∀ i (h : i < l.length), w.cell? ⟨g, o + i, none⟩ = some (.int .i64 l[i])) (hg : g < w.heap.size) (k : Nat) (j : Nat) (u : Value) (hj : (ints (l.drop k))[j]? = some u) (w1 : World) (hb : Below w.heap.size w w1) : w1.cell? ((⟨g, o + k, none⟩ : Addr).add j) = some u := by
  rw [add_addr, (hb.cell (p := ⟨g, o + k + j, none⟩) hg)]
  unfold ints at hj
  rw [List.getElem?_map, List.getElem?_drop] at hj
  by_cases hl : k + j < l.length
  · rw [List.getElem?_eq_getElem hl] at hj
    simp only [Option.map_some, Option.some.injEq] at hj
    rw [Nat.add_assoc, hc (k + j) hl, hj]
  · rw [List.getElem?_eq_none (by omega)] at hj; cases hj

set_option maxHeartbeats 3200000 in
theorem added_walk (l : List Int) (n : Int) (g o cap : Nat) (w : World) (hlen : l.length ≤ 1000000) (hcap : l.length ≤ cap) (hg : g < w.heap.size) (hc : ∀ i (h : i < l.length), w.cell? ⟨g, o + i, none⟩ = some (.int .i64 l[i])) :
    Calls Tryz.prog 71 #[.slice (some ⟨g, o, none⟩) l.length cap, .int .i64 n] w fun e w' => ∃ v, e = .returned v ∧ IntsAt w' v (insF l n) ∧ Below w.heap.size w w' := by
  obtain ⟨i0, hi, hz0, hz1, hz2⟩ := info_parts3 infoInt3
  have HC := hide3 hc
  clear hc
  go_enter Tryz.func71, Tryz.ntmps71
  go_wp2
  go_loop [5] (fun i => ∃ k : Nat, k ≤ l.length ∧ i = .int .i64 k ∧ ∀ x ∈ l.take k, x < n) (fun i => l.length - (intOf i).toNat)
  case atStart => exact ⟨0, Nat.zero_le _, rfl, fun x hx => by simp at hx⟩
  case round =>
    obtain ⟨k, hk, rfl, hp⟩ := hrel
    have HP := hide3 hp
    clear hp
    by_cases hlt : k < l.length
    · have hcell := HC.out k hlt
      by_cases hlk : l[k] < n
      · have HP2 : Hid (∀ x ∈ l.take (k + 1), x < n) := by
          intro x hx
          rw [List.take_succ_eq_append_getElem hlt] at hx
          rcases List.mem_append.1 hx with hx | hx
          · exact HP.out x hx
          · rw [List.mem_singleton.1 hx]; exact hlk
        generalize l[k] = y at *
        go_wp2
        exact ⟨⟨k + 1, by omega, by go_num, HP2.out⟩, by simp [intOf]; omega⟩
      · by_cases he : l[k] = n
        · have HR : Hid (insF l n = l) := ins_there hlt HP.out he
          have e2 : (l[k] == n) = true := by rw [beq_iff_eq]; exact he
          clear he
          generalize l[k] = y at *
          go_wp2
          go_ret
          exact ⟨_, rfl, by rw [HR.out]; exact ⟨g, o, cap, rfl, hcap, hg, HC.out⟩, Below.refl _ _⟩
        · have HR : Hid (insF l n = l.take k ++ [n] ++ l.drop k) := ins_new HP.out fun _ => by omega
          have e2 : (l[k] == n) = false := by rw [beq_eq_false_iff_ne]; exact he
          have hck : ¬ cap = k := by omega
          have hck2 : ¬ cap - k = 0 := by omega
          have HN1 : Hid (∀ j u, (ints (l.take k))[j]? = some u → ∀ w1, Below w.heap.size w w1 → w1.cell? ((⟨g, o, none⟩ : Addr).add j) = some u) := newsA HC.out hg k
          have HN3 : Hid (∀ j u, (ints (l.drop k))[j]? = some u → ∀ w1, Below w.heap.size w w1 → w1.cell? ((⟨g, o + k, none⟩ : Addr).add j) = some u) := newsB HC.out hg k
          have t1 : True := trivial
          have t2 : True := trivial
          clear he
          generalize l[k] = y at *
          go_wp2_with (first
            | (have _t := t1; at_builtin; refine wpList_append_own_at _ rfl _ _ 62 rfl w.heap.size 3 i0 _ 1 8 Tryz.underlying62 hi hz0 hz1 hz2 rfl (by decide) (.slice none 0 0) 0 [] rfl (World.ownsRow_nil _ _ _ _) ⟨g, o, none⟩ k cap (ints (l.take k)) rfl (by simp [ints]; omega) (fun j u h => HN1.out j u h _ (Below.refl _ _)) (ints_one _) (by unfold maxLen; omega) (by omega) (Nat.le_refl _) ?_; intro v1 w1 hown1 hg1 hnil1 hat1; have HR1 : Hid (w1.ownsRow w.heap.size 3 1 v1 k (ints (l.take k)) ∧ Below w.heap.size w w1) := ⟨by simpa using hown1, (Below.refl _ _).grown hg1 (Nat.le_refl _) (fun q hq => by cases hq)⟩; clear hown1 hg1 hnil1 hat1 t1; go_frame)
            | (have _t := t2; at_builtin; refine wpList_append_own_at _ rfl _ _ 62 rfl w.heap.size 3 i0 _ 1 8 Tryz.underlying62 hi hz0 hz1 hz2 rfl (by decide) v1 k (ints (l.take k)) rfl (HR1.out.1.alloc _) ⟨w1.heap.size, 0, none⟩ 1 1 [.int .i64 n] rfl rfl (cell_one_new _ _ _) (by simp [Value.oneCell']) (by unfold maxLen; omega) (by omega) (by have := HR1.out.2.size; simp; omega) ?_; intro v2 w2 hown2 hg2 hnil2 hat2; have HR2 : Hid (w2.ownsRow w.heap.size 3 1 v2 (k + 1) (ints (l.take k) ++ [.int .i64 n]) ∧ Below w.heap.size w w2) := ⟨hown2, (below_then HR1.out.2 (boxB _ _)).grown hg2 (below_then HR1.out.2 (boxB _ _)).size (fun q hq => (World.ownsRow.lt HR1.out.1 q hq).1)⟩; clear hown2 hg2 hnil2 hat2 t2; go_frame)
            | (have _h := HR2; at_builtin; refine wpList_append_own_at _ rfl _ _ 62 rfl w.heap.size 3 i0 _ 1 8 Tryz.underlying62 hi hz0 hz1 hz2 rfl (by decide) v2 (k + 1) (ints (l.take k) ++ [.int .i64 n]) rfl HR2.out.1 ⟨g, o + k, none⟩ (l.length - k) (cap - k) (ints (l.drop k)) rfl (by simp [ints]) (fun j u h => HN3.out j u h _ HR2.out.2) (ints_one _) (by unfold maxLen; omega) (by omega) HR2.out.2.size ?_; intro v3 w3 hown3 hg3 hnil3 hat3; have HR3 : Hid (w3.ownsRow w.heap.size 3 1 v3 (k + 1 + (l.length - k)) (ints (l.take k) ++ [.int .i64 n] ++ ints (l.drop k)) ∧ Below w.heap.size w w3) := ⟨hown3, HR2.out.2.grown hg3 HR2.out.2.size (fun q hq => (World.ownsRow.lt HR2.out.1 q hq).1)⟩; clear hown3 hg3 hnil3 hat3; go_frame))
          go_ret
          refine ⟨v3, rfl, ?_, HR3.out.2⟩
          rw [HR.out]
          refine row_ints (B := w.heap.size) ?_ (by simp)
          have el : (l.take k ++ [n] ++ l.drop k).length = k + 1 + (l.length - k) := by simp; omega
          have ec : ints (l.take k ++ [n] ++ l.drop k) = ints (l.take k) ++ [.int .i64 n] ++ ints (l.drop k) := by simp [ints]
          rw [el, ec]
          exact HR3.out.1
    · obtain rfl : k = l.length := by omega
      have HR : Hid (insF l n = l.take l.length ++ [n] ++ l.drop l.length) := ins_new HP.out fun h => absurd h hlt
      have HN1 : Hid (∀ j u, (ints (l.take l.length))[j]? = some u → ∀ w1, Below w.heap.size w w1 → w1.cell? ((⟨g, o, none⟩ : Addr).add j) = some u) := newsA HC.out hg l.length
      have t1 : True := trivial
      have t2 : True := trivial
      by_cases hcl : cap = l.length
      · subst hcl
        go_wp2_with (first
          | (have _t := t1; at_builtin; refine wpList_append_own_at _ rfl _ _ 62 rfl w.heap.size 3 i0 _ 1 8 Tryz.underlying62 hi hz0 hz1 hz2 rfl (by decide) (.slice none 0 0) 0 [] rfl (World.ownsRow_nil _ _ _ _) ⟨g, o, none⟩ l.length l.length (ints (l.take l.length)) rfl (by simp [ints]) (fun j u h => HN1.out j u h _ (Below.refl _ _)) (ints_one _) (by unfold maxLen; omega) (by omega) (Nat.le_refl _) ?_; intro v1 w1 hown1 hg1 hnil1 hat1; have HR1 : Hid (w1.ownsRow w.heap.size 3 1 v1 l.length (ints (l.take l.length)) ∧ Below w.heap.size w w1) := ⟨by simpa using hown1, (Below.refl _ _).grown hg1 (Nat.le_refl _) (fun q hq => by cases hq)⟩; clear hown1 hg1 hnil1 hat1 t1; go_frame)
          | (have _t := t2; at_builtin; refine wpList_append_own_at _ rfl _ _ 62 rfl w.heap.size 3 i0 _ 1 8 Tryz.underlying62 hi hz0 hz1 hz2 rfl (by decide) v1 l.length (ints (l.take l.length)) rfl (HR1.out.1.alloc _) ⟨w1.heap.size, 0, none⟩ 1 1 [.int .i64 n] rfl rfl (cell_one_new _ _ _) (by simp [Value.oneCell']) (by unfold maxLen; omega) (by omega) (by have := HR1.out.2.size; simp; omega) ?_; intro v2 w2 hown2 hg2 hnil2 hat2; have HR2 : Hid (w2.ownsRow w.heap.size 3 1 v2 (l.length + 1) (ints (l.take l.length) ++ [.int .i64 n]) ∧ Below w.heap.size w w2) := ⟨hown2, (below_then HR1.out.2 (boxB _ _)).grown hg2 (below_then HR1.out.2 (boxB _ _)).size (fun q hq => (World.ownsRow.lt HR1.out.1 q hq).1)⟩; clear hown2 hg2 hnil2 hat2 t2; go_frame)
          | (have _h := HR2; at_builtin; refine wpList_append_own_at _ rfl _ _ 62 rfl w.heap.size 3 i0 _ 1 8 Tryz.underlying62 hi hz0 hz1 hz2 rfl (by decide) v2 (l.length + 1) (ints (l.take l.length) ++ [.int .i64 n]) rfl HR2.out.1 ⟨g, o, none⟩ 0 0 (ints (l.drop l.length)) rfl (by simp [ints]) (fun j u h => by simp [ints] at h) (ints_one _) (by unfold maxLen; omega) (by omega) HR2.out.2.size ?_; intro v3 w3 hown3 hg3 hnil3 hat3; have HR3 : Hid (w3.ownsRow w.heap.size 3 1 v3 (l.length + 1 + (0)) (ints (l.take l.length) ++ [.int .i64 n] ++ ints (l.drop l.length)) ∧ Below w.heap.size w w3) := ⟨hown3, HR2.out.2.grown hg3 HR2.out.2.size (fun q hq => (World.ownsRow.lt HR2.out.1 q hq).1)⟩; clear hown3 hg3 hnil3 hat3; go_frame))
        go_ret
        refine ⟨v3, rfl, ?_, HR3.out.2⟩
        rw [HR.out]
        refine row_ints (B := w.heap.size) ?_ (by simp)
        have el : (l.take l.length ++ [n] ++ l.drop l.length).length = l.length + 1 + (0) := by simp
        have ec : ints (l.take l.length ++ [n] ++ l.drop l.length) = ints (l.take l.length) ++ [.int .i64 n] ++ ints (l.drop l.length) := by simp [ints]
        rw [el, ec]
        exact HR3.out.1
      · have hc0 : ¬ cap - l.length = 0 := by omega
        go_wp2_with (first
          | (have _t := t1; at_builtin; refine wpList_append_own_at _ rfl _ _ 62 rfl w.heap.size 3 i0 _ 1 8 Tryz.underlying62 hi hz0 hz1 hz2 rfl (by decide) (.slice none 0 0) 0 [] rfl (World.ownsRow_nil _ _ _ _) ⟨g, o, none⟩ l.length cap (ints (l.take l.length)) rfl (by simp [ints]) (fun j u h => HN1.out j u h _ (Below.refl _ _)) (ints_one _) (by unfold maxLen; omega) (by omega) (Nat.le_refl _) ?_; intro v1 w1 hown1 hg1 hnil1 hat1; have HR1 : Hid (w1.ownsRow w.heap.size 3 1 v1 l.length (ints (l.take l.length)) ∧ Below w.heap.size w w1) := ⟨by simpa using hown1, (Below.refl _ _).grown hg1 (Nat.le_refl _) (fun q hq => by cases hq)⟩; clear hown1 hg1 hnil1 hat1 t1; go_frame)
          | (have _t := t2; at_builtin; refine wpList_append_own_at _ rfl _ _ 62 rfl w.heap.size 3 i0 _ 1 8 Tryz.underlying62 hi hz0 hz1 hz2 rfl (by decide) v1 l.length (ints (l.take l.length)) rfl (HR1.out.1.alloc _) ⟨w1.heap.size, 0, none⟩ 1 1 [.int .i64 n] rfl rfl (cell_one_new _ _ _) (by simp [Value.oneCell']) (by unfold maxLen; omega) (by omega) (by have := HR1.out.2.size; simp; omega) ?_; intro v2 w2 hown2 hg2 hnil2 hat2; have HR2 : Hid (w2.ownsRow w.heap.size 3 1 v2 (l.length + 1) (ints (l.take l.length) ++ [.int .i64 n]) ∧ Below w.heap.size w w2) := ⟨hown2, (below_then HR1.out.2 (boxB _ _)).grown hg2 (below_then HR1.out.2 (boxB _ _)).size (fun q hq => (World.ownsRow.lt HR1.out.1 q hq).1)⟩; clear hown2 hg2 hnil2 hat2 t2; go_frame)
          | (have _h := HR2; at_builtin; refine wpList_append_own_at _ rfl _ _ 62 rfl w.heap.size 3 i0 _ 1 8 Tryz.underlying62 hi hz0 hz1 hz2 rfl (by decide) v2 (l.length + 1) (ints (l.take l.length) ++ [.int .i64 n]) rfl HR2.out.1 ⟨g, o + l.length, none⟩ 0 (cap - l.length) (ints (l.drop l.length)) rfl (by simp [ints]) (fun j u h => by simp [ints] at h) (ints_one _) (by unfold maxLen; omega) (by omega) HR2.out.2.size ?_; intro v3 w3 hown3 hg3 hnil3 hat3; have HR3 : Hid (w3.ownsRow w.heap.size 3 1 v3 (l.length + 1 + (0)) (ints (l.take l.length) ++ [.int .i64 n] ++ ints (l.drop l.length)) ∧ Below w.heap.size w w3) := ⟨hown3, HR2.out.2.grown hg3 HR2.out.2.size (fun q hq => (World.ownsRow.lt HR2.out.1 q hq).1)⟩; clear hown3 hg3 hnil3 hat3; go_frame))
        go_ret
        refine ⟨v3, rfl, ?_, HR3.out.2⟩
        rw [HR.out]
        refine row_ints (B := w.heap.size) ?_ (by simp)
        have el : (l.take l.length ++ [n] ++ l.drop l.length).length = l.length + 1 + (0) := by simp
        have ec : ints (l.take l.length ++ [n] ++ l.drop l.length) = ints (l.take l.length) ++ [.int .i64 n] ++ ints (l.drop l.length) := by simp [ints]
        rw [el, ec]
        exact HR3.out.1

theorem added_any {l : List Int} {v : Value} {w : World} (h : IntsAt w v l) (hlen : l.length ≤ 1000000) (n : Int) :
    Calls Tryz.prog 71 #[v, .int .i64 n] w fun e w' => ∃ v', e = .returned v' ∧ IntsAt w' v' (insF l n) ∧ Below w.heap.size w w' := by
  obtain ⟨g, o, cap, rfl, hc, hg, hs⟩ := h
  exact added_walk l n g o cap w hlen hc hg hs
end Go.Proofs.YtkmgfemhfibikaaGreatDoor
