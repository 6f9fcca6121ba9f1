/- Dd1, laid in one text. -/
import Derived.WalkKit
import Derived.Test.YtpaoimhebheaeaaGreatDoorRows
import Derived.WalkSpells
import Derived.WalkLawsBesides
import Derived.Test.YtpaoimhebheaeaaGreatDoorDkShelf
import Derived.Maps.OwnSet
import Derived.Maps.RangeWalk
namespace Go.Proofs.YtpaoimhebheaeaaGreatDoor.Dk
open Go.RowKit
open Go.RowKit Go.Maps Go.WideMaps Go.WideElems
set_option maxRecDepth 100000

/-- May a byte stand in a part of a path? -/
def partByteB (b : UInt8) : Bool := (decide (97 ≤ b.toNat) && decide (b.toNat ≤ 122)) || (decide (48 ≤ b.toNat) && decide (b.toNat ≤ 57)) || b.toNat == 46 || b.toNat == 45

/-- May a text be a part of a path? -/
def partB (l : List UInt8) : Bool := !(l.length == 0) && decide (l.length ≤ 24) && !(l == [46]) && !(l == [46, 46]) && l.all partByteB

theorem ret_bool {a b : Bool} (h : a = b) : Ending.returned (.bool a) = .returned (.bool b) := by rw [h]

set_option maxHeartbeats 400000 in
theorem isPartByte_any (b : UInt8) (w : World) :
    Calls Tryz.prog 135 #[.int .u8 (b.toNat : Int)] w fun e w' => e = .returned (.bool (partByteB b)) ∧ w' = w := by
  go_enter Tryz.func135, Tryz.ntmps135
  go_wp2
  all_goals
    go_ret
    refine ⟨ret_bool ?_, rfl⟩
    rw [Bool.eq_iff_iff]
    simp [partByteB]
    omega

theorem size_list (s : ByteArray) : s.data.toList.length = s.size := rfl
theorem bytes_eq {s t : ByteArray} (h : s.data.toList = t.data.toList) : s = t := by
  cases s; cases t; simp only [ByteArray.mk.injEq]; exact Array.toList_inj.1 h

theorem all_get {p : UInt8 → Bool} {l : List UInt8} (h : ∀ i (hi : i < l.length), p l[i] = true) : l.all p = true := by
  rw [List.all_eq_true]
  intro x hx
  obtain ⟨i, hi, rfl⟩ := List.getElem_of_mem hx
  exact h i hi

theorem all_not {p : UInt8 → Bool} {l : List UInt8} (i : Nat) (hi : i < l.length) (h : p l[i] = false) : l.all p = false := by
  rw [Bool.eq_false_iff]
  intro ha
  rw [List.all_eq_true] at ha
  have := ha _ (List.getElem_mem hi)
  rw [h] at this
  cases this

theorem toList_data (s : ByteArray) : s.toList = s.data.toList := ByteArray.toList_eq s

set_option maxHeartbeats 400000 in
theorem isPart_any (s : ByteArray) (w : World) (hs : s.size ≤ maxLen) :
    Calls Tryz.prog 98 #[.string s] w fun e w' => e = .returned (.bool (partB s.data.toList)) ∧ w' = w := by
  unfold maxLen at hs
  by_cases h0 : s.size = 0
  · have HP : Hid (partB s.data.toList = false) := by unfold Hid partB; rw [size_list]; simp [h0]
    go_enter Tryz.func98, Tryz.ntmps98
    go_wp2
    go_ret
    exact ⟨ret_bool HP.out.symm, rfl⟩
  by_cases h24 : 24 < s.size
  · have HP : Hid (partB s.data.toList = false) := by
      unfold Hid partB; rw [size_list]
      have : decide (s.size ≤ 24) = false := by simp; omega
      rw [this]; simp
    go_enter Tryz.func98, Tryz.ntmps98
    go_wp2
    go_ret
    exact ⟨ret_bool HP.out.symm, rfl⟩
  have b0 : ((s.size : Int) == 0) = false := beq_eq_false_iff_ne.2 (by omega)
  have b24 : decide (24 < (s.size : Int)) = false := by simp; omega
  have i24 : s.size ≤ 24 := by omega
  clear h0 h24
  by_cases h1 : (s.toList == [46]) = true
  · have HP : Hid (partB s.data.toList = false) := by
      unfold Hid partB; rw [← toList_data, h1]; simp
    go_enter Tryz.func98, Tryz.ntmps98
    go_wp2
    go_ret
    exact ⟨ret_bool HP.out.symm, rfl⟩
  rw [Bool.not_eq_true] at h1
  by_cases h2 : (s.toList == [46, 46]) = true
  · have HP : Hid (partB s.data.toList = false) := by
      unfold Hid partB; rw [← toList_data, h2]; simp
    go_enter Tryz.func98, Tryz.ntmps98
    go_wp2
    go_ret
    exact ⟨ret_bool HP.out.symm, rfl⟩
  rw [Bool.not_eq_true] at h2
  have HP : Hid (partB s.data.toList = s.data.toList.all partByteB) := by
    unfold Hid partB
    rw [← toList_data, h1, h2, toList_data, size_list]
    have : decide (s.size ≤ 24) = true := by simp; omega
    have e0 : (s.size == 0) = false := beq_eq_false_iff_ne.2 (by have := beq_eq_false_iff_ne.1 b0; omega)
    rw [this, e0]; simp
  go_enter Tryz.func98, Tryz.ntmps98
  go_wp2_with fail
  go_loop [22] (fun i => ∃ k : Nat, k ≤ s.size ∧ i = .int .i64 k ∧ ∀ j (hj : j < k) (hj' : j < s.size), partByteB s[j] = true) (fun i => s.size - (intOf i).toNat)
  case atStart => exact ⟨0, Nat.zero_le _, rfl, fun j hj => absurd hj (Nat.not_lt_zero _)⟩
  case round =>
    obtain ⟨k, hk, rfl, hall⟩ := hrel
    have HA : Hid (∀ j (hj : j < k) (hj' : j < s.size), partByteB s[j] = true) := hall
    clear hall
    by_cases hlt : k < s.size
    · by_cases hb : partByteB s[k] = true
      · go_wp2_with (go_at_call 135; refine (isPartByte_any _ _).mono ?_; rintro e w' ⟨rfl, rfl⟩)
        refine ⟨⟨k + 1, by omega, by go_num, fun j hj hj' => ?_⟩, by simp [intOf]; omega⟩
        by_cases e : j = k
        · subst e; exact hb
        · exact HA.out j (by omega) hj'
      · rw [Bool.not_eq_true] at hb
        go_wp2_with (go_at_call 135; refine (isPartByte_any _ _).mono ?_; rintro e w' ⟨rfl, rfl⟩)
        go_ret
        exact ⟨ret_bool (by rw [HP.out, all_not k hlt hb]), rfl⟩
    · go_wp2
      go_ret
      exact ⟨ret_bool (by rw [HP.out, all_get (fun j hj => HA.out j (by rw [size_list] at hj; omega) hj)]), rfl⟩

/-- The byte of a slash, as a text. -/
def slash : ByteArray := ⟨#[47]⟩

/-- The parent of a path, and its last part. -/
def parentOf (s : ByteArray) : ByteArray := if Lib.lastIndexByte s 47 = 0 then ⟨#[47]⟩ else s.extract 0 (Lib.lastIndexByte s 47).toNat
def nameOf (s : ByteArray) : ByteArray := s.extract ((Lib.lastIndexByte s 47).toNat + 1) s.size

theorem last_lt (s : ByteArray) : Lib.lastIndexByte s 47 < s.size ∨ Lib.lastIndexByte s 47 = -1 := by
  rcases Lib.lastIdx_spec s 47 s.size with ⟨h, _⟩ | ⟨i, hi, h, _⟩
  · exact Or.inr h
  · refine Or.inl ?_
    unfold Lib.lastIndexByte; rw [h]; omega

set_option maxHeartbeats 400000 in
theorem split_zero (s : ByteArray) (w : World) (hs : s.size ≤ 4096) (h1 : 1 ≤ s.size) (hi : Lib.lastIndexByte s 47 = 0) :
    Calls Tryz.prog 95 #[.string s] w fun e w' => e = .returned (.tuple #[.string ⟨#[47]⟩, .string (s.extract 1 s.size)]) ∧ w' = w.drew := by
  have HI : Hid (Lib.lastIndexByte s 47 = 0) := hi
  clear hi
  go_enter Tryz.func95, Tryz.ntmps95
  go_wp2_with (go_at_call 132; refine (Tryz.strings_LastIndexByte _ _ (by omega) _).mono ?_; rintro e w' ⟨rfl, rfl⟩; rw [HI.out])
  go_region
  go_wp2
  go_ret2
  exact ⟨rfl, rfl⟩

set_option maxHeartbeats 400000 in
theorem split_pos (s : ByteArray) (i : Nat) (w : World) (hs : s.size ≤ 4096) (h0 : 0 < i) (h1 : i < s.size) (hi : Lib.lastIndexByte s 47 = i) :
    Calls Tryz.prog 95 #[.string s] w fun e w' => e = .returned (.tuple #[.string (s.extract 0 i), .string (s.extract (i + 1) s.size)]) ∧ w' = w.drew := by
  have HI : Hid (Lib.lastIndexByte s 47 = i) := hi
  clear hi
  have hb : ((i : Int) == 0) = false := beq_eq_false_iff_ne.2 (by omega)
  go_enter Tryz.func95, Tryz.ntmps95
  go_wp2_with (go_at_call 132; refine (Tryz.strings_LastIndexByte _ _ (by omega) _).mono ?_; rintro e w' ⟨rfl, rfl⟩; rw [HI.out])
  go_region
  go_wp2
  go_ret2
  exact ⟨rfl, rfl⟩

theorem split_any (s : ByteArray) (w : World) (hs : s.size ≤ 4096) (hi : 0 ≤ Lib.lastIndexByte s 47) :
    Calls Tryz.prog 95 #[.string s] w fun e w' => e = .returned (.tuple #[.string (parentOf s), .string (nameOf s)]) ∧ w' = w.drew := by
  have hl := last_lt s
  by_cases h : Lib.lastIndexByte s 47 = 0
  · have := split_zero s w hs (by omega) h
    unfold parentOf nameOf
    rw [if_pos h, h]
    exact this
  · have := split_pos s (Lib.lastIndexByte s 47).toNat w hs (by omega) (by omega) (by omega)
    unfold parentOf nameOf
    rw [if_neg h]
    exact this

/-- Is a text a path? -/
def pathB (s : ByteArray) : Bool := s.toList == [47] || (decide (s.size ≤ 4096) && Lib.hasPrefix s.data.toList [47] && (Lib.splitB slash 0 (Lib.countB (s.extract 1 s.size) slash) (s.extract 1 s.size)).all fun p => partB p.data.toList)

theorem size_pieces (sep : ByteArray) (B : Nat) : ∀ (k : Nat) (s : ByteArray), s.size ≤ B → ∀ p ∈ Lib.splitB sep 0 k s, p.size ≤ B
  | 0, s, h, p, hp => by
    rw [Lib.splitB_zero] at hp
    simp only [List.mem_singleton] at hp
    subst hp; exact h
  | k + 1, s, h, p, hp => by
    unfold Lib.splitB at hp
    split at hp
    · simp only [List.mem_singleton] at hp
      subst hp; exact h
    · rcases List.mem_cons.1 hp with rfl | hp
      · simp only [ByteArray.size_extract]; omega
      · exact size_pieces sep B k _ (by simp only [ByteArray.size_extract]; omega) p hp

theorem all_get' {α : Type} {p : α → Bool} {l : List α} (h : ∀ i (hi : i < l.length), p l[i] = true) : l.all p = true := by
  rw [List.all_eq_true]
  intro x hx
  obtain ⟨i, hi, rfl⟩ := List.getElem_of_mem hx
  exact h i hi

theorem all_not' {α : Type} {p : α → Bool} {l : List α} (i : Nat) (hi : i < l.length) (h : p l[i] = false) : l.all p = false := by
  rw [Bool.eq_false_iff]
  intro ha
  rw [List.all_eq_true] at ha
  have := ha _ (List.getElem_mem hi)
  rw [h] at this
  cases this

/-- The loop over the parts, once the text is split. -/
def partsOk (L : List ByteArray) : Bool := L.all fun p => partB p.data.toList

theorem cell_piece (w : World) (L : List ByteArray) (t : TypeId) (k : Nat) (hk : k < L.length) : (w.alloc (.cells (L.map Value.string).toArray t)).cell? ⟨w.heap.size, k, none⟩ = some (.string L[k]) := by
  rw [World.cell?_alloc_new]; simp [hk]

set_option maxHeartbeats 400000 in
theorem isPath_any (s : ByteArray) (m : Int) (w : World) (hm : w.cell? ⟨0, 0, none⟩ = some (.int .i64 m)) :
    Calls Tryz.prog 63 #[.string s] w fun e w' => e = .returned (.bool (pathB s)) ∧ Below w.heap.size w w' := by
  by_cases h1 : (s.toList == [47]) = true
  · have HP : Hid (pathB s = true) := by unfold Hid pathB; rw [h1]; rfl
    go_enter Tryz.func63, Tryz.ntmps63
    go_wp2
    go_ret
    exact ⟨ret_bool HP.out.symm, Below.refl _ _⟩
  rw [Bool.not_eq_true] at h1
  by_cases h2 : 4096 < s.size
  · have HP : Hid (pathB s = false) := by
      have : decide (s.size ≤ 4096) = false := by simp; omega
      unfold Hid pathB; rw [h1, this]; rfl
    go_enter Tryz.func63, Tryz.ntmps63
    go_wp2
    go_ret
    exact ⟨ret_bool HP.out.symm, Below.refl _ _⟩
  have b2 : decide (4096 < (s.size : Int)) = false := by simp; omega
  have i2 : s.size ≤ 4096 := by omega
  clear h2
  by_cases h3 : Lib.hasPrefix s.data.toList [47] = true
  · have hsp := Tryz.strings_Split (s.extract 1 s.size) slash m w (by simp only [ByteArray.size_extract]; omega) hm (by decide)
    have hlen := Lib.splitB_all slash (by decide) 0 _ (s.extract 1 s.size) rfl
    have hsz := size_pieces slash 4096 (Lib.countB (s.extract 1 s.size) slash) (s.extract 1 s.size) (by simp only [ByteArray.size_extract]; omega)
    have h11 : 1 ≤ s.size := by
      rcases Nat.eq_zero_or_pos s.size with h | h
      · exfalso
        have : s.data.toList = [] := List.eq_nil_of_length_eq_zero (by rw [size_list]; exact h)
        rw [this] at h3; exact absurd h3 (by decide)
      · exact h
    have HP : Hid (pathB s = partsOk (Lib.splitB slash 0 (Lib.countB (s.extract 1 s.size) slash) (s.extract 1 s.size))) := by
      have : decide (s.size ≤ 4096) = true := by simp; omega
      unfold Hid pathB partsOk; rw [h1, h3, this]; rfl
    rw [← hlen] at hsp
    generalize Lib.splitB slash 0 (Lib.countB (s.extract 1 s.size) slash) (s.extract 1 s.size) = L at *
    have hL : L.length ≤ 4097 := by
      rw [hlen]
      have := Lib.countB_le slash (by decide) _ (s.extract 1 s.size) (Nat.le_refl _)
      simp only [ByteArray.size_extract] at this; omega
    have HS : Hid (∀ p ∈ L, p.size ≤ 4096) := hsz
    clear hsz hlen
    have hsp2 : Calls Tryz.prog 97 #[.string (s.extract 1 s.size), .string ⟨#[47]⟩] w fun e w' => e = .returned (.slice (some ⟨w.heap.size, 0, none⟩) L.length L.length) ∧ w' = w.alloc (.cells (L.map Value.string).toArray 9) := hsp
    clear hsp
    go_enter Tryz.func63, Tryz.ntmps63
    go_wp2_with (first
      | (go_at_call 96; refine (Tryz.strings_HasPrefix _ _ _).mono ?_; rintro e w' ⟨rfl, rfl⟩)
      | (go_at_call 97; refine hsp2.mono ?_; rintro e w' ⟨rfl, rfl⟩))
    go_loop [19] (fun i => ∃ k : Nat, k ≤ L.length ∧ i = .int .i64 k ∧ ∀ j (hj : j < k) (hj' : j < L.length), partB L[j].data.toList = true) (fun i => L.length - (intOf i).toNat)
    case atStart => exact ⟨0, Nat.zero_le _, rfl, fun j hj => absurd hj (Nat.not_lt_zero _)⟩
    case round =>
      obtain ⟨k, hk, rfl, hall⟩ := hrel
      have HA : Hid (∀ j (hj : j < k) (hj' : j < L.length), partB L[j].data.toList = true) := hall
      clear hall
      by_cases hlt : k < L.length
      · have hsk : L[k].size ≤ maxLen := by
          have := HS.out _ (List.getElem_mem hlt)
          unfold maxLen; omega
        have HK : Hid (L[k].size ≤ maxLen) := hsk
        clear hsk
        obtain ⟨P, hP⟩ : ∃ P, P = L[k] := ⟨_, rfl⟩
        have hc := cell_piece w' L 9 k hlt
        rw [← hP] at hc HK
        have HPe : Hid (P = L[k]) := hP
        clear hP
        by_cases hb : partB P.data.toList = true
        · go_wp2_with (go_at_call 98; refine (isPart_any _ _ HK.out).mono ?_; rintro e w' ⟨rfl, rfl⟩)
          refine ⟨⟨k + 1, by omega, by go_num, fun j hj hj' => ?_⟩, by simp [intOf]; omega⟩
          by_cases e : j = k
          · subst e; rw [← HPe.out]; exact hb
          · exact HA.out j (by omega) hj'
        · rw [Bool.not_eq_true] at hb
          go_wp2_with (go_at_call 98; refine (isPart_any _ _ HK.out).mono ?_; rintro e w' ⟨rfl, rfl⟩)
          go_ret
          exact ⟨ret_bool (by rw [HP.out]; unfold partsOk; rw [all_not' k hlt (by rw [← HPe.out]; exact hb)]), (Below.refl _ _).alloc (Nat.le_refl _) _⟩
      · go_wp2
        go_ret
        exact ⟨ret_bool (by rw [HP.out]; unfold partsOk; rw [all_get' (fun j hj => HA.out j (by omega) hj)]), (Below.refl _ _).alloc (Nat.le_refl _) _⟩
  rw [Bool.not_eq_true] at h3
  have HP : Hid (pathB s = false) := by unfold Hid pathB; rw [h1, h3]; simp
  go_enter Tryz.func63, Tryz.ntmps63
  go_wp2_with (go_at_call 96; refine (Tryz.strings_HasPrefix _ _ _).mono ?_; rintro e w' ⟨rfl, rfl⟩)
  go_ret
  exact ⟨ret_bool HP.out.symm, Below.refl _ _⟩

/-- How an item of the map reads. -/
def itemR (v : Value) : Option (DataW Unit × List MemPlace) :=
  match v with
  | .agg ⟨[.bool b, .string s]⟩ => if s.size ≤ maxLen then some (.agg [.lit (.bool b), .lit (.string s.data.toList)], []) else none
  | _ => none

def itemD (b : Bool) (s : ByteArray) : DataW Unit := .agg [.lit (.bool b), .lit (.string s.data.toList)]

theorem itemR_mk {b : Bool} {s : ByteArray} (hs : s.size ≤ maxLen) : itemR (.agg #[.bool b, .string s]) = some (itemD b s, []) := by
  simp [itemR, itemD, hs]

theorem itemR_inv {v : Value} {z : DataW Unit × List MemPlace} (h : itemR v = some z) : ∃ b s, v = .agg #[.bool b, .string s] ∧ z = (itemD b s, []) ∧ s.size ≤ maxLen := by
  unfold itemR at h
  split at h
  · next b s =>
    split at h
    · next hs => exact ⟨b, s, rfl, (Option.some.inj h).symm, hs⟩
    · cases h
  · cases h

theorem keyed : Keyed Tryz.prog 9 := string_keyed Tryz.underlying9
theorem zeroItem (w : World) : (zeroValue 88).run Tryz.prog w = .ok (.agg #[.bool false, .string ByteArray.empty]) w := by kernel_rfl

def keyD (s : ByteArray) : Lit := .string s.data.toList
def zeroD : DataW Unit := itemD false ByteArray.empty

theorem keyOf_str {s : ByteArray} (hs : s.size ≤ maxLen) : keyOf Tryz.prog 9 (.string s) = some (keyD s) := keyOf_string_mk Tryz.underlying9 hs

/-- The look-up with 'ok', the item written out. -/
theorem lookup_ok {P : Program} (w : World) {ops : Array Oper} {rest : List Oper} {o : Oper} {a : Act} {Q : Exit → Act → World → Prop} (hg : o.guard = none) (m x : Operand) (t : TypeId) (hop : o.op = Op.lookup t m x true)
    (k e : TypeId) (K : Keyed P k) (ht : P.underlying t = some (.map k e)) (hz : (zeroValue e).run P w = .ok (.agg #[.bool false, .string ByteArray.empty]) w) (b n : Nat) (D : DataW Unit)
    (hm : a.eval m = .map (some b)) (hown : w.ownsMap P k itemR b n D) (key : Value) (kl : Lit) (hx : a.eval x = key) (hkey : keyOf P k key = some kl)
    (hK : ∀ (c : Bool) (s : ByteArray), D.atKey kl zeroD = itemD c s → s.size ≤ maxLen → wpList P ops Q rest (a.put o.dst (.tuple #[.agg #[.bool c, .string s], .bool (Maps.has D kl)])) w) :
    wpList P ops Q (o :: rest) a w :=
  wpList_lookup_own_ok w hg m x t hop k e K ht itemR hz zeroD [] (itemR_mk (by decide)) b n D hm hown key kl hx hkey (fun v ps hv => by
    obtain ⟨c, s, rfl, h2, h3⟩ := itemR_inv hv
    exact hK c s (congrArg Prod.fst h2) h3)

def itDir : DataW Unit → Bool
  | .agg [.lit (.bool b), _] => b
  | _ => false
def itData : DataW Unit → List UInt8
  | .agg [_, .lit (.string s)] => s
  | _ => []
theorem itDir_mk (b : Bool) (s : ByteArray) : itDir (itemD b s) = b := rfl
theorem itData_mk (b : Bool) (s : ByteArray) : itData (itemD b s) = s.data.toList := rfl

/-- What is at a path: 0 nothing, 1 a file, 2 a directory. -/
def kindD (D : DataW Unit) (s : ByteArray) : Int :=
  if (s.toList == [47]) = true then 2 else if Maps.has D (keyD s) = true then (if itDir (D.atKey (keyD s) zeroD) = true then 2 else 1) else 0

/-- Memory but for some blocks. -/
structure Upd (F : Nat → Prop) (w w' : World) : Prop where
  os : w'.os = w.os
  tape : w'.tape = w.tape
  output : w'.output = w.output
  size : w.heap.size ≤ w'.heap.size
  block : ∀ k, k < w.heap.size → ¬ F k → w'.heap[k]? = w.heap[k]?

theorem Upd.refl (F : Nat → Prop) (w : World) : Upd F w w := ⟨rfl, rfl, rfl, Nat.le_refl _, fun _ _ _ => rfl⟩
theorem Upd.trans {F G : Nat → Prop} {a b c : World} (h : Upd F a b) (k : Upd G b c) (hG : ∀ i, i < a.heap.size → G i → F i) : Upd F a c :=
  ⟨k.os.trans h.os, k.tape.trans h.tape, k.output.trans h.output, Nat.le_trans h.size k.size, fun i hi hn => (k.block i (Nat.lt_of_lt_of_le hi h.size) (fun g => hn (hG i hi g))).trans (h.block i hi hn)⟩
theorem Upd.of_below {F : Nat → Prop} {w w' : World} (h : Below w.heap.size w w') : Upd F w w' := ⟨h.os, h.tape, h.output, h.size, fun i hi _ => h.block i hi⟩
theorem Upd.below {F : Nat → Prop} {B : Nat} {w w' : World} (h : Upd F w w') (hB : B ≤ w.heap.size) (hF : ∀ i, F i → B ≤ i) : Below B w w' :=
  ⟨h.os, h.tape, h.output, h.size, fun i hi => h.block i (by omega) (fun f => by have := hF i f; omega)⟩
theorem Upd.of_grown {w w' : World} {row : Option Nat} (h : w.grownBy w' row) : Upd (fun k => row = some k) w w' := ⟨h.os, h.tape, h.output, h.size, fun i hi hn => h.block i hi (fun e => hn e.symm)⟩
theorem Upd.mono {F G : Nat → Prop} {w w' : World} (h : Upd F w w') (hG : ∀ i, i < w.heap.size → F i → G i) : Upd G w w' := ⟨h.os, h.tape, h.output, h.size, fun i hi hn => h.block i hi (fun f => hn (hG i hi f))⟩
theorem Upd.setCell (w : World) (p : Addr) (u : Value) : Upd (fun k => k = p.block) w (w.setCell p u) :=
  ⟨rfl, rfl, rfl, by simp [World.setCell], fun i _ hn => Below.heap_setCell _ _ _ _ hn⟩
theorem Upd.drew {F : Nat → Prop} {a w : World} (h : Upd F a w) : Upd F a w.drew := ⟨h.os, h.tape, h.output, h.size, h.block⟩

/-- The values of a disk: its files, its raw writes, the writes that are left. -/
structure Ab where
  D : DataW Unit
  rs : List (Int × ByteArray × ByteArray)
  left : Int

def rawCells (rs : List (Int × ByteArray × ByteArray)) : List Value := rs.flatMap fun r => [.int .i64 r.1, .string r.2.1, .string r.2.2]

/-- A text that may stand in the map. -/
def okPath (s : ByteArray) : Bool := pathB s && !(s.toList == [47])

/-- A pointer leads to a disk. -/
structure IsDisk (B : Nat) (w : World) (d mb n : Nat) (rv : Value) (x : Ab) : Prop where
  c0 : w.cell? ⟨d, 0, none⟩ = some (.map (some mb))
  c1 : w.cell? ⟨d, 1, none⟩ = some rv
  c2 : w.cell? ⟨d, 2, none⟩ = some (.int .i64 x.left)
  f1 : w.frozen? ⟨d, 1, none⟩ = false
  f2 : w.frozen? ⟨d, 2, none⟩ = false
  own : w.ownsMap Tryz.prog 9 itemR mb n x.D
  row : w.ownsRow B 52 3 rv x.rs.length (rawCells x.rs)
  rd : rv.ownBlock ≠ some d
  rm : rv.ownBlock ≠ some mb
  dm : d ≠ mb
  bd : B ≤ d
  bm : B ≤ mb
  ld : d < w.heap.size
  keys : ∀ kl, Maps.has x.D kl = true → ∃ s, kl = keyD s ∧ okPath s = true

def Foot (d mb : Nat) (rv : Value) (k : Nat) : Prop := k = d ∨ k = mb ∨ rv.ownBlock = some k

theorem ownsRow_upd {F : Nat → Prop} {w w' : World} {B : Nat} {e : TypeId} {size : Nat} {v : Value} {n : Nat} {xs : List Value} (h : w.ownsRow B e size v n xs) (hu : Upd F w w') (hF : ∀ k, v.ownBlock = some k → ¬ F k) : w'.ownsRow B e size v n xs := by
  obtain ⟨h1, h2⟩ := h
  refine ⟨h1, ?_⟩
  rcases h2 with h2 | ⟨g, cap, cur, hv, hg, hh, r⟩
  · exact Or.inl h2
  · refine Or.inr ⟨g, cap, cur, hv, hg, ?_, r⟩
    have hl : g < w.heap.size := (Array.getElem?_eq_some_iff.1 hh).1
    rw [hu.block g hl (hF g (by rw [hv]; rfl))]; exact hh

theorem ownsMap_upd {F : Nat → Prop} {w w' : World} {mb n : Nat} {D : DataW Unit} (h : w.ownsMap Tryz.prog 9 itemR mb n D) (hu : Upd F w w') (hF : ¬ F mb) : w'.ownsMap Tryz.prog 9 itemR mb n D := by
  have hl := h.lt
  obtain ⟨es, clock, hb, r⟩ := h
  exact ⟨es, clock, by rw [hu.block mb hl hF]; exact hb, r⟩

theorem row_lt {w : World} {B : Nat} {e : TypeId} {size : Nat} {v : Value} {n : Nat} {xs : List Value} (h : w.ownsRow B e size v n xs) {k : Nat} (hk : v.ownBlock = some k) : k < w.heap.size ∧ B ≤ k := by
  rcases h.2 with ⟨rfl, _⟩ | ⟨g, cap, cur, rfl, hg, hh, _⟩
  · cases hk
  · cases hk; exact ⟨(Array.getElem?_eq_some_iff.1 hh).1, hg⟩

theorem IsDisk.upd {F : Nat → Prop} {B : Nat} {w w' : World} {d mb n : Nat} {rv : Value} {x : Ab} (h : IsDisk B w d mb n rv x) (hu : Upd F w w') (hF : ∀ k, Foot d mb rv k → ¬ F k) : IsDisk B w' d mb n rv x := by
  have hb := hu.block d h.ld (hF d (Or.inl rfl))
  exact { c0 := by rw [World.cell?_of_block (w := w) hb]; exact h.c0, c1 := by rw [World.cell?_of_block (w := w) hb]; exact h.c1, c2 := by rw [World.cell?_of_block (w := w) hb]; exact h.c2,
          f1 := by rw [World.frozen?_of_block (w := w) hb]; exact h.f1, f2 := by rw [World.frozen?_of_block (w := w) hb]; exact h.f2,
          own := ownsMap_upd h.own hu (hF mb (Or.inr (Or.inl rfl))), row := ownsRow_upd h.row hu (fun k hk => hF k (Or.inr (Or.inr hk))),
          rd := h.rd, rm := h.rm, dm := h.dm, bd := h.bd, bm := h.bm, ld := Nat.lt_of_lt_of_le h.ld hu.size, keys := h.keys }

theorem IsDisk.below {B : Nat} {w w' : World} {d mb n : Nat} {rv : Value} {x : Ab} (h : IsDisk B w d mb n rv x) (hu : Below w.heap.size w w') : IsDisk B w' d mb n rv x :=
  h.upd (Upd.of_below (F := fun _ => False) hu) (fun _ _ f => f)

theorem IsDisk.foot_lt {B : Nat} {w : World} {d mb n : Nat} {rv : Value} {x : Ab} (h : IsDisk B w d mb n rv x) {k : Nat} (hk : Foot d mb rv k) : k < w.heap.size ∧ B ≤ k := by
  rcases hk with rfl | rfl | hk
  · exact ⟨h.ld, h.bd⟩
  · exact ⟨h.own.lt, h.bm⟩
  · exact row_lt h.row hk

theorem ret_int {a b : Int} (h : a = b) : Ending.returned (.int .i64 a) = .returned (.int .i64 b) := by rw [h]

set_option maxHeartbeats 400000 in
theorem Down_any {B : Nat} {w : World} {d mb n : Nat} {rv : Value} {x : Ab} (h : IsDisk B w d mb n rv x) :
    Calls Tryz.prog 28 #[.pointer (some ⟨d, 0, none⟩)] w fun e w' => e = .returned (.bool (x.left == 0)) ∧ w' = w := by
  have c2 := h.c2
  clear h
  go_enter Tryz.func28, Tryz.ntmps28
  go_wp2
  go_ret
  exact ⟨rfl, rfl⟩

set_option maxHeartbeats 400000 in
theorem Up_any {B : Nat} {w : World} {d mb n : Nat} {rv : Value} {x : Ab} (h : IsDisk B w d mb n rv x) :
    Calls Tryz.prog 15 #[.pointer (some ⟨d, 0, none⟩)] w fun e w' => e = .returned (.tuple #[]) ∧ w' = w.setCell ⟨d, 2, none⟩ (.int .i64 (-1)) := by
  have c2 := h.c2
  have f2 := h.f2
  clear h
  go_enter Tryz.func15, Tryz.ntmps15
  go_wp2
  go_end0
  exact ⟨rfl, rfl⟩

theorem k3_no {a c : Bool} (h : (!a) = true) : (0 : Int) = if a = true then (if c = true then 2 else 1) else 0 := by cases a <;> simp_all
theorem k3_dir {a c : Bool} (h : (!a) = false) (hc : c = true) : (2 : Int) = if a = true then (if c = true then 2 else 1) else 0 := by cases a <;> simp_all
theorem k3_file {a c : Bool} (h : (!a) = false) (hc : c = false) : (1 : Int) = if a = true then (if c = true then 2 else 1) else 0 := by cases a <;> simp_all

set_option maxHeartbeats 400000 in
theorem Kind_any {B : Nat} {w : World} {d mb n : Nat} {rv : Value} {x : Ab} (h : IsDisk B w d mb n rv x) (s : ByteArray) (hs : s.size ≤ maxLen) :
    Calls Tryz.prog 22 #[.pointer (some ⟨d, 0, none⟩), .string s] w fun e w' => e = .returned (.int .i64 (kindD x.D s)) ∧ Below w.heap.size w w' := by
  have c0 := h.c0
  have hown := h.own
  have HKY : Hid (keyOf Tryz.prog 9 (.string s) = some (keyD s)) := keyOf_str hs
  have HO : Hid (w.ownsMap Tryz.prog 9 itemR mb n x.D) := hown
  clear h hs hown
  by_cases h1 : (s.toList == [47]) = true
  · have HP : Hid (kindD x.D s = 2) := by unfold Hid kindD; rw [if_pos h1]
    go_enter Tryz.func22, Tryz.ntmps22
    go_wp2
    go_ret
    exact ⟨ret_int HP.out.symm, Below.refl _ _⟩
  rw [Bool.not_eq_true] at h1
  have HK : Hid (kindD x.D s = if Maps.has x.D (keyD s) = true then (if itDir (x.D.atKey (keyD s) zeroD) = true then 2 else 1) else 0) := by unfold Hid kindD; rw [if_neg (by rw [h1]; decide)]
  go_enter Tryz.func22, Tryz.ntmps22
  go_wp2_with (at_lookup; refine lookup_ok _ rfl _ _ 60 rfl 9 88 keyed Tryz.underlying60 (zeroItem _) mb n x.D rfl HO.out _ _ rfl HKY.out ?_; intro c t hat hts; have HA : Hid (x.D.atKey (keyD s) zeroD = itemD c t) := hat; clear hat hts)
  all_goals
    go_ret
    refine ⟨ret_int ?_, (Below.refl _ _).alloc (Nat.le_refl _) _⟩
    rw [HK.out, HA.out, itDir_mk]
    first
      | exact k3_no ‹_›
      | exact k3_dir ‹_› ‹_›
      | exact k3_file ‹_› ‹_›

set_option maxHeartbeats 400000 in
theorem New_walk (w : World) : Calls Tryz.prog 60 #[] w fun e w' => e = .returned (.pointer (some ⟨w.heap.size + 1, 0, none⟩)) ∧
    w' = (w.alloc (.map #[] 0)).alloc (.cells #[.map (some w.heap.size), .slice none 0 0, .int .i64 (-1)] 62) := by
  have hmm := @run_makeMap Tryz.prog
  go_enter Tryz.func60, Tryz.ntmps60
  go_wp2
  go_ret
  exact ⟨rfl, rfl⟩

def newAb : Ab := { D := .map [], rs := [], left := -1 }

theorem new_is {w : World} {B : Nat} (hB : B ≤ w.heap.size) : IsDisk B ((w.alloc (.map #[] 0)).alloc (.cells #[.map (some w.heap.size), .slice none 0 0, .int .i64 (-1)] 62)) (w.heap.size + 1) w.heap.size 0 (.slice none 0 0) newAb := by
  have hsz : (w.alloc (.map #[] 0)).heap.size = w.heap.size + 1 := by simp
  have cell : ∀ i v, (#[Value.map (some w.heap.size), .slice none 0 0, .int .i64 (-1)])[i]? = some v → ((w.alloc (.map #[] 0)).alloc (.cells #[.map (some w.heap.size), .slice none 0 0, .int .i64 (-1)] 62)).cell? ⟨w.heap.size + 1, i, none⟩ = some v := by
    intro i v h
    have := World.cell?_alloc_new (w := w.alloc (.map #[] 0)) #[.map (some w.heap.size), .slice none 0 0, .int .i64 (-1)] 62 i
    rw [hsz] at this
    rw [this]; exact h
  have fz : ∀ i, ((w.alloc (.map #[] 0)).alloc (.cells #[.map (some w.heap.size), .slice none 0 0, .int .i64 (-1)] 62)).frozen? ⟨w.heap.size + 1, i, none⟩ = false := by
    intro i
    have e : ((w.alloc (.map #[] 0)).alloc (.cells #[.map (some w.heap.size), .slice none 0 0, .int .i64 (-1)] 62)).heap[w.heap.size + 1]? = some (.cells #[.map (some w.heap.size), .slice none 0 0, .int .i64 (-1)] 62 (0, 0)) := by
      show ((w.heap.push _).push _)[w.heap.size + 1]? = _
      rw [Array.getElem?_push, if_pos (by simp)]
    unfold World.frozen?
    simp only [e]
    simp
  exact { c0 := cell 0 _ rfl, c1 := cell 1 _ rfl, c2 := cell 2 _ rfl, f1 := fz 1, f2 := fz 2,
          own := (World.ownsMap_made w Tryz.prog 9 itemR).alloc _, row := ⟨rfl, Or.inl ⟨rfl, rfl⟩⟩,
          rd := by simp [Value.ownBlock], rm := by simp [Value.ownBlock], dm := by omega, bd := by omega, bm := hB,
          ld := by simp, keys := fun kl h => by simp [newAb, Maps.has] at h }

theorem new_below (w : World) : Below w.heap.size w ((w.alloc (.map #[] 0)).alloc (.cells #[.map (some w.heap.size), .slice none 0 0, .int .i64 (-1)] 62)) :=
  ((Below.refl _ _).alloc (Nat.le_refl _) _).alloc (by simp) _

theorem IsDisk.setLeft {B : Nat} {w : World} {d mb n : Nat} {rv : Value} {x : Ab} (h : IsDisk B w d mb n rv x) (l : Int) : IsDisk B (w.setCell ⟨d, 2, none⟩ (.int .i64 l)) d mb n rv { x with left := l } := by
  have hc0 : (w.setCell ⟨d, 2, none⟩ (.int .i64 l)).cell? ⟨d, 0, none⟩ = w.cell? ⟨d, 0, none⟩ := World.cell?_setCell_other _ _ _ _ (by simp)
  have hc1 : (w.setCell ⟨d, 2, none⟩ (.int .i64 l)).cell? ⟨d, 1, none⟩ = w.cell? ⟨d, 1, none⟩ := World.cell?_setCell_other _ _ _ _ (by simp)
  exact { c0 := by rw [hc0]; exact h.c0, c1 := by rw [hc1]; exact h.c1, c2 := World.cell?_setCell_same _ _ _ h.c2,
          f1 := by rw [World.frozen?_setCell]; exact h.f1, f2 := by rw [World.frozen?_setCell]; exact h.f2,
          own := h.own.setCell (fun e => h.dm e.symm) _, row := ownsRow_upd h.row (Upd.setCell w ⟨d, 2, none⟩ (.int .i64 l)) (fun k hk e => h.rd (by rw [hk]; exact congrArg some e)),
          rd := h.rd, rm := h.rm, dm := h.dm, bd := h.bd, bm := h.bm, ld := by simp [World.setCell]; exact h.ld, keys := h.keys }

theorem kindD_cases (D : DataW Unit) (s : ByteArray) : kindD D s = 0 ∨ kindD D s = 1 ∨ kindD D s = 2 := by
  unfold kindD
  split
  · exact Or.inr (Or.inr rfl)
  · split
    · split
      · exact Or.inr (Or.inr rfl)
      · exact Or.inr (Or.inl rfl)
    · exact Or.inl rfl

/-- Why nothing can stand at a path, for its parent's sake. -/
def parentD (D : DataW Unit) (s : ByteArray) : Int := if (kindD D (parentOf s) == 0) = true then 12 else if (kindD D (parentOf s) == 1) = true then 13 else 0

theorem prefix_last {s : ByteArray} (h : Lib.hasPrefix s.data.toList [47] = true) : 0 ≤ Lib.lastIndexByte s 47 := by
  unfold Lib.lastIndexByte
  rcases Lib.lastIdx_spec s 47 s.size with ⟨_, hj⟩ | ⟨i, _, h2, _⟩
  · exfalso
    unfold Lib.hasPrefix at h
    cases hl : s.data.toList with
    | nil => rw [hl] at h; cases h
    | cons a t =>
      rw [hl] at h
      have ha : a = 47 := (show (47 : UInt8) = a by simpa using h).symm
      have hsz : 0 < s.size := by rw [← size_list, hl]; simp
      have := hj 0 hsz
      apply this
      have e : s.data[0]! = a := by
        have : s.data[0]? = some a := by rw [← Array.getElem?_toList, hl]; rfl
        simp [getElem!_def, this]
      rw [e, ha]; rfl
  · rw [h2]; omega

theorem okPath_parts {s : ByteArray} (h : okPath s = true) : s.size ≤ 4096 ∧ 0 ≤ Lib.lastIndexByte s 47 := by
  unfold okPath pathB at h
  simp only [Bool.and_eq_true, Bool.or_eq_true, Bool.not_eq_true'] at h
  obtain ⟨h1, h2⟩ := h
  rcases h1 with h1 | ⟨⟨h3, h4⟩, _⟩
  · rw [h2] at h1; cases h1
  · exact ⟨by simpa using h3, prefix_last h4⟩

theorem parentOf_size {s : ByteArray} (h : s.size ≤ 4096) : (parentOf s).size ≤ maxLen := by
  unfold parentOf maxLen
  split
  · decide
  · simp only [ByteArray.size_extract]; omega

set_option maxHeartbeats 400000 in
theorem parentFault_any {B : Nat} {w : World} {d mb n : Nat} {rv : Value} {x : Ab} (h : IsDisk B w d mb n rv x) (s : ByteArray) (hs : okPath s = true) :
    Calls Tryz.prog 62 #[.pointer (some ⟨d, 0, none⟩), .string s] w fun e w' => e = .returned (.int .i64 (parentD x.D s)) ∧ Below w.heap.size w w' := by
  obtain ⟨p1, p2⟩ := okPath_parts hs
  have hsp := split_any s w p1 p2
  have hk := Kind_any (h.below (Below.refl _ w).drew) (parentOf s) (parentOf_size p1)
  have HP : Hid (parentD x.D s = if (kindD x.D (parentOf s) == 0) = true then 12 else if (kindD x.D (parentOf s) == 1) = true then 13 else 0) := by unfold Hid parentD; rfl
  generalize kindD x.D (parentOf s) = k at *
  generalize parentOf s = ps at *
  clear h hs p1 p2
  by_cases h0 : (k == 0) = true
  · go_enter Tryz.func62, Tryz.ntmps62
    go_wp2_with (first
      | (go_at_call 95; refine hsp.mono ?_; rintro e w' ⟨rfl, rfl⟩)
      | (go_at_call 22; refine hk.mono ?_; rintro e w' ⟨rfl, hb⟩))
    go_ret
    exact ⟨ret_int (by rw [HP.out, if_pos h0]), (Below.refl _ w).drew.trans hb⟩
  · rw [Bool.not_eq_true] at h0
    by_cases h1 : (k == 1) = true
    · go_enter Tryz.func62, Tryz.ntmps62
      go_wp2_with (first
        | (go_at_call 95; refine hsp.mono ?_; rintro e w' ⟨rfl, rfl⟩)
        | (go_at_call 22; refine hk.mono ?_; rintro e w' ⟨rfl, hb⟩))
      go_ret
      exact ⟨ret_int (by rw [HP.out, if_neg (by rw [h0]; decide), if_pos h1]), (Below.refl _ w).drew.trans hb⟩
    · rw [Bool.not_eq_true] at h1
      go_enter Tryz.func62, Tryz.ntmps62
      go_wp2_with (first
        | (go_at_call 95; refine hsp.mono ?_; rintro e w' ⟨rfl, rfl⟩)
        | (go_at_call 22; refine hk.mono ?_; rintro e w' ⟨rfl, hb⟩))
      go_ret
      exact ⟨ret_int (by rw [HP.out, if_neg (by rw [h0]; decide), if_neg (by rw [h1]; decide)]), (Below.refl _ w).drew.trans hb⟩

/-- Why no file can come to stand at a path. -/
def fileD (D : DataW Unit) (s : ByteArray) : Int := if (parentD D s != 0) = true then parentD D s else if (kindD D s == 2) = true then 13 else 0

theorem okPath_size {s : ByteArray} (h : okPath s = true) : s.size ≤ maxLen := by
  have := (okPath_parts h).1; unfold maxLen; omega

set_option maxHeartbeats 400000 in
theorem fileFault_any {B : Nat} {w : World} {d mb n : Nat} {rv : Value} {x : Ab} (h : IsDisk B w d mb n rv x) (s : ByteArray) (hs : okPath s = true) :
    Calls Tryz.prog 106 #[.pointer (some ⟨d, 0, none⟩), .string s] w fun e w' => e = .returned (.int .i64 (fileD x.D s)) ∧ Below w.heap.size w w' := by
  have hp := parentFault_any h s hs
  have hk : ∀ w1, Below w.heap.size w w1 → Calls Tryz.prog 22 #[.pointer (some ⟨d, 0, none⟩), .string s] w1 fun e w' => e = .returned (.int .i64 (kindD x.D s)) ∧ Below w1.heap.size w1 w' :=
    fun w1 hb => Kind_any (h.below hb) s (okPath_size hs)
  have HK : Hid (∀ w1, Below w.heap.size w w1 → Calls Tryz.prog 22 #[.pointer (some ⟨d, 0, none⟩), .string s] w1 fun e w' => e = .returned (.int .i64 (kindD x.D s)) ∧ Below w1.heap.size w1 w') := hk
  have HP : Hid (fileD x.D s = if (parentD x.D s != 0) = true then parentD x.D s else if (kindD x.D s == 2) = true then 13 else 0) := by unfold Hid fileD; rfl
  clear hk h hs
  generalize kindD x.D s = k at *
  generalize parentD x.D s = p at *
  by_cases h0 : (p != 0) = true
  · go_enter Tryz.func106, Tryz.ntmps106
    go_wp2_with (go_at_call 62; refine hp.mono ?_; rintro e w' ⟨rfl, hb⟩)
    go_ret
    exact ⟨ret_int (by rw [HP.out, if_pos h0]), hb⟩
  · rw [Bool.not_eq_true] at h0
    by_cases h1 : (k == 2) = true
    · go_enter Tryz.func106, Tryz.ntmps106
      go_wp2_with (first
        | (go_at_call 62; refine hp.mono ?_; rintro e w1 ⟨rfl, hb⟩)
        | (go_at_call 22; refine (HK.out _ hb).mono ?_; rintro e w' ⟨rfl, hb2⟩))
      go_ret
      exact ⟨ret_int (by rw [HP.out, if_neg (by rw [h0]; decide), if_pos h1]), hb.trans (hb2.mono hb.size)⟩
    · rw [Bool.not_eq_true] at h1
      go_enter Tryz.func106, Tryz.ntmps106
      go_wp2_with (first
        | (go_at_call 62; refine hp.mono ?_; rintro e w1 ⟨rfl, hb⟩)
        | (go_at_call 22; refine (HK.out _ hb).mono ?_; rintro e w' ⟨rfl, hb2⟩))
      go_ret
      exact ⟨ret_int (by rw [HP.out, if_neg (by rw [h0]; decide), if_neg (by rw [h1]; decide)]), hb.trans (hb2.mono hb.size)⟩

/-- The look-up without 'ok', the item written out. -/
theorem lookup_bare {P : Program} (w : World) {ops : Array Oper} {rest : List Oper} {o : Oper} {a : Act} {Q : Exit → Act → World → Prop} (hg : o.guard = none) (m x : Operand) (t : TypeId) (hop : o.op = Op.lookup t m x false)
    (k e : TypeId) (K : Keyed P k) (ht : P.underlying t = some (.map k e)) (hz : (zeroValue e).run P w = .ok (.agg #[.bool false, .string ByteArray.empty]) w) (b n : Nat) (D : DataW Unit)
    (hm : a.eval m = .map (some b)) (hown : w.ownsMap P k itemR b n D) (key : Value) (kl : Lit) (hx : a.eval x = key) (hkey : keyOf P k key = some kl)
    (hK : ∀ (c : Bool) (s : ByteArray), D.atKey kl zeroD = itemD c s → s.size ≤ maxLen → wpList P ops Q rest (a.put o.dst (.agg #[.bool c, .string s])) w) :
    wpList P ops Q (o :: rest) a w := by
  refine wpList_plain hg fun K' hK' => ?_
  obtain ⟨v, ps, hrun, hv⟩ := hown.lookup K ht hz (zd := zeroD) (zp := []) (itemR_mk (by decide)) hkey
  obtain ⟨c, s, rfl, h2, h3⟩ := itemR_inv hv
  unfold Oper.wp
  simp [execOp, hop, hm, hx, hrun, Result.andThen]
  exact hK' _ _ (hK c s (congrArg Prod.fst h2) h3)

/-- What Read answers: its error, and the bytes. -/
def readE (D : DataW Unit) (s : ByteArray) : Int := if pathB s = true then (if (kindD D s == 0) = true then 12 else if (kindD D s == 2) = true then 13 else 0) else 10
def readT (D : DataW Unit) (s : ByteArray) : ByteArray := if (readE D s == 0) = true then ⟨(itData (D.atKey (keyD s) zeroD)).toArray⟩ else ByteArray.empty

theorem fieldData (w : World) (c : Bool) (t : ByteArray) : (Instr.field 88 (.agg #[.bool c, .string t]) 1).run Tryz.prog w = .ok (.string t) w := by kernel_rfl

theorem bytes_mk (t : ByteArray) : (⟨t.data.toList.toArray⟩ : ByteArray) = t := by cases t; simp

theorem ret_read {s t : ByteArray} {a b : Int} (h : s = t) (k : a = b) : Ending.returned (.tuple #[.string s, .int .i64 a]) = .returned (.tuple #[.string t, .int .i64 b]) := by rw [h, k]

set_option maxHeartbeats 400000 in
theorem Read_any {B : Nat} {w : World} {d mb n : Nat} {rv : Value} {x : Ab} (h : IsDisk B w d mb n rv x) (s : ByteArray) (m : Int) (hm : w.cell? ⟨0, 0, none⟩ = some (.int .i64 m)) (hs : s.size ≤ maxLen) :
    Calls Tryz.prog 27 #[.pointer (some ⟨d, 0, none⟩), .string s] w fun e w' => e = .returned (.tuple #[.string (readT x.D s), .int .i64 (readE x.D s)]) ∧ Below w.heap.size w w' := by
  have hp := isPath_any s m w hm
  have HK : Hid (∀ w1, Below w.heap.size w w1 → Calls Tryz.prog 22 #[.pointer (some ⟨d, 0, none⟩), .string s] w1 fun e w' => e = .returned (.int .i64 (kindD x.D s)) ∧ Below w1.heap.size w1 w') :=
    fun w1 hb => Kind_any (h.below hb) s hs
  have HD : Hid (IsDisk B w d mb n rv x) := h
  have HKY : Hid (keyOf Tryz.prog 9 (.string s) = some (keyD s)) := keyOf_str hs
  clear h hs hm
  by_cases h0 : pathB s = true
  · by_cases h1 : (kindD x.D s == 0) = true
    · have HE : Hid (readE x.D s = 12) := by unfold Hid readE; rw [if_pos h0, if_pos h1]
      have HT : Hid (readT x.D s = ByteArray.empty) := by unfold Hid readT; rw [HE.out]; rfl
      generalize kindD x.D s = k at *
      go_enter Tryz.func27, Tryz.ntmps27
      go_wp2_with (first
        | (go_at_call 63; refine hp.mono ?_; rintro e w1 ⟨rfl, hb⟩)
        | (go_at_call 22; refine (HK.out _ hb).mono ?_; rintro e w' ⟨rfl, hb2⟩))
      go_ret2
      exact ⟨ret_read HT.out.symm HE.out.symm, hb.trans (hb2.mono hb.size)⟩
    · rw [Bool.not_eq_true] at h1
      by_cases h2 : (kindD x.D s == 2) = true
      · have HE : Hid (readE x.D s = 13) := by unfold Hid readE; rw [if_pos h0, if_neg (by rw [h1]; decide), if_pos h2]
        have HT : Hid (readT x.D s = ByteArray.empty) := by unfold Hid readT; rw [HE.out]; rfl
        generalize kindD x.D s = k at *
        go_enter Tryz.func27, Tryz.ntmps27
        go_wp2_with (first
          | (go_at_call 63; refine hp.mono ?_; rintro e w1 ⟨rfl, hb⟩)
          | (go_at_call 22; refine (HK.out _ hb).mono ?_; rintro e w' ⟨rfl, hb2⟩))
        go_ret2
        exact ⟨ret_read HT.out.symm HE.out.symm, hb.trans (hb2.mono hb.size)⟩
      · rw [Bool.not_eq_true] at h2
        have HE : Hid (readE x.D s = 0) := by unfold Hid readE; rw [if_pos h0, if_neg (by rw [h1]; decide), if_neg (by rw [h2]; decide)]
        have HT : Hid (readT x.D s = ⟨(itData (x.D.atKey (keyD s) zeroD)).toArray⟩) := by unfold Hid readT; rw [HE.out]; rfl
        generalize kindD x.D s = k at *
        have hfd := fieldData
        go_enter Tryz.func27, Tryz.ntmps27
        go_wp2_with (first
          | (go_at_call 63; refine hp.mono ?_; rintro e w1 ⟨rfl, hb⟩)
          | (go_at_call 22; refine (HK.out _ hb).mono ?_; rintro e w2 ⟨rfl, hb2⟩; have c0 := (HD.out.below (hb.trans (hb2.mono hb.size))).c0)
          | (at_lookup; refine lookup_bare _ rfl _ _ 60 rfl 9 88 keyed Tryz.underlying60 (zeroItem _) mb n x.D rfl (HD.out.below (hb.trans (hb2.mono hb.size))).own _ _ rfl HKY.out ?_; intro c t hat hts; have HA : Hid (x.D.atKey (keyD s) zeroD = itemD c t) := hat; clear hat hts))
        go_ret2
        exact ⟨ret_read (by rw [HT.out, HA.out, itData_mk, bytes_mk]) HE.out.symm, hb.trans (hb2.mono hb.size)⟩
  · rw [Bool.not_eq_true] at h0
    have HE : Hid (readE x.D s = 10) := by unfold Hid readE; rw [if_neg (by rw [h0]; decide)]
    have HT : Hid (readT x.D s = ByteArray.empty) := by unfold Hid readT; rw [HE.out]; rfl
    go_enter Tryz.func27, Tryz.ntmps27
    go_wp2_with (go_at_call 63; refine hp.mono ?_; rintro e w1 ⟨rfl, hb⟩)
    go_ret2
    exact ⟨ret_read HT.out.symm HE.out.symm, hb⟩

theorem cell_lt {w : World} {a : Addr} {v : Value} (h : w.cell? a = some v) : a.block < w.heap.size := by
  rcases Nat.lt_or_ge a.block w.heap.size with h1 | h1
  · exact h1
  · exfalso
    unfold World.cell? at h
    rw [Array.getElem?_eq_none h1] at h
    cases h

theorem cell_below {w w' : World} {a : Addr} {v : Value} (h : w.cell? a = some v) (hb : Below w.heap.size w w') : w'.cell? a = some v := by
  rw [hb.cell (cell_lt h)]; exact h

/-- What is wrong with a raw write, whatever its kind. -/
def writeD (left : Int) (ps : List ByteArray) : Int := if (left == 0) = true then 15 else if ps.all okPath = true then 0 else 10
end Go.Proofs.YtpaoimhebheaeaaGreatDoor.Dk
