/- DdL, laid in one text. -/
import Derived.BigQuiet
import Derived.ChangeOld
import Derived.Deep.AppendLies
import Derived.Deep.DeepHandedRow
import Derived.Deep.DeepWitnessRowRef
import Derived.Deep.Light
import Derived.Deep.QuietTactic
import Derived.Deep.RegionHeld3
import Derived.Deep.RegionLaw
import Derived.Deep.Slices
import Derived.LaidMore
import Derived.Laws.StructEq
import Derived.Lay
import Derived.Maps.Ext
import Derived.Maps.OwnSet
import Derived.Maps.RangeWalk
import Derived.OpenShut
import Derived.ProofKit
import Derived.SevenTiedAt
import Derived.Shelf.Vars
import Derived.Sort.KeysCollected
import Derived.Sort.OwnSorted
import Derived.Stop.Joined
import Derived.Test.YtpaoimhebheaeaaGreatDoorCards
import Derived.Test.YtpaoimhebheaeaaGreatDoorDkShelf
import Derived.Test.YtpaoimhebheaeaaGreatDoorDkSort
import Derived.Test.YtpaoimhebheaeaaGreatDoorRows
import Derived.Test.YtpaoimhebheaeaaGreatDoorTie
import Derived.WalkKit
import Derived.WalkLawsBesides
import Derived.WalkSpells
import Derived.Test.YtpaoimhebheaeaaGreatDoorMg15
namespace Go.Proofs.YtpaoimhebheaeaaGreatDoor.Dk
open Go.RowKit Go.Maps Go.WideMaps Go.WideElems
set_option maxRecDepth 100000

/-- Where a child's name begins. -/
def fromOf (s : ByteArray) : Nat := if (s.toList == [47]) = true then 1 else s.size + 1
/-- What stands ahead of a child's name. -/
def headOf (s : ByteArray) : List UInt8 := if (s.toList == [47]) = true then [47] else s.data.toList ++ [47]

theorem extract_size0 (s : ByteArray) (i : Nat) (h : i ≤ s.size) : (s.extract 0 i).size = i := by rw [ByteArray.size_extract]; omega

theorem root_eq {s : ByteArray} (h : (s.toList == [47]) = true) : s.data.toList = [47] := by
  rw [toList_data] at h; simpa using h

theorem child_split {f : ByteArray} (h : okPath f = true) : ∃ i, i < f.size ∧ fromOf (parentOf f) = i + 1 ∧ nameOf f = f.extract (i + 1) f.size ∧ f.data.toList = headOf (parentOf f) ++ (nameOf f).data.toList := by
  obtain ⟨i, hi, he, hc, _⟩ := last_at (okPath_parts h).2
  have hr := h
  rw [okPath_rest] at hr
  simp only [Bool.and_eq_true, decide_eq_true_eq, beq_iff_eq] at hr
  obtain ⟨⟨⟨h2, _⟩, hh⟩, hrest⟩ := hr
  have hn : nameOf f = f.extract (i + 1) f.size := by unfold nameOf; rw [he]; simp
  have hp : parentOf f = if (i : Int) = 0 then ⟨#[47]⟩ else f.extract 0 i := by unfold parentOf; rw [he]; simp
  have hsz : f.data.toList.length = f.size := by rw [Array.length_toList]; rfl
  have htake : f.data.toList.take (i + 1) ++ f.data.toList.drop (i + 1) = f.data.toList := List.take_append_drop _ _
  have hname : (nameOf f).data.toList = f.data.toList.drop (i + 1) := by
    rw [hn, extract_list]
    rw [List.take_of_length_le]
    rw [List.length_drop, hsz]; omega
  have hgi : f.data.toList[i]'(by rw [hsz]; exact hi) = 47 := by rw [← hc]; rfl
  have hsnoc : f.data.toList.take (i + 1) = f.data.toList.take i ++ [47] := by
    rw [List.take_succ_eq_append_getElem (by rw [hsz]; exact hi), hgi]
  by_cases h0 : i = 0
  · subst h0
    have hp' : parentOf f = ⟨#[47]⟩ := by rw [hp]; rfl
    have hroot : ((parentOf f).toList == [47]) = true := by rw [hp', toList_data]; rfl
    refine ⟨0, hi, by unfold fromOf; rw [if_pos hroot], hn, ?_⟩
    unfold headOf
    rw [if_pos hroot, hname]
    refine htake.symm.trans ?_
    rw [hsnoc]
    simp
  · have hp' : parentOf f = f.extract 0 i := by rw [hp, if_neg (by omega)]
    have hnr : ((parentOf f).toList == [47]) = false := by
      rw [Bool.eq_false_iff]
      intro hroot
      have h1 := root_eq hroot
      have hs1 : (parentOf f).size = 1 := by
        show (parentOf f).data.size = 1
        rw [← Array.length_toList, h1]; rfl
      rw [hp', extract_size0 f i (by omega)] at hs1
      subst hs1
      have hd : f.data.toList.drop 1 = 47 :: f.data.toList.drop 2 := by
        rw [List.drop_eq_getElem_cons (by rw [hsz]; exact hi), hgi]
      rw [hd, restOk_slash] at hrest
      have : partB [] = false := rfl
      rw [this] at hrest
      cases hrest
    have hsz' : (parentOf f).size = i := by rw [hp', extract_size0 f i (by omega)]
    refine ⟨i, hi, by unfold fromOf; rw [if_neg (by rw [hnr]; decide), hsz'], hn, ?_⟩
    unfold headOf
    rw [if_neg (by rw [hnr]; decide), hname, hp', extract_list]
    refine htake.symm.trans ?_
    rw [hsnoc]
    simp

theorem before_prefix : ∀ (P a b : List UInt8), bytesBefore (P ++ a) (P ++ b) = bytesBefore a b
  | [], _, _ => rfl
  | c :: P, a, b => by
    have ih := before_prefix P a b
    show (decide (c < c) || c == c && bytesBefore (P ++ a) (P ++ b)) = _
    rw [ih]
    simp

/-- What is in a directory. -/
def kidsD (D : DataW Unit) (s : ByteArray) : List Fl := (filesD D).filter fun f => (parentOf f.1).toList == s.toList
/-- The names in it. -/
def namesD (D : DataW Unit) (s : ByteArray) : List (List UInt8) := (kidsD D s).map fun f => (nameOf f.1).data.toList

theorem mem_kids {D : DataW Unit} {s : ByteArray} {f : Fl} : f ∈ kidsD D s ↔ f ∈ filesD D ∧ parentOf f.1 = s := by
  unfold kidsD
  rw [List.mem_filter]
  exact ⟨fun ⟨h1, h2⟩ => ⟨h1, beq_bytes.1 h2⟩, fun ⟨h1, h2⟩ => ⟨h1, beq_bytes.2 h2⟩⟩

theorem names_rising {D : DataW Unit} (hP : Plain D) (s : ByteArray) : (namesD D s).Pairwise fun a b => bytesBefore a b = true := by
  unfold namesD
  rw [List.pairwise_map]
  have hr : (kidsD D s).Pairwise fun x y => bytesBefore x.1.data.toList y.1.data.toList = true := List.Pairwise.filter _ hP.good.rise
  refine hr.imp_of_mem fun {f g} hf hg hb => ?_
  obtain ⟨hf1, hf2⟩ := mem_kids.1 hf
  obtain ⟨hg1, hg2⟩ := mem_kids.1 hg
  obtain ⟨_, _, _, _, ef⟩ := child_split (hP.ok hf1)
  obtain ⟨_, _, _, _, eg⟩ := child_split (hP.ok hg1)
  rw [hf2] at ef
  rw [hg2] at eg
  rw [ef, eg, before_prefix] at hb
  exact hb

theorem before_le : ∀ {a b : List UInt8}, bytesBefore a b = true → a ≤ b
  | [], [], h => by simp [bytesBefore] at h
  | [], _ :: _, _ => by simp
  | _ :: _, [], h => by simp [bytesBefore] at h
  | x :: a, y :: b, h => by
    unfold bytesBefore at h
    simp only [Bool.or_eq_true, Bool.and_eq_true, decide_eq_true_eq, beq_iff_eq] at h
    rw [List.cons_le_cons_iff]
    rcases h with h | ⟨h1, h2⟩
    · exact Or.inl h
    · exact Or.inr ⟨h1, before_le h2⟩

theorem names_sorted {D : DataW Unit} (hP : Plain D) (s : ByteArray) {ss : List (List UInt8)} (h : ss.Perm (namesD D s)) : (ss.mergeSort fun x y => decide (x ≤ y)) = namesD D s := by
  have hm := mergeSort_of_perm h
  show ss.mergeSort leB = _
  rw [hm]
  refine List.mergeSort_of_pairwise ((names_rising hP s).imp fun {a b} h => ?_)
  simp only [leB, decide_eq_true_eq]
  exact before_le h

/-- What List answers: its error. -/
def listE (D : DataW Unit) (s : ByteArray) : Int := if pathB s = true then (if (kindD D s == 0) = true then 12 else if (kindD D s == 1) = true then 13 else 0) else 10
/-- The names that it tells. -/
def listT (D : DataW Unit) (s : ByteArray) : List (List UInt8) := if (listE D s == 0) = true then namesD D s else []

/-- What has been collected of a list. -/
def CollL (L : List Fl) (left : Lit → Bool) (fs : List Fl) : Prop := fs.Nodup ∧ ∀ f : Fl, f ∈ fs ↔ (f ∈ L ∧ left (keyD f.1) = false)

theorem CollL.start {L : List Fl} {has : Lit → Bool} (hm : ∀ f : Fl, f ∈ L → has (keyD f.1) = true) : CollL L has [] :=
  ⟨List.nodup_nil, fun f => ⟨fun h => (by cases h), fun ⟨h1, h2⟩ => (by rw [hm f h1] at h2; cases h2)⟩⟩

theorem CollL.step {L : List Fl} {left : Lit → Bool} {fs : List Fl} (h : CollL L left fs) {f : Fl} (hf : f ∈ L) (hl : left (keyD f.1) = true) (hu : ∀ g ∈ L, g.1 = f.1 → g = f) : CollL L (fun z => left z && !z.sameKey (keyD f.1)) (fs ++ [f]) := by
  have hnew : f ∉ fs := fun hx => by have := ((h.2 f).1 hx).2; rw [hl] at this; cases this
  refine ⟨List.nodup_append.2 ⟨h.1, by simp, fun a ha b hb => by simp only [List.mem_singleton] at hb; subst hb; exact fun e => hnew (e ▸ ha)⟩, fun g => ?_⟩
  rw [List.mem_append, List.mem_singleton, h.2 g]
  by_cases e : g.1 = f.1
  · constructor
    · rintro (⟨h1, h2⟩ | rfl)
      · exact ⟨h1, by simp [h2]⟩
      · exact ⟨hf, by simp [(sameKey_keyD _ _).2 rfl]⟩
    · rintro ⟨h1, _⟩
      exact Or.inr (hu g h1 e)
  · have : (keyD g.1).sameKey (keyD f.1) = false := by rw [Bool.eq_false_iff]; intro h; exact e ((sameKey_keyD _ _).1 h)
    simp only [this, Bool.not_false, Bool.and_true]
    constructor
    · rintro (h1 | rfl)
      · exact h1
      · exact absurd rfl e
    · exact Or.inl

theorem CollL.skip {L : List Fl} {left : Lit → Bool} {fs : List Fl} (h : CollL L left fs) {q : ByteArray} (hu : ∀ g ∈ L, g.1 ≠ q) : CollL L (fun z => left z && !z.sameKey (keyD q)) fs := by
  refine ⟨h.1, fun g => ?_⟩
  rw [h.2 g]
  constructor
  · rintro ⟨h1, h2⟩; exact ⟨h1, by simp [h2]⟩
  · rintro ⟨h1, h2⟩
    have : (keyD g.1).sameKey (keyD q) = false := by rw [Bool.eq_false_iff]; intro h; exact hu g h1 ((sameKey_keyD _ _).1 h)
    simp only [this, Bool.not_false, Bool.and_true] at h2
    exact ⟨h1, h2⟩

theorem CollL.perm {L : List Fl} {left : Lit → Bool} {fs : List Fl} (h : CollL L left fs) (hd : L.Nodup) (hl : ∀ kl, left kl = false) : fs.Perm L :=
  (List.perm_ext_iff_of_nodup h.1 hd).2 fun f => by rw [h.2 f, hl]; simp

theorem infoStr : (Tryz.prog.info? 9).map (fun i => (i.zero, i.size, i.bytes)) = some (some (.string ByteArray.empty), 1, 16) := by kernel_rfl

/-- A list of texts in memory. -/
def nmCells (fs : List Fl) : List Value := fs.map fun f => Value.string (nameOf f.1)
theorem nmCells_enc (fs : List Fl) : nmCells fs = (fs.map fun f => (nameOf f.1).data.toList).map encStr := by
  unfold nmCells
  rw [List.map_map]
  apply List.map_congr_left
  intro f _
  simp only [Function.comp, encStr]
theorem nmCells_snoc (fs : List Fl) (f : Fl) : nmCells (fs ++ [f]) = nmCells fs ++ [.string (nameOf f.1)] := by simp [nmCells]

theorem sortS_some {w : World} {base g cap : Nat} {cur : Array Value} {ss ts : List (List UInt8)} (hbase : base ≤ g) (hb : w.heap[g]? = some (.cells cur 9 (0, 0))) (h1 : ss.length ≤ cap) (h2 : cap ≤ maxLen) (h3 : cur.size = cap * 1) (h4 : cur.toList.take ss.length = ss.map encStr)
    (hts : (ss.mergeSort fun x y => decide (x ≤ y)) = ts) (hsz : ss.length < 4611686018427387904) :
    Calls Tryz.prog 112 #[.slice (some ⟨g, 0, none⟩) ss.length cap] w fun e w' => e = .returned (.tuple #[]) ∧
      w'.ownsRow base 9 1 (.slice (some ⟨g, 0, none⟩) ss.length cap) ss.length (ts.map encStr) ∧ w.grownBy w' (some g) := by
  have hcon := Tryz.slices_Sort_string g 0 cap ss w (holds_of_block hb h4) (Array.getElem?_eq_some_iff.1 hb).1 hsz
  refine hcon.mono ?_
  rintro e w' ⟨rfl, n, os, rfl⟩
  rw [hts]
  exact ⟨rfl, ownsRow_sorted (by rw [← hts]; simp) hbase hb h1 h2 h3, grownBy_sorted _⟩

set_option maxHeartbeats 2000000 in
theorem List_any {B : Nat} {w : World} {d mb n : Nat} {rv : Value} {x : Ab} (h : IsDisk B w d mb n rv x) (s : ByteArray) (m : Int) (hm : w.cell? ⟨0, 0, none⟩ = some (.int .i64 m)) (hs : s.size ≤ maxLen) (hn : n ≤ 2199023255552) :
    Calls Tryz.prog 80 #[.pointer (some ⟨d, 0, none⟩), .string s] w fun e w' => ∃ ao cap, e = .returned (.tuple #[.slice ao (listT x.D s).length cap, .int .i64 (listE x.D s)]) ∧
      w'.ownsRow w.heap.size 9 1 (.slice ao (listT x.D s).length cap) (listT x.D s).length ((listT x.D s).map encStr) ∧ Below w.heap.size w w' := by
  obtain ⟨i0, hi, hz0, hz1, hz2⟩ := info_parts infoStr
  have hp := isPath_any s m w hm
  have HK : Hid (∀ w1, Below w.heap.size w w1 → Calls Tryz.prog 22 #[.pointer (some ⟨d, 0, none⟩), .string s] w1 fun e w' => e = .returned (.int .i64 (kindD x.D s)) ∧ Below w1.heap.size w1 w') :=
    fun w1 hb => Kind_any (h.below hb) s hs
  have HD : Hid (IsDisk B w d mb n rv x) := h
  have hP := h.plain
  have HP : Hid (Plain x.D) := hP
  clear h hs hm hP
  by_cases h0 : pathB s = false
  · have HE : Hid (listE x.D s = 10) := by unfold Hid listE; rw [if_neg (by rw [h0]; decide)]
    have HT : Hid (listT x.D s = []) := by unfold Hid listT; rw [HE.out]; rfl
    go_enter Tryz.func80, Tryz.ntmps80
    go_wp2_with (go_at_call 63; refine hp.mono ?_; rintro e w1 ⟨rfl, hb⟩)
    go_ret2
    rw [HE.out, HT.out]
    exact ⟨none, 0, rfl, ⟨rfl, Or.inl ⟨rfl, rfl⟩⟩, hb⟩
  rw [Bool.not_eq_false] at h0
  have he : listE x.D s = if (kindD x.D s == 0) = true then 12 else if (kindD x.D s == 1) = true then 13 else 0 := by unfold listE; rw [if_pos h0]
  rcases kindD_cases x.D s with k0 | k0 | k0
  · have HE : Hid (listE x.D s = 12) := by unfold Hid; rw [he, k0]; rfl
    have HT : Hid (listT x.D s = []) := by unfold Hid listT; rw [HE.out]; rfl
    rw [k0] at HK
    clear he
    go_enter Tryz.func80, Tryz.ntmps80
    go_wp2_with (first
      | (go_at_call 63; refine hp.mono ?_; rintro e w1 ⟨rfl, hb⟩)
      | (go_at_call 22; refine (HK.out _ hb).mono ?_; rintro e w' ⟨rfl, hb2⟩))
    go_ret2
    rw [HE.out, HT.out]
    exact ⟨none, 0, rfl, ⟨rfl, Or.inl ⟨rfl, rfl⟩⟩, hb.trans (hb2.mono hb.size)⟩
  · have HE : Hid (listE x.D s = 13) := by unfold Hid; rw [he, k0]; rfl
    have HT : Hid (listT x.D s = []) := by unfold Hid listT; rw [HE.out]; rfl
    rw [k0] at HK
    clear he
    go_enter Tryz.func80, Tryz.ntmps80
    go_wp2_with (first
      | (go_at_call 63; refine hp.mono ?_; rintro e w1 ⟨rfl, hb⟩)
      | (go_at_call 22; refine (HK.out _ hb).mono ?_; rintro e w' ⟨rfl, hb2⟩))
    go_ret2
    rw [HE.out, HT.out]
    exact ⟨none, 0, rfl, ⟨rfl, Or.inl ⟨rfl, rfl⟩⟩, hb.trans (hb2.mono hb.size)⟩
  have HE : Hid (listE x.D s = 0) := by unfold Hid; rw [he, k0]; rfl
  have HT : Hid (listT x.D s = namesD x.D s) := by unfold Hid listT; rw [HE.out]; rfl
  rw [k0] at HK
  clear he
  go_enter Tryz.func80, Tryz.ntmps80
  go_wp2_with (first
    | (go_at_call 63; refine hp.mono ?_; rintro e w1 ⟨rfl, hb⟩)
    | (go_at_call 22; refine (HK.out _ hb).mono ?_; rintro e wk ⟨rfl, hb2⟩; have HBK : Hid (Below w.heap.size w wk) := hb.trans (hb2.mono hb.size); have c0 := (HD.out.below HBK.out).c0; have HO : Hid (wk.ownsMap Tryz.prog 9 itemR mb n x.D) := (HD.out.below HBK.out).own)
    | (at_range; refine wpList_range_own _ rfl _ 60 rfl 9 88 keyed Tryz.underlying60 _ mb n _ rfl HO.out ?_; intro w0 hrg0 hg0 hs0; have HS0 : Hid (w0.heap.size = wk.heap.size + 1) := hs0; clear hs0))
  go_frame
  have hml := HO.out.lt
  have hwk := HBK.out.size
  have HNR : Hid ((filesD x.D).length ≤ n) := (files_facts HO.out).2.1
  clear hb hb2 c0
  go_loopw [6] (fun v wr => ∃ (left : Lit → Bool) (cnt : Nat) (fs : List Fl), wr.ranges Tryz.prog 9 itemR mb wk.heap.size n x.D left cnt ∧ wr.ownsRow (wk.heap.size + 1) 9 1 v fs.length (nmCells fs) ∧ (v = .slice none 0 0 → fs.length = 0) ∧
      CollL (kidsD x.D s) left fs ∧ (∀ kl, left kl = true → Maps.has x.D kl = true) ∧ Below wk.heap.size wk wr ∧ wk.heap.size + 1 ≤ wr.heap.size ∧ fs.length + cnt ≤ n)
    (fun _ wr => wr.rangeLeft mb wk.heap.size)
  case atStart =>
    exact ⟨_, _, [], hrg0, ⟨rfl, Or.inl ⟨rfl, rfl⟩⟩, fun _ => rfl, CollL.start (fun f hf => ((HP.out.good.mem f).1 (mem_kids.1 hf).1).1), fun kl hk => hk, (Below.refl _ _).grown hg0 (Nat.le_refl _) (fun j hj => by cases hj), Nat.le_of_eq HS0.out.symm, by simp only [List.length_nil, Nat.zero_add]; exact HO.out.size_le⟩
  case round =>
    obtain ⟨left, cnt, fs, hrg, hrow, hnil, hC, hlh, hb, hsz, hcn⟩ := hrel
    have HC : Hid (CollL (kidsD x.D s) left fs) := hC
    have HL : Hid (∀ kl, left kl = true → Maps.has x.D kl = true) := hlh
    have HR : Hid (wr.ranges Tryz.prog 9 itemR mb wk.heap.size n x.D left cnt) := hrg
    clear hC hlh hrg
    go_wp2_with (at_next; refine wpList_next_ranges _ rfl _ rfl 9 keyed itemR Value.string mkItem (fun key kl hk => by obtain ⟨x, hx, _⟩ := keyOf_inv hk; exact ⟨x, hx⟩) (fun v y hv => by obtain ⟨c, t, rfl, _⟩ := itemR_inv hv; exact ⟨⟨c, t⟩, rfl⟩) mb wk.heap.size n _ _ _ rfl HR.out ?_ ?_)
    · intro hc0 hl0
      have hp' : fs.Perm (kidsD x.D s) := HC.out.perm (List.Pairwise.filter _ (distinct HP.out.good.rise)) hl0
      have hlen : (namesD x.D s).length = fs.length := by unfold namesD; rw [List.length_map]; exact hp'.length_eq.symm
      rcases hrow.2 with ⟨rfl, h0'⟩ | ⟨g, cap, cur, rfl, hbase, hbk, h1, h2, h3, h4⟩
      · have hF : namesD x.D s = [] := List.eq_nil_of_length_eq_zero (by omega)
        have HF : Hid (listT x.D s = []) := by unfold Hid; rw [HT.out, hF]
        have hc := Tryz.slices_Sort_string_none none 0 wr
        clear hl0 hrow hlen hp' hF
        go_wp2_with (go_at_call 112; refine hc.mono ?_; rintro e w1 ⟨rfl, rfl⟩)
        go_ret2
        rw [HE.out, HF.out]
        exact ⟨none, 0, rfl, ⟨rfl, Or.inl ⟨rfl, rfl⟩⟩, HBK.out.trans (hb.mono hwk)⟩
      · have hss : (fs.map fun f => (nameOf f.1).data.toList).length = fs.length := List.length_map _
        have hts : ((fs.map fun f => (nameOf f.1).data.toList).mergeSort fun x y => decide (x ≤ y)) = namesD x.D s := names_sorted HP.out s (by unfold namesD; exact hp'.map _)
        have h4' : cur.toList.take (fs.map fun f => (nameOf f.1).data.toList).length = (fs.map fun f => (nameOf f.1).data.toList).map encStr := by
          rw [hss, ← nmCells_enc, ← h4, Nat.mul_one]
        have h1' : (fs.map fun f => (nameOf f.1).data.toList).length ≤ cap := by rw [hss]; exact h1
        have hz' : (fs.map fun f => (nameOf f.1).data.toList).length < 4611686018427387904 := by rw [hss]; omega
        have hc := sortS_some hbase hbk h1' h2 h3 h4' hts hz'
        rw [hss] at hc
        clear h4' h1' hz'
        have HLN : Hid ((listT x.D s).length = fs.length) := by unfold Hid; rw [HT.out]; exact hlen
        clear hl0 hrow hlen hp' hbk h1 h2 h3 h4 hnil hts hss
        go_wp2_with (go_at_call 112; refine hc.mono ?_; rintro e w1 ⟨rfl, hr, hg⟩)
        go_ret2
        rw [HE.out, HLN.out]
        refine ⟨some ⟨g, 0, none⟩, cap, rfl, ?_, HBK.out.trans ((hb.grown hg hb.size (fun j hj => by cases hj; omega)).mono hwk)⟩
        rw [HT.out]
        rcases hr.2 with ⟨hv, _⟩ | ⟨g', cap', cur', hv, hb', r⟩
        · cases hv
        · exact ⟨hr.1, Or.inr ⟨g', cap', cur', hv, by omega, r⟩⟩
    · intro q c kl yd yp w2 cnt2 hkey hlk hv hat hrg2 hlt hg2 hs2 hen
      obtain ⟨dr, dt⟩ := c
      simp only [mkItem] at hv hen ⊢
      obtain ⟨q', eq, rfl, _⟩ := keyOf_inv hkey
      obtain rfl : q = q' := by simpa using eq
      obtain ⟨dr', dt', ev, ey, hdt⟩ := itemR_inv hv
      obtain ⟨rfl, rfl⟩ : dr = dr' ∧ dt = dt' := by simpa using ev
      have hyd : yd = itemD dr dt := congrArg Prod.fst ey
      have hin : ((q, dr, dt) : Fl) ∈ filesD x.D := (HP.out.good.mem _).2 ⟨HL.out _ hlk, by rw [hat, hyd]⟩
      have hok := HP.out.ok hin
      have hun : ∀ g ∈ filesD x.D, g.1 = q → g = (q, dr, dt) := fun g hg e => uniq_key (HP.out.good.rise.imp fun {x y} h e => by rw [e, WideAt.bytes_irrefl] at h; cases h) hg hin e
      obtain ⟨p1, p2⟩ := okPath_parts hok
      have HR2 : Hid (w2.ranges Tryz.prog 9 itemR mb wk.heap.size n x.D (fun z => left z && !z.sameKey (keyD q)) cnt2) := hrg2
      have hb2 : Below wk.heap.size wk w2 := hb.grown hg2 hb.size (fun j hj => by cases hj; exact Nat.le_refl _)
      have hrow2 : w2.ownsRow (wk.heap.size + 1) 9 1 u6 fs.length (nmCells fs) := ownsRow_upd hrow (Upd.of_grown hg2) (fun k hk e => by have := (row_lt hrow hk).2; cases e; omega)
      have HW : Hid (wk.heap.size + 1 ≤ w2.heap.size) := Nat.le_trans hsz hg2.size
      have HRW : Hid (w2.drew.ownsRow (wk.heap.size + 1) 9 1 u6 fs.length (nmCells fs)) := ownsRow_upd hrow2 (Upd.refl (fun _ => False) w2).drew (fun _ _ f => f)
      have hsp := split_any q w2 p1 p2
      by_cases hu : ((parentOf q).toList == s.toList) = true
      · have hkid : ((q, dr, dt) : Fl) ∈ kidsD x.D s := mem_kids.2 ⟨hin, beq_bytes.1 hu⟩
        have HC2 : Hid (CollL (kidsD x.D s) (fun z => left z && !z.sameKey (keyD q)) (fs ++ [(q, dr, dt)])) := HC.out.step hkid hlk (fun g hg e => hun g (mem_kids.1 hg).1 e)
        have HNM : Hid (nmCells (fs ++ [(q, dr, dt)]) = nmCells fs ++ [.string (nameOf q)]) := nmCells_snoc fs (q, dr, dt)
        obtain ⟨pq, hpq⟩ : ∃ pq, pq = parentOf q := ⟨_, rfl⟩
        obtain ⟨nq, hnq⟩ : ∃ nq, nq = nameOf q := ⟨_, rfl⟩
        rw [← hpq, ← hnq] at hsp
        rw [← hpq] at hu
        rw [← hnq] at HNM
        have HN : Hid (∀ j u, [Value.string nq][j]? = some u → (w2.drew.alloc (.cells #[.string nq] 9)).cell? ((⟨w2.heap.size, 0, none⟩ : Addr).add j) = some u) :=
          World.news_of_block (cs := #[.string nq]) (t := 9) (fr := (0, 0)) (by
            show (w2.heap.push _)[w2.heap.size]? = _
            rw [Array.getElem?_push, if_pos rfl])
        clear hs2 hkey hlk hv hat hrg2 eq ev ey hyd hin hok hun hg2 hrow hrow2 hb hsz hdt hkid hpq hnq p1 p2
        go_wp2_with (first
          | (go_at_call 95; refine hsp.mono ?_; rintro e w3 ⟨rfl, rfl⟩)
          | (at_builtin; refine wpList_append_own _ rfl _ _ 71 rfl (wk.heap.size + 1) 9 i0 (.string ByteArray.empty) 1 16 Tryz.underlying71 hi hz0 hz1 hz2 rfl (by decide) _ _ _ rfl (HRW.out.alloc _) ⟨w2.heap.size, 0, none⟩ 1 1 [.string nq] rfl rfl HN.out (by simp [Value.oneCell']) (by unfold maxLen; omega) (by omega) (by have := HW.out; simp; omega) ?_; intro v' w3 hown' hg3 hnil3; go_frame)
          | fail)
        have hb4 : Below w2.heap.size w2 (w2.alloc (.cells #[.string nq] 9)).drew := ((Below.refl _ _).alloc (Nat.le_refl _) _).drew
        have hrg3 := ((HR2.out.kept (w' := w2.drew) (row := none) ⟨rfl, rfl, rfl, Nat.le_refl _, fun _ _ _ => rfl⟩ (by simp) (by simp)).alloc (.cells #[.string nq] 9)).kept hg3 (fun e => by have := (row_lt HRW.out e.symm).2; omega) (fun e => by have := (row_lt HRW.out e.symm).2; omega)
        refine ⟨⟨_, cnt2, fs ++ [(q, dr, dt)], hrg3, ?_, fun hv' => ?_, HC2.out, fun kl hl => ?_, ?_, ?_, ?_⟩, ?_⟩
        · rw [HNM.out, List.length_append]; exact hown'
        · have := (hnil3.1 hv').2; omega
        · simp only [Bool.and_eq_true] at hl; exact HL.out kl hl.1
        · exact (hb2.trans (hb4.mono hb2.size)).grown hg3 (by have := HW.out; simp; omega) (fun j hj => by have := (row_lt HRW.out hj).2; omega)
        · have := HW.out; have := hg3.size; have := hb4.size; omega
        · simp only [List.length_append, List.length_cons, List.length_nil]; omega
        · rw [hrg3.left_eq, HR.out.left_eq]; exact hlt
      · rw [Bool.not_eq_true] at hu
        have HC2 : Hid (CollL (kidsD x.D s) (fun z => left z && !z.sameKey (keyD q)) fs) := HC.out.skip fun g hg e => by
          have := (mem_kids.1 hg).2
          rw [e] at this
          rw [this] at hu
          simp at hu
        obtain ⟨pq, hpq⟩ : ∃ pq, pq = parentOf q := ⟨_, rfl⟩
        rw [← hpq] at hsp hu
        clear hs2 hkey hlk hv hat hrg2 eq ev ey hyd hin hok hun hg2 hrow hrow2 hb hsz hdt hpq p1 p2
        go_wp2_with (go_at_call 95; refine hsp.mono ?_; rintro e w3 ⟨rfl, rfl⟩)
        have hrg3 := HR2.out.kept (w' := w2.drew) (row := none) ⟨rfl, rfl, rfl, Nat.le_refl _, fun _ _ _ => rfl⟩ (by simp) (by simp)
        refine ⟨⟨_, cnt2, fs, hrg3, HRW.out, hnil, HC2.out, fun kl hl => ?_, hb2.drew, HW.out, ?_⟩, ?_⟩
        · simp only [Bool.and_eq_true] at hl; exact HL.out kl hl.1
        · omega
        · rw [hrg3.left_eq, HR.out.left_eq]; exact hlt

/-- The children among the first files. -/
def doneD (fs : List Fl) (s : ByteArray) (k : Nat) : List Fl := (fs.take k).filter fun f => (parentOf f.1).toList == s.toList

theorem done_zero (fs : List Fl) (s : ByteArray) : doneD fs s 0 = [] := by unfold doneD; simp
theorem done_all (D : DataW Unit) (s : ByteArray) (k : Nat) (h : (filesD D).length ≤ k) : doneD (filesD D) s k = kidsD D s := by unfold doneD kidsD; rw [List.take_of_length_le h]
theorem done_in (fs : List Fl) (s : ByteArray) (k : Nat) (hk : k < fs.length) (h : ((parentOf fs[k].1).toList == s.toList) = true) : doneD fs s (k + 1) = doneD fs s k ++ [fs[k]] := by
  unfold doneD
  rw [List.take_succ_eq_append_getElem hk, List.filter_append]
  simp [h]
theorem done_out (fs : List Fl) (s : ByteArray) (k : Nat) (hk : k < fs.length) (h : ((parentOf fs[k].1).toList == s.toList) = false) : doneD fs s (k + 1) = doneD fs s k := by
  unfold doneD
  rw [List.take_succ_eq_append_getElem hk, List.filter_append]
  simp [h]
theorem done_le (fs : List Fl) (s : ByteArray) (k : Nat) : (doneD fs s k).length ≤ fs.length := by
  unfold doneD
  exact Nat.le_trans (List.length_filter_le _ _) (by rw [List.length_take]; exact Nat.min_le_right _ _)

theorem done_less {D : DataW Unit} (hP : Plain D) (s : ByteArray) (k : Nat) (hk : k < (filesD D).length) (h : ((parentOf (filesD D)[k].1).toList == s.toList) = true) (j : Nat) (hj : j < (doneD (filesD D) s k).length) :
    Op.bytesLess (nameOf (doneD (filesD D) s k)[j].1).toList (nameOf (filesD D)[k].1).toList = true := by
  have hr := names_rising hP s
  unfold namesD kidsD at hr
  rw [List.pairwise_map] at hr
  have hsplit : (filesD D).filter (fun f => (parentOf f.1).toList == s.toList) = doneD (filesD D) s k ++ ((filesD D).drop k).filter (fun f => (parentOf f.1).toList == s.toList) := by
    unfold doneD
    rw [← List.filter_append, List.take_append_drop]
  rw [hsplit, List.pairwise_append] at hr
  have h1 := hr.2.2 _ (List.getElem_mem hj) (filesD D)[k] (by
    rw [List.mem_filter]
    refine ⟨?_, h⟩
    rw [List.drop_eq_getElem_cons hk]
    exact List.mem_cons_self)
  rw [less_before, toList_data, toList_data]
  exact h1

theorem nm_get (fs : List Fl) (j : Nat) (hj : j < fs.length) : (nmCells fs)[j]? = some (.string (nameOf fs[j].1)) := by
  unfold nmCells
  rw [List.getElem?_map, List.getElem?_eq_getElem hj]
  rfl
theorem nm_one (fs : List Fl) : ∀ u ∈ nmCells fs, u.oneCell' = true := by
  intro u hu
  unfold nmCells at hu
  obtain ⟨f, _, rfl⟩ := List.mem_map.1 hu
  rfl

theorem row_cap {w : World} {B t sz g n m cap : Nat} {xs : List Value} (h : w.ownsRow B t sz (.slice (some ⟨g, 0, none⟩) m cap) n xs) : m ≤ cap := by
  rcases h.2 with ⟨hv, _⟩ | ⟨g', cap', cur, hv, _, _, h1, _⟩
  · cases hv
  · cases hv; exact h1

theorem list_mid {w1 wo w4 : World} {g4 cap4 n q : Nat} {xs : List Value} (hb : Below w1.heap.size w1 wo) (hown : w4.ownsRow w1.heap.size 9 1 (.slice (some ⟨g4, 0, none⟩) (0 + n) cap4) (0 + n) ([] ++ xs)) (hgrow : (wo.drewN q).grownBy w4 (Value.slice none 0 0).ownBlock) (nm : ByteArray) :
    Hid (w4.ownsRow w1.heap.size 9 1 (.slice (some ⟨g4, 0, none⟩) n cap4) n xs) ∧ Hid (∀ j u, [Value.string nm][j]? = some u → (w4.alloc (.cells #[.string nm] 9)).cell? ((⟨w4.heap.size, 0, none⟩ : Addr).add j) = some u) ∧ Hid (Below w1.heap.size w1 w4) := by
  refine ⟨?_, ?_, ?_⟩
  · rw [Nat.zero_add, List.nil_append] at hown; exact hown
  · exact World.news_of_block (cs := #[.string nm]) (t := 9) (fr := (0, 0)) (by
      show (w4.heap.push _)[w4.heap.size]? = _
      rw [Array.getElem?_push, if_pos rfl])
  · exact (hb.trans ((⟨rfl, rfl, rfl, Nat.le_refl _, fun _ _ => rfl⟩ : Below wo.heap.size wo (wo.drewN q)).mono hb.size)).grown hgrow hb.size (fun j hj => by cases hj)

theorem root_size {s : ByteArray} (h : (s.toList == [47]) = true) : s.size ≤ 4096 := by
  have h1 := congrArg List.length (root_eq h)
  rw [Array.length_toList] at h1
  exact Nat.le_trans (Nat.le_of_eq h1) (by decide)

theorem drewN_eq (w : World) (q : Nat) : Below w.heap.size w (w.drewN q) := ⟨rfl, rfl, rfl, Nat.le_refl _, fun _ _ => rfl⟩

set_option maxHeartbeats 4000000 in
theorem rList_root {B : Nat} {w : World} {e : Nat} {lv rv : Value} {D : DataW Unit} {rs : List (Int × ByteArray × ByteArray)} {left : Int} (h : IsRef B w e lv rv (filesD D) rs left) (hP : Plain D) (s : ByteArray) (hs : s.size ≤ maxLen) (hlen : (filesD D).length < 2199023255552)
    (_hpb : pathB s = true) (hk2 : kindD D s = 2) (hroot : (s.toList == [47]) = true) :
    Calls Tryz.prog 43 #[.pointer (some ⟨e, 0, none⟩), .string s] w fun e' w' => ∃ ao cap, e' = .returned (.tuple #[.slice ao (namesD D s).length cap, .int .i64 0]) ∧
      w'.ownsRow w.heap.size 9 1 (.slice ao (namesD D s).length cap) (namesD D s).length ((namesD D s).map encStr) ∧ Below w.heap.size w w' := by
  obtain ⟨i0, hi, hz0, hz1, hz2⟩ := info_parts infoStr
  have hp := rPath_any s w hs
  rw [okPath_root s hroot] at hp
  have hk := rKind_any h hP.good s (Nat.le_of_lt hlen)
  rw [hk2] at hk
  have HNM : Hid (nmCells (kidsD D s) = (namesD D s).map encStr) := by unfold Hid; rw [nmCells_enc]; rfl
  have HNL : Hid ((namesD D s).length = (kidsD D s).length) := by unfold Hid namesD; rw [List.length_map]
  have hsz0 : s.size ≤ 4096 := by exact root_size hroot
  have c0 := h.c0
  rcases h.lrow.2 with ⟨rfl, h0⟩ | ⟨g, cap, cur, rfl, hgB, _, _, _, _, _⟩
  · have hF : filesD D = [] := List.eq_nil_of_length_eq_zero h0
    have HF : Hid (namesD D s = []) := by unfold Hid namesD kidsD; rw [hF]; rfl
    clear h hP hk2 _hpb hF
    go_enter Tryz.func43, Tryz.ntmps43
    go_wp2_with (first
      | (go_at_call 52; refine hp.mono ?_; rintro e w1 ⟨rfl, rfl⟩)
      | (go_at_call 32; refine hk.mono ?_; rintro e w1 ⟨rfl, rfl⟩))
    go_loop [8, 9] (fun v i => v = .slice none 0 0 ∧ i = .int .i64 0) (fun _ _ => 0)
    case atStart => exact ⟨rfl, rfl⟩
    case round =>
      obtain ⟨rfl, rfl⟩ := hrel
      go_wp2
      go_ret2
      rw [HF.out]
      exact ⟨none, 0, rfl, ⟨rfl, Or.inl ⟨rfl, rfl⟩⟩, Below.refl _ _⟩
  have HCL : Hid (∀ wr, Below w.heap.size w wr → wr.cell? ⟨e, 0, none⟩ = some (.slice (some ⟨g, 0, none⟩) (filesD D).length cap) ∧ ∀ k (hk : k < (filesD D).length), wr.cell? ⟨g, k * 3, none⟩ = some (.string (filesD D)[k].1)) := by
    intro wr hb
    exact ⟨cell_below c0 hb, fun k hk => cell_below (file_cells h.lrow k hk).1 hb⟩
  have HP : Hid (Plain D) := hP
  have HDL : Hid (∀ k (hk : k < (filesD D).length), ((parentOf (filesD D)[k].1).toList == s.toList) = true → ∀ j (hj : j < (doneD (filesD D) s k).length), Op.bytesLess (nameOf (doneD (filesD D) s k)[j].1).toList (nameOf (filesD D)[k].1).toList = true) := fun k hk' hc j hj => done_less hP s k hk' hc j hj
  have HFR : Hid (∀ k (hk : k < (filesD D).length), ((parentOf (filesD D)[k].1).toList == s.toList) = true → 1 ≤ (filesD D)[k].1.size ∧ nameOf (filesD D)[k].1 = (filesD D)[k].1.extract 1 (filesD D)[k].1.size) := by
    intro k hk' hc
    obtain ⟨i, h1, h2, h3, _⟩ := child_split (hP.ok (List.getElem_mem hk'))
    rw [beq_bytes.1 hc] at h2
    have : fromOf s = 1 := by unfold fromOf; rw [if_pos hroot]
    rw [this] at h2
    rw [h3, ← h2]
    exact ⟨by omega, rfl⟩
  have HPA : Hid (∀ k (hk : k < (filesD D).length) (wr : World), Calls Tryz.prog 55 #[.string (filesD D)[k].1] wr fun e w' => e = .returned (.string (parentOf (filesD D)[k].1)) ∧ w' = wr) := fun k hk' wr => by
    have hok := hP.ok (List.getElem_mem hk')
    exact rParent_any _ wr (okPath_size hok) (okPath_parts hok).2
  have HSZ : Hid (∀ k (hk : k < (filesD D).length), (filesD D)[k].1.size ≤ 4096) := fun k hk' => (okPath_parts (hP.ok (List.getElem_mem hk'))).1
  have hdl : ∀ k, (doneD (filesD D) s k).length ≤ (filesD D).length := done_le (filesD D) s
  have HALL : Hid (∀ k, (filesD D).length ≤ k → doneD (filesD D) s k = kidsD D s) := fun k hk' => done_all D s k hk'
  clear h hP hk2 _hpb c0
  generalize hfs : filesD D = fs at *
  clear hfs
  go_enter Tryz.func43, Tryz.ntmps43
  go_wp2_with (first
    | (go_at_call 52; refine hp.mono ?_; rintro e w1 ⟨rfl, rfl⟩)
    | (go_at_call 32; refine hk.mono ?_; rintro e w1 ⟨rfl, rfl⟩))
  go_loopw [8, 9] (fun v i wr => ∃ k : Nat, k ≤ fs.length ∧ i = .int .i64 k ∧ wr.ownsRow w1.heap.size 9 1 v (doneD fs s k).length (nmCells (doneD fs s k)) ∧ ((doneD fs s k).length = 0 → v = .slice none 0 0) ∧ Below w1.heap.size w1 wr) (fun _ i _ => fs.length - (intOf i).toNat)
  case atStart => exact ⟨0, Nat.zero_le _, rfl, ⟨by rw [done_zero]; rfl, Or.inl ⟨rfl, by rw [done_zero]; rfl⟩⟩, fun _ => rfl, Below.refl _ _⟩
  case round =>
    obtain ⟨k, hkl, rfl, hrow, hnil, hb⟩ := hrel
    obtain ⟨c0, hcells⟩ := HCL.out wr hb
    have HROW := hide3 hrow
    have HNIL := hide3 hnil
    clear hrow hnil
    by_cases hlt : k < fs.length
    · have a0 := hcells k hlt
      have hpa := HPA.out k hlt wr
      have HC2 := hide3 hcells
      clear hcells
      by_cases hc : ((parentOf fs[k].1).toList == s.toList) = true
      · obtain ⟨hfr, hnm⟩ := HFR.out k hlt hc
        have hfz := HSZ.out k hlt
        have HNX : Hid (doneD fs s (k + 1) = doneD fs s k ++ [fs[k]]) := done_in fs s k hlt hc
        have HLS : Hid (∀ j (hj : j < (doneD fs s k).length), Op.bytesLess (nameOf (doneD fs s k)[j].1).toList (fs[k].1.extract 1 fs[k].1.size).toList = true) := by
          intro j hj
          rw [← hnm]; exact HDL.out k hlt hc j hj
        have HNC : Hid (nmCells (doneD fs s k ++ [fs[k]]) = nmCells (doneD fs s k) ++ [.string (fs[k].1.extract 1 fs[k].1.size)]) := by unfold Hid; rw [nmCells_snoc, hnm]
        have hdk := hdl k
        have hcn : ((parentOf fs[k].1).toList != s.toList) = false := by simp [bne, hc]
        clear hnm
        obtain ⟨pq, hpq⟩ : ∃ pq, pq = parentOf fs[k].1 := ⟨_, rfl⟩
        rw [← hpq] at hpa hc hcn
        clear hpq
        obtain ⟨f, hf⟩ : ∃ f, f = fs[k] := ⟨_, rfl⟩
        rw [← hf] at HNC HNX hpa a0 hfr hfz HLS
        clear hf
        obtain ⟨dn, hdn⟩ : ∃ dn, dn = doneD fs s k := ⟨_, rfl⟩
        rw [← hdn] at HROW HNX HLS HNC hdk HNIL
        clear hdn
        rcases HROW.out.2 with ⟨rfl, hn0⟩ | ⟨g2, cap2, cur2, rfl, hg2, hbk, r1, r2, r3, r4⟩
        · have hdn0 : dn = [] := List.eq_nil_of_length_eq_zero hn0
          subst hdn0
          go_wp2_with (go_at_call 55; refine hpa.mono ?_; rintro e w2 ⟨rfl, rfl⟩)
          obtain ⟨wo, rfl⟩ : ∃ wo : World, wo = w2 := ⟨_, rfl⟩
          have hgd : decide ((0 : Int) < (0 : Int)) = false := by decide
          go_loopw [12] (fun at' wi => at' = .int .i64 0 ∧ ∃ q, wi = wo.drewN q) (fun _ _ => 0)
          case atStart => exact ⟨rfl, 0, rfl⟩
          case round =>
            obtain ⟨rfl, q, rfl⟩ := hrel
            go_wp2_with fail
            go_quiet (fail)
            have hbq : Below wo.heap.size wo (wo.drewN (q + nq)) := drewN_eq _ _
            have hwo := hb.size
            have HNW : Hid (∀ j u, [Value.string (f.1.extract 1 f.1.size)][j]? = some u → ((wo.drewN (q + nq)).alloc (.cells #[.string (f.1.extract 1 f.1.size)] 9)).cell? ((⟨wo.heap.size, 0, none⟩ : Addr).add j) = some u) :=
              World.news_of_block (cs := #[.string (f.1.extract 1 f.1.size)]) (t := 9) (fr := (0, 0)) (by
                show (wo.heap.push _)[wo.heap.size]? = _
                rw [Array.getElem?_push, if_pos rfl])
            go_wp2_with (first
              | (at_builtin; refine wpList_append_lies _ rfl _ _ 71 rfl w1.heap.size 9 i0 (.string ByteArray.empty) 1 16 Tryz.underlying71 hi hz0 hz1 hz2 rfl (by decide) (.slice none 0 0) 0 [] rfl ⟨rfl, Or.inl ⟨rfl, rfl⟩⟩ ⟨wo.heap.size, 0, none⟩ 1 1 [.string (f.1.extract 1 f.1.size)] rfl rfl HNW.out (by simp [Value.oneCell']) (by decide) (by decide) (by decide) (by simp; omega) (wo.heap.size + 1) (by simp) ?_; intro g3 cap3 w3 hown3 hgrow3 hat3 hlt3; have hc3 : 1 ≤ cap3 := row_cap hown3; have hc4 : ¬ cap3 < 1 := by omega)
              | fail)
            refine ⟨⟨k + 1, by omega, by go_num, ?_, ?_, ?_⟩, by simp [intOf]; omega⟩
            · rw [HNX.out, HNC.out]; exact hown3
            · rw [HNX.out]; simp
            · exact ((hb.trans (hbq.mono hb.size)).alloc (by simp; omega) _).grown hgrow3 (by simp; omega) (fun j hj => by cases hj)
        · have hpos : 0 < dn.length := by
            rcases Nat.eq_zero_or_pos dn.length with q | q
            · have := HNIL.out q; cases this
            · exact q
          have HCN : Hid (∀ j (hj : j < dn.length), wr.cell? ⟨g2, j, none⟩ = some (.string (nameOf dn[j].1))) := fun j hj => row_cells HROW.out j _ (nm_get dn j hj)
          clear hbk r3 r4
          go_wp2_with (go_at_call 55; refine hpa.mono ?_; rintro e w2 ⟨rfl, rfl⟩)
          obtain ⟨wo, rfl⟩ : ∃ wo : World, wo = w2 := ⟨_, rfl⟩
          go_loopw [12] (fun at' wi => ∃ j : Nat, j ≤ dn.length ∧ at' = .int .i64 j ∧ ∃ q, wi = wo.drewN q) (fun at' _ => dn.length - (intOf at').toNat)
          case atStart => exact ⟨0, Nat.zero_le _, rfl, 0, rfl⟩
          case round =>
            obtain ⟨j, hjl, rfl, q, rfl⟩ := hrel
            by_cases hj : j < dn.length
            · have b0 := HCN.out j hj
              have hl := HLS.out j hj
              generalize nameOf dn[j].1 = nj at *
              go_wp2_with fail
              go_quiet (fail)
              go_wp2
              exact ⟨⟨j + 1, by omega, by go_num, q + nq, rfl⟩, by simp [intOf]; omega⟩
            · obtain rfl : j = dn.length := by omega
              have hgd : decide ((dn.length : Int) < (dn.length : Int)) = false := by simp
              go_wp2_with fail
              go_quiet (fail)
              have hbq : Below wo.heap.size wo (wo.drewN (q + nq)) := drewN_eq _ _
              have hw2 := hb.size
              have HN1 : Hid (∀ j u, (nmCells dn)[j]? = some u → (wo.drewN (q + nq)).cell? ((⟨g2, 0, none⟩ : Addr).add j) = some u) := by
                intro j u hu
                exact HROW.out.cells rfl j u hu
              have hnl : (nmCells dn).length = dn.length * 1 := by unfold nmCells; simp
              have tokA : True := trivial
              go_wp2_with (first
                | (at_builtin; have _t := tokA; clear _t tokA; refine wpList_append_lies _ rfl _ _ 71 rfl w1.heap.size 9 i0 (.string ByteArray.empty) 1 16 Tryz.underlying71 hi hz0 hz1 hz2 rfl (by decide) (.slice none 0 0) 0 [] rfl ⟨rfl, Or.inl ⟨rfl, rfl⟩⟩ ⟨g2, 0, none⟩ dn.length cap2 (nmCells dn) rfl hnl HN1.out (nm_one dn) hpos (by unfold maxLen; omega) (by omega) (by simp; omega) wo.heap.size (by simp) ?_; intro g4 cap4 w4 hown4 hgrow4 hat4 hlt4; obtain ⟨HO4, HN2, HB4⟩ := list_mid hb hown4 hgrow4 (f.1.extract 1 f.1.size))
                | (at_builtin; refine wpList_append_lies _ rfl _ _ 71 rfl w1.heap.size 9 i0 (.string ByteArray.empty) 1 16 Tryz.underlying71 hi hz0 hz1 hz2 rfl (by decide) (.slice (some ⟨g4, 0, none⟩) dn.length cap4) dn.length (nmCells dn) rfl (HO4.out.alloc _) ⟨w4.heap.size, 0, none⟩ 1 1 [.string (f.1.extract 1 f.1.size)] rfl rfl HN2.out (by simp [Value.oneCell']) (by decide) (by unfold maxLen; omega) (by omega) (by have := HB4.out.size; simp; omega) (w4.heap.size + 1) (by simp) ?_; intro g5 cap5 w5 hown5 hgrow5 hat5 hlt5; have hc5 : dn.length + 1 ≤ cap5 := row_cap hown5; have hc6 : ¬ cap5 < dn.length + 1 := by omega)
                | fail)
              all_goals
                refine ⟨⟨k + 1, by omega, by go_num, ?_, ?_, ?_⟩, by simp [intOf]; omega⟩
                · rw [HNX.out, HNC.out, List.length_append]; exact hown5
                · rw [HNX.out]; simp
                · have hz4 := HB4.out.size
                  exact (HB4.out.alloc hz4 _).grown hgrow5 (by simp; omega) (fun j hj => (row_lt HO4.out hj).2)
      · rw [Bool.not_eq_true] at hc
        have hcn : ((parentOf fs[k].1).toList != s.toList) = true := by simp [bne, hc]
        have HNX : Hid (doneD fs s (k + 1) = doneD fs s k) := done_out fs s k hlt hc
        obtain ⟨pq, hpq⟩ : ∃ pq, pq = parentOf fs[k].1 := ⟨_, rfl⟩
        rw [← hpq] at hpa hc hcn
        clear hpq
        obtain ⟨f, hf⟩ : ∃ f, f = fs[k].1 := ⟨_, rfl⟩
        rw [← hf] at hpa a0
        clear hf
        go_wp2_with (go_at_call 55; refine hpa.mono ?_; rintro e w2 ⟨rfl, rfl⟩)
        refine ⟨⟨k + 1, by omega, by go_num, ?_, ?_, hb⟩, by simp [intOf]; omega⟩
        · rw [HNX.out]; exact HROW.out
        · rw [HNX.out]; exact HNIL.out
    · have hrow' : wr.ownsRow w1.heap.size 9 1 u8 (namesD D s).length ((namesD D s).map encStr) := by
        rw [← HNM.out, HNL.out, ← HALL.out k (by omega)]; exact HROW.out
      rcases hrow'.2 with ⟨rfl, hn0⟩ | ⟨g2, cap2, cur2, rfl, hg2, hbk, r1, r2, r3, r4⟩
      · have HRW := hide3 hrow'
        clear hrow'
        go_wp2
        go_ret2
        rw [hn0] at HRW
        exact ⟨none, 0, rfl, HRW.out, hb⟩
      · have HRW := hide3 hrow'
        clear hrow' hbk r1 r2 r3 r4
        go_wp2
        go_ret2
        exact ⟨some ⟨g2, 0, none⟩, cap2, rfl, HRW.out, hb⟩

set_option maxHeartbeats 4000000 in
theorem rList_deep {B : Nat} {w : World} {e : Nat} {lv rv : Value} {D : DataW Unit} {rs : List (Int × ByteArray × ByteArray)} {left : Int} (h : IsRef B w e lv rv (filesD D) rs left) (hP : Plain D) (s : ByteArray) (hs : s.size ≤ maxLen) (hlen : (filesD D).length < 2199023255552)
    (hpb : pathB s = true) (hk2 : kindD D s = 2) (hroot : (s.toList == [47]) = false) :
    Calls Tryz.prog 43 #[.pointer (some ⟨e, 0, none⟩), .string s] w fun e' w' => ∃ ao cap, e' = .returned (.tuple #[.slice ao (namesD D s).length cap, .int .i64 0]) ∧
      w'.ownsRow w.heap.size 9 1 (.slice ao (namesD D s).length cap) (namesD D s).length ((namesD D s).map encStr) ∧ Below w.heap.size w w' := by
  obtain ⟨i0, hi, hz0, hz1, hz2⟩ := info_parts infoStr
  have hp := rPath_any s w hs
  rw [okPath_not_root s hroot, hpb] at hp
  have hk := rKind_any h hP.good s (Nat.le_of_lt hlen)
  rw [hk2] at hk
  have HNM : Hid (nmCells (kidsD D s) = (namesD D s).map encStr) := by unfold Hid; rw [nmCells_enc]; rfl
  have HNL : Hid ((namesD D s).length = (kidsD D s).length) := by unfold Hid namesD; rw [List.length_map]
  have hsz0 : s.size ≤ 4096 := by exact (okPath_parts (by rw [okPath_not_root s hroot]; exact hpb)).1
  have c0 := h.c0
  rcases h.lrow.2 with ⟨rfl, h0⟩ | ⟨g, cap, cur, rfl, hgB, _, _, _, _, _⟩
  · have hF : filesD D = [] := List.eq_nil_of_length_eq_zero h0
    have HF : Hid (namesD D s = []) := by unfold Hid namesD kidsD; rw [hF]; rfl
    clear h hP hk2 hpb hF
    go_enter Tryz.func43, Tryz.ntmps43
    go_wp2_with (first
      | (go_at_call 52; refine hp.mono ?_; rintro e w1 ⟨rfl, rfl⟩)
      | (go_at_call 32; refine hk.mono ?_; rintro e w1 ⟨rfl, rfl⟩))
    go_loop [8, 9] (fun v i => v = .slice none 0 0 ∧ i = .int .i64 0) (fun _ _ => 0)
    case atStart => exact ⟨rfl, rfl⟩
    case round =>
      obtain ⟨rfl, rfl⟩ := hrel
      go_wp2
      go_ret2
      rw [HF.out]
      exact ⟨none, 0, rfl, ⟨rfl, Or.inl ⟨rfl, rfl⟩⟩, Below.refl _ _⟩
  have HCL : Hid (∀ wr, Below w.heap.size w wr → wr.cell? ⟨e, 0, none⟩ = some (.slice (some ⟨g, 0, none⟩) (filesD D).length cap) ∧ ∀ k (hk : k < (filesD D).length), wr.cell? ⟨g, k * 3, none⟩ = some (.string (filesD D)[k].1)) := by
    intro wr hb
    exact ⟨cell_below c0 hb, fun k hk => cell_below (file_cells h.lrow k hk).1 hb⟩
  have HP : Hid (Plain D) := hP
  have HDL : Hid (∀ k (hk : k < (filesD D).length), ((parentOf (filesD D)[k].1).toList == s.toList) = true → ∀ j (hj : j < (doneD (filesD D) s k).length), Op.bytesLess (nameOf (doneD (filesD D) s k)[j].1).toList (nameOf (filesD D)[k].1).toList = true) := fun k hk' hc j hj => done_less hP s k hk' hc j hj
  have HFR : Hid (∀ k (hk : k < (filesD D).length), ((parentOf (filesD D)[k].1).toList == s.toList) = true → (s.size + 1) ≤ (filesD D)[k].1.size ∧ nameOf (filesD D)[k].1 = (filesD D)[k].1.extract (s.size + 1) (filesD D)[k].1.size) := by
    intro k hk' hc
    obtain ⟨i, h1, h2, h3, _⟩ := child_split (hP.ok (List.getElem_mem hk'))
    rw [beq_bytes.1 hc] at h2
    have : fromOf s = (s.size + 1) := by unfold fromOf; rw [if_neg (by rw [hroot]; decide)]
    rw [this] at h2
    rw [h3, ← h2]
    exact ⟨by omega, rfl⟩
  have HPA : Hid (∀ k (hk : k < (filesD D).length) (wr : World), Calls Tryz.prog 55 #[.string (filesD D)[k].1] wr fun e w' => e = .returned (.string (parentOf (filesD D)[k].1)) ∧ w' = wr) := fun k hk' wr => by
    have hok := hP.ok (List.getElem_mem hk')
    exact rParent_any _ wr (okPath_size hok) (okPath_parts hok).2
  have HSZ : Hid (∀ k (hk : k < (filesD D).length), (filesD D)[k].1.size ≤ 4096) := fun k hk' => (okPath_parts (hP.ok (List.getElem_mem hk'))).1
  have hdl : ∀ k, (doneD (filesD D) s k).length ≤ (filesD D).length := done_le (filesD D) s
  have HALL : Hid (∀ k, (filesD D).length ≤ k → doneD (filesD D) s k = kidsD D s) := fun k hk' => done_all D s k hk'
  clear h hP hk2 hpb c0
  generalize hfs : filesD D = fs at *
  clear hfs
  go_enter Tryz.func43, Tryz.ntmps43
  go_wp2_with (first
    | (go_at_call 52; refine hp.mono ?_; rintro e w1 ⟨rfl, rfl⟩)
    | (go_at_call 32; refine hk.mono ?_; rintro e w1 ⟨rfl, rfl⟩))
  go_loopw [8, 9] (fun v i wr => ∃ k : Nat, k ≤ fs.length ∧ i = .int .i64 k ∧ wr.ownsRow w1.heap.size 9 1 v (doneD fs s k).length (nmCells (doneD fs s k)) ∧ ((doneD fs s k).length = 0 → v = .slice none 0 0) ∧ Below w1.heap.size w1 wr) (fun _ i _ => fs.length - (intOf i).toNat)
  case atStart => exact ⟨0, Nat.zero_le _, rfl, ⟨by rw [done_zero]; rfl, Or.inl ⟨rfl, by rw [done_zero]; rfl⟩⟩, fun _ => rfl, Below.refl _ _⟩
  case round =>
    obtain ⟨k, hkl, rfl, hrow, hnil, hb⟩ := hrel
    obtain ⟨c0, hcells⟩ := HCL.out wr hb
    have HROW := hide3 hrow
    have HNIL := hide3 hnil
    clear hrow hnil
    by_cases hlt : k < fs.length
    · have a0 := hcells k hlt
      have hpa := HPA.out k hlt wr
      have HC2 := hide3 hcells
      clear hcells
      by_cases hc : ((parentOf fs[k].1).toList == s.toList) = true
      · obtain ⟨hfr, hnm⟩ := HFR.out k hlt hc
        have hfz := HSZ.out k hlt
        have HNX : Hid (doneD fs s (k + 1) = doneD fs s k ++ [fs[k]]) := done_in fs s k hlt hc
        have HLS : Hid (∀ j (hj : j < (doneD fs s k).length), Op.bytesLess (nameOf (doneD fs s k)[j].1).toList (fs[k].1.extract (s.size + 1) fs[k].1.size).toList = true) := by
          intro j hj
          rw [← hnm]; exact HDL.out k hlt hc j hj
        have HNC : Hid (nmCells (doneD fs s k ++ [fs[k]]) = nmCells (doneD fs s k) ++ [.string (fs[k].1.extract (s.size + 1) fs[k].1.size)]) := by unfold Hid; rw [nmCells_snoc, hnm]
        have hdk := hdl k
        have hcn : ((parentOf fs[k].1).toList != s.toList) = false := by simp [bne, hc]
        clear hnm
        obtain ⟨pq, hpq⟩ : ∃ pq, pq = parentOf fs[k].1 := ⟨_, rfl⟩
        rw [← hpq] at hpa hc hcn
        clear hpq
        obtain ⟨f, hf⟩ : ∃ f, f = fs[k] := ⟨_, rfl⟩
        rw [← hf] at HNC HNX hpa a0 hfr hfz HLS
        clear hf
        obtain ⟨dn, hdn⟩ : ∃ dn, dn = doneD fs s k := ⟨_, rfl⟩
        rw [← hdn] at HROW HNX HLS HNC hdk HNIL
        clear hdn
        rcases HROW.out.2 with ⟨rfl, hn0⟩ | ⟨g2, cap2, cur2, rfl, hg2, hbk, r1, r2, r3, r4⟩
        · have hdn0 : dn = [] := List.eq_nil_of_length_eq_zero hn0
          subst hdn0
          go_wp2_with (go_at_call 55; refine hpa.mono ?_; rintro e w2 ⟨rfl, rfl⟩)
          obtain ⟨wo, rfl⟩ : ∃ wo : World, wo = w2 := ⟨_, rfl⟩
          have hgd : decide ((0 : Int) < (0 : Int)) = false := by decide
          go_loopw [12] (fun at' wi => at' = .int .i64 0 ∧ ∃ q, wi = wo.drewN q) (fun _ _ => 0)
          case atStart => exact ⟨rfl, 0, rfl⟩
          case round =>
            obtain ⟨rfl, q, rfl⟩ := hrel
            go_wp2_with fail
            go_quiet (fail)
            have hbq : Below wo.heap.size wo (wo.drewN (q + nq)) := drewN_eq _ _
            have hwo := hb.size
            have HNW : Hid (∀ j u, [Value.string (f.1.extract (s.size + 1) f.1.size)][j]? = some u → ((wo.drewN (q + nq)).alloc (.cells #[.string (f.1.extract (s.size + 1) f.1.size)] 9)).cell? ((⟨wo.heap.size, 0, none⟩ : Addr).add j) = some u) :=
              World.news_of_block (cs := #[.string (f.1.extract (s.size + 1) f.1.size)]) (t := 9) (fr := (0, 0)) (by
                show (wo.heap.push _)[wo.heap.size]? = _
                rw [Array.getElem?_push, if_pos rfl])
            go_wp2_with (first
              | (at_builtin; refine wpList_append_lies _ rfl _ _ 71 rfl w1.heap.size 9 i0 (.string ByteArray.empty) 1 16 Tryz.underlying71 hi hz0 hz1 hz2 rfl (by decide) (.slice none 0 0) 0 [] rfl ⟨rfl, Or.inl ⟨rfl, rfl⟩⟩ ⟨wo.heap.size, 0, none⟩ 1 1 [.string (f.1.extract (s.size + 1) f.1.size)] rfl rfl HNW.out (by simp [Value.oneCell']) (by decide) (by decide) (by decide) (by simp; omega) (wo.heap.size + 1) (by simp) ?_; intro g3 cap3 w3 hown3 hgrow3 hat3 hlt3; have hc3 : 1 ≤ cap3 := row_cap hown3; have hc4 : ¬ cap3 < 1 := by omega)
              | fail)
            refine ⟨⟨k + 1, by omega, by go_num, ?_, ?_, ?_⟩, by simp [intOf]; omega⟩
            · rw [HNX.out, HNC.out]; exact hown3
            · rw [HNX.out]; simp
            · exact ((hb.trans (hbq.mono hb.size)).alloc (by simp; omega) _).grown hgrow3 (by simp; omega) (fun j hj => by cases hj)
        · have hpos : 0 < dn.length := by
            rcases Nat.eq_zero_or_pos dn.length with q | q
            · have := HNIL.out q; cases this
            · exact q
          have HCN : Hid (∀ j (hj : j < dn.length), wr.cell? ⟨g2, j, none⟩ = some (.string (nameOf dn[j].1))) := fun j hj => row_cells HROW.out j _ (nm_get dn j hj)
          clear hbk r3 r4
          go_wp2_with (go_at_call 55; refine hpa.mono ?_; rintro e w2 ⟨rfl, rfl⟩)
          obtain ⟨wo, rfl⟩ : ∃ wo : World, wo = w2 := ⟨_, rfl⟩
          go_loopw [12] (fun at' wi => ∃ j : Nat, j ≤ dn.length ∧ at' = .int .i64 j ∧ ∃ q, wi = wo.drewN q) (fun at' _ => dn.length - (intOf at').toNat)
          case atStart => exact ⟨0, Nat.zero_le _, rfl, 0, rfl⟩
          case round =>
            obtain ⟨j, hjl, rfl, q, rfl⟩ := hrel
            by_cases hj : j < dn.length
            · have b0 := HCN.out j hj
              have hl := HLS.out j hj
              generalize nameOf dn[j].1 = nj at *
              go_wp2_with fail
              go_quiet (fail)
              go_wp2
              exact ⟨⟨j + 1, by omega, by go_num, q + nq, rfl⟩, by simp [intOf]; omega⟩
            · obtain rfl : j = dn.length := by omega
              have hgd : decide ((dn.length : Int) < (dn.length : Int)) = false := by simp
              go_wp2_with fail
              go_quiet (fail)
              have hbq : Below wo.heap.size wo (wo.drewN (q + nq)) := drewN_eq _ _
              have hw2 := hb.size
              have HN1 : Hid (∀ j u, (nmCells dn)[j]? = some u → (wo.drewN (q + nq)).cell? ((⟨g2, 0, none⟩ : Addr).add j) = some u) := by
                intro j u hu
                exact HROW.out.cells rfl j u hu
              have hnl : (nmCells dn).length = dn.length * 1 := by unfold nmCells; simp
              have tokA : True := trivial
              go_wp2_with (first
                | (at_builtin; have _t := tokA; clear _t tokA; refine wpList_append_lies _ rfl _ _ 71 rfl w1.heap.size 9 i0 (.string ByteArray.empty) 1 16 Tryz.underlying71 hi hz0 hz1 hz2 rfl (by decide) (.slice none 0 0) 0 [] rfl ⟨rfl, Or.inl ⟨rfl, rfl⟩⟩ ⟨g2, 0, none⟩ dn.length cap2 (nmCells dn) rfl hnl HN1.out (nm_one dn) hpos (by unfold maxLen; omega) (by omega) (by simp; omega) wo.heap.size (by simp) ?_; intro g4 cap4 w4 hown4 hgrow4 hat4 hlt4; obtain ⟨HO4, HN2, HB4⟩ := list_mid hb hown4 hgrow4 (f.1.extract (s.size + 1) f.1.size))
                | (at_builtin; refine wpList_append_lies _ rfl _ _ 71 rfl w1.heap.size 9 i0 (.string ByteArray.empty) 1 16 Tryz.underlying71 hi hz0 hz1 hz2 rfl (by decide) (.slice (some ⟨g4, 0, none⟩) dn.length cap4) dn.length (nmCells dn) rfl (HO4.out.alloc _) ⟨w4.heap.size, 0, none⟩ 1 1 [.string (f.1.extract (s.size + 1) f.1.size)] rfl rfl HN2.out (by simp [Value.oneCell']) (by decide) (by unfold maxLen; omega) (by omega) (by have := HB4.out.size; simp; omega) (w4.heap.size + 1) (by simp) ?_; intro g5 cap5 w5 hown5 hgrow5 hat5 hlt5; have hc5 : dn.length + 1 ≤ cap5 := row_cap hown5; have hc6 : ¬ cap5 < dn.length + 1 := by omega)
                | fail)
              all_goals
                refine ⟨⟨k + 1, by omega, by go_num, ?_, ?_, ?_⟩, by simp [intOf]; omega⟩
                · rw [HNX.out, HNC.out, List.length_append]; exact hown5
                · rw [HNX.out]; simp
                · have hz4 := HB4.out.size
                  exact (HB4.out.alloc hz4 _).grown hgrow5 (by simp; omega) (fun j hj => (row_lt HO4.out hj).2)
      · rw [Bool.not_eq_true] at hc
        have hcn : ((parentOf fs[k].1).toList != s.toList) = true := by simp [bne, hc]
        have HNX : Hid (doneD fs s (k + 1) = doneD fs s k) := done_out fs s k hlt hc
        obtain ⟨pq, hpq⟩ : ∃ pq, pq = parentOf fs[k].1 := ⟨_, rfl⟩
        rw [← hpq] at hpa hc hcn
        clear hpq
        obtain ⟨f, hf⟩ : ∃ f, f = fs[k].1 := ⟨_, rfl⟩
        rw [← hf] at hpa a0
        clear hf
        go_wp2_with (go_at_call 55; refine hpa.mono ?_; rintro e w2 ⟨rfl, rfl⟩)
        refine ⟨⟨k + 1, by omega, by go_num, ?_, ?_, hb⟩, by simp [intOf]; omega⟩
        · rw [HNX.out]; exact HROW.out
        · rw [HNX.out]; exact HNIL.out
    · have hrow' : wr.ownsRow w1.heap.size 9 1 u8 (namesD D s).length ((namesD D s).map encStr) := by
        rw [← HNM.out, HNL.out, ← HALL.out k (by omega)]; exact HROW.out
      rcases hrow'.2 with ⟨rfl, hn0⟩ | ⟨g2, cap2, cur2, rfl, hg2, hbk, r1, r2, r3, r4⟩
      · have HRW := hide3 hrow'
        clear hrow'
        go_wp2
        go_ret2
        rw [hn0] at HRW
        exact ⟨none, 0, rfl, HRW.out, hb⟩
      · have HRW := hide3 hrow'
        clear hrow' hbk r1 r2 r3 r4
        go_wp2
        go_ret2
        exact ⟨some ⟨g2, 0, none⟩, cap2, rfl, HRW.out, hb⟩

set_option maxHeartbeats 1000000 in
theorem rList_any {B : Nat} {w : World} {e : Nat} {lv rv : Value} {D : DataW Unit} {rs : List (Int × ByteArray × ByteArray)} {left : Int} (h : IsRef B w e lv rv (filesD D) rs left) (hP : Plain D) (s : ByteArray) (hs : s.size ≤ maxLen) (hlen : (filesD D).length < 2199023255552) :
    Calls Tryz.prog 43 #[.pointer (some ⟨e, 0, none⟩), .string s] w fun e' w' => ∃ ao cap, e' = .returned (.tuple #[.slice ao (listT D s).length cap, .int .i64 (listE D s)]) ∧
      w'.ownsRow w.heap.size 9 1 (.slice ao (listT D s).length cap) (listT D s).length ((listT D s).map encStr) ∧ Below w.heap.size w w' := by
  by_cases h2 : pathB s = false
  · have h1 : (s.toList == [47]) = false := by
      rw [Bool.eq_false_iff]; intro hr; rw [pathB_root s hr] at h2; cases h2
    have hp := rPath_any s w hs
    rw [okPath_not_root s h1, h2] at hp
    have HE : Hid (listE D s = 10) := by unfold Hid listE; rw [if_neg (by rw [h2]; decide)]
    have HT : Hid (listT D s = []) := by unfold Hid listT; rw [HE.out]; rfl
    clear h hP
    go_enter Tryz.func43, Tryz.ntmps43
    go_wp2_with (go_at_call 52; refine hp.mono ?_; rintro e w1 ⟨rfl, rfl⟩)
    go_ret2
    rw [HE.out, HT.out]
    exact ⟨none, 0, rfl, ⟨rfl, Or.inl ⟨rfl, rfl⟩⟩, Below.refl _ _⟩
  rw [Bool.not_eq_false] at h2
  have he : listE D s = if (kindD D s == 0) = true then 12 else if (kindD D s == 1) = true then 13 else 0 := by unfold listE; rw [if_pos h2]
  by_cases k2 : kindD D s = 2
  · have hE : listE D s = 0 := by rw [he, k2]; rfl
    have hT : listT D s = namesD D s := by unfold listT; rw [hE]; rfl
    rw [hE, hT]
    by_cases h1 : (s.toList == [47]) = true
    · exact rList_root h hP s hs hlen h2 k2 h1
    · rw [Bool.not_eq_true] at h1
      exact rList_deep h hP s hs hlen h2 k2 h1
  have h1 : (s.toList == [47]) = false := by
    rw [Bool.eq_false_iff]; intro hr; exact k2 (kindD_root D s hr)
  have hp := rPath_any s w hs
  rw [okPath_not_root s h1, h2] at hp
  have hk := rKind_any h hP.good s (Nat.le_of_lt hlen)
  rcases kindD_cases D s with k0 | k0 | k0
  · have HE : Hid (listE D s = 12) := by unfold Hid; rw [he, k0]; rfl
    have HT : Hid (listT D s = []) := by unfold Hid listT; rw [HE.out]; rfl
    rw [k0] at hk
    clear h hP he k2
    go_enter Tryz.func43, Tryz.ntmps43
    go_wp2_with (first
      | (go_at_call 52; refine hp.mono ?_; rintro e w1 ⟨rfl, rfl⟩)
      | (go_at_call 32; refine hk.mono ?_; rintro e w1 ⟨rfl, rfl⟩))
    go_ret2
    rw [HE.out, HT.out]
    exact ⟨none, 0, rfl, ⟨rfl, Or.inl ⟨rfl, rfl⟩⟩, Below.refl _ _⟩
  · have HE : Hid (listE D s = 13) := by unfold Hid; rw [he, k0]; rfl
    have HT : Hid (listT D s = []) := by unfold Hid listT; rw [HE.out]; rfl
    rw [k0] at hk
    clear h hP he k2
    go_enter Tryz.func43, Tryz.ntmps43
    go_wp2_with (first
      | (go_at_call 52; refine hp.mono ?_; rintro e w1 ⟨rfl, rfl⟩)
      | (go_at_call 32; refine hk.mono ?_; rintro e w1 ⟨rfl, rfl⟩))
    go_ret2
    rw [HE.out, HT.out]
    exact ⟨none, 0, rfl, ⟨rfl, Or.inl ⟨rfl, rfl⟩⟩, Below.refl _ _⟩
  · exact absurd k0 k2
end Go.Proofs.YtpaoimhebheaeaaGreatDoor.Dk
