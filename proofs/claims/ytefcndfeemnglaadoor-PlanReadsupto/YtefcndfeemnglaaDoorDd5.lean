/- Dd: pieces of Ref7, Ref8, Ref9, Sound1, Ref11, List1, List2, Lives1, Both1, Both3, Both5, Ld1, Ld2. -/
import Derived.Deep.RegionHeld3
import Derived.Sort.KeysCollected
import Derived.Test.YtefcndfeemnglaaDoorDd4
namespace Go.Proofs.YtefcndfeemnglaaDoor.Dk
open Go.RowKit Go.Maps
set_option maxRecDepth 100000
open Go.RowKit Go.Maps Go.Sort
open Go.RowKit Go.Maps Go.WideMaps Go.WideElems Go.Sort Go.Shelf
open Go.RowKit Go.Maps Go.WideMaps Go.WideElems

/-- Each path's parent is the root or a directory. -/
def Sound (D : DataW Unit) : Prop := ∀ s, Maps.has D (keyD s) = true → kindD D (parentOf s) = 2

theorem parent_ne {s : ByteArray} (h : okPath s = true) : parentOf s ≠ s := by
  obtain ⟨i, hi, he, _, _⟩ := last_at (okPath_parts h).2
  unfold parentOf
  rw [he]
  intro e
  by_cases h0 : (i : Int) = 0
  · rw [if_pos h0] at e
    unfold okPath at h
    rw [← e] at h
    simp only [Bool.and_eq_true] at h
    exact absurd h.2 (by decide +kernel)
  · rw [if_neg h0] at e
    have := congrArg ByteArray.size e
    rw [ByteArray.size_extract] at this
    simp only [Int.toNat_natCast] at this
    omega

theorem kind_put_other {D : DataW Unit} {s q : ByteArray} {v : DataW Unit} (h : q ≠ s) : kindD (D.put (keyD s) v) q = kindD D q := by
  have hk : keyD q ≠ keyD s := fun e => h (keyD_inj e)
  unfold kindD
  rw [has_put_other hk, atKey_put_other hk]
theorem kind_del_other {D : DataW Unit} {s q : ByteArray} (h : q ≠ s) : kindD (D.del (keyD s)) q = kindD D q := by
  have hk : keyD q ≠ keyD s := fun e => h (keyD_inj e)
  unfold kindD
  rw [has_del_other hk, atKey_del_other hk]

theorem sound_put {D : DataW Unit} (hS : Sound D) {s : ByteArray} {v : DataW Unit} (hok : okPath s = true) (hp : kindD D (parentOf s) = 2) (hk : kindD D s ≠ 2) : Sound (D.put (keyD s) v) := by
  intro y hy
  by_cases e : y = s
  · subst e
    rw [kind_put_other (parent_ne hok)]; exact hp
  · rw [has_put_other (fun h => e (keyD_inj h))] at hy
    have h2 := hS y hy
    have : parentOf y ≠ s := fun h => hk (by rw [← h]; exact h2)
    rw [kind_put_other this]; exact h2

theorem sound_del {D : DataW Unit} (hS : Sound D) {s : ByteArray} (hn : ∀ y, Maps.has D (keyD y) = true → parentOf y ≠ s) : Sound (D.del (keyD s)) := by
  intro y hy
  by_cases e : y = s
  · subst e; rw [has_del_same] at hy; cases hy
  · rw [has_del_other (fun h => e (keyD_inj h))] at hy
    rw [kind_del_other (hn y hy)]; exact hS y hy

theorem used_iff {D : DataW Unit} (hk : StrKeys D) (s : ByteArray) : usedD D s = true ↔ ∃ y, Maps.has D (keyD y) = true ∧ parentOf y = s := by
  unfold usedD
  rw [List.any_eq_true]
  constructor
  · rintro ⟨y, hy, e⟩
    exact ⟨y, (mem_keys hk y).1 hy, beq_bytes.1 e⟩
  · rintro ⟨y, hy, e⟩
    exact ⟨y, (mem_keys hk y).2 hy, beq_bytes.2 e⟩

theorem parentD_zero {D : DataW Unit} {s : ByteArray} (h : (parentD D s != 0) = false) : kindD D (parentOf s) = 2 := by
  unfold parentD at h
  rcases kindD_cases D (parentOf s) with k | k | k
  · rw [k] at h; simp at h
  · rw [k] at h; simp at h
  · exact k

/-- A map's datum: entries by rising paths, each an item. -/
def Plain (D : DataW Unit) : Prop := ∃ es, D = .map es ∧ es.Pairwise (fun p q => p.1.before q.1 = true) ∧ ∀ p ∈ es, ∃ s c t, p = (keyD s, itemD c t) ∧ okPath s = true

theorem IsDisk.plain {B : Nat} {w : World} {d mb n : Nat} {rv : Value} {x : Ab} (h : IsDisk B w d mb n rv x) : Plain x.D := by
  obtain ⟨es, he, hr, _, hf⟩ := own_entries h.own
  refine ⟨es, he, hr, fun p hp => ?_⟩
  obtain ⟨s, c, t, rfl⟩ := hf p hp
  obtain ⟨s', hs, hok⟩ := h.keys (keyD s) (by rw [he, has_eq, List.any_eq_true]; exact ⟨_, hp, WideAt.sameKey_self (isKey s)⟩)
  rw [← keyD_inj hs] at hok
  exact ⟨s, c, t, rfl, hok⟩

theorem Plain.isMap {D : DataW Unit} (h : Plain D) : IsMap D := by obtain ⟨es, rfl, _⟩ := h; exact ⟨es, rfl⟩
theorem Plain.strKeys {D : DataW Unit} (h : Plain D) : StrKeys D := by
  obtain ⟨es, rfl, _, hf⟩ := h
  exact ⟨es, rfl, fun p hp => by obtain ⟨s, c, t, rfl, _⟩ := hf p hp; exact ⟨s, rfl⟩⟩
theorem Plain.del {D : DataW Unit} (h : Plain D) (k : Lit) : Plain (D.del k) := by
  obtain ⟨es, rfl, hr, hf⟩ := h
  exact ⟨_, rfl, hr.filter _, fun p hp => hf p (List.mem_filter.1 hp).1⟩

theorem Plain.good {D : DataW Unit} (h : Plain D) : Good D := by
  obtain ⟨es, rfl, hr, hf⟩ := h
  have hap := apart_of_rising hr
  have hit : ∀ s, Maps.has (.map es : DataW Unit) (keyD s) = true → ∃ c t, DataW.atKey (.map es) (keyD s) zeroD = itemD c t ∧ (keyD s, itemD c t) ∈ es ∧ okPath s = true := by
    intro s hs
    rw [has_eq, List.any_eq_true] at hs
    obtain ⟨p, hp, hk⟩ := hs
    obtain ⟨s', c, t, rfl, hok⟩ := hf p hp
    have es' : s' = s := (sameKey_keyD _ _).1 hk
    subst es'
    exact ⟨c, t, WideAt.atKey_mem zeroD (isKey s') hap hp, hp, hok⟩
  refine ⟨?_, fun f => ?_, fun s hs => ?_, fun kl hk => ?_⟩
  · unfold Rising filesD
    rw [List.pairwise_map]
    refine hr.imp_of_mem fun {p q} hp hq hb => ?_
    obtain ⟨s, c, t, rfl, _⟩ := hf p hp
    obtain ⟨s', c', t', rfl, _⟩ := hf q hq
    simp only [litB_key]
    exact hb
  · unfold filesD
    rw [List.mem_map]
    constructor
    · rintro ⟨p, hp, rfl⟩
      obtain ⟨s, c, t, rfl, _⟩ := hf p hp
      simp only [litB_key, itDir_mk, itData_mk, bytes_mk]
      refine ⟨?_, WideAt.atKey_mem _ (isKey s) hap hp⟩
      rw [has_eq, List.any_eq_true]
      exact ⟨_, hp, WideAt.sameKey_self (isKey s)⟩
    · rintro ⟨h1, h2⟩
      obtain ⟨c, t, hat, hm, _⟩ := hit f.1 h1
      rw [h2] at hat
      refine ⟨_, hm, ?_⟩
      rw [← hat, file_of]
  · obtain ⟨c, t, hat, _, _⟩ := hit s hs
    exact ⟨c, t, hat⟩
  · rw [has_eq, List.any_eq_true] at hk
    obtain ⟨p, hp, hk⟩ := hk
    obtain ⟨s, c, t, rfl, hok⟩ := hf p hp
    exact ⟨s, (WideAt.sameKey_eq hk).symm, hok⟩

/-- Where a child's name begins. -/
def fromOf (s : ByteArray) : Nat := if (s.toList == [47]) = true then 1 else s.size + 1
/-- What stands ahead of a child's name. -/
def headOf (s : ByteArray) : List UInt8 := if (s.toList == [47]) = true then [47] else s.data.toList ++ [47]

theorem extract_size0 (s : ByteArray) (i : Nat) (h : i ≤ s.size) : (s.extract 0 i).size = i := by rw [ByteArray.size_extract]; omega

theorem root_eq {s : ByteArray} (h : (s.toList == [47]) = true) : s.data.toList = [47] := by
  rw [toList_data] at h; simpa using h

theorem child_split {f : ByteArray} (h : okPath f = true) : ∃ i, i < f.size ∧ fromOf (parentOf f) = i + 1 ∧ nameOf f = f.extract (i + 1) f.size ∧ f.data.toList = headOf (parentOf f) ++ (nameOf f).data.toList := by
  obtain ⟨i, hi, he, hc, _⟩ := last_at (okPath_parts h).2
  have hr := h
  rw [okPath_rest] at hr
  simp only [Bool.and_eq_true, decide_eq_true_eq, beq_iff_eq] at hr
  obtain ⟨⟨⟨h2, _⟩, hh⟩, hrest⟩ := hr
  have hn : nameOf f = f.extract (i + 1) f.size := by unfold nameOf; rw [he]; simp
  have hp : parentOf f = if (i : Int) = 0 then ⟨#[47]⟩ else f.extract 0 i := by unfold parentOf; rw [he]; simp
  have hsz : f.data.toList.length = f.size := by rw [Array.length_toList]; rfl
  have htake : f.data.toList.take (i + 1) ++ f.data.toList.drop (i + 1) = f.data.toList := List.take_append_drop _ _
  have hname : (nameOf f).data.toList = f.data.toList.drop (i + 1) := by
    rw [hn, extract_list]
    rw [List.take_of_length_le]
    rw [List.length_drop, hsz]; omega
  have hgi : f.data.toList[i]'(by rw [hsz]; exact hi) = 47 := by rw [← hc]; rfl
  have hsnoc : f.data.toList.take (i + 1) = f.data.toList.take i ++ [47] := by
    rw [List.take_succ_eq_append_getElem (by rw [hsz]; exact hi), hgi]
  by_cases h0 : i = 0
  · subst h0
    have hp' : parentOf f = ⟨#[47]⟩ := by rw [hp]; rfl
    have hroot : ((parentOf f).toList == [47]) = true := by rw [hp', toList_data]; rfl
    refine ⟨0, hi, by unfold fromOf; rw [if_pos hroot], hn, ?_⟩
    unfold headOf
    rw [if_pos hroot, hname]
    refine htake.symm.trans ?_
    rw [hsnoc]
    simp
  · have hp' : parentOf f = f.extract 0 i := by rw [hp, if_neg (by omega)]
    have hnr : ((parentOf f).toList == [47]) = false := by
      rw [Bool.eq_false_iff]
      intro hroot
      have h1 := root_eq hroot
      have hs1 : (parentOf f).size = 1 := by
        show (parentOf f).data.size = 1
        rw [← Array.length_toList, h1]; rfl
      rw [hp', extract_size0 f i (by omega)] at hs1
      subst hs1
      have hd : f.data.toList.drop 1 = 47 :: f.data.toList.drop 2 := by
        rw [List.drop_eq_getElem_cons (by rw [hsz]; exact hi), hgi]
      rw [hd, restOk_slash] at hrest
      have : partB [] = false := rfl
      rw [this] at hrest
      cases hrest
    have hsz' : (parentOf f).size = i := by rw [hp', extract_size0 f i (by omega)]
    refine ⟨i, hi, by unfold fromOf; rw [if_neg (by rw [hnr]; decide), hsz'], hn, ?_⟩
    unfold headOf
    rw [if_neg (by rw [hnr]; decide), hname, hp', extract_list]
    refine htake.symm.trans ?_
    rw [hsnoc]
    simp

theorem before_prefix : ∀ (P a b : List UInt8), bytesBefore (P ++ a) (P ++ b) = bytesBefore a b
  | [], _, _ => rfl
  | c :: P, a, b => by
    have ih := before_prefix P a b
    show (decide (c < c) || c == c && bytesBefore (P ++ a) (P ++ b)) = _
    rw [ih]
    simp

/-- What is in a directory. -/
def kidsD (D : DataW Unit) (s : ByteArray) : List Fl := (filesD D).filter fun f => (parentOf f.1).toList == s.toList
/-- The names in it. -/
def namesD (D : DataW Unit) (s : ByteArray) : List (List UInt8) := (kidsD D s).map fun f => (nameOf f.1).data.toList

theorem mem_kids {D : DataW Unit} {s : ByteArray} {f : Fl} : f ∈ kidsD D s ↔ f ∈ filesD D ∧ parentOf f.1 = s := by
  unfold kidsD
  rw [List.mem_filter]
  exact ⟨fun ⟨h1, h2⟩ => ⟨h1, beq_bytes.1 h2⟩, fun ⟨h1, h2⟩ => ⟨h1, beq_bytes.2 h2⟩⟩

theorem Plain.ok {D : DataW Unit} (hP : Plain D) {f : Fl} (hf : f ∈ filesD D) : okPath f.1 = true := by
  obtain ⟨s', hs', hok'⟩ := hP.good.keys _ ((hP.good.mem f).1 hf).1
  rw [keyD_inj hs']; exact hok'

theorem names_rising {D : DataW Unit} (hP : Plain D) (s : ByteArray) : (namesD D s).Pairwise fun a b => bytesBefore a b = true := by
  unfold namesD
  rw [List.pairwise_map]
  have hr : (kidsD D s).Pairwise fun x y => bytesBefore x.1.data.toList y.1.data.toList = true := List.Pairwise.filter _ hP.good.rise
  refine hr.imp_of_mem fun {f g} hf hg hb => ?_
  obtain ⟨hf1, hf2⟩ := mem_kids.1 hf
  obtain ⟨hg1, hg2⟩ := mem_kids.1 hg
  obtain ⟨_, _, _, _, ef⟩ := child_split (hP.ok hf1)
  obtain ⟨_, _, _, _, eg⟩ := child_split (hP.ok hg1)
  rw [hf2] at ef
  rw [hg2] at eg
  rw [ef, eg, before_prefix] at hb
  exact hb

theorem before_le : ∀ {a b : List UInt8}, bytesBefore a b = true → a ≤ b
  | [], [], h => by simp [bytesBefore] at h
  | [], _ :: _, _ => by simp
  | _ :: _, [], h => by simp [bytesBefore] at h
  | x :: a, y :: b, h => by
    unfold bytesBefore at h
    simp only [Bool.or_eq_true, Bool.and_eq_true, decide_eq_true_eq, beq_iff_eq] at h
    rw [List.cons_le_cons_iff]
    rcases h with h | ⟨h1, h2⟩
    · exact Or.inl h
    · exact Or.inr ⟨h1, before_le h2⟩

theorem names_sorted {D : DataW Unit} (hP : Plain D) (s : ByteArray) {ss : List (List UInt8)} (h : ss.Perm (namesD D s)) : (ss.mergeSort fun x y => decide (x ≤ y)) = namesD D s := by
  have hm := mergeSort_of_perm h
  show ss.mergeSort leB = _
  rw [hm]
  refine List.mergeSort_of_pairwise ((names_rising hP s).imp fun {a b} h => ?_)
  simp only [leB, decide_eq_true_eq]
  exact before_le h

/-- What List answers: its error. -/
def listE (D : DataW Unit) (s : ByteArray) : Int := if pathB s = true then (if (kindD D s == 0) = true then 12 else if (kindD D s == 1) = true then 13 else 0) else 10
/-- The names that it tells. -/
def listT (D : DataW Unit) (s : ByteArray) : List (List UInt8) := if (listE D s == 0) = true then namesD D s else []

/-- What has been collected of a list. -/
def CollL (L : List Fl) (left : Lit → Bool) (fs : List Fl) : Prop := fs.Nodup ∧ ∀ f : Fl, f ∈ fs ↔ (f ∈ L ∧ left (keyD f.1) = false)

theorem CollL.start {L : List Fl} {has : Lit → Bool} (hm : ∀ f : Fl, f ∈ L → has (keyD f.1) = true) : CollL L has [] :=
  ⟨List.nodup_nil, fun f => ⟨fun h => (by cases h), fun ⟨h1, h2⟩ => (by rw [hm f h1] at h2; cases h2)⟩⟩

theorem CollL.step {L : List Fl} {left : Lit → Bool} {fs : List Fl} (h : CollL L left fs) {f : Fl} (hf : f ∈ L) (hl : left (keyD f.1) = true) (hu : ∀ g ∈ L, g.1 = f.1 → g = f) : CollL L (fun z => left z && !z.sameKey (keyD f.1)) (fs ++ [f]) := by
  have hnew : f ∉ fs := fun hx => by have := ((h.2 f).1 hx).2; rw [hl] at this; cases this
  refine ⟨List.nodup_append.2 ⟨h.1, by simp, fun a ha b hb => by simp only [List.mem_singleton] at hb; subst hb; exact fun e => hnew (e ▸ ha)⟩, fun g => ?_⟩
  rw [List.mem_append, List.mem_singleton, h.2 g]
  by_cases e : g.1 = f.1
  · constructor
    · rintro (⟨h1, h2⟩ | rfl)
      · exact ⟨h1, by simp [h2]⟩
      · exact ⟨hf, by simp [(sameKey_keyD _ _).2 rfl]⟩
    · rintro ⟨h1, _⟩
      exact Or.inr (hu g h1 e)
  · have : (keyD g.1).sameKey (keyD f.1) = false := by rw [Bool.eq_false_iff]; intro h; exact e ((sameKey_keyD _ _).1 h)
    simp only [this, Bool.not_false, Bool.and_true]
    constructor
    · rintro (h1 | rfl)
      · exact h1
      · exact absurd rfl e
    · exact Or.inl

theorem CollL.skip {L : List Fl} {left : Lit → Bool} {fs : List Fl} (h : CollL L left fs) {q : ByteArray} (hu : ∀ g ∈ L, g.1 ≠ q) : CollL L (fun z => left z && !z.sameKey (keyD q)) fs := by
  refine ⟨h.1, fun g => ?_⟩
  rw [h.2 g]
  constructor
  · rintro ⟨h1, h2⟩; exact ⟨h1, by simp [h2]⟩
  · rintro ⟨h1, h2⟩
    have : (keyD g.1).sameKey (keyD q) = false := by rw [Bool.eq_false_iff]; intro h; exact hu g h1 ((sameKey_keyD _ _).1 h)
    simp only [this, Bool.not_false, Bool.and_true] at h2
    exact ⟨h1, h2⟩

theorem CollL.perm {L : List Fl} {left : Lit → Bool} {fs : List Fl} (h : CollL L left fs) (hd : L.Nodup) (hl : ∀ kl, left kl = false) : fs.Perm L :=
  (List.perm_ext_iff_of_nodup h.1 hd).2 fun f => by rw [h.2 f, hl]; simp

theorem infoStr : (Tryd.prog.info? 9).map (fun i => (i.zero, i.size, i.bytes)) = some (some (.string ByteArray.empty), 1, 16) := by kernel_rfl

/-- A list of texts in memory. -/
def nmCells (fs : List Fl) : List Value := fs.map fun f => Value.string (nameOf f.1)
theorem nmCells_enc (fs : List Fl) : nmCells fs = (fs.map fun f => (nameOf f.1).data.toList).map encStr := by
  unfold nmCells
  rw [List.map_map]
  apply List.map_congr_left
  intro f _
  simp only [Function.comp, encStr]
theorem nmCells_snoc (fs : List Fl) (f : Fl) : nmCells (fs ++ [f]) = nmCells fs ++ [.string (nameOf f.1)] := by simp [nmCells]

def txA : ByteArray := ⟨#[47, 97]⟩
def txF : ByteArray := ⟨#[47, 97, 47, 102]⟩
def txX : ByteArray := ⟨#[120]⟩
def ab1 : Ab := (mkdirD newAb txA).2
def ab2 : Ab := (writeFD ab1 txF txX).2

theorem lv1 : (mkdirD newAb txA).1 = 0 := by decide +kernel
theorem lv2 : (writeFD ab1 txF txX).1 = 0 := by decide +kernel
theorem lv3 : readE ab2.D txF = 0 := by decide +kernel
theorem lv4 : readT ab2.D txF = txX := by decide +kernel
theorem lv5 : kindD ab2.D txA = 2 := by decide +kernel
theorem lv6 : ab2.rs.length = 2 := by decide +kernel
theorem lv7 : ab1.rs.length = 1 := by decide +kernel
theorem lv8 : ab1.left = -1 := by decide +kernel
theorem lv9 : ab2.left = -1 := by decide +kernel

theorem After.left {B : Nat} {w : World} {d mb n : Nat} {rv : Value} {x : Ab} (h : IsDisk B w d mb n rv x) (l : Int) : After B w (w.setCell ⟨d, 2, none⟩ (.int .i64 l)) d mb n rv { x with left := l } :=
  ⟨n, rv, Nat.le_succ _, h.setLeft l, (Upd.setCell w ⟨d, 2, none⟩ (.int .i64 l)).mono (fun _ _ f => Or.inl f), fun _ hj => Or.inl hj⟩

theorem IsDisk.clear {B : Nat} {w : World} {d mb n : Nat} {rv : Value} {x : Ab} (h : IsDisk B w d mb n rv x) : IsDisk B (w.setCell ⟨d, 1, none⟩ (.slice none 0 0)) d mb n (.slice none 0 0) { x with rs := [] } := by
  have hc0 : (w.setCell ⟨d, 1, none⟩ (.slice none 0 0)).cell? ⟨d, 0, none⟩ = w.cell? ⟨d, 0, none⟩ := World.cell?_setCell_other _ _ _ _ (by simp)
  have hc2 : (w.setCell ⟨d, 1, none⟩ (.slice none 0 0)).cell? ⟨d, 2, none⟩ = w.cell? ⟨d, 2, none⟩ := World.cell?_setCell_other _ _ _ _ (by simp)
  exact { c0 := by rw [hc0]; exact h.c0, c1 := World.cell?_setCell_same _ _ _ h.c1, c2 := by rw [hc2]; exact h.c2,
          f1 := by rw [World.frozen?_setCell]; exact h.f1, f2 := by rw [World.frozen?_setCell]; exact h.f2,
          own := h.own.setCell (fun e => h.dm e.symm) _, row := ⟨rfl, Or.inl ⟨rfl, rfl⟩⟩,
          rd := by simp [Value.ownBlock], rm := by simp [Value.ownBlock], dm := h.dm, bd := h.bd, bm := h.bm, ld := by simp [World.setCell]; exact h.ld, keys := h.keys }

/-- A deed in memory: its five cells, in their bounds. -/
def DeedAt (w : World) (g o : Nat) : Prop := ∃ (k : Int) (p t u : ByteArray) (z : Int),
  w.cell? ⟨g, o, none⟩ = some (.int .i64 k) ∧ w.cell? ⟨g, o + 1, none⟩ = some (.string p) ∧ w.cell? ⟨g, o + 1 + 1, none⟩ = some (.string t) ∧ w.cell? ⟨g, o + 1 + 1 + 1, none⟩ = some (.string u) ∧ w.cell? ⟨g, o + 1 + 1 + 1 + 1, none⟩ = some (.int .i64 z) ∧
  -9223372036854775808 ≤ k ∧ k ≤ 9223372036854775807 ∧ p.size ≤ maxLen ∧ t.size ≤ maxLen ∧ u.size ≤ maxLen ∧ -9223372036854775808 ≤ z ∧ z ≤ 9223372036854775807

theorem DeedAt.below {w w' : World} {g o B : Nat} (h : DeedAt w g o) (hb : Below B w w') (hg : g < B) : DeedAt w' g o := by
  obtain ⟨k, p, t, u, z, h0, h1, h2, h3, h4, r⟩ := h
  have q : ∀ i, w'.cell? ⟨g, i, none⟩ = w.cell? ⟨g, i, none⟩ := fun i => hb.cell (p := ⟨g, i, none⟩) hg
  exact ⟨k, p, t, u, z, by rw [q]; exact h0, by rw [q]; exact h1, by rw [q]; exact h2, by rw [q]; exact h3, by rw [q]; exact h4, r⟩

def wNew (w : World) : World := (w.alloc (.map #[] 0)).alloc (.cells #[.map (some w.heap.size), .slice none 0 0, .int .i64 (-1)] 69)
theorem New_any (w : World) : Calls Tryd.prog 18 #[] w fun e w' => e = .returned (.pointer (some ⟨w.heap.size + 1, 0, none⟩)) ∧ w' = wNew w := New_walk w
theorem size_wNew (w : World) : (wNew w).heap.size = w.heap.size + 2 := by simp [wNew]

/-- A directory bears no data; the path may be. -/
def okF (f : Fl) : Bool := okPath f.1 && !(f.2.1 && !(f.2.2.toList == []))
def putF (D : DataW Unit) (f : Fl) : DataW Unit := D.put (keyD f.1) (itemD f.2.1 f.2.2)
def loadD (fs : List Fl) : DataW Unit := fs.foldl putF (.map [])

theorem loadD_take (fs : List Fl) (k : Nat) (hk : k < fs.length) : loadD (fs.take (k + 1)) = putF (loadD (fs.take k)) fs[k] := by
  unfold loadD
  rw [List.take_succ_eq_append_getElem hk, List.foldl_append]; rfl
theorem loadD_snoc (fs : List Fl) (f : Fl) : loadD (fs ++ [f]) = putF (loadD fs) f := by
  unfold loadD
  rw [List.foldl_append]; rfl

/-- What Load takes. -/
def Loads (fs : List Fl) : Prop := (∀ i (hi : i < fs.length), okF fs[i] = true ∧ kindD (loadD (fs.take i)) fs[i].1 = 0) ∧ ∀ i (hi : i < fs.length), parentD (loadD fs) fs[i].1 = 0

theorem isMap_put {D : DataW Unit} (h : IsMap D) (f : Fl) : IsMap (putF D f) := by
  obtain ⟨es, rfl⟩ := h
  exact ⟨_, rfl⟩

theorem snoc_ind {P : List Fl → Prop} (h0 : P []) (h1 : ∀ l f, P l → P (l ++ [f])) (l : List Fl) : P l := by
  have : ∀ n (l : List Fl), l.length = n → P l := by
    intro n
    induction n with
    | zero => intro l hl; rw [List.eq_nil_of_length_eq_zero hl]; exact h0
    | succ n ih =>
      intro l hl
      have hne : l ≠ [] := by rintro rfl; cases hl
      rw [← List.dropLast_concat_getLast hne]
      exact h1 _ _ (ih _ (by rw [List.length_dropLast, hl]; rfl))
  exact this _ l rfl

theorem loadD_map (fs : List Fl) : IsMap (loadD fs) := by
  refine snoc_ind (P := fun l => IsMap (loadD l)) ⟨[], rfl⟩ (fun l f h => ?_) fs
  rw [loadD_snoc]
  exact isMap_put h f

theorem has_nil (kl : Lit) : Maps.has (loadD []) kl = false := rfl

theorem has_load (fs : List Fl) (s : ByteArray) : Maps.has (loadD fs) (keyD s) = true ↔ ∃ f ∈ fs, f.1 = s := by
  refine snoc_ind (P := fun l => Maps.has (loadD l) (keyD s) = true ↔ ∃ f ∈ l, f.1 = s) ?_ (fun l f h => ?_) fs
  · rw [has_nil]
    exact ⟨(fun h => by cases h), (fun ⟨f, hf, _⟩ => by cases hf)⟩
  · rw [loadD_snoc]
    unfold putF
    by_cases e : f.1 = s
    · rw [e, has_put_same (loadD_map l) (isKey s)]
      exact ⟨fun _ => ⟨f, by simp, e⟩, fun _ => rfl⟩
    · rw [has_put_other (fun h' => e (keyD_inj h').symm), h]
      constructor
      · rintro ⟨g, hg, rfl⟩
        exact ⟨g, by simp [hg], rfl⟩
      · rintro ⟨g, hg, rfl⟩
        rcases List.mem_append.1 hg with hg | hg
        · exact ⟨g, hg, rfl⟩
        · exact absurd (List.mem_singleton.1 hg ▸ rfl) e

theorem keys_load (fs : List Fl) (hok : ∀ f ∈ fs, okPath f.1 = true) : ∀ kl, Maps.has (loadD fs) kl = true → ∃ s, kl = keyD s ∧ okPath s = true := by
  revert hok
  refine snoc_ind (P := fun l => (∀ f ∈ l, okPath f.1 = true) → ∀ kl, Maps.has (loadD l) kl = true → ∃ s, kl = keyD s ∧ okPath s = true) ?_ (fun l f h => ?_) fs
  · intro _ kl h
    rw [has_nil] at h
    cases h
  · intro hok
    rw [loadD_snoc]
    exact keys_put (hok f (by simp)) (h fun g hg => hok g (by simp [hg]))

theorem at_load (fs : List Fl) (hd : fs.Pairwise fun x y => x.1 ≠ y.1) (f : Fl) (hf : f ∈ fs) : (loadD fs).atKey (keyD f.1) zeroD = itemD f.2.1 f.2.2 := by
  revert hd hf
  refine snoc_ind (P := fun l => (l.Pairwise fun x y => x.1 ≠ y.1) → f ∈ l → (loadD l).atKey (keyD f.1) zeroD = itemD f.2.1 f.2.2) ?_ (fun l g h => ?_) fs
  · intro _ hf
    cases hf
  · intro hd hf
    rw [List.pairwise_append] at hd
    rw [loadD_snoc]
    unfold putF
    rcases List.mem_append.1 hf with hf | hf
    · have hne : f.1 ≠ g.1 := hd.2.2 f hf g (by simp)
      rw [atKey_put_other (fun e => hne (keyD_inj e))]
      exact h hd.1 hf
    · obtain rfl := List.mem_singleton.1 hf
      exact atKey_put_same (loadD_map l) (isKey f.1) _ _

theorem rising_apart {fs : List Fl} (h : Rising fs) : fs.Pairwise fun x y => x.1 ≠ y.1 := h.imp fun {x y} h e => by rw [e, WideAt.bytes_irrefl] at h; cases h

/-- Directories bear no data. -/
def DirE (D : DataW Unit) : Prop := ∀ f ∈ filesD D, f.2.1 = true → f.2.2 = ByteArray.empty

theorem not_root {s : ByteArray} (h : okPath s = true) : (s.toList == [47]) = false := by
  unfold okPath at h
  simp only [Bool.and_eq_true, Bool.not_eq_true'] at h
  exact h.2

theorem kind_none {D : DataW Unit} {s : ByteArray} (h1 : (s.toList == [47]) = false) (h2 : Maps.has D (keyD s) = false) : kindD D s = 0 := by
  unfold kindD
  rw [if_neg (by rw [h1]; decide), if_neg (by rw [h2]; decide)]
theorem kind_none_has {D : DataW Unit} {s : ByteArray} (h : kindD D s = 0) : Maps.has D (keyD s) = false := by
  rw [Bool.eq_false_iff]
  intro h2
  unfold kindD at h
  rw [if_pos h2] at h
  split at h
  · cases h
  · split at h <;> cases h

/-- Apart: the keys of what Load takes differ. -/
theorem loads_apart {fs : List Fl} (h : ∀ i (hi : i < fs.length), okF fs[i] = true ∧ kindD (loadD (fs.take i)) fs[i].1 = 0) : fs.Pairwise fun x y => x.1 ≠ y.1 := by
  rw [List.pairwise_iff_getElem]
  intro i j hi hj hij e
  have h1 := kind_none_has (h j hj).2
  rw [Bool.eq_false_iff] at h1
  refine h1 ((has_load _ _).2 ⟨fs[i], ?_, e⟩)
  exact List.mem_take_iff_getElem.2 ⟨i, by omega, by simp⟩

/-- The files that a loaded disk has are those of the list. -/
theorem mem_files_load {fs : List Fl} (hd : fs.Pairwise fun x y => x.1 ≠ y.1) (hL : Good (loadD fs)) (f : Fl) : f ∈ filesD (loadD fs) ↔ f ∈ fs := by
  rw [hL.mem, has_load]
  constructor
  · rintro ⟨⟨g, hg, e⟩, h2⟩
    have h3 := at_load _ hd g hg
    rw [e, h2] at h3
    unfold itemD at h3
    simp only [DataW.agg.injEq, List.cons.injEq, DataW.lit.injEq, Lit.bool.injEq, Lit.string.injEq, and_true] at h3
    obtain ⟨fs', fc, ft⟩ := f
    obtain ⟨gs, gc, gt⟩ := g
    simp only at e h3
    rw [← e, h3.1, bytes_eq h3.2]
    exact hg
  · intro hf
    exact ⟨⟨f, hf, rfl⟩, at_load _ hd f hf⟩

theorem load_dirE {fs : List Fl} (hok : ∀ f ∈ fs, okF f = true) (hd : fs.Pairwise fun x y => x.1 ≠ y.1) (hL : Good (loadD fs)) : DirE (loadD fs) := by
  intro f hf hc
  have h := hok f ((mem_files_load hd hL f).1 hf)
  unfold okF at h
  rw [hc] at h
  simp only [Bool.true_and, Bool.not_not, Bool.and_eq_true, beq_iff_eq] at h
  have h2 := h.2
  rw [toList_data] at h2
  exact bytes_eq h2

theorem load_sound {fs : List Fl} (h : Loads fs) : Sound (loadD fs) := by
  intro s hs
  obtain ⟨f, hf, rfl⟩ := (has_load _ _).1 hs
  obtain ⟨i, hi, rfl⟩ := List.getElem_of_mem hf
  exact parentD_zero (by rw [h.2 i hi]; rfl)