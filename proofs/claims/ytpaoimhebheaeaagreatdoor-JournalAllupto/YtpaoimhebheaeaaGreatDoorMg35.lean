/- Jq4, laid in one text. -/
import Derived.Test.YtpaoimhebheaeaaGreatDoorMg34
namespace Go.Proofs.YtpaoimhebheaeaaGreatDoor
open Go.RowKit Go.Maps Go.WideMaps Go.WideElems Dk
set_option maxRecDepth 100000

theorem jB_par {s : ByteArray} (hok : okPath s = true) (h : jB (parentOf s) = true) : jB s = true := by
  obtain ⟨i, hi, hl, hc, hn⟩ := last_at (okPath_parts hok).2
  have hlen : s.data.toList.length = s.size := Array.length_toList
  by_cases h0 : i = 0
  · have hp : parentOf s = ⟨#[47]⟩ := by
      unfold parentOf
      rw [hl, h0]
      rfl
    rw [hp] at h
    exact absurd h (by decide +kernel)
  · have hp : parentOf s = s.extract 0 i := by
      unfold parentOf
      rw [hl, if_neg (by omega), Int.toNat_natCast]
    have hsz : (s.extract 0 i).size = i := by rw [ByteArray.size_extract]; omega
    rw [hp] at h
    unfold jB at h ⊢
    rw [Bool.or_eq_true, Bool.and_eq_true] at h ⊢
    rcases h with h | ⟨h1, h2⟩
    · right
      have e1 : (s.extract 0 i).data.toList = jn.data.toList := by
        have := beq_iff_eq.1 h
        rw [toList_data, toList_data] at this
        exact this
      have hi8 : i = 8 := by
        have := congrArg List.length e1
        rw [Array.length_toList] at this
        have h3 : (s.extract 0 i).data.size = i := hsz
        rw [h3] at this
        exact this
      subst hi8
      refine ⟨decide_eq_true hi, ?_⟩
      rw [beq_iff_eq, toList_data, toList_data, ext_list]
      rw [ext_list] at e1
      have h4 : s.data.toList.take 9 = s.data.toList.take 8 ++ [s.data.toList[8]'(by omega)] := List.take_succ_eq_append_getElem (by omega)
      rw [h4, e1, Array.getElem_toList]
      have h5 : s.data[8]'(by have : s.data.size = s.size := rfl; omega) = 47 := hc
      rw [h5]
      rfl
    · right
      rw [hsz] at h1
      have h3 : 8 < i := of_decide_eq_true h1
      rw [ext_ext s (by omega)] at h2
      exact ⟨decide_eq_true (by omega), h2⟩
/-- Nothing of the journal is on a disk. -/
def NoJ (D : DataW Unit) : Prop := ∀ y ∈ filesD D, jB y.1 = false
/-- Files of the journal. -/
def JOk (J : List Fl) : Prop := ∀ y ∈ J, jB y.1 = true ∧ (parentOf y.1 = jn ∨ ((parentOf y.1).toList == [47]) = true)
/-- A disk, and some files of the journal besides. -/
structure Ov (J : List Fl) (D X : DataW Unit) : Prop where
  pl : Plain X
  so : Sound X
  mem : ∀ y, y ∈ filesD X ↔ y ∈ filesD D ∨ y ∈ J
theorem kind_ov {J : List Fl} {D X : DataW Unit} (h : Ov J D X) (hD : Plain D) (hJ : JOk J) {q : ByteArray} (hq : jB q = false) : kindD X q = kindD D q := by
  by_cases hr : (q.toList == [47]) = true
  · unfold kindD
    rw [if_pos hr, if_pos hr]
  · have hr2 : (q.toList == [47]) = false := Bool.eq_false_iff.2 hr
    by_cases hex : ∃ y ∈ filesD D, y.1 = q
    · obtain ⟨y, hy, rfl⟩ := hex
      rw [kindP_in hD hy, kindP_in h.pl ((h.mem y).2 (Or.inl hy))]
    · rw [kindP_out hD hr2 fun y hy e => hex ⟨y, hy, e⟩, kindP_out h.pl hr2 fun y hy e => ?_]
      rcases (h.mem y).1 hy with q1 | q1
      · exact hex ⟨y, q1, e⟩
      · have := (hJ y q1).1
        rw [e, hq] at this
        cases this
theorem kind_J {J : List Fl} {D X : DataW Unit} (h : Ov J D X) {y : Fl} (hy : y ∈ J) : kindD X y.1 = if y.2.1 = true then 2 else 1 := kindP_in h.pl ((h.mem y).2 (Or.inr hy))
theorem kind_noJ {J : List Fl} {D X : DataW Unit} (h : Ov J D X) (hn : NoJ D) {q : ByteArray} (hq : jB q = true) (hr : (q.toList == [47]) = false) (hJ : ∀ y ∈ J, y.1 ≠ q) : kindD X q = 0 := kindP_out h.pl hr fun y hy e => by
  rcases (h.mem y).1 hy with q1 | q1
  · have := hn y q1
    rw [e, hq] at this
    cases this
  · exact hJ y q1 e
theorem read_file {D : DataW Unit} (hP : Plain D) {s t : ByteArray} (hok : okPath s = true) (h : (s, false, t) ∈ filesD D) : readT D s = t := by
  have hk := kindP_in hP h
  have hb : pathB s = true := by unfold okPath at hok; rw [Bool.and_eq_true] at hok; exact hok.1
  have he : readE D s = 0 := by
    unfold readE
    rw [if_pos hb, show kindD D s = 1 from hk]
    rfl
  unfold readT
  rw [he, if_pos (show ((0 : Int) == 0) = true from rfl), ((hP.good.mem _).1 h).2, itData_mk, bytes_mk]
theorem read_none {D : DataW Unit} {s : ByteArray} (hk : kindD D s ≠ 1) : readT D s = ByteArray.empty := by
  have he : (readE D s == 0) = false := by
    unfold readE
    by_cases q : pathB s = true
    · rw [if_pos q]
      rcases kind_cases D s with h | h | h
      · rw [h]; rfl
      · exact absurd h hk
      · rw [h]; rfl
    · rw [if_neg q]; rfl
  unfold readT
  rw [he]
  rfl
theorem read_ov {J : List Fl} {D X : DataW Unit} (h : Ov J D X) (hD : Plain D) (hJ : JOk J) {q : ByteArray} (hok : okPath q = true) (hq : jB q = false) : readT X q = readT D q := by
  by_cases hk : kindD D q = 1
  · have hh := kind_has hok (show kindD D q ≠ 0 by rw [hk]; decide)
    obtain ⟨y, hy, rfl⟩ := (has_mem hD q).1 hh
    have h2 := kindP_in hD hy
    have hf : y.2.1 = false := by
      cases e : y.2.1
      · rfl
      · rw [e, hk] at h2; exact absurd h2 (by decide)
    have e : y = (y.1, false, y.2.2) := by rw [← hf]
    rw [read_file hD hok (e ▸ hy), read_file h.pl hok ((h.mem _).2 (Or.inl (e ▸ hy)))]
  · rw [read_none hk, read_none (by rw [kind_ov h hD hJ hq]; exact hk)]
theorem used_ov {J : List Fl} {D X : DataW Unit} (h : Ov J D X) (hD : Plain D) (hJ : JOk J) {p : ByteArray} (hok : okPath p = true) (hp : jB p = false) : usedD X p = usedD D p := by
  rw [Bool.eq_iff_iff, used_iff h.pl.strKeys, used_iff hD.strKeys]
  constructor
  · rintro ⟨y, hy, e⟩
    obtain ⟨f, hf, rfl⟩ := (has_mem h.pl y).1 hy
    rcases (h.mem f).1 hf with q | q
    · exact ⟨f.1, (has_mem hD _).2 ⟨f, q, rfl⟩, e⟩
    · exfalso
      rcases (hJ f q).2 with r | r
      · rw [e] at r
        rw [r, jB_jn] at hp
        cases hp
      · rw [e, root_not hok] at r
        cases r
  · rintro ⟨y, hy, e⟩
    obtain ⟨f, hf, rfl⟩ := (has_mem hD y).1 hy
    exact ⟨f.1, (has_mem h.pl _).2 ⟨f, (h.mem f).2 (Or.inl hf), rfl⟩, e⟩
theorem mem_del_ov {J : List Fl} {D X : DataW Unit} (h : Ov J D X) (hD : Plain D) (hJ : JOk J) {p : ByteArray} (hp : jB p = false) (y : Fl) : y ∈ filesD (X.del (keyD p)) ↔ y ∈ filesD (D.del (keyD p)) ∨ y ∈ J := by
  rw [memP_del h.pl, memP_del hD, h.mem]
  constructor
  · rintro ⟨q | q, n⟩
    · exact Or.inl ⟨q, n⟩
    · exact Or.inr q
  · rintro (⟨q, n⟩ | q)
    · exact ⟨Or.inl q, n⟩
    · exact ⟨Or.inr q, fun e => by have := (hJ y q).1; rw [e, hp] at this; cases this⟩
theorem mem_put_ov {J : List Fl} {D X : DataW Unit} (h : Ov J D X) (hD : Plain D) (hJ : JOk J) {p : ByteArray} (hok : okPath p = true) (hp : jB p = false) (c : Bool) (t : ByteArray) (y : Fl) : y ∈ filesD (X.put (keyD p) (itemD c t)) ↔ y ∈ filesD (D.put (keyD p) (itemD c t)) ∨ y ∈ J := by
  rw [memP_put h.pl _ _ hok, memP_put hD _ _ hok, h.mem]
  constructor
  · rintro (q | ⟨q | q, n⟩)
    · exact Or.inl (Or.inl q)
    · exact Or.inl (Or.inr ⟨q, n⟩)
    · exact Or.inr q
  · rintro ((q | ⟨q, n⟩) | q)
    · exact Or.inl q
    · exact Or.inr ⟨Or.inl q, n⟩
    · exact Or.inr ⟨Or.inr q, fun e => by have := (hJ y q).1; rw [e, hp] at this; cases this⟩
/-- Two disks, the one over the other, behind the same. -/
def MemO (J : List Fl) (a b : Int × Ab) : Prop := b.1 = a.1 ∧ ∀ y, y ∈ filesD b.2.D ↔ y ∈ filesD a.2.D ∨ y ∈ J
theorem rem_ov {J : List Fl} {D X : DataW Unit} {rs : List (Int × ByteArray × ByteArray)} (h : Ov J D X) (hD : Plain D) (hJ : JOk J) {p : ByteArray} (hok : okPath p = true) (hp : jB p = false) : MemO J (removeD ⟨D, [], -1⟩ p) (removeD ⟨X, rs, -1⟩ p) := by
  unfold removeD
  simp only
  rw [kind_ov h hD hJ hp, used_ov h hD hJ hok hp]
  split
  · exact ⟨rfl, h.mem⟩
  · split
    · exact ⟨rfl, h.mem⟩
    · split
      · exact ⟨rfl, h.mem⟩
      · exact ⟨rfl, mem_del_ov h hD hJ hp⟩
theorem parent_ov {J : List Fl} {D X : DataW Unit} (h : Ov J D X) (hD : Plain D) (hJ : JOk J) {p : ByteArray} (hok : okPath p = true) (hp : jB p = false) : parentD X p = parentD D p := by
  have hq : jB (parentOf p) = false := by
    cases e : jB (parentOf p)
    · rfl
    · rw [jB_par hok e] at hp; cases hp
  unfold parentD
  rw [kind_ov h hD hJ hq]
theorem mk_ov {J : List Fl} {D X : DataW Unit} {rs : List (Int × ByteArray × ByteArray)} (h : Ov J D X) (hD : Plain D) (hJ : JOk J) {p : ByteArray} (hok : okPath p = true) (hp : jB p = false) : MemO J (mkdirD ⟨D, [], -1⟩ p) (mkdirD ⟨X, rs, -1⟩ p) := by
  unfold mkdirD
  simp only
  rw [kind_ov h hD hJ hp, parent_ov h hD hJ hok hp]
  split
  · exact ⟨rfl, h.mem⟩
  · split
    · exact ⟨rfl, h.mem⟩
    · split
      · exact ⟨rfl, h.mem⟩
      · exact ⟨rfl, mem_put_ov h hD hJ hok hp _ _⟩
theorem wt_ov {J : List Fl} {D X : DataW Unit} {rs : List (Int × ByteArray × ByteArray)} (h : Ov J D X) (hD : Plain D) (hJ : JOk J) {p t : ByteArray} (hok : okPath p = true) (hp : jB p = false) : MemO J (writeFD ⟨D, [], -1⟩ p t) (writeFD ⟨X, rs, -1⟩ p t) := by
  have hfd : fileD X p = fileD D p := by
    unfold fileD
    rw [kind_ov h hD hJ hp, parent_ov h hD hJ hok hp]
  unfold writeFD
  simp only
  rw [hfd]
  split
  · exact ⟨rfl, h.mem⟩
  · split
    · exact ⟨rfl, h.mem⟩
    · exact ⟨rfl, mem_put_ov h hD hJ hok hp _ _⟩
theorem do_ov {J : List Fl} {D X : DataW Unit} {rs : List (Int × ByteArray × ByteArray)} (h : Ov J D X) (hD : Plain D) (hJ : JOk J) {d : De} (hok : okPath d.pa = true) (hp : jB d.pa = false) : MemO J (doA ⟨D, [], -1⟩ d) (doA ⟨X, rs, -1⟩ d) := by
  have hk := kind_ov h hD hJ hp
  have hr := read_ov h hD hJ hok hp
  have he : readE X d.pa = readE D d.pa := by unfold readE; rw [hk]
  unfold doA
  simp only
  rw [hk, hr, he]
  split
  · exact rem_ov h hD hJ hok hp
  · split
    · exact rem_ov h hD hJ hok hp
    · split
      · exact mk_ov h hD hJ hok hp
      · split
        · split
          · exact wt_ov h hD hJ hok hp
          · exact ⟨rfl, h.mem⟩
        · exact ⟨rfl, h.mem⟩
/-- The power: with some left, a raw write does what it does without a cut. -/
def SameA (a b : Int × Ab) : Prop := b.1 = a.1 ∧ b.2.D = a.2.D
theorem wr_left {l : Int} (h : l ≠ 0) (ps : List ByteArray) : writeD l ps = writeD (-1) ps := by
  unfold writeD
  rw [if_neg (show ¬ (l == 0) = true by rw [beq_iff_eq]; exact h), if_neg (show ¬ ((-1 : Int) == 0) = true by decide)]
theorem rem_left {x : Ab} (h : x.left ≠ 0) (s : ByteArray) : SameA (removeD ⟨x.D, [], -1⟩ s) (removeD x s) := by
  unfold removeD
  simp only
  rw [wr_left h]
  split
  · exact ⟨rfl, rfl⟩
  · split
    · exact ⟨rfl, rfl⟩
    · split
      · exact ⟨rfl, rfl⟩
      · exact ⟨rfl, rfl⟩
theorem mk_left {x : Ab} (h : x.left ≠ 0) (s : ByteArray) : SameA (mkdirD ⟨x.D, [], -1⟩ s) (mkdirD x s) := by
  unfold mkdirD
  simp only
  rw [wr_left h]
  split
  · exact ⟨rfl, rfl⟩
  · split
    · exact ⟨rfl, rfl⟩
    · split
      · exact ⟨rfl, rfl⟩
      · exact ⟨rfl, rfl⟩
theorem wt_left {x : Ab} (h : x.left ≠ 0) (s t : ByteArray) : SameA (writeFD ⟨x.D, [], -1⟩ s t) (writeFD x s t) := by
  unfold writeFD
  simp only
  rw [wr_left h]
  split
  · exact ⟨rfl, rfl⟩
  · split
    · exact ⟨rfl, rfl⟩
    · exact ⟨rfl, rfl⟩
theorem do_left {x : Ab} (h : x.left ≠ 0) (d : De) : SameA (doA ⟨x.D, [], -1⟩ d) (doA x d) := by
  unfold doA
  simp only
  split
  · exact rem_left h _
  · split
    · exact rem_left h _
    · split
      · exact mk_left h _
      · split
        · split
          · exact wt_left h _ _
          · exact ⟨rfl, rfl⟩
        · exact ⟨rfl, rfl⟩
theorem wr_down {l : Int} (h : l = 0) (ps : List ByteArray) : writeD l ps = 15 := by
  unfold writeD
  rw [if_pos (beq_iff_eq.2 h)]
theorem rem_down {x : Ab} (h : x.left = 0) (s : ByteArray) : removeD x s = (15, x) := by
  unfold removeD
  rw [wr_down h]
  rfl
theorem mk_down {x : Ab} (h : x.left = 0) (s : ByteArray) : mkdirD x s = (15, x) := by
  unfold mkdirD
  rw [wr_down h]
  rfl
theorem wt_down {x : Ab} (h : x.left = 0) (s t : ByteArray) : writeFD x s t = (15, x) := by
  unfold writeFD
  rw [wr_down h]
  rfl
theorem ren_down {x : Ab} (h : x.left = 0) (s t : ByteArray) : renameD x s t = (15, x) := by
  unfold renameD
  rw [wr_down h]
  rfl
theorem do_down {x : Ab} (h : x.left = 0) (d : De) : (doA x d = (0, x) ∧ doA ⟨x.D, [], -1⟩ d = (0, ⟨x.D, [], -1⟩)) ∨ doA x d = (15, x) := by
  unfold doA
  simp only
  split
  · exact Or.inr (rem_down h _)
  · split
    · exact Or.inr (rem_down h _)
    · split
      · exact Or.inr (mk_down h _)
      · split
        · split
          · exact Or.inr (wt_down h _ _)
          · exact Or.inl ⟨rfl, rfl⟩
        · exact Or.inl ⟨rfl, rfl⟩
/-- A deed that was done does nothing. -/
theorem do_done {x : Ab} (hP : Plain x.D) {d : De} (hx : OkX d) (h : Done x.D d) : doA x d = (0, x) := by
  obtain ⟨k, p, t⟩ := d
  obtain ⟨lo, hi, hp⟩ := hx
  obtain ⟨d1, d2, d3, d4⟩ := h
  simp only at lo hi hp d1 d2 d3 d4
  unfold doA
  simp only
  rcases (by omega : k = 1 ∨ k = 2 ∨ k = 3 ∨ k = 4) with rfl | rfl | rfl | rfl
  · have := d1 rfl
    rw [beq_eq_false_iff_ne.2 this]
    rfl
  · have := d2 rfl
    rw [beq_eq_false_iff_ne.2 this]
    rfl
  · have := d3 rfl
    rw [this]
    rfl
  · have hm := d4 rfl
    have hr := read_file hP hp hm
    have hk : kindD x.D p = 1 := kindP_in hP hm
    have hb : pathB p = true := by unfold okPath at hp; rw [Bool.and_eq_true] at hp; exact hp.1
    have he : readE x.D p = 0 := by
      unfold readE
      rw [if_pos hb, hk]
      rfl
    rw [hr, he]
    have : (t.toList != t.toList) = false := by simp
    rw [this]
    rfl
theorem do_1 {x : Ab} {p t : ByteArray} (hk : (kindD x.D p == 1) = true) : doA x ⟨1, p, t⟩ = removeD x p := by
  show (if ((1 : Int) == 1 && kindD x.D p == 1) = true then removeD x p else _) = _
  rw [hk]
  rfl
theorem do_2 {x : Ab} {p t : ByteArray} (hk : (kindD x.D p == 2) = true) : doA x ⟨2, p, t⟩ = removeD x p := by
  show (if ((2 : Int) == 1 && kindD x.D p == 1) = true then removeD x p else if ((2 : Int) == 2 && kindD x.D p == 2) = true then removeD x p else _) = _
  rw [hk, show ((2 : Int) == 1 && kindD x.D p == 1) = false from rfl]
  rfl
theorem do_3 {x : Ab} {p t : ByteArray} (hk : (kindD x.D p == 0) = true) : doA x ⟨3, p, t⟩ = mkdirD x p := by
  show (if ((3 : Int) == 1 && kindD x.D p == 1) = true then removeD x p else if ((3 : Int) == 2 && kindD x.D p == 2) = true then removeD x p else if ((3 : Int) == 3 && kindD x.D p == 0) = true then mkdirD x p else _) = _
  rw [hk, show ((3 : Int) == 1 && kindD x.D p == 1) = false from rfl, show ((3 : Int) == 2 && kindD x.D p == 2) = false from rfl]
  rfl
theorem do_4 {x : Ab} {p t : ByteArray} : doA x ⟨4, p, t⟩ = if (readE x.D p != 0 || (readT x.D p).toList != t.toList) = true then writeFD x p t else (0, x) := rfl
/-- A deed that can be done does what it says. -/
theorem do_app {D : DataW Unit} {rs : List (Int × ByteArray × ByteArray)} (hf : Fine ⟨D, rs, -1⟩) {d : De} (hx : OkX d) (hfi : findsB D d = true) (h0 : (doA ⟨D, rs, -1⟩ d).1 = 0) : (doA ⟨D, rs, -1⟩ d).2.D = appD D d := by
  obtain ⟨k, p, t⟩ := d
  obtain ⟨lo, hi, hp⟩ := hx
  simp only at lo hi hp
  unfold findsB at hfi
  unfold appD
  simp only at hfi ⊢
  rcases (by omega : k = 1 ∨ k = 2 ∨ k = 3 ∨ k = 4) with rfl | rfl | rfl | rfl
  · have hk : (kindD D p == 1) = true := by
      cases e : (kindD D p == 1)
      · simp [bne, e] at hfi
      · rfl
    rw [do_1 hk] at h0 ⊢
    rw [(rem_done h0).2.1]
    rfl
  · have hk : (kindD D p == 2) = true := by
      cases e : (kindD D p == 2)
      · simp [bne, e] at hfi
      · rfl
    rw [do_2 hk] at h0 ⊢
    rw [(rem_done h0).2.1]
    rfl
  · have hk : (kindD D p == 0) = true := by
      cases e : (kindD D p == 0)
      · simp [bne, e] at hfi
      · rfl
    rw [do_3 hk] at h0 ⊢
    rw [(mk_done hf h0).2.2.1]
    rfl
  · rw [do_4] at h0 ⊢
    rw [if_neg (show ¬ (4 : Int) ≤ 2 by decide), if_neg (show ¬ (4 : Int) = 3 by decide)]
    split
    · rename_i h1
      rw [if_pos h1] at h0
      rw [(wt_done hf h0).2.1]
      rfl
    · rename_i h1
      show D = _
      have h2 := Bool.eq_false_iff.2 h1
      rw [Bool.or_eq_false_iff] at h2
      have hre : readE D p = 0 := bne_eq_false_iff_eq.1 h2.1
      have hrt : readT D p = t := by
        have := bne_eq_false_iff_eq.1 h2.2
        rw [toList_data, toList_data] at this
        exact ByteArray.ext (Array.toList_inj.1 this)
      refine plain_eq hf.pl (hf.pl.put _ _ hp) fun y => ?_
      rw [memP_put hf.pl _ _ hp]
      have hh := kind_has hp (read_kind hre).1
      obtain ⟨z, hz, hzp⟩ := (has_mem hf.pl p).1 hh
      have hz2 : z = (p, false, t) := by
        have hk := kindP_in hf.pl hz
        have hd : z.2.1 = false := by
          cases e : z.2.1
          · rfl
          · rw [e, hzp] at hk
            exact absurd hk (read_kind hre).2
        have e1 : z = (p, false, z.2.2) := by rw [← hzp, ← hd]
        have hr2 := read_file hf.pl hp (e1 ▸ hz)
        rw [e1, ← hr2, hrt]
      constructor
      · intro hy
        by_cases e : y.1 = p
        · left
          have hP := hf.pl
          rw [← hz2]
          have h5 := ((hP.good.mem y).1 hy).2
          have h6 := ((hP.good.mem z).1 hz).2
          rw [e] at h5
          rw [hzp] at h6
          have h7 := h5.symm.trans h6
          have e3 : y.2.1 = z.2.1 := by have := congrArg itDir h7; rwa [itDir_mk, itDir_mk] at this
          have e4 : y.2.2 = z.2.2 := by
            have := congrArg itData h7
            rw [itData_mk, itData_mk] at this
            exact ByteArray.ext (Array.toList_inj.1 this)
          exact Prod.ext (e.trans hzp.symm) (Prod.ext e3 e4)
        · exact Or.inr ⟨hy, e⟩
      · rintro (rfl | ⟨hy, _⟩)
        · exact hz2 ▸ hz
        · exact hy
end Go.Proofs.YtpaoimhebheaeaaGreatDoor
