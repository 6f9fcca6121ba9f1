/- Deeds that make one set of files another one: as the document tells them, and as the program sorts them. Plain facts. -/
import Derived.Test.YtefcndfeemnglaaGreatDoorDd6
namespace Go.Proofs.YtefcndfeemnglaaGreatDoor
open Go.RowKit Go.Maps Dk
set_option maxRecDepth 100000

/-- A deed: its kind, path and bytes. -/
structure De where
  kd : Int
  pa : ByteArray
  da : ByteArray

/-- What is at a path of a list: its kind and bytes. -/
def atL : List Fl → ByteArray → Int × ByteArray
  | [], _ => (0, ByteArray.empty)
  | x :: r, s => if (x.1.toList == s.toList) = true then (if x.2.1 = true then (2, ByteArray.empty) else (1, x.2.2)) else atL r s
/-- What a file is told as. -/
def toldF (x : Fl) : Int × ByteArray := if x.2.1 = true then (2, ByteArray.empty) else (1, x.2.2)
def kdF (x : Fl) : Int := if x.2.1 = true then 2 else 1
def Apart (L : List Fl) : Prop := L.Pairwise fun x y => x.1 ≠ y.1

theorem atL_none {L : List Fl} {s : ByteArray} (h : ∀ y ∈ L, y.1 ≠ s) : atL L s = (0, ByteArray.empty) := by
  induction L with
  | nil => rfl
  | cons x r ih =>
    unfold atL
    rw [if_neg (fun e => h x List.mem_cons_self (beq_bytes.1 e))]
    exact ih fun y hy => h y (List.mem_cons_of_mem _ hy)
theorem atL_mem {L : List Fl} (hd : Apart L) {y : Fl} (hy : y ∈ L) : atL L y.1 = toldF y := by
  induction L with
  | nil => cases hy
  | cons x r ih =>
    unfold Apart at hd
    rw [List.pairwise_cons] at hd
    unfold atL
    rcases List.mem_cons.1 hy with rfl | hy
    · rw [if_pos (beq_bytes.2 rfl)]; rfl
    · rw [if_neg (fun e => hd.1 y hy (beq_bytes.1 e))]
      exact ih hd.2 hy
theorem atL_cases {L : List Fl} (hd : Apart L) (s : ByteArray) : (∃ y ∈ L, y.1 = s ∧ atL L s = toldF y) ∨ ((∀ y ∈ L, y.1 ≠ s) ∧ atL L s = (0, ByteArray.empty)) := by
  by_cases h : ∃ y ∈ L, y.1 = s
  · obtain ⟨y, hy, rfl⟩ := h
    exact Or.inl ⟨y, hy, rfl, atL_mem hd hy⟩
  · have h' : ∀ y ∈ L, y.1 ≠ s := fun y hy e => h ⟨y, hy, e⟩
    exact Or.inr ⟨h', atL_none h'⟩
theorem atL_same {L M : List Fl} (hL : Apart L) (hM : Apart M) (h : ∀ f, f ∈ L ↔ f ∈ M) (s : ByteArray) : atL L s = atL M s := by
  rcases atL_cases hL s with ⟨y, hy, rfl, e⟩ | ⟨hn, e⟩
  · rw [e, atL_mem hM ((h y).1 hy)]
  · rw [e, atL_none fun y hy => hn y ((h y).2 hy)]
theorem told_kd (x : Fl) : (toldF x).1 = kdF x := by unfold toldF kdF; split <;> rfl

/-- What goes, and what comes, by the document. -/
def wU (M : List Fl) (x : Fl) : Bool := !x.2.1 && !((atL M x.1).1 == 1)
def wR (M : List Fl) (x : Fl) : Bool := x.2.1 && !((atL M x.1).1 == 2)
def wM (L : List Fl) (x : Fl) : Bool := x.2.1 && !((atL L x.1).1 == 2)
def wP (L : List Fl) (x : Fl) : Bool := !x.2.1 && (!((atL L x.1).1 == 1) || !((atL L x.1).2.toList == x.2.2.toList))
def dU (x : Fl) : De := ⟨1, x.1, ByteArray.empty⟩
def dR (x : Fl) : De := ⟨2, x.1, ByteArray.empty⟩
def dM (x : Fl) : De := ⟨3, x.1, ByteArray.empty⟩
def dP (x : Fl) : De := ⟨4, x.1, x.2.2⟩
def lU (M l : List Fl) : List De := (l.filter (wU M)).map dU
def lR (M l : List Fl) : List De := (l.filter (wR M)).map dR
def lM (L l : List Fl) : List De := (l.filter (wM L)).map dM
def lP (L l : List Fl) : List De := (l.filter (wP L)).map dP
/-- The deeds. -/
def deD (L M : List Fl) : List De := lU M L.reverse ++ lR M L.reverse ++ lM L M ++ lP L M

/-- What goes, and what comes, by the program. -/
def wG (M : List Fl) (x : Fl) : Bool := !((atL M x.1).1 == kdF x)
def wC (L : List Fl) (x : Fl) : Bool := !((atL L x.1).1 == kdF x && (atL L x.1).2.toList == x.2.2.toList)
def dG (x : Fl) : De := ⟨kdF x, x.1, ByteArray.empty⟩
def dC (x : Fl) : De := ⟨if x.2.1 = true then 3 else 4, x.1, x.2.2⟩
def lG (M l : List Fl) : List De := (l.filter (wG M)).map dG
def lC (L l : List Fl) : List De := (l.filter (wC L)).map dC

theorem split_perm {l : List Fl} {w a b : Fl → Bool} {f fa fb : Fl → De} (ha : ∀ x ∈ l, a x = (!x.2.1 && w x)) (hb : ∀ x ∈ l, b x = (x.2.1 && w x)) (hfa : ∀ x ∈ l, x.2.1 = false → fa x = f x) (hfb : ∀ x ∈ l, x.2.1 = true → fb x = f x) :
    ((l.filter w).map f).Perm ((l.filter a).map fa ++ (l.filter b).map fb) := by
  induction l with
  | nil => exact List.Perm.refl _
  | cons x r ih =>
    have ih' := ih (fun y hy => ha y (List.mem_cons_of_mem _ hy)) (fun y hy => hb y (List.mem_cons_of_mem _ hy)) (fun y hy => hfa y (List.mem_cons_of_mem _ hy)) (fun y hy => hfb y (List.mem_cons_of_mem _ hy))
    have h1 := ha x List.mem_cons_self
    have h2 := hb x List.mem_cons_self
    rw [List.filter_cons, List.filter_cons, List.filter_cons, h1, h2]
    cases hx : x.2.1 with
    | false =>
      cases hw : w x with
      | false => simpa using ih'
      | true =>
        simp only [Bool.not_false, Bool.and_true, Bool.false_eq_true, if_true, if_false, List.map_cons, List.cons_append]
        rw [hfa x List.mem_cons_self hx]
        exact List.Perm.cons _ ih'
    | true =>
      cases hw : w x with
      | false => simpa using ih'
      | true =>
        simp only [Bool.not_true, Bool.and_true, Bool.false_eq_true, if_true, if_false, List.map_cons]
        rw [hfb x List.mem_cons_self hx]
        exact (List.Perm.cons _ ih').trans List.perm_middle.symm

/-- The order of deeds: by kinds, then by paths, rising or falling. -/
def ltD (up : Bool) (a b : De) : Prop := a.kd < b.kd ∨ (a.kd = b.kd ∧ (if up = true then bytesBefore a.pa.data.toList b.pa.data.toList = true else bytesBefore b.pa.data.toList a.pa.data.toList = true))
theorem ltD_asym {up : Bool} {a b : De} (h : ltD up a b) : ¬ ltD up b a := by
  rintro (h2 | ⟨e2, h2⟩)
  · rcases h with h | ⟨e, _⟩ <;> omega
  · rcases h with h | ⟨e, h⟩
    · omega
    · cases up
      · simp only [Bool.false_eq_true, if_false] at h h2
        rw [before_asymm h] at h2; cases h2
      · simp only [if_true] at h h2
        rw [before_asymm h] at h2; cases h2
theorem ltD_total {up : Bool} {a b : De} (h1 : ¬ ltD up a b) (h2 : ¬ ltD up b a) : a.kd = b.kd ∧ a.pa = b.pa := by
  have hk : a.kd = b.kd := by
    rcases Int.lt_trichotomy a.kd b.kd with h | h | h
    · exact absurd (Or.inl h) h1
    · exact h
    · exact absurd (Or.inl h) h2
  refine ⟨hk, ?_⟩
  by_cases e : a.pa.data.toList = b.pa.data.toList
  · exact bytes_eq e
  · exfalso
    rcases WideAt.bytes_total _ _ e with q | q
    · cases up
      · exact h2 (Or.inr ⟨hk.symm, by simpa using q⟩)
      · exact h1 (Or.inr ⟨hk, by simpa using q⟩)
    · cases up
      · exact h1 (Or.inr ⟨hk, by simpa using q⟩)
      · exact h2 (Or.inr ⟨hk.symm, by simpa using q⟩)

theorem deeds_one {up : Bool} {ts us : List De} (hp : ts.Perm us) (hs : ts.Pairwise fun x y => ¬ ltD up y x) (hu : us.Pairwise (ltD up)) (hone : ∀ a ∈ us, ∀ b ∈ us, a.kd = b.kd → a.pa = b.pa → a = b) : ts = us := by
  refine List.Perm.eq_of_pairwise (le := fun x y => ¬ ltD up y x) (fun a b ha hb h1 h2 => ?_) hs (hu.imp fun h => ltD_asym h) hp
  obtain ⟨hk, hq⟩ := ltD_total h2 h1
  exact hone a (hp.mem_iff.1 ha) b hb hk hq

theorem pair_fall {L : List Fl} (hr : Rising L) {w : Fl → Bool} {f : Fl → De} {k : Int} (hk : ∀ x, (f x).kd = k) (hp : ∀ x, (f x).pa = x.1) : ((L.reverse.filter w).map f).Pairwise (ltD false) := by
  rw [List.pairwise_map]
  refine List.Pairwise.filter _ ?_
  rw [List.pairwise_reverse]
  refine hr.imp fun {x y} h => Or.inr ⟨by rw [hk, hk], ?_⟩
  simp only [Bool.false_eq_true, if_false]
  rw [hp, hp]
  exact h
theorem pair_rise {L : List Fl} (hr : Rising L) {w : Fl → Bool} {f : Fl → De} {k : Int} (hk : ∀ x, (f x).kd = k) (hp : ∀ x, (f x).pa = x.1) : ((L.filter w).map f).Pairwise (ltD true) := by
  rw [List.pairwise_map]
  refine List.Pairwise.filter _ ?_
  refine hr.imp fun {x y} h => Or.inr ⟨by rw [hk, hk], ?_⟩
  simp only [if_true]
  rw [hp, hp]
  exact h

/-- One set of files in two lists: as it was handed in, and in the order of paths. -/
structure Ord (fs L : List Fl) : Prop where
  rise : Rising L
  apart : Apart fs
  mem : ∀ f, f ∈ L ↔ f ∈ fs
  dirs : ∀ f ∈ fs, f.2.1 = true → f.2.2 = ByteArray.empty
theorem Ord.apartL {fs L : List Fl} (h : Ord fs L) : Apart L := rising_apart h.rise
theorem Ord.perm {fs L : List Fl} (h : Ord fs L) : fs.Perm L := (List.perm_ext_iff_of_nodup (h.apart.imp fun {x y} q e => q (by rw [e])) (Dk.distinct h.rise)).2 fun f => (h.mem f).symm
theorem Ord.at {fs L : List Fl} (h : Ord fs L) (s : ByteArray) : atL fs s = atL L s := atL_same h.apart h.apartL (fun f => (h.mem f).symm) s

theorem going_is {fs L gs M V : List Fl} (hL : Ord fs L) (hM : Ord gs M) (hV : V.Perm fs) {ts : List De} (hp : ts.Perm (lG gs V)) (hs : ts.Pairwise fun x y => ¬ ltD false y x) : ts = lU M L.reverse ++ lR M L.reverse := by
  refine deeds_one (up := false) ?_ hs ?_ ?_
  · refine hp.trans ?_
    have h1 : (lG gs V).Perm (lG gs L.reverse) := ((hV.trans (hL.perm.trans (List.reverse_perm L).symm)).filter _).map _
    refine h1.trans ?_
    refine split_perm (fun x hx => ?_) (fun x hx => ?_) (fun x hx h => ?_) (fun x hx h => ?_)
    · unfold wU wG kdF
      rw [hM.at]
      cases x.2.1 <;> rfl
    · unfold wR wG kdF
      rw [hM.at]
      cases x.2.1 <;> rfl
    · unfold dU dG kdF; rw [h]; rfl
    · unfold dR dG kdF; rw [h]; rfl
  · rw [List.pairwise_append]
    refine ⟨pair_fall hL.rise (fun _ => rfl) (fun _ => rfl), pair_fall hL.rise (fun _ => rfl) (fun _ => rfl), fun a ha b hb => Or.inl ?_⟩
    obtain ⟨x, _, rfl⟩ := List.mem_map.1 ha
    obtain ⟨y, _, rfl⟩ := List.mem_map.1 hb
    show (1 : Int) < 2
    omega
  · intro a ha b hb hk hq
    have hd : ∀ c ∈ lU M L.reverse ++ lR M L.reverse, c.da = ByteArray.empty := fun c hc => by
      rcases List.mem_append.1 hc with q | q <;> (obtain ⟨x, _, rfl⟩ := List.mem_map.1 q; rfl)
    obtain ⟨a1, a2, a3⟩ := a
    obtain ⟨b1, b2, b3⟩ := b
    have h1 := hd _ ha
    have h2 := hd _ hb
    simp only at hk hq h1 h2
    rw [hk, hq, h1, h2]

theorem coming_is {fs L gs M V : List Fl} (hL : Ord fs L) (hM : Ord gs M) (hV : V.Perm gs) {ts : List De} (hp : ts.Perm (lC fs V)) (hs : ts.Pairwise fun x y => ¬ ltD true y x) : ts = lM L M ++ lP L M := by
  refine deeds_one (up := true) ?_ hs ?_ ?_
  · refine hp.trans ?_
    have h1 : (lC fs V).Perm (lC fs M) := ((hV.trans hM.perm).filter _).map _
    refine h1.trans (List.Perm.trans ?_ List.perm_append_comm)
    refine split_perm (fun x hx => ?_) (fun x hx => ?_) (fun x hx h => ?_) (fun x hx h => ?_)
    · unfold wP wC kdF
      rw [hL.at]
      cases x.2.1
      · simp only [Bool.not_false, Bool.true_and, Bool.false_eq_true, if_false, Bool.not_and]
      · rfl
    · unfold wM wC kdF
      rw [hL.at]
      cases hx1 : x.2.1
      · rfl
      · have he := hM.dirs x ((hM.mem x).1 hx) hx1
        simp only [Bool.true_and, if_true]
        rcases atL_cases hL.apartL x.1 with ⟨y, hy, e1, e2⟩ | ⟨_, e2⟩
        · rw [e2, he]
          unfold toldF
          cases y.2.1
          · rfl
          · simp
        · rw [e2]; rfl
    · unfold dP dC; rw [h]; rfl
    · unfold dM dC
      rw [h, hM.dirs x ((hM.mem x).1 hx) h]
      rfl
  · rw [List.pairwise_append]
    refine ⟨pair_rise hM.rise (fun _ => rfl) (fun _ => rfl), pair_rise hM.rise (fun _ => rfl) (fun _ => rfl), fun a ha b hb => Or.inl ?_⟩
    obtain ⟨x, _, rfl⟩ := List.mem_map.1 ha
    obtain ⟨y, _, rfl⟩ := List.mem_map.1 hb
    show (3 : Int) < 4
    omega
  · intro a ha b hb hk hq
    rcases List.mem_append.1 ha with ha | ha <;> rcases List.mem_append.1 hb with hb | hb <;> obtain ⟨x, hx, rfl⟩ := List.mem_map.1 ha <;> obtain ⟨y, hy, rfl⟩ := List.mem_map.1 hb
    · have h1 : x.1 = y.1 := hq
      unfold dM; rw [h1]
    · exact absurd (show (3 : Int) = 4 from hk) (by decide)
    · exact absurd (show (4 : Int) = 3 from hk) (by decide)
    · have h1 : x.1 = y.1 := hq
      rw [uniq_key (rising_apart hM.rise) (List.mem_filter.1 hx).1 (List.mem_filter.1 hy).1 h1]
end Go.Proofs.YtefcndfeemnglaaGreatDoor
