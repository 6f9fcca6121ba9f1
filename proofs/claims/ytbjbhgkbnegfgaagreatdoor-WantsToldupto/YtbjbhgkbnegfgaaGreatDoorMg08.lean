/- Wr1, Pk6, Pk7, Pk8, Ps3, Ct5, laid in one text. -/
import Derived.Test.YtbjbhgkbnegfgaaGreatDoorScC
import Derived.Deep.RegionHeld3
import Derived.Test.YtbjbhgkbnegfgaaGreatDoorMg07
namespace Go.Proofs.YtbjbhgkbnegfgaaGreatDoor
open Go.RowKit
set_option maxRecDepth 100000

theorem same_list {s t : ByteArray} (h : s.data.toList = t.data.toList) : s = t := (of_list h).trans (list_of_bytes t)

theorem empty_cat (s : ByteArray) : (⟨#[]⟩ : ByteArray) ++ s = s := same_list (by rw [cat_list]; rfl)

theorem cat_empty (s : ByteArray) : s ++ (⟨#[]⟩ : ByteArray) = s := same_list (by rw [cat_list]; exact List.append_nil _)

theorem pieces_empty (c : UInt8) : piecesB ⟨#[]⟩ ⟨#[c]⟩ = [⟨#[]⟩] := pieces_one (c := c) (tl := []) rfl (fun x hx => by cases hx)

/-- A blank ahead, a blank behind. -/
theorem pad_left {s : ByteArray} (hs : ∀ x ∈ s.data.toList, x ≠ 124) {A : Rg} (ha : altR s = some A) : altR (⟨#[32]⟩ ++ s) = some A ∧ ∀ x ∈ (⟨#[32]⟩ ++ s).data.toList, x ≠ 124 := by
  have hb : ∀ x ∈ (⟨#[32]⟩ ++ s).data.toList, x ≠ 124 := by
    intro x hx
    rw [cat_list] at hx
    rcases List.mem_append.1 hx with hx | hx
    · simp at hx; rw [hx]; decide
    · exact hs x hx
  refine ⟨?_, hb⟩
  have e : (⟨#[32]⟩ : ByteArray) ++ s = ((⟨#[]⟩ : ByteArray) ++ ⟨#[32]⟩) ++ s := by rw [empty_cat]
  have hp := pieces_append (sep := ⟨#[32]⟩) (c := 32) (tl := []) rfl s 0 ⟨#[]⟩ (Nat.le_refl _) (pieces_clean 32 0 ⟨#[]⟩ (Nat.le_refl _))
  rw [alt_plain hb, e, hp, pieces_empty, List.singleton_append, wordsF_cons, if_pos (show (⟨#[]⟩ : ByteArray).size = 0 from rfl)]
  exact (alt_plain hs).1 ha

theorem pad_right {s : ByteArray} (hs : ∀ x ∈ s.data.toList, x ≠ 124) {A : Rg} (ha : altR s = some A) : altR (s ++ ⟨#[32]⟩) = some A ∧ ∀ x ∈ (s ++ ⟨#[32]⟩).data.toList, x ≠ 124 := by
  have hb : ∀ x ∈ (s ++ ⟨#[32]⟩).data.toList, x ≠ 124 := by
    intro x hx
    rw [cat_list] at hx
    rcases List.mem_append.1 hx with hx | hx
    · exact hs x hx
    · simp at hx; rw [hx]; decide
  refine ⟨?_, hb⟩
  have e : s ++ (⟨#[32]⟩ : ByteArray) = (s ++ ⟨#[32]⟩) ++ ⟨#[]⟩ := by rw [cat_empty]
  have hp := pieces_append (sep := ⟨#[32]⟩) (c := 32) (tl := []) rfl ⟨#[]⟩ s.size s (Nat.le_refl _) (pieces_clean 32 s.size s (Nat.le_refl _))
  rw [alt_plain hb, e, hp, pieces_empty, wordsF_append, (alt_plain hs).1 ha]
  simp only [Option.bind_some]
  rw [wordsF_cons, if_pos (show (⟨#[]⟩ : ByteArray).size = 0 from rfl)]
  rfl

theorem sign_alt {sg : ByteArray} (hs : SignB sg) {a b c : Int} (h : mayV a b c = true) {X : Rg} (hX : signR sg.data.toList (rankV a b c) = some X) : altR (sg ++ textV a b c) = some X ∧ ∀ x ∈ (sg ++ textV a b c).data.toList, x ≠ 124 := by
  have hp := sign_plain hs h
  have hl := text_long h
  refine ⟨alt_word (fun x hx => ⟨(hp x hx).1, (hp x hx).2.1⟩) ?_ ((word_sign hs h).trans hX), fun x hx e => (hp x hx).2.1 (by rw [e]; rfl)⟩
  rw [size_cat]
  rw [list_size] at hl
  omega

theorem star_alt : altR ⟨#[42]⟩ = some allR ∧ ∀ x ∈ (⟨#[42]⟩ : ByteArray).data.toList, x ≠ 124 := by
  refine ⟨alt_word ?_ (by decide) ?_, ?_⟩
  · intro x hx; simp at hx; rw [hx]; decide
  · unfold wordR; rw [if_pos rfl]
  · intro x hx; simp at hx; rw [hx]; decide

theorem le_sign : SignB ⟨#[60, 61]⟩ := by intro x hx; simp at hx; rcases hx with rfl | rfl <;> decide

theorem ge_sign : SignB ⟨#[62, 61]⟩ := by intro x hx; simp at hx; rcases hx with rfl | rfl <;> decide

theorem no_sign : SignB ⟨#[]⟩ := by intro x hx; simp at hx

theorem rank_000 : rankV 0 0 0 = 0 := by decide +kernel

theorem rank_999 : rankV 999 999 999 = 999999999 := by decide +kernel

/-- A span's text says that span. -/
theorem spT_alt {lo hi : Int} (h1 : okR lo) (h2 : okR hi) (h : lo ≤ hi) : altR (spT (lo, hi)) = some [(lo, hi)] ∧ ∀ x ∈ (spT (lo, hi)).data.toList, x ≠ 124 := by
  obtain ⟨m1, e1⟩ := may_at h1.has
  obtain ⟨m2, e2⟩ := may_at h2.has
  unfold spT spanT
  simp only
  split
  · rename_i hq
    have hlh : lo = hi := by rw [← e1, ← e2, hq.1, hq.2.1, hq.2.2]
    have := sign_alt no_sign m1 (X := [(lo, lo)]) (by rw [e1]; rfl)
    rw [empty_cat] at this
    rw [← hlh]
    exact this
  · split
    · rename_i _ hq
      have hl : lo = 0 := by rw [← e1, hq.1.1, hq.1.2.1, hq.1.2.2]; exact rank_000
      have hh : hi = 999999999 := by rw [← e2, hq.2.1, hq.2.2.1, hq.2.2.2]; exact rank_999
      rw [hl, hh]
      exact star_alt
    · split
      · rename_i _ _ hq
        have hl : lo = 0 := by rw [← e1, hq.1, hq.2.1, hq.2.2]; exact rank_000
        have := sign_alt le_sign m2 (X := [(0, hi)]) (by rw [e2]; rfl)
        rw [hl]
        exact this
      · split
        · rename_i _ _ _ hq
          have hh : hi = 999999999 := by rw [← e2, hq.1, hq.2.1, hq.2.2]; exact rank_999
          have := sign_alt ge_sign m1 (X := [(lo, 999999999)]) (by rw [e1]; rfl)
          rw [hh]
          exact this
        · obtain ⟨a1, b1⟩ := sign_alt ge_sign m1 (X := [(lo, 999999999)]) (by rw [e1]; rfl)
          obtain ⟨a2, b2⟩ := sign_alt le_sign m2 (X := [(0, hi)]) (by rw [e2]; rfl)
          have r1 := one_ok h1 okL h1.2
          have r2 := one_ok okF h2 h2.1
          have hm : meetR [(lo, 999999999)] [(0, hi)] = [(lo, hi)] := range_one (r1.meet r2) (one_ok h1 h2 h) fun n => by
            rw [meet_in r1 r2]
            simp only [InR, or_false]
            have := h1.1
            have := h2.2
            omega
          have e : ((⟨#[62, 61]⟩ ++ textV (atA lo) (atB lo) (atC lo)) ++ ⟨#[32, 60, 61]⟩) ++ textV (atA hi) (atB hi) (atC hi) = ((⟨#[62, 61]⟩ ++ textV (atA lo) (atB lo) (atC lo)) ++ ⟨#[32]⟩) ++ (⟨#[60, 61]⟩ ++ textV (atA hi) (atB hi) (atC hi)) := same_list (by simp only [cat_list]; simp)
          rw [e]
          refine ⟨by rw [alt_blank b1 b2 a1 a2, hm], ?_⟩
          intro x hx
          rw [cat_list, cat_list] at hx
          simp only [List.mem_append] at hx
          rcases hx with (hx | hx) | hx
          · exact b1 x hx
          · simp at hx; rw [hx]; decide
          · exact b2 x hx

theorem rise_head {k M : Int} {p : Int × Int} {A : Rg} (h : RiseR k M (p :: A)) : k ≤ p.1 ∧ p.1 ≤ p.2 ∧ p.2 ≤ M ∧ RiseR (p.2 + 2) M A := h

theorem rise_down {k j M : Int} (hj : j ≤ k) : ∀ {A : Rg}, RiseR k M A → RiseR j M A
  | [], _ => trivial
  | (_, _) :: _, h => ⟨by have := h.1; omega, h.2.1, h.2.2.1, h.2.2.2⟩

/-- A range's text, and that with a blank ahead, says that range. -/
theorem print_alt : ∀ {A : Rg}, RangeR A → A ≠ [] → altR (printR A) = some A ∧ altR (⟨#[32]⟩ ++ printR A) = some A
  | [], _, h => absurd rfl h
  | [(lo, hi)], hA, _ => by
    obtain ⟨q1, q2, q3, _⟩ := rise_head hA
    obtain ⟨a, b⟩ := spT_alt (lo := lo) (hi := hi) ⟨q1, by simp at q2 q3; omega⟩ ⟨by simp at q1 q2; omega, q3⟩ q2
    have e : printR [(lo, hi)] = spT (lo, hi) := by
      unfold printR
      simp only [List.map_cons, List.map_nil]
      rw [Lib.join_one, list_of_bytes]
    rw [e]
    exact ⟨a, (pad_left b a).1⟩
  | (lo, hi) :: q :: r, hA, _ => by
    obtain ⟨q1, q2, q3, q4⟩ := rise_head hA
    have hB : RangeR (q :: r) := rise_down (by simp at q1 q2; omega) q4
    have hP : RangeR [(lo, hi)] := ⟨q1, q2, q3, trivial⟩
    obtain ⟨a, b⟩ := spT_alt (lo := lo) (hi := hi) ⟨q1, by simp at q2 q3; omega⟩ ⟨by simp at q1 q2; omega, q3⟩ q2
    obtain ⟨_, i2⟩ := print_alt hB (by simp)
    have hj : joinR [(lo, hi)] (q :: r) = (lo, hi) :: q :: r := range_one (hP.join hB) hA fun n => by
      rw [join_in hP hB]
      simp only [InR, or_false]
    have e : printR ((lo, hi) :: q :: r) = ((spT (lo, hi) ++ ⟨#[32]⟩) ++ ⟨#[124, 124]⟩) ++ (⟨#[32]⟩ ++ printR (q :: r)) := by
      refine same_list ?_
      simp only [cat_list]
      unfold printR
      simp only [List.map_cons]
      rw [Lib.join_cons]
      have : Lib.joinTail [32, 124, 124, 32] ((spT q).data.toList :: r.map fun p => (spT p).data.toList) = [32, 124, 124, 32] ++ Lib.join ((spT q).data.toList :: r.map fun p => (spT p).data.toList) [32, 124, 124, 32] := by
        rw [Lib.join_cons]
        simp [Lib.joinTail]
      rw [this]
      simp
    obtain ⟨c1, d1⟩ := pad_right b a
    obtain ⟨c2, d2⟩ := pad_left b a
    obtain ⟨c3, d3⟩ := pad_right d2 c2
    refine ⟨by rw [e, alt_both c1 i2, hj], ?_⟩
    have e2 : ⟨#[32]⟩ ++ printR ((lo, hi) :: q :: r) = (((⟨#[32]⟩ ++ spT (lo, hi)) ++ ⟨#[32]⟩) ++ ⟨#[124, 124]⟩) ++ (⟨#[32]⟩ ++ printR (q :: r)) := by
      rw [e]
      refine same_list ?_
      simp only [cat_list]
      simp
    rw [e2, alt_both c3 i2, hj]

theorem lt_sign : SignB ⟨#[60]⟩ := by intro x hx; simp at hx; rw [hx]; decide

theorem print_says {A : Rg} (hA : RangeR A) : altR (printR A) = some A := by
  cases A with
  | cons p A => exact (print_alt hA (by simp)).1
  | nil =>
    have := (sign_alt lt_sign (a := 0) (b := 0) (c := 0) (by decide +kernel) (X := cutR allR [(0, 999999999)]) (by rw [rank_000]; rfl)).1
    have e : cutR allR [(0, 999999999)] = [] := by decide +kernel
    rw [e] at this
    exact this

theorem print_size {A : Rg} (hl : A.length ≤ 64) : (printR A).size ≤ 4096 := by
  cases A with
  | nil => have := text_size 0 0 0; have z : (⟨#[60]⟩ : ByteArray).size = 1 := rfl; show (⟨#[60]⟩ ++ textV 0 0 0).size ≤ 4096; rw [size_cat]; omega
  | cons p A =>
    show (⟨(Lib.join ((p :: A).map fun p => (spT p).data.toList) [32, 124, 124, 32]).toArray⟩ : ByteArray).size ≤ 4096
    rw [bytes_size, List.map_cons, Lib.join_length, ← List.map_cons (f := fun p => (spT p).data.toList)]
    have := lens_le 27 ((p :: A).map fun p => (spT p).data.toList) (by
      intro x hx
      obtain ⟨q, _, rfl⟩ := List.mem_map.1 hx
      exact spanT_size _ _ _ _ _ _)
    simp only [List.length_map, List.length_cons, List.length_nil] at *
    omega

theorem print_par {A : Rg} (hA : RangeR A) (hl : A.length ≤ 64) : parR (printR A) = some A := by
  unfold parR
  rw [if_pos (print_size hl)]
  exact print_says hA
end Go.Proofs.YtbjbhgkbnegfgaaGreatDoor
namespace Go.Proofs.YtbjbhgkbnegfgaaGreatDoor
open Go.RowKit
set_option maxRecDepth 100000

/-- All but a builder's own memory is as it was. -/
def FarB (b : Nat) (w w' : World) : Prop := ∀ N cs t fr, w.heap[N]? = some (.cells cs t fr) → t ≠ 5 → N ≠ b → w'.heap[N]? = some (.cells cs t fr)

theorem FarB.refl (b : Nat) (w : World) : FarB b w w := fun _ _ _ _ h _ _ => h

theorem FarB.trans {b : Nat} {w w1 w2 : World} (h : FarB b w w1) (h2 : FarB b w1 w2) : FarB b w w2 := fun N cs t fr hh ht hn => h2 N cs t fr (h N cs t fr hh ht hn) ht hn

theorem FarB.set {b : Nat} {w w1 : World} (h : FarB b w w1) (i : Nat) (u : Value) : FarB b w (w1.setCell ⟨b, i, none⟩ u) := fun N cs t fr hh ht hn => (Below.heap_setCell _ _ _ _ hn).trans (h N cs t fr hh ht hn)

theorem FarB.below {b : Nat} {w w' : World} (h : Below w.heap.size w w') : FarB b w w' := fun N _ _ _ hh _ _ => (h.block N (Array.getElem?_eq_some_iff.1 hh).1).trans hh

theorem check_far {B b : Nat} {l : Sc.Bs} {w : World} (h : Sc.Bld B b l w) :
    Calls Tryz.prog 218 #[.pointer (some ⟨b, 0, none⟩)] w fun e w' => e = .returned (.tuple #[]) ∧ Lib.BuilderAt 194 5 B b (.pointer (some ⟨b, 0, none⟩)) (Lib.byteCells l) w' ∧ Below B w w' ∧ FarB b w w' := by
  rcases h with h | h
  · refine (Sc.check_fresh b w h.cell0 h.shape h.frozen0).mono ?_
    rintro e w' ⟨rfl, rfl⟩
    exact ⟨rfl, h.used _, (Below.refl B w).setCell (p := ⟨b, 0, none⟩) h.1 _, (FarB.refl b w).set _ _⟩
  · refine (Sc.check_used b w h.cell0).mono ?_
    rintro e w' ⟨rfl, rfl⟩
    exact ⟨rfl, h, Below.refl B _, FarB.refl b _⟩

set_option maxHeartbeats 1600000 in
theorem putText_far {B b : Nat} {l : Sc.Bs} {w : World} (s : ByteArray) (h : Sc.Bld B b l w) (hl : l.length + s.size ≤ 140737488355328) (hB : B ≤ w.heap.size) :
    Calls Tryz.prog 155 #[.pointer (some ⟨b, 0, none⟩), .string s] w fun e w' => e = .returned (.tuple #[.int .i64 s.size, .nilIface]) ∧ Sc.Bld B b (l ++ s.data.toList) w' ∧ Below B w w' ∧ FarB b w w' := by
  obtain ⟨i0, hi, hz0, hz1, hz2⟩ := Sc.info_parts Sc.bByte
  have HC := hide3 (check_far h)
  have hlc : (Lib.byteCells l).length = l.length := Lib.byteCells_length l
  go_enter Tryz.func155, Tryz.ntmps155
  go_wp2_with (go_at_call 218; refine HC.out.mono ?_)
  rintro e w1 ⟨rfl, h1, hb1, hf1⟩
  obtain ⟨hBb, v, hbk, hown, hne⟩ := h1
  have c0 : w1.cell? ⟨b, 0, none⟩ = some (.pointer (some ⟨b, 0, none⟩)) := by rw [Lib.cell_of_heap hbk]; rfl
  have c1 : w1.cell? ⟨b, 1, none⟩ = some v := by rw [Lib.cell_of_heap hbk]; rfl
  have hs1 := hb1.size
  go_wp2_with (at_builtin; refine Lib.wpList_append_own_string _ rfl _ _ 192 9 rfl B 5 i0 Tryz.underlying192 Tryz.underlying9 hi hz0 hz1 hz2 _ _ _ rfl hown s rfl (by unfold maxLen; omega) (by omega) (by omega) ?_)
  intro v' w2 hown' hgrow _
  have hlt : b < w1.heap.size := (Array.getElem?_eq_some_iff.1 hbk).1
  have hb2 : w2.heap[b]? = some (.cells #[.pointer (some ⟨b, 0, none⟩), v] 194 (0, 0)) := by
    rw [hgrow.block b hlt (fun e => hne e.symm)]
    exact hbk
  have HFA : Hid (FarB b w w2) := fun N cs t fr hh ht hn => by
    have hN := hf1 N cs t fr hh ht hn
    refine (hgrow.block N (Array.getElem?_eq_some_iff.1 hN).1 (fun e => ?_)).trans hN
    rcases hown.2 with ⟨hv, _⟩ | ⟨g, cap, cur, hv, _, hg, _⟩
    · rw [hv] at e; cases e
    · rw [hv] at e
      obtain rfl : N = g := Option.some.inj e
      rw [hN] at hg
      injection hg with hg
      injection hg with _ hg _
      exact ht hg
  have d0 : w2.cell? ⟨b, 0, none⟩ = some (.pointer (some ⟨b, 0, none⟩)) := by rw [Lib.cell_of_heap hb2]; rfl
  have d1 : w2.cell? ⟨b, 1, none⟩ = some v := by rw [Lib.cell_of_heap hb2]; rfl
  have f1 : w2.frozen? ⟨b, 1, none⟩ = false := Lib.frozen_of_heap hb2 1
  obtain ⟨ao, n', cap, rfl⟩ : ∃ ao n' cap, v' = .slice ao n' cap := by
    rcases hown'.2 with ⟨hv, _⟩ | ⟨g, cap, cur, hv, _⟩
    · exact ⟨_, _, _, hv⟩
    · exact ⟨_, _, _, hv⟩
  clear hf1
  go_wp2
  go_ret2
  refine ⟨rfl, Or.inr ?_, ?_, HFA.out.set _ _⟩
  · refine Lib.BuilderAt.put (T := 194) (e := 5) hBb hb2 ?_ (by decide)
    rw [Lib.byteCells_append, List.length_append, ← Lib.strCells_eq, hlc]
    simpa [Lib.strCells_length] using hown'
  · exact (hb1.grown hgrow (by omega) (fun k hk => (hown.lt k hk).1)).setCell (p := ⟨b, 1, none⟩) hBb _

/-- A line: three texts, blanks between, a line's end. -/
def lineB (x n r : ByteArray) : Sc.Bs := x.data.toList ++ ([32] ++ (n.data.toList ++ ([32] ++ (r.data.toList ++ [10]))))

theorem Len_any {B b : Nat} {l : Sc.Bs} {w : World} (h : Sc.Bld B b l w) : Calls Tryz.prog 160 #[.pointer (some ⟨b, 0, none⟩)] w fun e w' => e = .returned (.int .i64 l.length) ∧ w' = w := by
  obtain ⟨v, c1, hv⟩ : ∃ v, w.cell? ⟨b, 1, none⟩ = some v ∧ ∃ ad cap, v = .slice ad l.length cap := by
    rcases h with ⟨_, v, hbk, hown, _⟩ | ⟨_, v, hbk, hown, _⟩ <;>
    · refine ⟨v, by rw [Lib.cell_of_heap hbk]; rfl, ?_⟩
      rcases hown.2 with ⟨hv, hn⟩ | ⟨g, cap, cur, hv, _⟩
      · rw [Lib.byteCells_length] at hn
        exact ⟨none, 0, by rw [hv, hn]⟩
      · rw [Lib.byteCells_length] at hv
        exact ⟨_, _, hv⟩
  obtain ⟨ad, cap, rfl⟩ := hv
  go_enter Tryz.func160, Tryz.ntmps160
  go_wp2
  go_ret
  exact ⟨rfl, rfl⟩
end Go.Proofs.YtbjbhgkbnegfgaaGreatDoor
namespace Go.Proofs.YtbjbhgkbnegfgaaGreatDoor
open Go.RowKit
set_option maxRecDepth 100000

def plS (s : Sp) : Int × Int := (rankV s.a s.b s.c, rankV s.x s.y s.z)

theorem pl_sp {A : Rg} (hA : RangeR A) : (A.map spR).map plS = A := by
  rw [List.map_map]
  conv => rhs; rw [← List.map_id A]
  refine List.map_congr_left fun p hp => ?_
  obtain ⟨h1, h2, _⟩ := hA.ok p hp
  show (rankV (atA p.1) (atB p.1) (atC p.1), rankV (atA p.2) (atB p.2) (atC p.2)) = p
  have e1 := (may_at (n := p.1) (by unfold hasV; obtain ⟨a, b⟩ := h1; simp; omega)).2
  have e2 := (may_at (n := p.2) (by unfold hasV; obtain ⟨a, b⟩ := h2; simp; omega)).2
  rw [e1, e2]

/-- A range's text. -/
def prS (L : List Sp) : ByteArray := printR (L.map plS)

theorem sPrint_sp {L : List Sp} {u : Value} {w : World} (h : rangeB L = true) (hu : SpansC w u L) (he : Env w) (hf : FL w) :
    Calls Tryz.prog 220 #[u] w fun e w' => e = .returned (.string (prS L)) ∧ Below w.heap.size w w' := by
  unfold rangeB at h
  rw [Bool.and_eq_true] at h
  obtain ⟨A, rfl, hA, hl⟩ := may_iff.1 h.2
  unfold prS
  rw [pl_sp hA]
  exact sPrint_rg hA hl hu.rg he hf

theorem prS_size {L : List Sp} (h : rangeB L = true) : (prS L).size ≤ 4096 := by
  unfold rangeB at h
  rw [Bool.and_eq_true] at h
  obtain ⟨A, rfl, hA, hl⟩ := may_iff.1 h.2
  unfold prS
  rw [pl_sp hA]
  exact print_size hl

/-- The lines of a list. -/
def listT (x : ByteArray) (L : List Dp) : Sc.Bs := L.flatMap fun d => lineB x d.nm (prS d.rg)

theorem listT_snoc {x : ByteArray} {L : List Dp} {k : Nat} (h : k < L.length) : listT x (L.take (k + 1)) = listT x (L.take k) ++ lineB x L[k].nm (prS L[k].rg) := by
  unfold listT
  rw [List.take_succ_eq_append_getElem h, List.flatMap_append]
  simp

theorem rise_all : ∀ {L : List Dp} {q : Option ByteArray}, riseD q L = true → ∀ d ∈ L, d.nm.size ≤ 16 ∧ rangeB d.rg = true
  | [], _, _, d, hd => by cases hd
  | e :: M, q, hq, d, hd => by
    rw [riseD, Bool.and_eq_true, Bool.and_eq_true] at hq
    rcases List.mem_cons.1 hd with rfl | hd
    · have := hq.1.1
      unfold followB at this
      rw [Bool.and_eq_true] at this
      have := this.1
      unfold Sc.nameA at this
      rw [Bool.and_eq_true, decide_eq_true_eq, list_size] at this
      exact ⟨this.2, hq.1.2⟩
    · exact rise_all hq.2 d hd

theorem line_len {x n r : ByteArray} (hx : x.size ≤ 16) (hn : n.size ≤ 16) (hr : r.size ≤ 4096) : (lineB x n r).length ≤ 5000 := by
  unfold lineB
  simp only [List.length_append, list_size, List.length_cons, List.length_nil]
  omega

theorem list_len {x : ByteArray} (hx : x.size ≤ 16) {L : List Dp} (h : mayD L = true) (k : Nat) : (listT x (L.take k)).length ≤ 80000 := by
  unfold mayD at h
  rw [Bool.and_eq_true, decide_eq_true_eq] at h
  have : ∀ M : List Dp, (∀ d ∈ M, d.nm.size ≤ 16 ∧ rangeB d.rg = true) → (listT x M).length ≤ 5000 * M.length := by
    intro M
    induction M with
    | nil => intro _; simp [listT]
    | cons d M ih =>
      intro hM
      have h1 := ih fun e he => hM e (List.mem_cons_of_mem _ he)
      have h2 := line_len (x := x) hx (hM d List.mem_cons_self).1 (prS_size (hM d List.mem_cons_self).2)
      have : listT x (d :: M) = lineB x d.nm (prS d.rg) ++ listT x M := by unfold listT; simp
      rw [this, List.length_append, List.length_cons]
      omega
  have h2 := this (L.take k) fun d hd => rise_all h.2 d (List.mem_of_mem_take hd)
  have h3 : (L.take k).length ≤ 16 := by rw [List.length_take]; omega
  omega

/-- The text under way. -/
def TW (w1 : World) (l : Sc.Bs) (w' : World) : Prop := Sc.Bld w1.heap.size w1.heap.size l w' ∧ Below w1.heap.size w1 w'

theorem bld_below {B b : Nat} {l : Sc.Bs} {w w' : World} (h : Sc.Bld B b l w) (hb : Below w.heap.size w w') : Sc.Bld B b l w' := by
  have step : ∀ p, Lib.BuilderAt 194 5 B b p (Lib.byteCells l) w → Lib.BuilderAt 194 5 B b p (Lib.byteCells l) w' := by
    rintro p ⟨hB, v, hbk, hown, hne⟩
    refine ⟨hB, v, (hb.block b (Array.getElem?_eq_some_iff.1 hbk).1).trans hbk, ⟨hown.1, hown.2.imp id ?_⟩, hne⟩
    rintro ⟨g, cap, cur, rfl, h1, hg, h2⟩
    exact ⟨g, cap, cur, rfl, h1, (hb.block g (Array.getElem?_eq_some_iff.1 hg).1).trans hg, h2⟩
  exact h.imp (step _) (step _)

theorem keepTW (w1 : World) (l : Sc.Bs) : KeepP (TW w1 l) := fun _ _ h hb => ⟨bld_below h.1 hb, below_then h.2 hb⟩

theorem TW.new (w1 : World) : TW w1 [] (w1.alloc (.cells #[.pointer none, .slice none 0 0] 194)) := ⟨Lib.fresh_isBuilder _ _ w1, boxB _ _⟩

theorem TW.far {w1 : World} {l : Sc.Bs} {w' : World} (h : TW w1 l w') : w1.heap.size < w'.heap.size := by
  rcases h.1 with h | h <;> exact h.lt

theorem TW.put {w1 wz : World} {l : Sc.Bs} (h : TW w1 l wz) (s : ByteArray) (hl : l.length ≤ 1000000000) (hs : s.size ≤ 1000000) :
    Calls Tryz.prog 155 #[.pointer (some ⟨w1.heap.size, 0, none⟩), .string s] wz fun e w' => e = .returned (.tuple #[.int .i64 s.size, .nilIface]) ∧ TW w1 (l ++ s.data.toList) w' ∧ FarB w1.heap.size wz w' := by
  refine (putText_far s h.1 (by omega) h.2.size).mono ?_
  rintro e w' ⟨rfl, g1, g2, g3⟩
  exact ⟨rfl, ⟨g1, h.2.trans g2⟩, g3⟩
end Go.Proofs.YtbjbhgkbnegfgaaGreatDoor
namespace Go.Proofs.YtbjbhgkbnegfgaaGreatDoor
open Go.RowKit
set_option maxRecDepth 100000

set_option maxHeartbeats 6400000 in
theorem Write_any {w1 wz : World} {l : Sc.Bs} {v : Value} {L : List Dp} {x : ByteArray} (h : TW w1 l wz) (hd : DepsAt w1 v L) (hm : mayD L = true) (he : Env w1) (hf : FL w1) (hx : x.size ≤ 16) (hl : l.length ≤ 1000000) :
    Calls Tryz.prog 159 #[.pointer (some ⟨w1.heap.size, 0, none⟩), .string x, v] wz fun e w' => e = .returned (.tuple #[]) ∧ TW w1 (l ++ listT x L) w' ∧ FarB w1.heap.size wz w' := by
  have HD : Hid (∀ w', Below w1.heap.size w1 w' → DepsAt w' v L) := fun w' hb => hd.below hb
  have HSP : Hid (∀ w2 u (R : List Sp), Below w1.heap.size w1 w2 → rangeB R = true → SpansC w2 u R → Calls Tryz.prog 220 #[u] w2 fun e w' => e = .returned (.string (prS R)) ∧ Below w2.heap.size w2 w') := fun w2 u R hb hr hu => sPrint_sp hr hu (he.below hb) (hf.below hb)
  have HAll : Hid (∀ d ∈ L, d.nm.size ≤ 16 ∧ rangeB d.rg = true) := by
    have := hm
    unfold mayD at this
    rw [Bool.and_eq_true] at this
    exact rise_all this.2
  have HLN := hide3 (list_len hx hm)
  have h16 := (short_may hm).1
  have HPU : Hid (∀ (l1 : Sc.Bs) w2 (s : ByteArray) (N : Nat) (bx : Obj), (TW w1 l1 w2 ∧ FarB w1.heap.size wz w2) ∧ (w2.heap[N]? = some bx ∧ (∃ cs, bx = .cells cs 62 (0, 0)) ∧ w1.heap.size < N) → l1.length ≤ 2000000 → s.size ≤ 1000000 → Calls Tryz.prog 155 #[.pointer (some ⟨w1.heap.size, 0, none⟩), .string s] w2 fun e w' => e = .returned (.tuple #[.int .i64 s.size, .nilIface]) ∧ (TW w1 (l1 ++ s.data.toList) w' ∧ FarB w1.heap.size wz w') ∧ (w'.heap[N]? = some bx ∧ (∃ cs, bx = .cells cs 62 (0, 0)) ∧ w1.heap.size < N)) := fun l1 w2 s N bx h1 h2 h3 => by
    refine (h1.1.1.put s (by omega) h3).mono ?_
    rintro e w' ⟨rfl, g1, g2⟩
    obtain ⟨cs, rfl⟩ := h1.2.2.1
    exact ⟨rfl, ⟨g1, h1.1.2.trans g2⟩, g2 _ _ _ _ h1.2.1 (by decide) (by have := h1.2.2.2; omega), ⟨cs, rfl⟩, h1.2.2.2⟩
  have HT0 : Hid (TW w1 l wz ∧ FarB w1.heap.size wz wz) := ⟨h, FarB.refl _ _⟩
  obtain ⟨ad, cap, rfl, hcp⟩ := hd.len
  clear hd hm he hf h
  go_enter Tryz.func159, Tryz.ntmps159
  go_wp2_with fail
  go_loopw [10] (fun j wq => ∃ m : Nat, m ≤ L.length ∧ j = .int .i64 m ∧ TW w1 (l ++ listT x (L.take m)) wq ∧ FarB w1.heap.size wz wq) (fun j _ => L.length - (intOf j).toNat)
  case atStart => exact ⟨0, Nat.zero_le _, rfl, by have := HT0.out; simpa [listT] using this⟩
  case round =>
    clear HT0
    obtain ⟨m, hm, rfl, htq⟩ := hrel
    have HTQ := hide3 htq
    by_cases hlt : m < L.length
    · obtain ⟨ad', cap', e, _, hcs⟩ := HD.out wr htq.1.2
      cases e
      obtain ⟨g, o, rfl, hg, hcs⟩ : ∃ g o, ad = some ⟨g, o, none⟩ ∧ g < wr.heap.size ∧ ∀ i (h : i < L.length), ∃ u, DpIn wr g (o + i * 2) L[i] u := by
        rcases hcs with h | h
        · rw [h] at hlt; simp at hlt
        · exact h
      obtain ⟨u, p0, p1, ⟨hu, _⟩, p3⟩ := hcs m hlt
      obtain ⟨au, cu, rfl⟩ := hu.1.sl
      obtain ⟨hnz2, hrb⟩ := HAll.out _ (List.getElem_mem hlt)
      have hpz := prS_size hrb
      have HSN := hide3 (listT_snoc (x := x) hlt)
      have hpl : (l ++ listT x (L.take m)).length ≤ 1100000 := by
        have h1 := HLN.out m
        rw [List.length_append]
        omega
      have HUS : Hid (SpansC (wr.alloc (.cells #[.string L[m].nm, .slice au L[m].rg.length cu] 62)) (.slice au L[m].rg.length cu) L[m].rg) := ⟨hu.1.below (boxB _ _), hu.2⟩
      have HUB : Hid (g < wr.heap.size) := hg
      have HSPd := hide3 (fun w' (hb : Below w1.heap.size w1 w') (hc : SpansC w' (.slice au L[m].rg.length cu) L[m].rg) => HSP.out w' _ _ hb hrb hc)
      have HO0 : Hid ((TW w1 (l ++ listT x (L.take m)) (wr.alloc (.cells #[.string L[m].nm, .slice au L[m].rg.length cu] 62)) ∧ FarB w1.heap.size wz (wr.alloc (.cells #[.string L[m].nm, .slice au L[m].rg.length cu] 62))) ∧ ((wr.alloc (.cells #[.string L[m].nm, .slice au L[m].rg.length cu] 62)).heap[wr.heap.size]? = some (.cells #[.string L[m].nm, .slice au L[m].rg.length cu] 62 (0, 0)) ∧ (∃ cs, (Obj.cells #[.string L[m].nm, .slice au L[m].rg.length cu] 62 (0, 0)) = .cells cs 62 (0, 0)) ∧ w1.heap.size < wr.heap.size)) := by
        refine ⟨⟨keepTW _ _ _ _ htq.1 (boxB _ _), htq.2.trans (FarB.below (boxB _ _))⟩, ?_, ⟨_, rfl⟩, htq.1.far⟩
        show (wr.heap.push _)[wr.heap.size]? = _
        rw [Array.getElem?_push, if_pos rfl]
      have HUK : Hid (KeepP fun w' => SpansC w' (.slice au L[m].rg.length cu) L[m].rg) := fun _ _ h hb => ⟨h.1.below hb, h.2⟩
      have HUW : Hid (∀ w', Below w1.heap.size w1 w' → SpansC w' (.slice au L[m].rg.length cu) L[m].rg) := fun w' hb => by
        obtain ⟨ad2, cap2, e2, _, hcs2⟩ := HD.out w' hb
        cases e2
        rcases hcs2 with h2 | ⟨g2, o2, e3, hg2, hcs2⟩
        · rw [h2] at hlt; simp at hlt
        · cases e3
          obtain ⟨u2, q0, q1, ⟨hu2, _⟩, q3⟩ := hcs2 m hlt
          obtain ⟨ad3, cap3, e4, _, hcs3⟩ := HD.out w1 (Below.refl _ _)
          cases e4
          rcases hcs3 with h4 | ⟨g4, o4, e5, hg4, hcs4⟩
          · rw [h4] at hlt; simp at hlt
          · cases e5
            obtain ⟨u5, r0, r1, _, _⟩ := hcs4 m hlt
            have t1 := (hb.cell (p := ⟨g, o + m * 2 + 1, none⟩) hg4).trans r1
            have t2 := (HTQ.out.1.2.cell (p := ⟨g, o + m * 2 + 1, none⟩) hg4).trans r1
            rw [q1] at t1
            rw [p1] at t2
            cases t1
            cases t2
            exact hu2
      clear hcs hu htq
      generalize prS L[m].rg = rt at *
      generalize L[m].rg.length = lu at *
      generalize L[m].nm = s at *
      generalize hlm : l ++ listT x (L.take m) = lm at *
      have HLM := hide3 hlm
      clear hlm
      have l1 : (lm ++ x.data.toList).length ≤ 1100016 := by rw [List.length_append, list_size]; omega
      have l2 : (lm ++ x.data.toList ++ [32]).length ≤ 1100017 := by rw [List.length_append]; simp at l1 ⊢; omega
      have l3 : (lm ++ x.data.toList ++ [32] ++ s.data.toList).length ≤ 1100033 := by rw [List.length_append, list_size]; omega
      have l4 : (lm ++ x.data.toList ++ [32] ++ s.data.toList ++ [32]).length ≤ 1100034 := by rw [List.length_append]; simp at l3 ⊢; omega
      have l5 : (lm ++ x.data.toList ++ [32] ++ s.data.toList ++ [32] ++ rt.data.toList).length ≤ 1200000 := by rw [List.length_append, list_size]; omega
      go_wp2_with (first
        | (have _h := HO0; go_at_call 155; refine (HPU.out _ _ x _ _ HO0.out (by omega) (by omega)).mono ?_; rintro e w2 ⟨rfl, ok⟩; have HO1 := hide3 ok; clear ok HO0)
        | (have _h := HO1; go_at_call 155; refine (HPU.out _ _ ⟨#[32]⟩ _ _ HO1.out (Nat.le_trans l1 (by decide)) (by decide)).mono ?_; rintro e w3 ⟨rfl, ok⟩; have HO2 := hide3 ok; clear ok HO1; have d0 : w3.cell? ⟨wr.heap.size, 0, none⟩ = some (.string s) := (by rw [Lib.cell_of_heap HO2.out.2.1]; rfl))
        | (have _h := HO2; go_at_call 155; refine (HPU.out _ _ s _ _ HO2.out (Nat.le_trans l2 (by decide)) (by omega)).mono ?_; rintro e w4 ⟨rfl, ok⟩; have HO3 := hide3 ok; clear ok HO2 d0)
        | (have _h := HO3; go_at_call 155; refine (HPU.out _ _ ⟨#[32]⟩ _ _ HO3.out (Nat.le_trans l3 (by decide)) (by decide)).mono ?_; rintro e w5 ⟨rfl, ok⟩; have HO4 := hide3 ok; clear ok HO3; have d1 : w5.cell? ⟨wr.heap.size, 1, none⟩ = some (.slice au lu cu) := (by rw [Lib.cell_of_heap HO4.out.2.1]; rfl))
        | (have _h := HO4; go_at_call 220; refine (HSPd.out _ HO4.out.1.1.2 (HUW.out _ HO4.out.1.1.2)).mono ?_; rintro e w6 ⟨rfl, ok⟩; have HO5 : Hid ((TW w1 (lm ++ x.data.toList ++ [32] ++ s.data.toList ++ [32]) w6 ∧ FarB w1.heap.size wz w6) ∧ (w6.heap[wr.heap.size]? = some (.cells #[.string s, .slice au lu cu] 62 (0, 0)) ∧ (∃ cs, (Obj.cells #[.string s, .slice au lu cu] 62 (0, 0)) = .cells cs 62 (0, 0)) ∧ w1.heap.size < wr.heap.size)) := ⟨⟨keepTW _ _ _ _ HO4.out.1.1 ok, HO4.out.1.2.trans (FarB.below ok)⟩, (ok.block wr.heap.size (Array.getElem?_eq_some_iff.1 HO4.out.2.1).1).trans HO4.out.2.1, HO4.out.2.2⟩; clear ok HO4 d1)
        | (have _h := HO5; go_at_call 155; refine (HPU.out _ _ rt _ _ HO5.out (Nat.le_trans l4 (by decide)) (by omega)).mono ?_; rintro e w7 ⟨rfl, ok⟩; have HO6 := hide3 ok; clear ok HO5)
        | (have _h := HO6; go_at_call 155; refine (HPU.out _ _ ⟨#[10]⟩ _ _ HO6.out (Nat.le_trans l5 (by decide)) (by decide)).mono ?_; rintro e w8 ⟨rfl, ok⟩; have HO7 := hide3 ok; clear ok HO6))
      refine ⟨⟨m + 1, by omega, by go_num, ?_, HO7.out.1.2⟩, by simp [intOf]; omega⟩
      have e : l ++ listT x (L.take (m + 1)) = lm ++ x.data.toList ++ [32] ++ s.data.toList ++ [32] ++ rt.data.toList ++ [10] := by rw [HSN.out, ← HLM.out]; unfold lineB; simp
      rw [e]
      exact HO7.out.1.1
    · have HTN : Hid (TW w1 (l ++ listT x L) wr ∧ FarB w1.heap.size wz wr) := by
        have := HTQ.out
        rw [List.take_of_length_le (by omega)] at this
        exact this
      clear htq
      go_wp2
      go_end0
      exact ⟨rfl, HTN.out.1, HTN.out.2⟩
end Go.Proofs.YtbjbhgkbnegfgaaGreatDoor
namespace Go.Proofs.YtbjbhgkbnegfgaaGreatDoor
open Go.RowKit
set_option maxRecDepth 100000

/-- The words of the lines. -/
def lwK : Nat → ByteArray
  | 0 => ⟨#[110, 101, 101, 100, 115]⟩
  | 1 => ⟨#[98, 101, 115, 105, 100, 101]⟩
  | _ => ⟨#[108, 105, 107, 101, 115]⟩

theorem lw_size (k : Nat) : (lwK k).size ≤ 16 := by
  match k with
  | 0 | 1 => decide
  | _ + 2 => show (⟨#[108, 105, 107, 101, 115]⟩ : ByteArray).size ≤ 16; decide

/-- A package's text. -/
def textP (P : Pg) : Sc.Bs := lineB ⟨#[112, 97, 99, 107, 97, 103, 101]⟩ P.nm (textV P.a P.b P.c) ++ (listT (lwK 0) P.d ++ (listT (lwK 1) P.p ++ listT (lwK 2) P.o))
noncomputable def writtenB (P : Pg) : Bool := soundB P && decide ((textP P).length ≤ 4096)
noncomputable def writtenT (P : Pg) : ByteArray := if writtenB P = true then ⟨(textP P).toArray⟩ else ⟨#[]⟩

/-- The block of the words. -/
def wordsO : Obj := .cells #[.string (lwK 0), .string (lwK 1), .string (lwK 2)] 9 (0, 0)

theorem listWords_any (w : World) : Calls Tryz.prog 157 #[] w fun e w' => e = .returned (.slice (some ⟨w.heap.size, 0, none⟩) 3 3) ∧ w' = w.alloc (.cells #[.string (lwK 0), .string (lwK 1), .string (lwK 2)] 9) := by
  go_enter Tryz.func157, Tryz.ntmps157
  go_wp2
  go_ret
  exact ⟨rfl, rfl⟩

theorem app_list (a b : ByteArray) : (a ++ b).data.toList = a.data.toList ++ b.data.toList := by simp

theorem app_size (a b : ByteArray) : (a ++ b).size = a.size + b.size := by simp

/-- The text so far, ahead of list k. -/
def preT (P : Pg) : Nat → Sc.Bs
  | 0 => lineB ⟨#[112, 97, 99, 107, 97, 103, 101]⟩ P.nm (textV P.a P.b P.c)
  | 1 => lineB ⟨#[112, 97, 99, 107, 97, 103, 101]⟩ P.nm (textV P.a P.b P.c) ++ listT (lwK 0) P.d
  | 2 => lineB ⟨#[112, 97, 99, 107, 97, 103, 101]⟩ P.nm (textV P.a P.b P.c) ++ listT (lwK 0) P.d ++ listT (lwK 1) P.p
  | _ => lineB ⟨#[112, 97, 99, 107, 97, 103, 101]⟩ P.nm (textV P.a P.b P.c) ++ listT (lwK 0) P.d ++ listT (lwK 1) P.p ++ listT (lwK 2) P.o

theorem preT_text (P : Pg) : preT P 3 = textP P := by unfold preT textP; simp

set_option maxHeartbeats 6400000 in
theorem written_sound {P : Pg} {v1 v2 v3 : Value} {w : World} (h : PgAt w P v1 v2 v3) (he : Env w) (hf : FL w) (hsd : soundB P = true) :
    Calls Tryz.prog 101 #[.agg #[.string P.nm, .int .i64 P.a, .int .i64 P.b, .int .i64 P.c, v1, v2, v3]] w fun e w' => e = .returned (.tuple #[.string (writtenT P), .bool (writtenB P)]) ∧ Below w.heap.size w w' := by
  have HSO : Hid (∀ w1, Below w.heap.size w w1 → Calls Tryz.prog 154 #[.agg #[.string P.nm, .int .i64 P.a, .int .i64 P.b, .int .i64 P.c, v1, v2, v3]] w1 fun e w' => e = .returned (.bool true) ∧ Below w1.heap.size w1 w') := fun w1 hb => by have := sound_any (h.below hb); rw [hsd] at this; exact this
  have hs := hsd
  unfold soundB at hs
  simp only [Bool.and_eq_true] at hs
  obtain ⟨⟨⟨hnm, hmv⟩, hd, hp, ho⟩, _⟩ := hs
  have hnz : P.nm.size ≤ 16 := by unfold Sc.nameA at hnm; rw [Bool.and_eq_true, decide_eq_true_eq, list_size] at hnm; exact hnm.2
  have hvz := text_size P.a P.b P.c
  have HPR : Hid (∀ w1, Below w.heap.size w w1 → Calls Tryz.prog 156 #[.agg #[.int .i64 P.a, .int .i64 P.b, .int .i64 P.c]] w1 fun e w' => e = .returned (.string (textV P.a P.b P.c)) ∧ Below w1.heap.size w1 w') := fun w1 hb => print_on he.tab _ _ _ w1 hb
  have HPG : Hid (∀ w1, Below w.heap.size w w1 → PgAt w1 P v1 v2 v3) := fun w1 hb => h.below hb
  have HMD : Hid (mayD P.d = true ∧ mayD P.p = true ∧ mayD P.o = true) := ⟨hd, hp, ho⟩
  have HLN : Hid ((∀ k, (listT (lwK 0) (P.d.take k)).length ≤ 80000) ∧ (∀ k, (listT (lwK 1) (P.p.take k)).length ≤ 80000) ∧ (∀ k, (listT (lwK 2) (P.o.take k)).length ≤ 80000)) := ⟨list_len (lw_size 0) hd, list_len (lw_size 1) hp, list_len (lw_size 2) ho⟩
  have hll : (lineB ⟨#[112, 97, 99, 107, 97, 103, 101]⟩ P.nm (textV P.a P.b P.c)).length ≤ 5000 := line_len (by decide) hnz (by omega)
  have HF0 := hide3 (HLN.out.1 P.d.length)
  have HF1 := hide3 (HLN.out.2.1 P.p.length)
  rw [List.take_length] at HF0 HF1
  have HSZ : Hid ((P.d.length ≤ 16 ∧ P.p.length ≤ 16) ∧ P.o.length ≤ 16) := ⟨⟨(short_may hd).1, (short_may hp).1⟩, (short_may ho).1⟩
  obtain ⟨⟨z1, z2⟩, z3⟩ := HSZ.out
  have HWB : Hid (writtenB P = decide ((textP P).length ≤ 4096)) := by unfold Hid writtenB; rw [hsd]; rfl
  have HPT := hide3 (preT_text P)
  obtain ⟨a1, c1, rfl, q1⟩ := h.1.len
  obtain ⟨a2, c2, rfl, q2⟩ := h.2.1.len
  obtain ⟨a3, c3, rfl, q3⟩ := h.2.2.len
  have HLI : Hid (∀ w1, Calls Tryz.prog 158 #[.agg #[.string P.nm, .int .i64 P.a, .int .i64 P.b, .int .i64 P.c, .slice a1 P.d.length c1, .slice a2 P.p.length c2, .slice a3 P.o.length c3]] w1 fun e w' => e = .returned (.agg #[.slice a1 P.d.length c1, .slice a2 P.p.length c2, .slice a3 P.o.length c3]) ∧ Below w1.heap.size w1 w') := lists_any _ _ _ _ _ _ _ _ _ _ _ _ _
  have HLE : Hid (∀ w1 l w', TW w1 l w' → Calls Tryz.prog 160 #[.pointer (some ⟨w1.heap.size, 0, none⟩)] w' fun e w2 => e = .returned (.int .i64 l.length) ∧ w2 = w') := fun w1 l w' h => Len_any h.1
  have HST : Hid (∀ w1 l w', TW w1 l w' → Calls Tryz.prog 161 #[.pointer (some ⟨w1.heap.size, 0, none⟩)] w' fun e w2 => e = .returned (.string ⟨l.toArray⟩) ∧ Below w1.heap.size w' w2) := fun w1 l w' h => Tryz.Builder_String_any _ _ l w' h.1 h.2.size
  have HWR : Hid (∀ w1, Below w.heap.size w w1 → ∀ (l : Sc.Bs) wz (x : ByteArray) v L, TW w1 l wz → DepsAt w1 v L → mayD L = true → x.size ≤ 16 → l.length ≤ 1000000 → Calls Tryz.prog 159 #[.pointer (some ⟨w1.heap.size, 0, none⟩), .string x, v] wz fun e w' => e = .returned (.tuple #[]) ∧ TW w1 (l ++ listT x L) w' ∧ FarB w1.heap.size wz w') := fun w1 hb l wz x v L h1 h2 h3 h4 h5 => Write_any h1 h2 h3 (he.below hb) (hf.below hb) h4 h5
  have HPU : Hid (∀ w1 (l : Sc.Bs) wz (s : ByteArray), TW w1 l wz → l.length ≤ 1000000 → s.size ≤ 1000000 → Calls Tryz.prog 155 #[.pointer (some ⟨w1.heap.size, 0, none⟩), .string s] wz fun e w' => e = .returned (.tuple #[.int .i64 s.size, .nilIface]) ∧ TW w1 (l ++ s.data.toList) w' ∧ FarB w1.heap.size wz w') := fun w1 l wz s h1 h2 h3 => h1.put s (by omega) h3
  have HHD : Hid ([] ++ (⟨#[112, 97, 99, 107, 97, 103, 101, 32]⟩ ++ P.nm ++ ⟨#[32]⟩ ++ textV P.a P.b P.c ++ ⟨#[10]⟩ : ByteArray).data.toList = preT P 0 ∧ (⟨#[112, 97, 99, 107, 97, 103, 101, 32]⟩ ++ P.nm ++ ⟨#[32]⟩ ++ textV P.a P.b P.c ++ ⟨#[10]⟩ : ByteArray).size ≤ 1000000) := by
    refine ⟨by unfold preT lineB; simp, ?_⟩
    rw [app_size, app_size, app_size, app_size]
    have e1 : (⟨#[112, 97, 99, 107, 97, 103, 101, 32]⟩ : ByteArray).size = 8 := rfl
    have e2 : (⟨#[32]⟩ : ByteArray).size = 1 := rfl
    have e3 : (⟨#[10]⟩ : ByteArray).size = 1 := rfl
    omega
  have ix0 := index3_0
  have ix1 := index3_1
  have ix2 := index3_2
  clear h he hf hsd hnm hmv hd hp ho
  have HBX : Hid (BxP (w.alloc (.cells #[.string P.nm, .int .i64 P.a, .int .i64 P.b, .int .i64 P.c, .slice a1 P.d.length c1, .slice a2 P.p.length c2, .slice a3 P.o.length c3] 34)) w.heap.size P.nm P.a P.b P.c (.slice a1 P.d.length c1) (.slice a2 P.p.length c2) (.slice a3 P.o.length c3)) := BxP.new rfl _ _ _ _ _ _ _
  have HKB : Hid (KeepP fun w1 => BxP w1 w.heap.size P.nm P.a P.b P.c (.slice a1 P.d.length c1) (.slice a2 P.p.length c2) (.slice a3 P.o.length c3)) := keepBxP _ _ _ _ _ _ _ _
  go_enter Tryz.func101, Tryz.ntmps101
  go_wp2_with (go_at_call 154; refine (HSO.out _ (boxB _ _)).mono ?_; rintro e w1 ⟨rfl, ok⟩; have HO1 : Hid (Below w.heap.size w w1 ∧ BxP w1 w.heap.size P.nm P.a P.b P.c (.slice a1 P.d.length c1) (.slice a2 P.p.length c2) (.slice a3 P.o.length c3)) := ⟨below_then (boxB _ _) ok, HKB.out _ _ HBX.out ok⟩; clear ok HBX)
  have e1 := fun W : World => run_string_add_sum (P := Tryz.prog) (w := W) ⟨#[112, 97, 99, 107, 97, 103, 101, 32]⟩ P.nm (by rw [show (⟨#[112, 97, 99, 107, 97, 103, 101, 32]⟩ : ByteArray).size = 8 from rfl]; omega)
  have e2 := fun W : World => run_string_add_sum (P := Tryz.prog) (w := W) (⟨#[112, 97, 99, 107, 97, 103, 101, 32]⟩ ++ P.nm) ⟨#[32]⟩ (by rw [app_size, show (⟨#[112, 97, 99, 107, 97, 103, 101, 32]⟩ : ByteArray).size = 8 from rfl, show (⟨#[32]⟩ : ByteArray).size = 1 from rfl]; omega)
  have e3 := fun W : World => run_string_add_sum (P := Tryz.prog) (w := W) (⟨#[112, 97, 99, 107, 97, 103, 101, 32]⟩ ++ P.nm ++ ⟨#[32]⟩) (textV P.a P.b P.c) (by rw [app_size, app_size, show (⟨#[112, 97, 99, 107, 97, 103, 101, 32]⟩ : ByteArray).size = 8 from rfl, show (⟨#[32]⟩ : ByteArray).size = 1 from rfl]; omega)
  have e4 := fun W : World => run_string_add_sum (P := Tryz.prog) (w := W) (⟨#[112, 97, 99, 107, 97, 103, 101, 32]⟩ ++ P.nm ++ ⟨#[32]⟩ ++ textV P.a P.b P.c) ⟨#[10]⟩ (by rw [app_size, app_size, app_size, show (⟨#[112, 97, 99, 107, 97, 103, 101, 32]⟩ : ByteArray).size = 8 from rfl, show (⟨#[32]⟩ : ByteArray).size = 1 from rfl, show (⟨#[10]⟩ : ByteArray).size = 1 from rfl]; omega)
  have HT0 : Hid (TW w1 [] (w1.alloc (.cells #[.pointer none, .slice none 0 0] 194))) := TW.new w1
  have HBP : Hid (∀ w', Below w1.heap.size w1 w' → BxP w' w.heap.size P.nm P.a P.b P.c (.slice a1 P.d.length c1) (.slice a2 P.p.length c2) (.slice a3 P.o.length c3)) := fun w' hb => HKB.out _ _ HO1.out.2 hb
  obtain ⟨k0, k1, k2, k3, k4, k5, k6, k7⟩ := HBP.out _ HT0.out.2
  go_region_held3 (fun w' => w'.cell? ⟨w.heap.size, 0, none⟩ = some (.string P.nm) ∧ w'.cell? ⟨w.heap.size, 1, none⟩ = some (.int .i64 P.a) ∧ w'.cell? ⟨w.heap.size, 2, none⟩ = some (.int .i64 P.b) ∧ w'.cell? ⟨w.heap.size, 3, none⟩ = some (.int .i64 P.c)) (go_keep)
    (first
      | (have _h := HT0; go_at_call 156; refine (HPR.out _ (below_then HO1.out.1 (boxB _ _).drew)).mono ?_; rintro e w2 ⟨rfl, ok⟩; have HT2 := hide3 (keepTW _ _ _ _ ((keepTW _ _).drew HT0.out) ok); clear ok HT0 k0 k1 k2 k3 k4 k5 k6 k7; obtain ⟨k0, k1, k2, k3, k4, k5, k6, k7⟩ := HBP.out _ HT2.out.2)
      | (have _h := HT2; go_at_call 155; refine (HPU.out w1 [] _ _ HT2.out (by decide) HHD.out.2).mono ?_; rintro e w3 ⟨rfl, ok, _⟩; have HT3 : Hid (TW w1 (preT P 0) w3) := (by have h3 := ok; rw [HHD.out.1] at h3; exact h3); clear ok HT2 k0 k1 k2 k3 k4 k5 k6 k7; obtain ⟨k0, k1, k2, k3, k4, k5, k6, k7⟩ := HBP.out _ HT3.out.2))
  go_wp2_with (first
    | (go_at_call 157; refine (listWords_any _).mono ?_; rintro e w3b ⟨rfl, hw3b⟩; have HT3b : Hid (TW w1 (preT P 0) w3b ∧ w3b.heap[w3.heap.size]? = some wordsO ∧ w1.heap.size < w3.heap.size) := (by rw [hw3b]; exact ⟨keepTW _ _ _ _ HT3.out (boxB _ _), (by show (w3.heap.push _)[w3.heap.size]? = _; rw [Array.getElem?_push, if_pos rfl]; rfl), HT3.out.far⟩); clear hw3b k0 k1 k2 k3 k4 k5 k6 k7; obtain ⟨k0, k1, k2, k3, k4, k5, k6, k7⟩ := HBP.out _ HT3b.out.1.2)
    | (go_at_call 158; refine (HLI.out _).mono ?_; rintro e w4 ⟨rfl, ok⟩; have HT4 : Hid (TW w1 (preT P 0) w4 ∧ w4.heap[w3.heap.size]? = some wordsO ∧ w1.heap.size < w3.heap.size) := ⟨keepTW _ _ _ _ HT3b.out.1 ok, (ok.block _ (Array.getElem?_eq_some_iff.1 HT3b.out.2.1).1).trans HT3b.out.2.1, HT3b.out.2.2⟩; clear ok HT3b))
  clear k0 k1 k2 k3 k4 k5 k6 k7
  go_loopw [24] (fun i wr => ∃ k : Nat, k ≤ 3 ∧ i = .int .i64 k ∧ TW w1 (preT P k) wr ∧ wr.heap[w3.heap.size]? = some wordsO ∧ w1.heap.size < w3.heap.size) (fun i _ => 3 - (intOf i).toNat)
  case atStart => exact ⟨0, Nat.zero_le _, rfl, HT4.out⟩
  case round =>
    obtain ⟨k, hk, rfl, htw⟩ := hrel
    rcases (show k = 0 ∨ k = 1 ∨ k = 2 ∨ k = 3 by omega) with rfl | rfl | rfl | rfl
    · have HTK := hide3 htw
      clear htw
      have g0 : wr.cell? ⟨w3.heap.size, 0, none⟩ = some (.string (lwK 0)) := by rw [Lib.cell_of_heap HTK.out.2.1]; rfl
      have hpl : (preT P 0).length ≤ 1000000 := by
        have h2 := HF0.out
        have h3 := HF1.out
        simp only [preT] at *
        omega
      go_wp2_with (go_at_call 159; refine (HWR.out w1 HO1.out.1 _ _ (lwK 0) _ P.d HTK.out.1 (HPG.out w1 HO1.out.1).1 HMD.out.1 (lw_size 0) hpl).mono ?_; rintro e w5 ⟨rfl, ok, far⟩; have HT5 : Hid (TW w1 (preT P (0 + 1)) w5 ∧ w5.heap[w3.heap.size]? = some wordsO ∧ w1.heap.size < w3.heap.size) := ⟨ok, far _ _ _ _ HTK.out.2.1 (by decide) (by have := HTK.out.2.2; omega), HTK.out.2.2⟩; clear ok far)
      exact ⟨⟨0 + 1, by omega, rfl, HT5.out⟩, by simp [intOf]⟩
    · have HTK := hide3 htw
      clear htw
      have g0 : wr.cell? ⟨w3.heap.size, 1, none⟩ = some (.string (lwK 1)) := by rw [Lib.cell_of_heap HTK.out.2.1]; rfl
      have hpl : (preT P 1).length ≤ 1000000 := by
        have h2 := HF0.out
        have h3 := HF1.out
        simp only [preT, List.length_append] at *
        omega
      go_wp2_with (go_at_call 159; refine (HWR.out w1 HO1.out.1 _ _ (lwK 1) _ P.p HTK.out.1 (HPG.out w1 HO1.out.1).2.1 HMD.out.2.1 (lw_size 1) hpl).mono ?_; rintro e w5 ⟨rfl, ok, far⟩; have HT5 : Hid (TW w1 (preT P (1 + 1)) w5 ∧ w5.heap[w3.heap.size]? = some wordsO ∧ w1.heap.size < w3.heap.size) := ⟨ok, far _ _ _ _ HTK.out.2.1 (by decide) (by have := HTK.out.2.2; omega), HTK.out.2.2⟩; clear ok far)
      exact ⟨⟨1 + 1, by omega, rfl, HT5.out⟩, by simp [intOf]⟩
    · have HTK := hide3 htw
      clear htw
      have g0 : wr.cell? ⟨w3.heap.size, 2, none⟩ = some (.string (lwK 2)) := by rw [Lib.cell_of_heap HTK.out.2.1]; rfl
      have hpl : (preT P 2).length ≤ 1000000 := by
        have h2 := HF0.out
        have h3 := HF1.out
        simp only [preT, List.length_append] at *
        omega
      go_wp2_with (go_at_call 159; refine (HWR.out w1 HO1.out.1 _ _ (lwK 2) _ P.o HTK.out.1 (HPG.out w1 HO1.out.1).2.2 HMD.out.2.2 (lw_size 2) hpl).mono ?_; rintro e w5 ⟨rfl, ok, far⟩; have HT5 : Hid (TW w1 (preT P (2 + 1)) w5 ∧ w5.heap[w3.heap.size]? = some wordsO ∧ w1.heap.size < w3.heap.size) := ⟨ok, far _ _ _ _ HTK.out.2.1 (by decide) (by have := HTK.out.2.2; omega), HTK.out.2.2⟩; clear ok far)
      exact ⟨⟨2 + 1, by omega, rfl, HT5.out⟩, by simp [intOf]⟩
    · have HTE := hide3 htw.1
      rw [HPT.out] at HTE
      clear htw
      by_cases hlen : (textP P).length ≤ 4096
      · have HR : Hid (writtenB P = true ∧ writtenT P = ⟨(textP P).toArray⟩) := by
          have : writtenB P = true := by rw [HWB.out]; exact decide_eq_true hlen
          exact ⟨this, by unfold writtenT; rw [if_pos this]⟩
        go_wp2_with (first
          | (go_at_call 160; refine (HLE.out _ _ _ HTE.out).mono ?_; rintro e w5 ⟨rfl, rfl⟩)
          | (go_at_call 161; refine (HST.out _ _ _ HTE.out).mono ?_; rintro e w6 ⟨rfl, ok⟩; have HB6 := hide3 (below_then HO1.out.1 (HTE.out.2.trans ok)); clear ok))
        go_ret2
        exact ⟨by rw [HR.out.1, HR.out.2]; rfl, HB6.out⟩
      · have HR : Hid (writtenB P = false ∧ writtenT P = ⟨#[]⟩) := by
          have : writtenB P = false := by rw [HWB.out]; exact decide_eq_false hlen
          exact ⟨this, by unfold writtenT; rw [if_neg (by rw [this]; simp)]⟩
        go_wp2_with (go_at_call 160; refine (HLE.out _ _ _ HTE.out).mono ?_; rintro e w5 ⟨rfl, rfl⟩)
        go_ret2
        exact ⟨by rw [HR.out.1, HR.out.2]; rfl, below_then HO1.out.1 HTE.out.2⟩

theorem written_any {P : Pg} {v1 v2 v3 : Value} {w : World} (h : PgAt w P v1 v2 v3) (he : Env w) (hf : FL w) :
    Calls Tryz.prog 101 #[.agg #[.string P.nm, .int .i64 P.a, .int .i64 P.b, .int .i64 P.c, v1, v2, v3]] w fun e w' => e = .returned (.tuple #[.string (writtenT P), .bool (writtenB P)]) ∧ Below w.heap.size w w' := by
  cases hsd : soundB P
  · have HSO : Hid (∀ w1, Below w.heap.size w w1 → Calls Tryz.prog 154 #[.agg #[.string P.nm, .int .i64 P.a, .int .i64 P.b, .int .i64 P.c, v1, v2, v3]] w1 fun e w' => e = .returned (.bool false) ∧ Below w1.heap.size w1 w') := fun w1 hb => by have := sound_any (h.below hb); rw [hsd] at this; exact this
    have HR : Hid (writtenB P = false ∧ writtenT P = ⟨#[]⟩) := by
      have : writtenB P = false := by unfold writtenB; rw [hsd]; rfl
      exact ⟨this, by unfold writtenT; rw [if_neg (by rw [this]; simp)]⟩
    obtain ⟨a1, c1, rfl⟩ := h.1.sl
    obtain ⟨a2, c2, rfl⟩ := h.2.1.sl
    obtain ⟨a3, c3, rfl⟩ := h.2.2.sl
    clear h he hf hsd
    go_enter Tryz.func101, Tryz.ntmps101
    go_wp2_with (go_at_call 154; refine (HSO.out _ (boxB _ _)).mono ?_; rintro e w1 ⟨rfl, ok⟩; have HO1 := hide3 (below_then (boxB _ _) ok); clear ok)
    go_ret2
    exact ⟨by rw [HR.out.1, HR.out.2]; rfl, HO1.out⟩
  · exact written_sound h he hf hsd

/-- May of package pack. -/
theorem pMay_any {P : Pg} {v1 v2 v3 : Value} {w : World} (h : PgAt w P v1 v2 v3) (he : Env w) (hf : FL w) :
    Calls Tryz.prog 56 #[.agg #[.string P.nm, .int .i64 P.a, .int .i64 P.b, .int .i64 P.c, v1, v2, v3]] w fun e w' => e = .returned (.bool (writtenB P)) ∧ Below w.heap.size w w' := by
  have HW : Hid (∀ w1, Below w.heap.size w w1 → Calls Tryz.prog 101 #[.agg #[.string P.nm, .int .i64 P.a, .int .i64 P.b, .int .i64 P.c, v1, v2, v3]] w1 fun e w' => e = .returned (.tuple #[.string (writtenT P), .bool (writtenB P)]) ∧ Below w1.heap.size w1 w') := fun w1 hb => written_any (h.below hb) (he.below hb) (hf.below hb)
  obtain ⟨a1, c1, rfl⟩ := h.1.sl
  obtain ⟨a2, c2, rfl⟩ := h.2.1.sl
  obtain ⟨a3, c3, rfl⟩ := h.2.2.sl
  clear h he hf
  go_enter Tryz.func56, Tryz.ntmps56
  go_wp2_with (go_at_call 101; refine (HW.out _ (boxB _ _)).mono ?_; rintro e w1 ⟨rfl, ok⟩; have HO1 := hide3 (below_then (boxB _ _) ok); clear ok)
  go_ret
  exact ⟨rfl, HO1.out⟩

end Go.Proofs.YtbjbhgkbnegfgaaGreatDoor
namespace Go.Proofs.YtbjbhgkbnegfgaaGreatDoor
open Go.RowKit Go.Maps Go.WideMaps
set_option maxRecDepth 100000

/-- A package with the values of its lists. -/
structure CV where
  pg : Pg
  u1 : Value
  u2 : Value
  u3 : Value
def keyC (x : CV) : Lit := keyP x.pg.nm x.pg.a x.pg.b x.pg.c
def cvV (x : CV) : Value := .agg #[.string x.pg.nm, .int .i64 x.pg.a, .int .i64 x.pg.b, .int .i64 x.pg.c, x.u1, x.u2, x.u3]
def cvE (x : CV) : Lit × DataW Value := (keyC x, .held (cvV x))
/-- A key that a map may have. -/
def KeyOk (s : ByteArray) (a b c : Int) : Prop := s.size ≤ maxLen ∧ I64 a ∧ I64 b ∧ I64 c
/-- Is it this name and version? -/
def isAt (s : ByteArray) (a b c : Int) (x : CV) : Bool := decide (x.pg.nm = s ∧ x.pg.a = a ∧ x.pg.b = b ∧ x.pg.c = c)
def catC (L : List CV) (s : ByteArray) (a b c : Int) : Option CV := L.find? (isAt s a b c)
theorem same_key {s s' : ByteArray} {a b c a' b' c' : Int} (h : KeyOk s a b c) (h' : KeyOk s' a' b' c') : (keyP s' a' b' c').sameKey (keyP s a b c) = decide (s' = s ∧ a' = a ∧ b' = b ∧ c' = c) := by
  by_cases e : s' = s ∧ a' = a ∧ b' = b ∧ c' = c
  · obtain ⟨rfl, rfl, rfl, rfl⟩ := e
    simp [keyP, Lit.sameKey]
  · rw [decide_eq_false e]
    have hne : keyP s' a' b' c' ≠ keyP s a b c := fun q => e (keyP_inj h'.1 h'.2.1 h'.2.2.1 h'.2.2.2 h.1 h.2.1 h.2.2.1 h.2.2.2 q)
    simp only [keyP, Lit.sameKey]
    rw [beq_eq_false_iff_ne]
    exact fun q => hne (by unfold keyP; rw [q])
theorem same_at {L : List CV} (hL : ∀ x ∈ L, KeyOk x.pg.nm x.pg.a x.pg.b x.pg.c) {s : ByteArray} {a b c : Int} (h : KeyOk s a b c) : ∀ x ∈ L, (keyC x).sameKey (keyP s a b c) = isAt s a b c x := fun x hx => same_key h (hL x hx)
theorem find_congr {α : Type} {p q : α → Bool} : ∀ {l : List α}, (∀ x ∈ l, p x = q x) → l.find? p = l.find? q
  | [], _ => rfl
  | x :: r, h => by
    rw [List.find?_cons, List.find?_cons, h x List.mem_cons_self, find_congr fun y hy => h y (List.mem_cons_of_mem _ hy)]
theorem any_congr {α : Type} {p q : α → Bool} : ∀ {l : List α}, (∀ x ∈ l, p x = q x) → l.any p = l.any q
  | [], _ => rfl
  | x :: r, h => by
    rw [List.any_cons, List.any_cons, h x List.mem_cons_self, any_congr fun y hy => h y (List.mem_cons_of_mem _ hy)]
theorem has_at {L : List CV} (hL : ∀ x ∈ L, KeyOk x.pg.nm x.pg.a x.pg.b x.pg.c) {s : ByteArray} {a b c : Int} (h : KeyOk s a b c) : Maps.has (.map (L.map cvE)) (keyP s a b c) = (catC L s a b c).isSome := by
  rw [Maps.has_eq, List.any_map, catC, List.isSome_find?]
  exact any_congr (fun x hx => same_at hL h x hx)
theorem key_at {L : List CV} (hL : ∀ x ∈ L, KeyOk x.pg.nm x.pg.a x.pg.b x.pg.c) {s : ByteArray} {a b c : Int} (h : KeyOk s a b c) (z : DataW Value) : (DataW.map (L.map cvE)).atKey (keyP s a b c) z = match catC L s a b c with
    | some x => .held (cvV x)
    | none => z := by
  have e : (L.map cvE).find? (fun p => p.1.sameKey (keyP s a b c)) = (catC L s a b c).map cvE := by
    rw [List.find?_map, catC]
    exact congrArg (Option.map cvE) (find_congr fun x hx => same_at hL h x hx)
  unfold DataW.atKey
  simp only [e]
  cases catC L s a b c <;> rfl
/-- One more is put in: where it comes to stand is the map's own matter. -/
theorem insert_cv (x : CV) : ∀ L : List CV, ∃ L' : List CV, DataW.insert (cvE x) (L.map cvE) = L'.map cvE ∧ L'.Perm (x :: L)
  | [] => ⟨[x], rfl, List.Perm.refl _⟩
  | y :: r => by
    by_cases hb : (cvE x).1.before (cvE y).1 = true
    · exact ⟨x :: y :: r, by rw [List.map_cons, DataW.insert, if_pos hb]; rfl, List.Perm.refl _⟩
    · obtain ⟨L', h1, h2⟩ := insert_cv x r
      refine ⟨y :: L', ?_, (List.Perm.cons y h2).trans (List.Perm.swap x y r)⟩
      rw [List.map_cons, DataW.insert, if_neg hb, h1, List.map_cons]
theorem put_cv {L : List CV} (hL : ∀ x ∈ L, KeyOk x.pg.nm x.pg.a x.pg.b x.pg.c) {x : CV} (h : KeyOk x.pg.nm x.pg.a x.pg.b x.pg.c) (hn : catC L x.pg.nm x.pg.a x.pg.b x.pg.c = none) : ∃ L' : List CV, (DataW.map (L.map cvE)).put (keyC x) (.held (cvV x)) = .map (L'.map cvE) ∧ L'.Perm (x :: L) := by
  have e : (L.map cvE).filter (fun p => !p.1.sameKey (keyC x)) = L.map cvE := List.filter_eq_self.2 fun p hp => by
    obtain ⟨y, hy, rfl⟩ := List.mem_map.1 hp
    have q := same_at hL h y hy
    have r : isAt x.pg.nm x.pg.a x.pg.b x.pg.c y = false := by
      have := List.find?_eq_none.1 hn y hy
      simpa using this
    show (!(keyC y).sameKey (keyP x.pg.nm x.pg.a x.pg.b x.pg.c)) = true
    rw [q, r]
    rfl
  obtain ⟨L', h1, h2⟩ := insert_cv x L
  refine ⟨L', ?_, h2⟩
  show DataW.map (DataW.insert (keyC x, .held (cvV x)) ((L.map cvE).filter fun p => !p.1.sameKey (keyC x))) = _
  rw [e]
  exact congrArg DataW.map h1
/-- A catalog lies there: its map, and its packages, in memory of its own. -/
def CatAt (w : World) (B C M : Nat) (L : List CV) : Prop := (w.cell? ⟨C, 0, none⟩ = some (.map (some M)) ∧ C < w.heap.size ∧ M ≠ C) ∧ w.ownsMap Tryz.prog 95 heldR M L.length (.map (L.map cvE)) ∧ (∀ x ∈ L, (OwnG w B x.pg x.u1 x.u2 x.u3 ∧ writtenB x.pg = true) ∧ KeyOk x.pg.nm x.pg.a x.pg.b x.pg.c ∧ SmP x.pg) ∧ L.Pairwise fun x y => keyC x ≠ keyC y
theorem ownsMapH_below {w w' : World} {M n : Nat} {D : DataW Value} (h : w.ownsMap Tryz.prog 95 heldR M n D) (hb : Below w.heap.size w w') : w'.ownsMap Tryz.prog 95 heldR M n D := by
  have hM := h.lt
  obtain ⟨es, cl, h1, r⟩ := h
  exact ⟨es, cl, (hb.block M hM).trans h1, r⟩
theorem CatAt.below {w w' : World} {B C M : Nat} {L : List CV} (h : CatAt w B C M L) (hb : Below w.heap.size w w') : CatAt w' B C M L := by
  obtain ⟨⟨h1, h2, h3⟩, h4, h5, h6⟩ := h
  exact ⟨⟨(hb.cell (p := ⟨C, 0, none⟩) h2).trans h1, Nat.lt_of_lt_of_le h2 hb.size, h3⟩, ownsMapH_below h4 hb, fun x hx => ⟨⟨(h5 x hx).1.1.below hb, (h5 x hx).1.2⟩, (h5 x hx).2⟩, h6⟩
/-- A new one. -/
theorem CatAt.new (w : World) (B : Nat) : CatAt ((w.alloc (.map #[] 0)).alloc (.cells #[.map (some w.heap.size)] 98)) B (w.heap.size + 1) w.heap.size [] := by
  refine ⟨⟨?_, ?_, by omega⟩, (World.ownsMap_made (H := Value) w Tryz.prog 95 heldR).alloc _, fun x hx => (by cases hx), List.Pairwise.nil⟩
  · have : (w.alloc (.map #[] 0)).heap.size = w.heap.size + 1 := by simp
    rw [← this]
    simp
  · simp
/-- What is found in a catalog. -/
theorem CatAt.find {w : World} {B C M : Nat} {L : List CV} (h : CatAt w B C M L) {s : ByteArray} {a b c : Int} {x : CV} (hx : catC L s a b c = some x) : x ∈ L ∧ x.pg.nm = s ∧ x.pg.a = a ∧ x.pg.b = b ∧ x.pg.c = c ∧ OwnG w B x.pg x.u1 x.u2 x.u3 ∧ writtenB x.pg = true ∧ SmP x.pg := by
  have hm := List.mem_of_find?_eq_some hx
  have hp := List.find?_some hx
  have hq : x.pg.nm = s ∧ x.pg.a = a ∧ x.pg.b = b ∧ x.pg.c = c := of_decide_eq_true hp
  exact ⟨hm, hq.1, hq.2.1, hq.2.2.1, hq.2.2.2, (h.2.2.1 x hm).1.1, (h.2.2.1 x hm).1.2, (h.2.2.1 x hm).2.2⟩
def zPg : Value := .agg #[.string ByteArray.empty, .int .i64 0, .int .i64 0, .int .i64 0, .slice none 0 0, .slice none 0 0, .slice none 0 0]
def gotV (L : List CV) (s : ByteArray) (a b c : Int) : Value := match catC L s a b c with
  | some x => cvV x
  | none => zPg
theorem CatAt.keys {w : World} {B C M : Nat} {L : List CV} (h : CatAt w B C M L) : ∀ x ∈ L, KeyOk x.pg.nm x.pg.a x.pg.b x.pg.c := fun x hx => (h.2.2.1 x hx).2.1
/-- A package is looked up. -/
theorem look_cat {w : World} {B C M : Nat} {L : List CV} (h : CatAt w B C M L) {s : ByteArray} {a b c : Int} (hk : KeyOk s a b c) : (Instr.lookup 96 (.map (some M)) (pinV s a b c) true).run Tryz.prog w = .ok (.tuple #[gotV L s a b c, .bool (catC L s a b c).isSome]) w := by
  obtain ⟨v, ps, h1, h2⟩ := h.2.1.look_ok keyedPin Tryz.underlying96 (zeroPg w) (zd := .held zPg) (zp := []) rfl (keyOf_pin hk.1 hk.2.1 hk.2.2.1 hk.2.2.2)
  rw [has_at h.keys hk] at h1
  rw [key_at h.keys hk] at h2
  have e : v = gotV L s a b c := by
    unfold gotV
    cases hc : catC L s a b c with
    | none => rw [hc] at h2; exact heldR_inv h2
    | some x => rw [hc] at h2; exact heldR_inv h2
  rw [h1, e]
theorem len_cat {w : World} {B C M : Nat} {L : List CV} (h : CatAt w B C M L) : ∃ es cl, w.heap[M]? = some (.map es cl) ∧ es.size = L.length := by
  obtain ⟨es, cl, h1, h2, h3, h4⟩ := h.2.1
  refine ⟨es, cl, h1, ?_⟩
  injection h4 with h4
  have := congrArg List.length h4
  rw [List.length_map, length_sorted, List.length_map, Array.length_toList] at this
  exact this.symm
end Go.Proofs.YtbjbhgkbnegfgaaGreatDoor
