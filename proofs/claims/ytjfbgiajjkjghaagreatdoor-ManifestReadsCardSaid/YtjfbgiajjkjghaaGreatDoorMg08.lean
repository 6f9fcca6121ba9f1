/- Pk4, Mf1, RwM, ScBd1, Pure3, Ix1, laid in one text. -/
import Derived.Maps.Own
import Derived.Maps.Views
import Derived.Maps.OwnSet
import Derived.Shelf.Strings.Builder1
import Derived.Lib.IndexMore
import Derived.Lib.CountLaws
import Derived.Test.YtjfbgiajjkjghaaGreatDoorShelfD
import Derived.Laws.RangeAny
import Derived.WalkLawsBesides
import Derived.Test.YtjfbgiajjkjghaaGreatDoorMg07
namespace Go.Proofs.YtjfbgiajjkjghaaGreatDoor
open Go.RowKit Go.Maps Go.WideMaps Go.WideElems
set_option maxRecDepth 100000

def keyS (s : ByteArray) : Lit := .string s.data.toList
theorem keyS_inj {s t : ByteArray} (h : keyS s = keyS t) : s = t := by
  unfold keyS at h
  injection h with h
  exact bytes_same (by rw [ByteArray.toList_eq, ByteArray.toList_eq, h])
theorem isKeyS (s : ByteArray) : WideAt.IsKeyLit (keyS s) := by unfold keyS WideAt.IsKeyLit; trivial
theorem keyedS : Keyed Tryz.prog 9 := string_keyed Tryz.underlying9
theorem keyOfS {s : ByteArray} (hs : s.size ≤ maxLen) : keyOf Tryz.prog 9 (.string s) = some (keyS s) := keyOf_string_mk Tryz.underlying9 hs
theorem zeroInt (w : World) : (zeroValue 3).run Tryz.prog w = .ok (.int .i64 0) w := by kernel_rfl

/-- A map that has met these names, each once. -/
def CntD (D : DataW Unit) (done : List ByteArray) : Prop := IsMap D ∧ ∀ s : ByteArray, (s ∈ done → D.atKey (keyS s) (.lit (.int .i64 0)) = .lit (.int .i64 1)) ∧ (s ∉ done → D.atKey (keyS s) (.lit (.int .i64 0)) = .lit (.int .i64 0))
theorem CntD.nil : CntD (.map []) [] := ⟨⟨[], rfl⟩, fun _ => ⟨fun h => (by cases h), fun _ => rfl⟩⟩
theorem isMap_put {D : DataW Unit} (h : IsMap D) (k : Lit) (d : DataW Unit) : IsMap (D.put k d) := by
  obtain ⟨es, rfl⟩ := h
  exact ⟨_, rfl⟩
theorem CntD.put {D : DataW Unit} {done : List ByteArray} (h : CntD D done) {s : ByteArray} : CntD (D.put (keyS s) (.lit (.int .i64 1))) (done ++ [s]) := by
  refine ⟨isMap_put h.1 _ _, fun t => ?_⟩
  by_cases e : t = s
  · subst e
    rw [atKey_put_same h.1 (isKeyS t)]
    exact ⟨fun _ => rfl, fun hn => absurd (by simp) hn⟩
  · rw [atKey_put_other fun k => e (keyS_inj k)]
    exact ⟨fun hm => (h.2 t).1 (by simpa [e] using hm), fun hn => (h.2 t).2 (by simpa [e] using hn)⟩
theorem ownsMap_below {w w' : World} {M n : Nat} {D : DataW Unit} (h : w.ownsMap Tryz.prog 9 (plainElem Tryz.prog 3) M n D) (hb : Below w.heap.size w w') : w'.ownsMap Tryz.prog 9 (plainElem Tryz.prog 3) M n D := by
  have hl := h.lt
  obtain ⟨es, clock, hm, r⟩ := h
  exact ⟨es, clock, (hb.block M hl).trans hm, r⟩

/-- Lists that lie in memory, in a row. -/
def ListsAt (w : World) (g o : Nat) (Ls : List (List Dp)) : Prop := g < w.heap.size ∧ ∀ k (h : k < Ls.length), ∃ u, w.cell? ⟨g, o + k, none⟩ = some u ∧ DepsAt w u Ls[k]
theorem ListsAt.below {w w' : World} {g o : Nat} {Ls : List (List Dp)} (h : ListsAt w g o Ls) (hb : Below w.heap.size w w') : ListsAt w' g o Ls :=
  ⟨Nat.lt_of_lt_of_le h.1 hb.size, fun k hk => (h.2 k hk).imp fun _ hu => ⟨(hb.cell (p := ⟨g, o + k, none⟩) h.1).trans hu.1, hu.2.below hb⟩⟩
theorem keepLists (g o : Nat) (Ls : List (List Dp)) : KeepP fun w1 => ListsAt w1 g o Ls := fun _ _ h hb => h.below hb

/-- No name stands twice. -/
def namesL (Ls : List (List Dp)) : List ByteArray := Ls.flatten.map Dp.nm
noncomputable def onceL (Ls : List (List Dp)) : Bool := @decide ((namesL Ls).Nodup) (Classical.propDecidable _)
theorem once_no {Ls : List (List Dp)} {done rest : List ByteArray} {s : ByteArray} (h : namesL Ls = done ++ s :: rest) (hs : s ∈ done) : onceL Ls = false := by
  unfold onceL
  refine @decide_eq_false _ (Classical.propDecidable _) fun hn => ?_
  rw [h, List.nodup_append] at hn
  exact hn.2.2 s hs s List.mem_cons_self rfl
theorem once_yes {Ls : List (List Dp)} (h : (namesL Ls).Nodup) : onceL Ls = true := by unfold onceL; exact @decide_eq_true _ (Classical.propDecidable _) h
theorem nodup_snoc {l : List ByteArray} {s : ByteArray} (h : l.Nodup) (hs : s ∉ l) : (l ++ [s]).Nodup := by
  rw [List.nodup_append]
  refine ⟨h, by simp, ?_⟩
  intro a ha b hb e
  rw [List.mem_singleton] at hb
  subst hb e
  exact hs ha

/-- Lists that are short, with short names. -/
def ShortL (L : List Dp) : Prop := L.length ≤ 16 ∧ ∀ d ∈ L, d.nm.size ≤ 16
theorem short_may {L : List Dp} (h : mayD L = true) : ShortL L := by
  unfold mayD at h
  rw [Bool.and_eq_true, decide_eq_true_eq] at h
  refine ⟨h.1, ?_⟩
  have : ∀ (M : List Dp) (q : Option ByteArray), riseD q M = true → ∀ d ∈ M, d.nm.size ≤ 16 := by
    intro M
    induction M with
    | nil => intro q _ d hd; cases hd
    | cons e M ih =>
      intro q hq d hd
      rw [riseD, Bool.and_eq_true, Bool.and_eq_true] at hq
      rcases List.mem_cons.1 hd with rfl | hd
      · have := hq.1.1
        unfold followB at this
        rw [Bool.and_eq_true] at this
        have := this.1
        unfold Sc.nameA at this
        rw [Bool.and_eq_true, decide_eq_true_eq, list_size] at this
        exact this.2
      · exact ih _ hq.2 d hd
  exact this L none h.2

/-- What the walk of Once keeps. -/
def KO (w : World) (M n : Nat) (D : DataW Unit) (w1 : World) : Prop := Below w.heap.size w w1 ∧ w1.ownsMap Tryz.prog 9 (plainElem Tryz.prog 3) M n D
theorem KO.alloc {w : World} {M n : Nat} {D : DataW Unit} {w1 : World} (h : KO w M n D w1) (o : Obj) : KO w M n D (w1.alloc o) := ⟨below_then h.1 (boxB _ _), h.2.alloc o⟩
theorem KO.drew {w : World} {M n : Nat} {D : DataW Unit} {w1 : World} (h : KO w M n D w1) : KO w M n D w1.drew := ⟨below_then h.1 (Below.refl _ _).drew, ownsMap_below h.2 (Below.refl _ _).drew⟩

/-- Where the inner loop stands. -/
def RelO (w : World) (Ls : List (List Dp)) (L T : List Dp) (K : Nat) (j : Value) (wq : World) : Prop := ∃ (m n : Nat) (D : DataW Unit) (done : List ByteArray), m ≤ L.length ∧ j = .int .i64 m ∧ n ≤ 16 * K + m ∧ KO w w.heap.size n D wq ∧ CntD D done ∧ done.Nodup ∧ namesL Ls = done ++ (L.drop m ++ T).map Dp.nm

set_option maxHeartbeats 6400000 in
theorem Once_any {Ls : List (List Dp)} {g o cap : Nat} {w : World} (h : ListsAt w g o Ls) (hs : ∀ L ∈ Ls, ShortL L) (hln : Ls.length ≤ 16) :
    Calls Tryz.prog 48 #[.slice (some ⟨g, o, none⟩) Ls.length cap] w fun e w' => e = .returned (.bool (onceL Ls)) ∧ Below w.heap.size w w' := by
  have HP : Hid (∀ k (h : k < Ls.length), ∃ u, ∀ w1, Below w.heap.size w w1 → w1.cell? ⟨g, o + k, none⟩ = some u ∧ DepsAt w1 u Ls[k]) := fun k hk => (h.2 k hk).imp fun u hu w1 hb => ⟨(hb.cell (p := ⟨g, o + k, none⟩) h.1).trans hu.1, hu.2.below hb⟩
  have HS := hide3 hs
  clear h hs
  have hmm := @run_makeMap Tryz.prog
  have HM0 : Hid (KO w w.heap.size 0 (.map []) (w.alloc (.map #[] 0))) := ⟨boxB _ _, World.ownsMap_made (H := Unit) w Tryz.prog 9 (plainElem Tryz.prog 3)⟩
  go_enter Tryz.func48, Tryz.ntmps48
  go_wp2_with fail
  go_loopw [11] (fun i wr => ∃ (k n : Nat) (D : DataW Unit) (done : List ByteArray), k ≤ Ls.length ∧ i = .int .i64 k ∧ n ≤ 16 * k ∧ KO w w.heap.size n D wr ∧ CntD D done ∧ done.Nodup ∧ namesL Ls = done ++ (Ls.drop k).flatten.map Dp.nm) (fun i _ => Ls.length - (intOf i).toNat)
  case atStart => exact ⟨0, 0, .map [], [], Nat.zero_le _, rfl, Nat.le_refl _, HM0.out, CntD.nil, List.nodup_nil, rfl⟩
  case round =>
    obtain ⟨k, n, D, done, hk, rfl, hn, hko, hcn, hnd, hnm⟩ := hrel
    by_cases hkl : k < Ls.length
    · obtain ⟨u, HU⟩ := HP.out k hkl
      obtain ⟨cu, hdu⟩ := HU wr hko.1
      obtain ⟨AA, CC, rfl, hzc⟩ := hdu.len
      have HU := hide3 HU
      clear hdu
      have HSL := hide3 (HS.out _ (List.getElem_mem hkl))
      have HKO0 := hide3 hko
      have HCN0 := hide3 hcn
      have HND0 := hide3 hnd
      have HNM0 : Hid (namesL Ls = done ++ (Ls[k] ++ (Ls.drop (k + 1)).flatten).map Dp.nm) := by
        unfold Hid
        rw [hnm, List.drop_eq_getElem_cons hkl, List.flatten_cons]
      have l1 := HSL.out.1
      clear hko hcn hnd hnm
      generalize Ls[k] = L at *
      generalize hT : (Ls.drop (k + 1)).flatten = T at *
      have HT := hide3 hT
      clear hT
      go_wp2_with fail
      go_loopw [17] (fun j wq => RelO w Ls L T k j wq) (fun j _ => L.length - (intOf j).toNat)
      case atStart => exact ⟨0, n, D, done, Nat.zero_le _, rfl, by omega, HKO0.out, HCN0.out, HND0.out, HNM0.out⟩
      case round =>
        clear HKO0 HCN0 HND0 HNM0 cu
        obtain ⟨m, n, D, done, hm, rfl, hn, hko, hcn, hnd, hnm⟩ := hrel
        by_cases hlt : m < L.length
        · obtain ⟨ad, cap, e, _, hcs⟩ := (HU.out wr hko.1).2
          cases e
          obtain ⟨g, o, rfl, hg, hcs⟩ : ∃ g o, AA = some ⟨g, o, none⟩ ∧ g < wr.heap.size ∧ ∀ i (h : i < L.length), ∃ u, DpIn wr g (o + i * 2) L[i] u := by
            rcases hcs with h | h
            · rw [h] at hlt; simp at hlt
            · exact h
          obtain ⟨u, p0, p1, ⟨⟨hu, _⟩, _⟩, p3⟩ := hcs m hlt
          obtain ⟨au, cu, rfl⟩ := hu.sl
          have hnz : L[m].nm.size ≤ 16 := HSL.out.2 _ (List.getElem_mem hlt)
          have HNM1 : Hid (namesL Ls = done ++ L[m].nm :: (L.drop (m + 1) ++ T).map Dp.nm) := by
            unfold Hid
            rw [hnm, List.drop_eq_getElem_cons hlt]
            rfl
          clear hcs hu hnm
          generalize L[m].rg.length = lu at *
          generalize L[m].nm = s at *
          have hkey : keyOf Tryz.prog 9 (.string s) = some (keyS s) := keyOfS (by unfold maxLen; omega)
          have HKA : Hid (KO w w.heap.size n D (wr.alloc (.cells #[.string s, .slice au lu cu] 36))) := hko.alloc _
          obtain ⟨c, hrun, hat, _⟩ := HKA.out.2.lookup_int keyedS Tryz.underlying95 Tryz.underlying3 (zeroInt _) hkey
          have hBX : Hid (BxD (wr.alloc (.cells #[.string s, .slice au lu cu] 36)) wr.heap.size s (.slice au lu cu)) := BxD.new rfl _ _
          have hMw : w.heap.size < wr.heap.size := hko.2.lt
          have hBw := hko.1.size
          by_cases hin : s ∈ done
          · rw [(hcn.2 s).1 hin] at hat
            obtain rfl : c = 1 := by injection hat with h1; injection h1 with _ h2; exact h2.symm
            have HR := hide3 (once_no HNM1.out hin)
            have HMP := hide3 hcn.1
            clear hko hcn hnd HNM1
            go_wp2_with (at_mapUpdate; refine wpList_mapUpdate_own _ rfl _ _ _ 95 rfl 9 3 keyedS Tryz.underlying95 _ w.heap.size n D rfl HKA.out.2 (by unfold maxLen; omega) _ _ _ rfl rfl hkey _ [] (plainElem_int (H := Unit) Tryz.underlying3 (show (Lit.int .i64 2).wf = true by decide)) ?_; intro w5 hown5 hg5; obtain ⟨c5, hrun5, hat5, _⟩ := hown5.lookup_int keyedS Tryz.underlying95 Tryz.underlying3 (zeroInt _) hkey; rw [atKey_put_same HMP.out (isKeyS s)] at hat5; obtain rfl : c5 = 2 := (by injection hat5 with h1; injection h1 with _ h2; exact h2.symm); have b0 : w5.cell? ⟨wr.heap.size, 0, none⟩ = some (.string s) := (hg5.cell_far ⟨wr.heap.size, 0, none⟩ (by simp) (by simp; omega)).trans hBX.out.1; have HB5 : Hid (Below w.heap.size w w5) := HKA.out.1.grown hg5 HKA.out.1.size (fun j hj => by cases hj; omega); clear hat5)
            go_ret
            exact ⟨ret_bool HR.out.symm, HB5.out⟩
          · rw [(hcn.2 s).2 hin] at hat
            obtain rfl : c = 0 := by injection hat with h1; injection h1 with _ h2; exact h2.symm
            have HCN2 : Hid (CntD (D.put (keyS s) (.lit (.int .i64 1))) (done ++ [s])) := hcn.put
            have HND2 := hide3 (nodup_snoc hnd hin)
            have HNM2 : Hid (namesL Ls = (done ++ [s]) ++ (L.drop (m + 1) ++ T).map Dp.nm) := by unfold Hid; rw [HNM1.out]; simp
            have HMP := hide3 hcn.1
            clear hko hcn hnd HNM1
            go_wp2_with (at_mapUpdate; refine wpList_mapUpdate_own _ rfl _ _ _ 95 rfl 9 3 keyedS Tryz.underlying95 _ w.heap.size n D rfl HKA.out.2 (by unfold maxLen; omega) _ _ _ rfl rfl hkey _ [] (plainElem_int (H := Unit) Tryz.underlying3 (show (Lit.int .i64 1).wf = true by decide)) ?_; intro w5 hown5 hg5; obtain ⟨c5, hrun5, hat5, _⟩ := hown5.lookup_int keyedS Tryz.underlying95 Tryz.underlying3 (zeroInt _) hkey; rw [atKey_put_same HMP.out (isKeyS s)] at hat5; obtain rfl : c5 = 1 := (by injection hat5 with h1; injection h1 with _ h2; exact h2.symm); have b0 : w5.cell? ⟨wr.heap.size, 0, none⟩ = some (.string s) := (hg5.cell_far ⟨wr.heap.size, 0, none⟩ (by simp) (by simp; omega)).trans hBX.out.1; have HB5 : Hid (KO w w.heap.size (n + 1) (D.put (keyS s) (.lit (.int .i64 1))) w5) := ⟨HKA.out.1.grown hg5 HKA.out.1.size (fun j hj => by cases hj; omega), hown5⟩; clear hat5)
            exact ⟨⟨m + 1, n + 1, _, _, by omega, by go_num, by omega, HB5.out, HCN2.out, HND2.out, HNM2.out⟩, by simp [intOf]; omega⟩
        · have HNM2 : Hid (namesL Ls = done ++ T.map Dp.nm) := by unfold Hid; rw [hnm, List.drop_of_length_le (by omega)]; rfl
          have HKO := hide3 hko
          have HCN := hide3 hcn
          have HND := hide3 hnd
          clear hko hcn hnd hnm
          go_wp2
          exact ⟨⟨k + 1, n, D, done, by omega, by go_num, by omega, HKO.out, HCN.out, HND.out, by rw [HT.out]; exact HNM2.out⟩, by simp [intOf]; omega⟩
    · have HND : Hid (onceL Ls = true) := once_yes (by rw [hnm, List.drop_of_length_le (by omega)]; simpa using hnd)
      have HKO := hide3 hko
      clear hko hcn hnd hnm
      go_wp2
      go_ret
      exact ⟨ret_bool HND.out.symm, HKO.out.1⟩
end Go.Proofs.YtjfbgiajjkjghaaGreatDoor
namespace Go.Proofs.YtjfbgiajjkjghaaGreatDoor
open Go.RowKit
set_option maxRecDepth 100000

/-- A manifest: its four lists. -/
structure Mn where
  d : List Dp
  v : List Dp
  o : List Dp
  p : List Dp
/-- A manifest's lists lie there. -/
def MnAt (w : World) (P : Mn) (v1 v2 v3 v4 : Value) : Prop := DepsAt w v1 P.d ∧ DepsAt w v2 P.v ∧ DepsAt w v3 P.o ∧ DepsAt w v4 P.p
theorem MnAt.below {w w' : World} {P : Mn} {v1 v2 v3 v4 : Value} (h : MnAt w P v1 v2 v3 v4) (hb : Below w.heap.size w w') : MnAt w' P v1 v2 v3 v4 := ⟨h.1.below hb, h.2.1.below hb, h.2.2.1.below hb, h.2.2.2.below hb⟩
theorem keepMn (P : Mn) (v1 v2 v3 v4 : Value) : KeepP fun w1 => MnAt w1 P v1 v2 v3 v4 := fun _ _ h hb => h.below hb
/-- A manifest's variable. -/
def BxM (w : World) (N : Nat) (v1 v2 v3 v4 : Value) : Prop := w.cell? ⟨N, 0, none⟩ = some v1 ∧ w.cell? ⟨N, 1, none⟩ = some v2 ∧ w.cell? ⟨N, 2, none⟩ = some v3 ∧ w.cell? ⟨N, 3, none⟩ = some v4 ∧ N < w.heap.size
theorem keepBxM (N : Nat) (v1 v2 v3 v4 : Value) : KeepP fun w1 => BxM w1 N v1 v2 v3 v4 := fun w w' h hb => by
  obtain ⟨h0, h1, h2, h3, h4⟩ := h
  have q : ∀ i, w'.cell? ⟨N, i, none⟩ = w.cell? ⟨N, i, none⟩ := fun i => hb.cell (p := ⟨N, i, none⟩) h4
  exact ⟨by rw [q]; exact h0, by rw [q]; exact h1, by rw [q]; exact h2, by rw [q]; exact h3, Nat.lt_of_lt_of_le h4 hb.size⟩
theorem BxM.new {w : World} {N : Nat} (hN : w.heap.size = N) (v1 v2 v3 v4 : Value) : BxM (w.alloc (.cells #[v1, v2, v3, v4] 24)) N v1 v2 v3 v4 := by
  subst hN
  refine ⟨?_, ?_, ?_, ?_, ?_⟩ <;> simp
/-- The lists' block, with their words. -/
def listsO (v1 v2 v3 v4 : Value) : Obj := .cells #[.string ⟨#[110, 101, 101, 100, 115]⟩, v1, .string ⟨#[100, 101, 118]⟩, v2, .string ⟨#[108, 105, 107, 101, 115]⟩, v3, .string ⟨#[112, 105, 110, 115]⟩, v4] 49 (0, 0)

theorem lists_mf (a1 a2 a3 a4 : Option Addr) (l1 l2 l3 l4 c1 c2 c3 c4 : Nat) (w : World) :
    Calls Tryz.prog 22 #[.agg #[.slice a1 l1 c1, .slice a2 l2 c2, .slice a3 l3 c3, .slice a4 l4 c4]] w fun e w' => ∃ g, e = .returned (.slice (some ⟨g, 0, none⟩) 4 4) ∧ Below w.heap.size w w' ∧ w.heap.size ≤ g ∧ w'.heap[g]? = some (listsO (.slice a1 l1 c1) (.slice a2 l2 c2) (.slice a3 l3 c3) (.slice a4 l4 c4)) := by
  go_enter Tryz.func22, Tryz.ntmps22
  go_wp2
  go_ret
  refine ⟨w.heap.size + 1, by first | rfl | simp, boxB2 _ _ _, by omega, ?_⟩
  show ((w.heap.push _).push _)[w.heap.size + 1]? = _
  rw [Array.getElem?_push, if_pos (by simp)]
  rfl

/-- A manifest may be, but for the length of its text. -/
noncomputable def soundM (P : Mn) : Bool := (mayD P.d && (mayD P.v && (mayD P.o && mayD P.p))) && onceL [P.d, P.v, P.o]
theorem lists3m {w : World} {A B C : List Dp} {v1 v2 v3 : Value} (h1 : DepsAt w v1 A) (h2 : DepsAt w v2 B) (h3 : DepsAt w v3 C) : ListsAt (w.alloc (.cells #[v1, v2, v3] 22)) w.heap.size 0 [A, B, C] := by
  refine ⟨by simp, fun k hk => ?_⟩
  match k, hk with
  | 0, _ => exact ⟨v1, by simp, h1.below (boxB _ _)⟩
  | 1, _ => exact ⟨v2, by simp, h2.below (boxB _ _)⟩
  | 2, _ => exact ⟨v3, by simp, h3.below (boxB _ _)⟩
theorem once3m {w : World} {A B C : List Dp} {v1 v2 v3 : Value} (h1 : DepsAt w v1 A) (h2 : DepsAt w v2 B) (h3 : DepsAt w v3 C) (k1 : ShortL A) (k2 : ShortL B) (k3 : ShortL C) : Calls Tryz.prog 48 #[.slice (some ⟨w.heap.size, 0, none⟩) 3 3] (w.alloc (.cells #[v1, v2, v3] 22)) fun e w' => e = .returned (.bool (onceL [A, B, C])) ∧ Below (w.alloc (.cells #[v1, v2, v3] 22)).heap.size (w.alloc (.cells #[v1, v2, v3] 22)) w' :=
  Once_any (Ls := [A, B, C]) (lists3m h1 h2 h3) (fun L hL => by
    simp only [List.mem_cons, List.not_mem_nil, or_false] at hL
    rcases hL with rfl | rfl | rfl <;> assumption) (by simp)

set_option maxHeartbeats 6400000 in
theorem sound_mf {P : Mn} {v1 v2 v3 v4 : Value} {w : World} (h : MnAt w P v1 v2 v3 v4) :
    Calls Tryz.prog 29 #[.agg #[v1, v2, v3, v4]] w fun e w' => e = .returned (.bool (soundM P)) ∧ Below w.heap.size w w' := by
  have HM1 : Hid (∀ w1, Below w.heap.size w w1 → Calls Tryz.prog 47 #[v1] w1 fun e w' => e = .returned (.bool (mayD P.d)) ∧ Below w1.heap.size w1 w') := fun w1 hb => mayList_any (h.1.below hb)
  have HM2 : Hid (∀ w1, Below w.heap.size w w1 → Calls Tryz.prog 47 #[v2] w1 fun e w' => e = .returned (.bool (mayD P.v)) ∧ Below w1.heap.size w1 w') := fun w1 hb => mayList_any (h.2.1.below hb)
  have HM3 : Hid (∀ w1, Below w.heap.size w w1 → Calls Tryz.prog 47 #[v3] w1 fun e w' => e = .returned (.bool (mayD P.o)) ∧ Below w1.heap.size w1 w') := fun w1 hb => mayList_any (h.2.2.1.below hb)
  have HM4 : Hid (∀ w1, Below w.heap.size w w1 → Calls Tryz.prog 47 #[v4] w1 fun e w' => e = .returned (.bool (mayD P.p)) ∧ Below w1.heap.size w1 w') := fun w1 hb => mayList_any (h.2.2.2.below hb)
  have HEO : Hid (mayD P.d = true → mayD P.v = true → mayD P.o = true → ∀ w1, Below w.heap.size w w1 → Calls Tryz.prog 48 #[.slice (some ⟨w1.heap.size, 0, none⟩) 3 3] (w1.alloc (.cells #[v1, v2, v3] 22)) fun e w' => e = .returned (.bool (onceL [P.d, P.v, P.o])) ∧ Below (w1.alloc (.cells #[v1, v2, v3] 22)).heap.size (w1.alloc (.cells #[v1, v2, v3] 22)) w') := fun g1 g2 g3 w1 hb => once3m (h.1.below hb) (h.2.1.below hb) (h.2.2.1.below hb) (short_may g1) (short_may g2) (short_may g3)
  have HSB : Hid (soundM P = ((mayD P.d && (mayD P.v && (mayD P.o && mayD P.p))) && onceL [P.d, P.v, P.o])) := rfl
  obtain ⟨a1, c1, rfl⟩ := h.1.sl
  obtain ⟨a2, c2, rfl⟩ := h.2.1.sl
  obtain ⟨a3, c3, rfl⟩ := h.2.2.1.sl
  obtain ⟨a4, c4, rfl⟩ := h.2.2.2.sl
  have HLI : Hid (∀ w1, Calls Tryz.prog 22 #[.agg #[.slice a1 P.d.length c1, .slice a2 P.v.length c2, .slice a3 P.o.length c3, .slice a4 P.p.length c4]] w1 fun e w' => ∃ g, e = .returned (.slice (some ⟨g, 0, none⟩) 4 4) ∧ Below w1.heap.size w1 w' ∧ w1.heap.size ≤ g ∧ w'.heap[g]? = some (listsO (.slice a1 P.d.length c1) (.slice a2 P.v.length c2) (.slice a3 P.o.length c3) (.slice a4 P.p.length c4))) := fun w1 => lists_mf _ _ _ _ _ _ _ _ _ _ _ _ w1
  clear h
  generalize soundM P = SB at *
  generalize onceL [P.d, P.v, P.o] = ob at *
  generalize mayD P.d = m1 at *
  generalize mayD P.v = m2 at *
  generalize mayD P.o = m3 at *
  generalize mayD P.p = m4 at *
  generalize P.d.length = l1 at *
  generalize P.v.length = l2 at *
  generalize P.o.length = l3 at *
  generalize P.p.length = l4 at *
  have HKB : Hid (KeepP fun w1 => BxM w1 w.heap.size (.slice a1 l1 c1) (.slice a2 l2 c2) (.slice a3 l3 c3) (.slice a4 l4 c4)) := keepBxM _ _ _ _ _
  go_enter Tryz.func29, Tryz.ntmps29
  go_wp2_with (go_at_call 22; refine (HLI.out _).mono ?_; rintro e w3 ⟨g, rfl, ok, hg, hgl⟩; have HO3 : Hid ((Below w.heap.size w w3 ∧ BxM w3 w.heap.size (.slice a1 l1 c1) (.slice a2 l2 c2) (.slice a3 l3 c3) (.slice a4 l4 c4)) ∧ w3.heap[g]? = some (listsO (.slice a1 l1 c1) (.slice a2 l2 c2) (.slice a3 l3 c3) (.slice a4 l4 c4))) := ⟨⟨below_then (boxB _ _) ok, HKB.out _ _ (BxM.new rfl _ _ _ _) ok⟩, hgl⟩; clear ok hg hgl)
  go_loopw [8] (fun i wr => ∃ k : Nat, k ≤ 4 ∧ i = .int .i64 k ∧ ((Below w.heap.size w wr ∧ BxM wr w.heap.size (.slice a1 l1 c1) (.slice a2 l2 c2) (.slice a3 l3 c3) (.slice a4 l4 c4)) ∧ wr.heap[g]? = some (listsO (.slice a1 l1 c1) (.slice a2 l2 c2) (.slice a3 l3 c3) (.slice a4 l4 c4))) ∧ (1 ≤ k → m1 = true) ∧ (2 ≤ k → m2 = true) ∧ (3 ≤ k → m3 = true) ∧ (4 ≤ k → m4 = true)) (fun i _ => 4 - (intOf i).toNat)
  case atStart => exact ⟨0, Nat.zero_le _, rfl, HO3.out, (fun h => by omega), (fun h => by omega), (fun h => by omega), (fun h => by omega)⟩
  case round =>
    obtain ⟨k, hk, rfl, hb, e1, e2, e3, e4⟩ := hrel
    have HB := hide3 hb
    rcases (show k = 0 ∨ k = 1 ∨ k = 2 ∨ k = 3 ∨ k = 4 by omega) with rfl | rfl | rfl | rfl | rfl
    · have q0 : wr.cell? ⟨g, 0, none⟩ = some (.string ⟨#[110, 101, 101, 100, 115]⟩) := by rw [Lib.cell_of_heap HB.out.2]; rfl
      have q1 : wr.cell? ⟨g, 1, none⟩ = some (.slice a1 l1 c1) := by rw [Lib.cell_of_heap HB.out.2]; rfl
      have HBA : Hid ((Below w.heap.size w (wr.alloc (.cells #[.string ⟨#[110, 101, 101, 100, 115]⟩, .slice a1 l1 c1] 49)) ∧ BxM (wr.alloc (.cells #[.string ⟨#[110, 101, 101, 100, 115]⟩, .slice a1 l1 c1] 49)) w.heap.size (.slice a1 l1 c1) (.slice a2 l2 c2) (.slice a3 l3 c3) (.slice a4 l4 c4)) ∧ (wr.alloc (.cells #[.string ⟨#[110, 101, 101, 100, 115]⟩, .slice a1 l1 c1] 49)).heap[g]? = some (listsO (.slice a1 l1 c1) (.slice a2 l2 c2) (.slice a3 l3 c3) (.slice a4 l4 c4))) := ⟨⟨below_then HB.out.1.1 (boxB _ _), HKB.out _ _ HB.out.1.2 (boxB _ _)⟩, ((boxB _ _).block g (Array.getElem?_eq_some_iff.1 HB.out.2).1).trans HB.out.2⟩
      clear hb e1 e2 e3 e4
      cases m1
      · have HR : Hid (SB = false) := by unfold Hid; rw [HSB.out]; simp
        go_wp2_with (go_at_call 47; refine (HM1.out _ HBA.out.1.1).mono ?_; rintro e w4 ⟨rfl, ok⟩; have HO4 := hide3 (below_then HBA.out.1.1 ok); clear ok)
        go_ret
        exact ⟨ret_bool HR.out.symm, HO4.out⟩
      · go_wp2_with (go_at_call 47; refine (HM1.out _ HBA.out.1.1).mono ?_; rintro e w4 ⟨rfl, ok⟩; have HO4 : Hid ((Below w.heap.size w w4 ∧ BxM w4 w.heap.size (.slice a1 l1 c1) (.slice a2 l2 c2) (.slice a3 l3 c3) (.slice a4 l4 c4)) ∧ w4.heap[g]? = some (listsO (.slice a1 l1 c1) (.slice a2 l2 c2) (.slice a3 l3 c3) (.slice a4 l4 c4))) := ⟨⟨below_then HBA.out.1.1 ok, HKB.out _ _ HBA.out.1.2 ok⟩, (ok.block g (Array.getElem?_eq_some_iff.1 HBA.out.2).1).trans HBA.out.2⟩; clear ok)
        exact ⟨⟨1, by omega, rfl, HO4.out, (fun _ => trivial), (fun h => by omega), (fun h => by omega), (fun h => by omega)⟩, by simp [intOf]⟩
    · have e1' := e1 (by omega)
      subst e1'
      have q0 : wr.cell? ⟨g, 2, none⟩ = some (.string ⟨#[100, 101, 118]⟩) := by rw [Lib.cell_of_heap HB.out.2]; rfl
      have q1 : wr.cell? ⟨g, 3, none⟩ = some (.slice a2 l2 c2) := by rw [Lib.cell_of_heap HB.out.2]; rfl
      have HBA : Hid ((Below w.heap.size w (wr.alloc (.cells #[.string ⟨#[100, 101, 118]⟩, .slice a2 l2 c2] 49)) ∧ BxM (wr.alloc (.cells #[.string ⟨#[100, 101, 118]⟩, .slice a2 l2 c2] 49)) w.heap.size (.slice a1 l1 c1) (.slice a2 l2 c2) (.slice a3 l3 c3) (.slice a4 l4 c4)) ∧ (wr.alloc (.cells #[.string ⟨#[100, 101, 118]⟩, .slice a2 l2 c2] 49)).heap[g]? = some (listsO (.slice a1 l1 c1) (.slice a2 l2 c2) (.slice a3 l3 c3) (.slice a4 l4 c4))) := ⟨⟨below_then HB.out.1.1 (boxB _ _), HKB.out _ _ HB.out.1.2 (boxB _ _)⟩, ((boxB _ _).block g (Array.getElem?_eq_some_iff.1 HB.out.2).1).trans HB.out.2⟩
      clear hb e1 e2 e3 e4
      cases m2
      · have HR : Hid (SB = false) := by unfold Hid; rw [HSB.out]; simp
        go_wp2_with (go_at_call 47; refine (HM2.out _ HBA.out.1.1).mono ?_; rintro e w4 ⟨rfl, ok⟩; have HO4 := hide3 (below_then HBA.out.1.1 ok); clear ok)
        go_ret
        exact ⟨ret_bool HR.out.symm, HO4.out⟩
      · go_wp2_with (go_at_call 47; refine (HM2.out _ HBA.out.1.1).mono ?_; rintro e w4 ⟨rfl, ok⟩; have HO4 : Hid ((Below w.heap.size w w4 ∧ BxM w4 w.heap.size (.slice a1 l1 c1) (.slice a2 l2 c2) (.slice a3 l3 c3) (.slice a4 l4 c4)) ∧ w4.heap[g]? = some (listsO (.slice a1 l1 c1) (.slice a2 l2 c2) (.slice a3 l3 c3) (.slice a4 l4 c4))) := ⟨⟨below_then HBA.out.1.1 ok, HKB.out _ _ HBA.out.1.2 ok⟩, (ok.block g (Array.getElem?_eq_some_iff.1 HBA.out.2).1).trans HBA.out.2⟩; clear ok)
        exact ⟨⟨2, by omega, rfl, HO4.out, (fun _ => trivial), (fun _ => trivial), (fun h => by omega), (fun h => by omega)⟩, by simp [intOf]⟩
    · have e1' := e1 (by omega)
      have e2' := e2 (by omega)
      subst e1' e2'
      have q0 : wr.cell? ⟨g, 4, none⟩ = some (.string ⟨#[108, 105, 107, 101, 115]⟩) := by rw [Lib.cell_of_heap HB.out.2]; rfl
      have q1 : wr.cell? ⟨g, 5, none⟩ = some (.slice a3 l3 c3) := by rw [Lib.cell_of_heap HB.out.2]; rfl
      have HBA : Hid ((Below w.heap.size w (wr.alloc (.cells #[.string ⟨#[108, 105, 107, 101, 115]⟩, .slice a3 l3 c3] 49)) ∧ BxM (wr.alloc (.cells #[.string ⟨#[108, 105, 107, 101, 115]⟩, .slice a3 l3 c3] 49)) w.heap.size (.slice a1 l1 c1) (.slice a2 l2 c2) (.slice a3 l3 c3) (.slice a4 l4 c4)) ∧ (wr.alloc (.cells #[.string ⟨#[108, 105, 107, 101, 115]⟩, .slice a3 l3 c3] 49)).heap[g]? = some (listsO (.slice a1 l1 c1) (.slice a2 l2 c2) (.slice a3 l3 c3) (.slice a4 l4 c4))) := ⟨⟨below_then HB.out.1.1 (boxB _ _), HKB.out _ _ HB.out.1.2 (boxB _ _)⟩, ((boxB _ _).block g (Array.getElem?_eq_some_iff.1 HB.out.2).1).trans HB.out.2⟩
      clear hb e1 e2 e3 e4
      cases m3
      · have HR : Hid (SB = false) := by unfold Hid; rw [HSB.out]; simp
        go_wp2_with (go_at_call 47; refine (HM3.out _ HBA.out.1.1).mono ?_; rintro e w4 ⟨rfl, ok⟩; have HO4 := hide3 (below_then HBA.out.1.1 ok); clear ok)
        go_ret
        exact ⟨ret_bool HR.out.symm, HO4.out⟩
      · go_wp2_with (go_at_call 47; refine (HM3.out _ HBA.out.1.1).mono ?_; rintro e w4 ⟨rfl, ok⟩; have HO4 : Hid ((Below w.heap.size w w4 ∧ BxM w4 w.heap.size (.slice a1 l1 c1) (.slice a2 l2 c2) (.slice a3 l3 c3) (.slice a4 l4 c4)) ∧ w4.heap[g]? = some (listsO (.slice a1 l1 c1) (.slice a2 l2 c2) (.slice a3 l3 c3) (.slice a4 l4 c4))) := ⟨⟨below_then HBA.out.1.1 ok, HKB.out _ _ HBA.out.1.2 ok⟩, (ok.block g (Array.getElem?_eq_some_iff.1 HBA.out.2).1).trans HBA.out.2⟩; clear ok)
        exact ⟨⟨3, by omega, rfl, HO4.out, (fun _ => trivial), (fun _ => trivial), (fun _ => trivial), (fun h => by omega)⟩, by simp [intOf]⟩
    · have e1' := e1 (by omega)
      have e2' := e2 (by omega)
      have e3' := e3 (by omega)
      subst e1' e2' e3'
      have q0 : wr.cell? ⟨g, 6, none⟩ = some (.string ⟨#[112, 105, 110, 115]⟩) := by rw [Lib.cell_of_heap HB.out.2]; rfl
      have q1 : wr.cell? ⟨g, 7, none⟩ = some (.slice a4 l4 c4) := by rw [Lib.cell_of_heap HB.out.2]; rfl
      have HBA : Hid ((Below w.heap.size w (wr.alloc (.cells #[.string ⟨#[112, 105, 110, 115]⟩, .slice a4 l4 c4] 49)) ∧ BxM (wr.alloc (.cells #[.string ⟨#[112, 105, 110, 115]⟩, .slice a4 l4 c4] 49)) w.heap.size (.slice a1 l1 c1) (.slice a2 l2 c2) (.slice a3 l3 c3) (.slice a4 l4 c4)) ∧ (wr.alloc (.cells #[.string ⟨#[112, 105, 110, 115]⟩, .slice a4 l4 c4] 49)).heap[g]? = some (listsO (.slice a1 l1 c1) (.slice a2 l2 c2) (.slice a3 l3 c3) (.slice a4 l4 c4))) := ⟨⟨below_then HB.out.1.1 (boxB _ _), HKB.out _ _ HB.out.1.2 (boxB _ _)⟩, ((boxB _ _).block g (Array.getElem?_eq_some_iff.1 HB.out.2).1).trans HB.out.2⟩
      clear hb e1 e2 e3 e4
      cases m4
      · have HR : Hid (SB = false) := by unfold Hid; rw [HSB.out]; simp
        go_wp2_with (go_at_call 47; refine (HM4.out _ HBA.out.1.1).mono ?_; rintro e w4 ⟨rfl, ok⟩; have HO4 := hide3 (below_then HBA.out.1.1 ok); clear ok)
        go_ret
        exact ⟨ret_bool HR.out.symm, HO4.out⟩
      · go_wp2_with (go_at_call 47; refine (HM4.out _ HBA.out.1.1).mono ?_; rintro e w4 ⟨rfl, ok⟩; have HO4 : Hid ((Below w.heap.size w w4 ∧ BxM w4 w.heap.size (.slice a1 l1 c1) (.slice a2 l2 c2) (.slice a3 l3 c3) (.slice a4 l4 c4)) ∧ w4.heap[g]? = some (listsO (.slice a1 l1 c1) (.slice a2 l2 c2) (.slice a3 l3 c3) (.slice a4 l4 c4))) := ⟨⟨below_then HBA.out.1.1 ok, HKB.out _ _ HBA.out.1.2 ok⟩, (ok.block g (Array.getElem?_eq_some_iff.1 HBA.out.2).1).trans HBA.out.2⟩; clear ok)
        exact ⟨⟨4, by omega, rfl, HO4.out, (fun _ => trivial), (fun _ => trivial), (fun _ => trivial), (fun _ => trivial)⟩, by simp [intOf]⟩
    · have e1' := e1 (by omega)
      have e2' := e2 (by omega)
      have e3' := e3 (by omega)
      have e4' := e4 (by omega)
      subst e1' e2' e3' e4'
      have HR : Hid (SB = ob) := by unfold Hid; rw [HSB.out]; simp
      have HEW := hide3 (HEO.out rfl rfl rfl)
      obtain ⟨k0, k1, k2, k3, k4⟩ := HB.out.1.2
      clear hb e1 e2 e3 e4
      go_wp2_with (go_at_call 48; refine (HEW.out _ HB.out.1.1).mono ?_; rintro e w4 ⟨rfl, ok⟩; have HO4 := hide3 (below_then (below_then HB.out.1.1 (boxB _ _)) ok); clear ok)
      go_ret
      exact ⟨ret_bool HR.out.symm, HO4.out⟩
end Go.Proofs.YtjfbgiajjkjghaaGreatDoor
namespace Go.Proofs.YtjfbgiajjkjghaaGreatDoor
open Go.ChangeShapes Go.WideShapes Go.ChangeAt Go.RowKit
set_option maxRecDepth 100000

theorem cellsMan : Tryz.prog.cellsOf 24 = 4 := by kernel_rfl
theorem list4 {α : Type} {l : List α} (h : l.length = 4) : ∃ a b c d, l = [a, b, c, d] := by
  match l, h with
  | [a, b, c, d], _ => exact ⟨a, b, c, d, rfl⟩
theorem open_man {H : Type} {enc : TypeId × Value → H} {W : World} {base b0 : Nat} {held : Bool} {v : Value} {d : DataW H} {p : List MemPlace} (hv : Value.okWide Tryz.prog W .any b0 24 v) (h : DataW.Trod enc Tryz.prog W base (fun _ => true) held 24 v d p) :
    ∃ (P : Mn) (v1 v2 v3 v4 : Value), v = .agg #[v1, v2, v3, v4] ∧ MnAt W P v1 v2 v3 v4 ∧ (P.d.length ≤ 9223372036854775807 ∧ P.v.length ≤ 9223372036854775807 ∧ P.o.length ≤ 9223372036854775807 ∧ P.p.length ≤ 9223372036854775807) ∧ ((∀ d ∈ P.d, d.nm.size ≤ 9223372036854775807) ∧ (∀ d ∈ P.v, d.nm.size ≤ 9223372036854775807) ∧ (∀ d ∈ P.o, d.nm.size ≤ 9223372036854775807) ∧ ∀ d ∈ P.p, d.nm.size ≤ 9223372036854775807) := by
  have hs : Tryz.prog.underlying 24 = some (.struct (Tryz.prog.fieldsOf 24)) := by kernel_rfl
  obtain ⟨cs, rfl, hsz⟩ := okWide_struct hs hv
  obtain ⟨n, h⟩ := h
  obtain ⟨xs, n', _, _, _, hxl, hf⟩ := DataW.trod_struct hs h
  have hfz : (Tryz.prog.fieldsOf 24).size = 4 := by kernel_rfl
  rw [cellsMan] at hsz
  have get : ∀ i, ((Tryz.prog.fieldsOf 24)[i]?).map (fun f => (f.type, f.offset)) = some (22, i) → i < 4 → ∃ v L, cs.toList[i]? = some v ∧ DepsAt W v L ∧ L.length ≤ 9223372036854775807 ∧ ∀ d ∈ L, d.nm.size ≤ 9223372036854775807 := by
    intro i hfd hi
    obtain ⟨f, h1, h2, h3⟩ := field_at hfd
    have hr := hf i f h1
    rw [h2, h3, cellsDeps, List.getElem?_eq_getElem (by omega : i < xs.length)] at hr
    obtain ⟨v, L, e, hL, hz, hm⟩ := deps_cs hr
    exact ⟨v, L, take1 e, hL, hz, hm⟩
  obtain ⟨v1, L1, k1, h1, z1, m1⟩ := get 0 (by kernel_rfl) (by decide)
  obtain ⟨v2, L2, k2, h2, z2, m2⟩ := get 1 (by kernel_rfl) (by decide)
  obtain ⟨v3, L3, k3, h3, z3, m3⟩ := get 2 (by kernel_rfl) (by decide)
  obtain ⟨v4, L4, k4, h4, z4, m4⟩ := get 3 (by kernel_rfl) (by decide)
  obtain ⟨l⟩ := cs
  obtain ⟨x0, x1, x2, x3, rfl⟩ := list4 (l := l) (by simpa using hsz)
  simp at k1 k2 k3 k4
  subst k1 k2 k3 k4
  exact ⟨⟨L1, L2, L3, L4⟩, _, _, _, _, rfl, ⟨h1, h2, h3, h4⟩, ⟨z1, z2, z3, z4⟩, m1, m2, m3, m4⟩
end Go.Proofs.YtjfbgiajjkjghaaGreatDoor
namespace Go.Proofs.YtjfbgiajjkjghaaGreatDoor.Sc
open Go.RowKit
set_option maxRecDepth 100000

theorem bSize : (Tryz.prog.info? 63).map (·.size) = some 2 := by kernel_rfl
theorem bLies : liesAt Tryz.prog Tryz.prog.depth 63 (2 / Tryz.prog.cellsOf 63) 0 63 1 = true := by kernel_rfl
theorem bByte : (Tryz.prog.info? 5).map (fun i => (i.zero, i.size, i.bytes)) = some (some (.int .u8 0), 1, 1) := by kernel_rfl

set_option maxHeartbeats 1600000 in
theorem check_used (b : Nat) (w : World) (h0 : w.cell? ⟨b, 0, none⟩ = some (.pointer (some ⟨b, 0, none⟩))) :
    Calls Tryz.prog 49 #[.pointer (some ⟨b, 0, none⟩)] w fun e w' => e = .returned (.tuple #[]) ∧ w' = w := by
  obtain ⟨j, hj, _⟩ := Option.map_eq_some_iff.1 bSize
  go_enter Tryz.func49, Tryz.ntmps49
  go_wp2
  rw [Lib.run_neq_ptr_same w _ Tryz.underlying60 hj]
  go_wp2
  go_end0
  exact ⟨rfl, rfl⟩

set_option maxHeartbeats 1600000 in
theorem check_fresh (b : Nat) (w : World) (h0 : w.cell? ⟨b, 0, none⟩ = some (.pointer none)) (hsh : w.shape? b = some (63, 2)) (hfz : w.frozen? ⟨b, 0, none⟩ = false) :
    Calls Tryz.prog 49 #[.pointer (some ⟨b, 0, none⟩)] w fun e w' => e = .returned (.tuple #[]) ∧ w' = w.setCell ⟨b, 0, none⟩ (.pointer (some ⟨b, 0, none⟩)) := by
  obtain ⟨j, hj, hjs⟩ := Option.map_eq_some_iff.1 bSize
  go_enter Tryz.func49, Tryz.ntmps49
  go_wp2
  rw [Lib.run_to_unsafe w ⟨b, 0, none⟩ Tryz.underlying60 Tryz.underlying96 hj (by rw [hjs]; decide) hsh (Nat.zero_lt_succ 1)]
  simp only [Result.andThen]
  rw [Oper.upon_value]
  go_wp2
  rw [run_callFunc_extern Tryz.func63 (by kernel_rfl) (by kernel_rfl) (by kernel_rfl) (e := Extern.AbiNoEscape.same) (by kernel_rfl), Lib.run_noEscape]
  simp only [Result.andThen]
  rw [Oper.upon_value]
  go_wp2
  rw [Lib.run_from_unsafe w ⟨b, 0, none⟩ Tryz.underlying96 Tryz.underlying60 hj hsh bLies]
  simp only [Result.andThen]
  rw [Oper.upon_value]
  go_wp2
  go_end0
  exact ⟨rfl, rfl⟩

/-- A builder at a block, with these bytes. -/
def Bld (B b : Nat) (l : Bs) (w : World) : Prop := Lib.IsBuilder 63 5 B b (Lib.byteCells l) w
theorem check_any {B b : Nat} {l : Bs} {w : World} (h : Bld B b l w) :
    Calls Tryz.prog 49 #[.pointer (some ⟨b, 0, none⟩)] w fun e w' => e = .returned (.tuple #[]) ∧ Lib.BuilderAt 63 5 B b (.pointer (some ⟨b, 0, none⟩)) (Lib.byteCells l) w' ∧ Below B w w' := by
  rcases h with h | h
  · refine (check_fresh b w h.cell0 h.shape h.frozen0).mono ?_
    rintro e w' ⟨rfl, rfl⟩
    exact ⟨rfl, h.used _, (Below.refl B w).setCell (p := ⟨b, 0, none⟩) h.1 _⟩
  · refine (check_used b w h.cell0).mono ?_
    rintro e w' ⟨rfl, rfl⟩
    exact ⟨rfl, h, Below.refl B _⟩

set_option maxHeartbeats 1600000 in
theorem putText {B b : Nat} {l : Bs} {w : World} (s : ByteArray) (h : Bld B b l w) (hl : l.length + s.size ≤ 140737488355328) (hB : B ≤ w.heap.size) :
    Calls Tryz.prog 30 #[.pointer (some ⟨b, 0, none⟩), .string s] w fun e w' => e = .returned (.tuple #[.int .i64 s.size, .nilIface]) ∧ Bld B b (l ++ s.data.toList) w' ∧ Below B w w' := by
  obtain ⟨i0, hi, hz0, hz1, hz2⟩ := info_parts bByte
  have HC := hide3 (check_any h)
  have hlc : (Lib.byteCells l).length = l.length := Lib.byteCells_length l
  go_enter Tryz.func30, Tryz.ntmps30
  go_wp2_with (go_at_call 49; refine HC.out.mono ?_)
  rintro e w1 ⟨rfl, h1, hb1⟩
  obtain ⟨hBb, v, hbk, hown, hne⟩ := h1
  have c0 : w1.cell? ⟨b, 0, none⟩ = some (.pointer (some ⟨b, 0, none⟩)) := by rw [Lib.cell_of_heap hbk]; rfl
  have c1 : w1.cell? ⟨b, 1, none⟩ = some v := by rw [Lib.cell_of_heap hbk]; rfl
  have hs1 := hb1.size
  go_wp2_with (at_builtin; refine Lib.wpList_append_own_string _ rfl _ _ 61 9 rfl B 5 i0 Tryz.underlying61 Tryz.underlying9 hi hz0 hz1 hz2 _ _ _ rfl hown s rfl (by unfold maxLen; omega) (by omega) (by omega) ?_)
  intro v' w2 hown' hgrow _
  have hlt : b < w1.heap.size := (Array.getElem?_eq_some_iff.1 hbk).1
  have hb2 : w2.heap[b]? = some (.cells #[.pointer (some ⟨b, 0, none⟩), v] 63 (0, 0)) := by
    rw [hgrow.block b hlt (fun e => hne e.symm)]
    exact hbk
  have d0 : w2.cell? ⟨b, 0, none⟩ = some (.pointer (some ⟨b, 0, none⟩)) := by rw [Lib.cell_of_heap hb2]; rfl
  have d1 : w2.cell? ⟨b, 1, none⟩ = some v := by rw [Lib.cell_of_heap hb2]; rfl
  have f1 : w2.frozen? ⟨b, 1, none⟩ = false := Lib.frozen_of_heap hb2 1
  obtain ⟨ao, n', cap, rfl⟩ : ∃ ao n' cap, v' = .slice ao n' cap := by
    rcases hown'.2 with ⟨hv, _⟩ | ⟨g, cap, cur, hv, _⟩
    · exact ⟨_, _, _, hv⟩
    · exact ⟨_, _, _, hv⟩
  go_wp2
  go_ret2
  refine ⟨rfl, Or.inr ?_, ?_⟩
  · refine Lib.BuilderAt.put (T := 63) (e := 5) hBb hb2 ?_ (by decide)
    rw [Lib.byteCells_append, List.length_append, ← Lib.strCells_eq, hlc]
    simpa [Lib.strCells_length] using hown'
  · exact (hb1.grown hgrow (by omega) (fun k hk => (hown.lt k hk).1)).setCell (p := ⟨b, 1, none⟩) hBb _
end Go.Proofs.YtjfbgiajjkjghaaGreatDoor.Sc
namespace Go.Proofs.YtjfbgiajjkjghaaGreatDoor
open Go.RowKit
set_option maxRecDepth 100000

theorem indexB_eq (s t : ByteArray) : Lib.indexB s t = Lib.index s.data.toList t.data.toList := rfl
theorem list_of_bytes (s : ByteArray) : (⟨s.data.toList.toArray⟩ : ByteArray) = s := (of_list rfl).symm

theorem occ_no {l : List UInt8} {c : UInt8} {tl : List UInt8} {j : Nat} (h : ∀ x, l[j]? = some x → x ≠ c) : Lib.occAt l (c :: tl) j = false := by
  unfold Lib.occAt
  cases hd : l.drop j with
  | nil => rfl
  | cons x r =>
    have hx : l[j]? = some x := by
      have := congrArg (fun q => q[0]?) hd
      simpa using this
    have := h x hx
    simp only [List.isPrefixOf_cons_cons, Bool.and_eq_false_imp, beq_iff_eq]
    intro e
    exact (this e.symm).elim

theorem pieces_one {s sep : ByteArray} {c : UInt8} {tl : List UInt8} (hsep : sep.data.toList = c :: tl) (h : ∀ x ∈ s.data.toList, x ≠ c) : piecesB s sep = [s] := by
  have hi : Lib.indexB s sep = -1 := by
    rw [indexB_eq, hsep]
    exact Lib.index_none fun j _ => occ_no fun x hx => h x (List.mem_of_getElem? hx)
  unfold piecesB
  exact Lib.splitB_miss _ _ _ _ hi

theorem pieces_more {s sep : ByteArray} {c : UInt8} {tl l r : List UInt8} (hsep : sep.data.toList = c :: tl) (hs : s.data.toList = l ++ (sep.data.toList ++ r)) (h : ∀ x ∈ l, x ≠ c) : piecesB s sep = ⟨l.toArray⟩ :: piecesB ⟨r.toArray⟩ sep := by
  have h1 : 1 ≤ sep.size := by rw [← list_size, hsep]; simp
  have hi : Lib.indexB s sep = (l.length : Int) := by
    rw [indexB_eq, hs]
    refine Lib.index_first (by simp) ?_ ?_
    · unfold Lib.occAt
      rw [List.drop_left]
      exact List.isPrefixOf_iff_prefix.2 (List.prefix_append _ _)
    · intro j hj
      rw [hsep]
      refine occ_no fun x hx => ?_
      rw [List.getElem?_append_left hj] at hx
      exact h x (List.mem_of_getElem? hx)
  have hr : s.extract (l.length + sep.size) s.size = ⟨r.toArray⟩ := by
    refine of_list ?_
    rw [Lib.extract_to_end, hs, ← list_size sep, List.drop_append, List.drop_of_length_le (by simp), List.nil_append, Nat.add_sub_cancel_left, List.drop_left]
  have hl : s.extract 0 (l.length + 0) = ⟨l.toArray⟩ := by
    refine of_list ?_
    rw [Lib.extract_from_zero, hs, Nat.add_zero, List.take_left]
  unfold piecesB
  rw [Lib.countB_hit s sep l.length h1 hi, Nat.add_comm 1, Lib.splitB_hit _ _ _ _ _ hi, hr, hl]

theorem meet_all {X : Rg} (hX : RangeR X) : meetR allR X = X := range_one (allR_ok.meet hX) hX fun n => by
  rw [meet_in allR_ok hX, allR_in]
  exact ⟨fun h => h.2, fun h => ⟨hX.in h, h⟩⟩
theorem join_none {X : Rg} (hX : RangeR X) : joinR [] X = X := range_one (RangeR.join (A := []) trivial hX) hX fun n => by
  rw [join_in (A := []) trivial hX]
  exact ⟨fun h => h.elim (fun x => x.elim) id, Or.inr⟩

/-- A version's text: it begins with a digit, and has digits and dots alone. -/
theorem text_first {a b c : Int} (h : mayV a b c = true) : ∃ d r, (textV a b c).data.toList = d :: r ∧ 48 ≤ d.toNat ∧ d.toNat ≤ 57 := by
  rw [text_list h]
  obtain ⟨a0, a1, _⟩ := may_all h
  rw [itoa_of a0]
  have hd := dec_digits a.toNat
  cases hq : Lib.decDigits a.toNat with
  | nil => exact (dec_ne _ hq).elim
  | cons d r => exact ⟨d, _, rfl, hd d (by rw [hq]; exact List.mem_cons_self)⟩
theorem text_bytes {a b c : Int} (h : mayV a b c = true) : ∀ x ∈ (textV a b c).data.toList, x.toNat = 46 ∨ (48 ≤ x.toNat ∧ x.toNat ≤ 57) := by
  rw [text_list h]
  obtain ⟨a0, a1, b0, b1, c0, c1⟩ := may_all h
  rw [itoa_of a0, itoa_of b0, itoa_of c0]
  intro x hx
  simp only [List.mem_append, List.mem_cons] at hx
  rcases hx with hx | rfl | hx | rfl | hx
  · exact Or.inr (dec_digits _ x hx)
  · exact Or.inl rfl
  · exact Or.inr (dec_digits _ x hx)
  · exact Or.inl rfl
  · exact Or.inr (dec_digits _ x hx)
theorem text_long {a b c : Int} (h : mayV a b c = true) : 2 ≤ (textV a b c).data.toList.length := by
  rw [text_list h]; simp; omega

theorem digit_in {d : UInt8} (h : 48 ≤ d.toNat ∧ d.toNat ≤ 57) : ([48, 49, 50, 51, 52, 53, 54, 55, 56, 57] : List UInt8).contains d = true := by
  have : d.toNat = 48 ∨ d.toNat = 49 ∨ d.toNat = 50 ∨ d.toNat = 51 ∨ d.toNat = 52 ∨ d.toNat = 53 ∨ d.toNat = 54 ∨ d.toNat = 55 ∨ d.toNat = 56 ∨ d.toNat = 57 := by omega
  have e : ∀ k : Nat, d.toNat = k → d = UInt8.ofNat k := fun k hk => by rw [← hk]; simp
  rcases this with h | h | h | h | h | h | h | h | h | h <;> (rw [e _ h]; decide)
theorem digit_out {d : UInt8} (h : ¬ (48 ≤ d.toNat ∧ d.toNat ≤ 57)) : ([48, 49, 50, 51, 52, 53, 54, 55, 56, 57] : List UInt8).contains d = false := by
  rw [Bool.eq_false_iff]
  intro hc
  simp only [List.contains_iff_mem, List.mem_cons, List.not_mem_nil, or_false] at hc
  apply h
  rcases hc with rfl | rfl | rfl | rfl | rfl | rfl | rfl | rfl | rfl | rfl <;> decide

theorem cat_list (x y : ByteArray) : (x ++ y).data.toList = x.data.toList ++ y.data.toList := by
  show (x ++ y).data.toList = _
  rw [ByteArray.data_append, Array.toList_append]

/-- A sign: no digit, blank or bar, ASCII. -/
def SignB (s : ByteArray) : Prop := ∀ x ∈ s.data.toList, x.toNat < 48 ∧ x.toNat ≠ 32 ∨ 57 < x.toNat ∧ x.toNat < 124 ∨ x.toNat = 126

theorem word_sign {sg : ByteArray} (hs : SignB sg) {a b c : Int} (h : mayV a b c = true) : wordR (sg ++ textV a b c) = signR sg.data.toList (rankV a b c) := by
  obtain ⟨d, r, hd, h1, h2⟩ := text_first h
  have hl := text_long h
  have hk : idxK (sg ++ textV a b c) = sg.size := by
    unfold idxK
    rw [cat_list, Lib.indexAny_hit (i := sg.data.toList.length) (x := d) ?_ ?_ (digit_in ⟨h1, h2⟩)]
    · rw [list_size]; omega
    · intro j x hj hx
      rw [List.getElem?_append_left hj] at hx
      have := hs x (List.mem_of_getElem? hx)
      exact digit_out (by omega)
    · rw [List.getElem?_append_right (Nat.le_refl _), hd]; simp
  have e1 : (sg ++ textV a b c).extract sg.size (sg ++ textV a b c).size = textV a b c := by
    have : ((sg ++ textV a b c).extract sg.size (sg ++ textV a b c).size).data.toList = (textV a b c).data.toList := by
      rw [Lib.extract_to_end, cat_list, ← list_size sg, List.drop_left]
    rw [of_list this, list_of_bytes]
  have e2 : ((sg ++ textV a b c).extract 0 sg.size).data.toList = sg.data.toList := by
    rw [Lib.extract_from_zero, cat_list, ← list_size sg, List.take_left]
  unfold wordR
  rw [if_neg, hk, e1, e2, if_pos (okP_of h).1]
  · unfold plP
    rw [(okP_of h).2.1, (okP_of h).2.2.1, (okP_of h).2.2.2]
  · rw [cat_list]
    intro e
    have := congrArg List.length e
    rw [List.length_append, List.length_singleton] at this
    omega

theorem alt_word {s : ByteArray} (h : ∀ x ∈ s.data.toList, x.toNat ≠ 32 ∧ x.toNat ≠ 124) (h0 : s.size ≠ 0) {X : Rg} (hX : wordR s = some X) : altR s = some X := by
  have p1 : piecesB s ⟨#[124, 124]⟩ = [s] := pieces_one (c := 124) (tl := [124]) rfl fun x hx e => (h x hx).2 (by rw [e]; rfl)
  have p2 : piecesB s ⟨#[32]⟩ = [s] := pieces_one (c := 32) (tl := []) rfl fun x hx e => (h x hx).1 (by rw [e]; rfl)
  have hw : wordsF allR false [s] = some (X, true) := by
    rw [wordsF, if_neg h0, hX]
    simp only [wordsF]
    rw [meet_all (word_rg hX)]
  unfold altR
  rw [p1]
  unfold altF
  rw [p2]
  have b : wordsB [s] = true := by unfold wordsB; rw [hw]
  have l : wordsL [s] = X := by unfold wordsL; rw [hw]
  rw [if_pos b, l, join_none (word_rg hX)]
  rfl

theorem sign_plain {sg : ByteArray} (hs : SignB sg) {a b c : Int} (h : mayV a b c = true) : ∀ x ∈ (sg ++ textV a b c).data.toList, x.toNat ≠ 32 ∧ x.toNat ≠ 124 ∧ x.toNat < 128 := by
  intro x hx
  rw [cat_list, List.mem_append] at hx
  rcases hx with hx | hx
  · have := hs x hx; omega
  · have := text_bytes h x hx; omega

theorem plain_of {s : ByteArray} (h : ∀ x ∈ s.data.toList, x.toNat ≠ 32 ∧ x.toNat ≠ 124 ∧ x.toNat < 128) : PlainT s := by
  have p1 : piecesB s ⟨#[124, 124]⟩ = [s] := pieces_one (c := 124) (tl := [124]) rfl fun x hx e => (h x hx).2.1 (by rw [e]; rfl)
  have p2 : piecesB s ⟨#[32]⟩ = [s] := pieces_one (c := 32) (tl := []) rfl fun x hx e => (h x hx).1 (by rw [e]; rfl)
  unfold PlainT
  rw [p1]
  intro a ha
  rw [List.mem_singleton] at ha
  subst ha
  rw [p2]
  intro p hp _
  rw [List.mem_singleton] at hp
  subst hp
  exact Or.inr fun j b hj => (h b (List.mem_of_getElem? hj)).2.2

theorem sign_len {s : List UInt8} {n : Int} {X : Rg} (h : signR s n = some X) : X.length ≤ 64 := by
  unfold signR at h
  repeat' split at h
  all_goals first | (cases h; done) | (injection h with h; subst h)
  · simp
  · have := cutR_len (B := [(n, 999999999)]) allR_ok; simp only [allR, List.length_cons, List.length_nil] at this ⊢; omega
  · simp
  · have := cutR_len (B := [(0, n)]) allR_ok; simp only [allR, List.length_cons, List.length_nil] at this ⊢; omega
  · simp
  · simp
  · simp

/-- Parse of a sign and a version's text. -/
theorem Parse_sign {sg : ByteArray} (hs : SignB sg) (hz : sg.size ≤ 10) {a b c : Int} (h : mayV a b c = true) {X : Rg} (hX : signR sg.data.toList (rankV a b c) = some X) (w : World) (he : Env w) (hf : FL w) :
    Calls Tryz.prog 72 #[.string (sg ++ textV a b c)] w fun e w' => ∃ v, e = .returned (.tuple #[v, .int .i64 0]) ∧ SpansR w' v X ∧ Below w.heap.size w w' := by
  have hx : X.length ≤ 64 := sign_len hX
  have hp := sign_plain hs h
  have ht := text_size a b c
  have h2 := text_long h
  rw [list_size] at h2
  have ha : altR (sg ++ textV a b c) = some X := alt_word (fun x hx => ⟨(hp x hx).1, (hp x hx).2.1⟩) (by rw [size_cat]; omega) (by rw [word_sign hs h]; exact hX)
  refine (sParse_any _ (by rw [size_cat]; omega) (plain_of hp) w he hf).mono ?_
  rintro e w' ⟨v, rfl, ho, hb⟩
  rw [ha] at ho ⊢
  refine ⟨v, ?_, ?_, hb⟩
  · have : parE (some X) = 0 := by show fullE X.length = 0; unfold fullE; rw [if_pos hx]
    rw [this]
  · have := ho.spans
    have e : parL (some X) = X := fit_of hx
    rw [e] at this; exact this
end Go.Proofs.YtjfbgiajjkjghaaGreatDoor
namespace Go.Proofs.YtjfbgiajjkjghaaGreatDoor
open Go.RowKit
set_option maxRecDepth 100000

theorem byte_no : ∀ (l : List UInt8) (c : UInt8), (∀ x ∈ l, x.toNat < 128) → 128 ≤ c.toNat → Lib.indexByte l c = -1
  | [], _, _, _ => rfl
  | b :: l, c, h, hc => by
    have hb := h b List.mem_cons_self
    have ih := byte_no l c (fun x hx => h x (List.mem_cons_of_mem _ hx)) hc
    unfold Lib.indexByte
    have : ¬ b = c := fun e => by subst e; omega
    simp [this, ih]

set_option maxHeartbeats 1600000 in
theorem IndexRune_2 (r : Int) (b0 c : UInt8) (w : World) (h0 : 0 ≤ r) (h1 : ¬ r < 128) (hr : (r == 65533) = false) (hv : Lib.validRune r = true) (he : Utf8.encode r = ⟨#[b0, c]⟩) (hc : 128 ≤ c.toNat) :
    Calls Tryz.prog 132 #[.string ⟨#[48, 49, 50, 51, 52, 53, 54, 55, 56, 57]⟩, .int .i32 r] w fun e w' => e = .returned (.int .i64 (-1)) ∧ Below w.heap.size w w' := by
  have HV : Hid (∀ w1, Calls Tryz.prog 151 #[.int .i32 r] w1 fun e w' => e = .returned (.bool true) ∧ w' = w1) := fun w1 => by have := Tryz.utf8_ValidRune r w1; rw [hv] at this; exact this
  have HB : Hid (∀ w1, Calls Tryz.prog 150 #[.string ((⟨#[48, 49, 50, 51, 52, 53, 54, 55, 56, 57]⟩ : ByteArray).extract 2 10), .int .u8 (c.toNat : Int)] w1 fun e w' => e = .returned (.int .i64 (-1)) ∧ Below w1.heap.size w1 w') := fun w1 => by
    refine (Tryz.strings_IndexByte ((⟨#[48, 49, 50, 51, 52, 53, 54, 55, 56, 57]⟩ : ByteArray).extract 2 10) (c.toNat : Int) w1).mono ?_
    rintro e w' ⟨rfl, hw⟩
    have hcc : ((c.toNat : Int)).toNat.toUInt8 = c := by simp
    rw [hcc, byte_no _ c (by decide) hc]
    exact ⟨rfl, by rw [hw]; exact Below.refl _ _⟩
  have hne : ((49 : Int) != (c.toNat : Int)) = true := by simp; omega
  have gA : ∀ h, (⟨#[48, 49, 50, 51, 52, 53, 54, 55, 56, 57]⟩ : ByteArray)[1]'h = 49 := fun _ => rfl
  have gB : ∀ h, (⟨#[b0, c]⟩ : ByteArray)[1]'h = c := fun _ => rfl
  have hwr : IntKind.i64.wrap 2 = 2 := by decide
  clear hc hv
  go_enter Tryz.func132, Tryz.ntmps132
  go_wp2_with (go_at_call 151; refine (HV.out _).mono ?_; rintro e w1 ⟨rfl, hw⟩; subst hw)
  go_step3
  go_wp2_with fail
  refine wp_loop_rounds 1 ?_
  rw [rounds_succ]
  go_wp2_with fail
  go_step3
  go_wp2_with fail
  have HO : Hid (Below w1.heap.size w1 w1) := Below.refl _ _
  have HK : Hid (KeepP fun w2 => Below w1.heap.size w1 w2) := keepBelow w1
  refine wp_region_keep HK.out (by kernel_rfl) (by kernel_rfl) (by first | exact HO.out | exact HK.out.drew HO.out) ?_
  intro C hin hout
  have HIN := hide3 hin
  have HOUT := hide3 hout
  clear hin hout HO
  repeat
    (with_reducible refine wpQuiet_step (fun K hK => ?_)
     go_simp
     first
       | (refine hK _ ?_; clear hK K)
       | (apply Exists.intro; refine ⟨fun w1 hC => ?_, hK _ ?_⟩; (focus ((first | (exact rfl) | (obtain hb1 := HOUT.out w1 hC; clear hC; go_simp; first | done | exact rfl)); done)); clear hK K))
  refine wpQuiet_nil ?_
  intro wn hC
  have HO := hide3 (HOUT.out _ hC)
  clear hC HIN HOUT C
  obtain hb1 := HO.out
  go_wp2_with fail
  clear hb1
  refine wp_region_keep HK.out (by kernel_rfl) (by kernel_rfl) (by first | exact HO.out | exact HK.out.drew HO.out) ?_
  intro C hin hout
  have HIN := hide3 hin
  have HOUT := hide3 hout
  clear hin hout HO
  repeat
    (with_reducible refine wpQuiet_step (fun K hK => ?_)
     go_simp
     first
       | (refine hK _ ?_; clear hK K)
       | (apply Exists.intro; refine ⟨fun w1 hC => ?_, hK _ ?_⟩; (focus ((first | (go_at_call 150; with_reducible exact callC HIN.out HOUT.out HK.out HB.out w1 hC) | (exact rfl) | (obtain hb1 := HOUT.out w1 hC; clear hC; go_simp; first | done | exact rfl)); done)); clear hK K))
  refine wpQuiet_nil ?_
  intro wm hC
  have HO := hide3 (HOUT.out _ hC)
  clear hC HIN HOUT C
  obtain hb1 := HO.out
  go_wp2
  rw [Exit.noGoto_ret]
  go_wp2
  rw [Exit.noGoto_ret]
  go_ret
  exact ⟨rfl, HO.out⟩

set_option maxHeartbeats 1600000 in
theorem IndexRune_3 (r : Int) (b0 b1 c : UInt8) (w : World) (h0 : 0 ≤ r) (h1 : ¬ r < 128) (hr : (r == 65533) = false) (hv : Lib.validRune r = true) (he : Utf8.encode r = ⟨#[b0, b1, c]⟩) (hc : 128 ≤ c.toNat) :
    Calls Tryz.prog 132 #[.string ⟨#[48, 49, 50, 51, 52, 53, 54, 55, 56, 57]⟩, .int .i32 r] w fun e w' => e = .returned (.int .i64 (-1)) ∧ Below w.heap.size w w' := by
  have HV : Hid (∀ w1, Calls Tryz.prog 151 #[.int .i32 r] w1 fun e w' => e = .returned (.bool true) ∧ w' = w1) := fun w1 => by have := Tryz.utf8_ValidRune r w1; rw [hv] at this; exact this
  have HB : Hid (∀ w1, Calls Tryz.prog 150 #[.string ((⟨#[48, 49, 50, 51, 52, 53, 54, 55, 56, 57]⟩ : ByteArray).extract 3 10), .int .u8 (c.toNat : Int)] w1 fun e w' => e = .returned (.int .i64 (-1)) ∧ Below w1.heap.size w1 w') := fun w1 => by
    refine (Tryz.strings_IndexByte ((⟨#[48, 49, 50, 51, 52, 53, 54, 55, 56, 57]⟩ : ByteArray).extract 3 10) (c.toNat : Int) w1).mono ?_
    rintro e w' ⟨rfl, hw⟩
    have hcc : ((c.toNat : Int)).toNat.toUInt8 = c := by simp
    rw [hcc, byte_no _ c (by decide) hc]
    exact ⟨rfl, by rw [hw]; exact Below.refl _ _⟩
  have hne : ((50 : Int) != (c.toNat : Int)) = true := by simp; omega
  have gA : ∀ h, (⟨#[48, 49, 50, 51, 52, 53, 54, 55, 56, 57]⟩ : ByteArray)[2]'h = 50 := fun _ => rfl
  have gB : ∀ h, (⟨#[b0, b1, c]⟩ : ByteArray)[2]'h = c := fun _ => rfl
  have hwr : IntKind.i64.wrap 3 = 3 := by decide
  clear hc hv
  go_enter Tryz.func132, Tryz.ntmps132
  go_wp2_with (go_at_call 151; refine (HV.out _).mono ?_; rintro e w1 ⟨rfl, hw⟩; subst hw)
  go_step3
  go_wp2_with fail
  refine wp_loop_rounds 1 ?_
  rw [rounds_succ]
  go_wp2_with fail
  go_step3
  go_wp2_with fail
  have HO : Hid (Below w1.heap.size w1 w1) := Below.refl _ _
  have HK : Hid (KeepP fun w2 => Below w1.heap.size w1 w2) := keepBelow w1
  refine wp_region_keep HK.out (by kernel_rfl) (by kernel_rfl) (by first | exact HO.out | exact HK.out.drew HO.out) ?_
  intro C hin hout
  have HIN := hide3 hin
  have HOUT := hide3 hout
  clear hin hout HO
  repeat
    (with_reducible refine wpQuiet_step (fun K hK => ?_)
     go_simp
     first
       | (refine hK _ ?_; clear hK K)
       | (apply Exists.intro; refine ⟨fun w1 hC => ?_, hK _ ?_⟩; (focus ((first | (exact rfl) | (obtain hb1 := HOUT.out w1 hC; clear hC; go_simp; first | done | exact rfl)); done)); clear hK K))
  refine wpQuiet_nil ?_
  intro wn hC
  have HO := hide3 (HOUT.out _ hC)
  clear hC HIN HOUT C
  obtain hb1 := HO.out
  go_wp2_with fail
  clear hb1
  refine wp_region_keep HK.out (by kernel_rfl) (by kernel_rfl) (by first | exact HO.out | exact HK.out.drew HO.out) ?_
  intro C hin hout
  have HIN := hide3 hin
  have HOUT := hide3 hout
  clear hin hout HO
  repeat
    (with_reducible refine wpQuiet_step (fun K hK => ?_)
     go_simp
     first
       | (refine hK _ ?_; clear hK K)
       | (apply Exists.intro; refine ⟨fun w1 hC => ?_, hK _ ?_⟩; (focus ((first | (go_at_call 150; with_reducible exact callC HIN.out HOUT.out HK.out HB.out w1 hC) | (exact rfl) | (obtain hb1 := HOUT.out w1 hC; clear hC; go_simp; first | done | exact rfl)); done)); clear hK K))
  refine wpQuiet_nil ?_
  intro wm hC
  have HO := hide3 (HOUT.out _ hC)
  clear hC HIN HOUT C
  obtain hb1 := HO.out
  go_wp2
  rw [Exit.noGoto_ret]
  go_wp2
  rw [Exit.noGoto_ret]
  go_ret
  exact ⟨rfl, HO.out⟩

set_option maxHeartbeats 1600000 in
theorem IndexRune_4 (r : Int) (b0 b1 b2 c : UInt8) (w : World) (h0 : 0 ≤ r) (h1 : ¬ r < 128) (hr : (r == 65533) = false) (hv : Lib.validRune r = true) (he : Utf8.encode r = ⟨#[b0, b1, b2, c]⟩) (hc : 128 ≤ c.toNat) :
    Calls Tryz.prog 132 #[.string ⟨#[48, 49, 50, 51, 52, 53, 54, 55, 56, 57]⟩, .int .i32 r] w fun e w' => e = .returned (.int .i64 (-1)) ∧ Below w.heap.size w w' := by
  have HV : Hid (∀ w1, Calls Tryz.prog 151 #[.int .i32 r] w1 fun e w' => e = .returned (.bool true) ∧ w' = w1) := fun w1 => by have := Tryz.utf8_ValidRune r w1; rw [hv] at this; exact this
  have HB : Hid (∀ w1, Calls Tryz.prog 150 #[.string ((⟨#[48, 49, 50, 51, 52, 53, 54, 55, 56, 57]⟩ : ByteArray).extract 4 10), .int .u8 (c.toNat : Int)] w1 fun e w' => e = .returned (.int .i64 (-1)) ∧ Below w1.heap.size w1 w') := fun w1 => by
    refine (Tryz.strings_IndexByte ((⟨#[48, 49, 50, 51, 52, 53, 54, 55, 56, 57]⟩ : ByteArray).extract 4 10) (c.toNat : Int) w1).mono ?_
    rintro e w' ⟨rfl, hw⟩
    have hcc : ((c.toNat : Int)).toNat.toUInt8 = c := by simp
    rw [hcc, byte_no _ c (by decide) hc]
    exact ⟨rfl, by rw [hw]; exact Below.refl _ _⟩
  have hne : ((51 : Int) != (c.toNat : Int)) = true := by simp; omega
  have gA : ∀ h, (⟨#[48, 49, 50, 51, 52, 53, 54, 55, 56, 57]⟩ : ByteArray)[3]'h = 51 := fun _ => rfl
  have gB : ∀ h, (⟨#[b0, b1, b2, c]⟩ : ByteArray)[3]'h = c := fun _ => rfl
  have hwr : IntKind.i64.wrap 4 = 4 := by decide
  clear hc hv
  go_enter Tryz.func132, Tryz.ntmps132
  go_wp2_with (go_at_call 151; refine (HV.out _).mono ?_; rintro e w1 ⟨rfl, hw⟩; subst hw)
  go_step3
  go_wp2_with fail
  refine wp_loop_rounds 1 ?_
  rw [rounds_succ]
  go_wp2_with fail
  go_step3
  go_wp2_with fail
  have HO : Hid (Below w1.heap.size w1 w1) := Below.refl _ _
  have HK : Hid (KeepP fun w2 => Below w1.heap.size w1 w2) := keepBelow w1
  refine wp_region_keep HK.out (by kernel_rfl) (by kernel_rfl) (by first | exact HO.out | exact HK.out.drew HO.out) ?_
  intro C hin hout
  have HIN := hide3 hin
  have HOUT := hide3 hout
  clear hin hout HO
  repeat
    (with_reducible refine wpQuiet_step (fun K hK => ?_)
     go_simp
     first
       | (refine hK _ ?_; clear hK K)
       | (apply Exists.intro; refine ⟨fun w1 hC => ?_, hK _ ?_⟩; (focus ((first | (exact rfl) | (obtain hb1 := HOUT.out w1 hC; clear hC; go_simp; first | done | exact rfl)); done)); clear hK K))
  refine wpQuiet_nil ?_
  intro wn hC
  have HO := hide3 (HOUT.out _ hC)
  clear hC HIN HOUT C
  obtain hb1 := HO.out
  go_wp2_with fail
  clear hb1
  refine wp_region_keep HK.out (by kernel_rfl) (by kernel_rfl) (by first | exact HO.out | exact HK.out.drew HO.out) ?_
  intro C hin hout
  have HIN := hide3 hin
  have HOUT := hide3 hout
  clear hin hout HO
  repeat
    (with_reducible refine wpQuiet_step (fun K hK => ?_)
     go_simp
     first
       | (refine hK _ ?_; clear hK K)
       | (apply Exists.intro; refine ⟨fun w1 hC => ?_, hK _ ?_⟩; (focus ((first | (go_at_call 150; with_reducible exact callC HIN.out HOUT.out HK.out HB.out w1 hC) | (exact rfl) | (obtain hb1 := HOUT.out w1 hC; clear hC; go_simp; first | done | exact rfl)); done)); clear hK K))
  refine wpQuiet_nil ?_
  intro wm hC
  have HO := hide3 (HOUT.out _ hC)
  clear hC HIN HOUT C
  obtain hb1 := HO.out
  go_wp2
  rw [Exit.noGoto_ret]
  go_wp2
  rw [Exit.noGoto_ret]
  go_ret
  exact ⟨rfl, HO.out⟩
end Go.Proofs.YtjfbgiajjkjghaaGreatDoor
