/- Pk4, ScBd1, Pure3, Ix1, Ix2, Tx6, Texts1, Wr1, laid in one text. -/
import Derived.Maps.Own
import Derived.Maps.Views
import Derived.Maps.OwnSet
import Derived.Shelf.Strings.Builder1
import Derived.Lib.IndexMore
import Derived.Lib.CountLaws
import Derived.Test.YtcclfaioicklaaaGreatDoorShelfD
import Derived.Laws.RangeAny
import Derived.WalkLawsBesides
import Derived.Lib.OthersKept
import Derived.Deep.LoopGhost
import Derived.Test.YtcclfaioicklaaaGreatDoorMg06
namespace Go.Proofs.YtcclfaioicklaaaGreatDoor
open Go.RowKit Go.Maps Go.WideMaps Go.WideElems
set_option maxRecDepth 100000

def keyS (s : ByteArray) : Lit := .string s.data.toList
theorem keyS_inj {s t : ByteArray} (h : keyS s = keyS t) : s = t := by
  unfold keyS at h
  injection h with h
  exact bytes_same (by rw [ByteArray.toList_eq, ByteArray.toList_eq, h])
theorem isKeyS (s : ByteArray) : WideAt.IsKeyLit (keyS s) := by unfold keyS WideAt.IsKeyLit; trivial
theorem keyedS : Keyed Tryz.prog 9 := string_keyed Tryz.underlying9
theorem keyOfS {s : ByteArray} (hs : s.size ≤ maxLen) : keyOf Tryz.prog 9 (.string s) = some (keyS s) := keyOf_string_mk Tryz.underlying9 hs
theorem zeroInt (w : World) : (zeroValue 3).run Tryz.prog w = .ok (.int .i64 0) w := by kernel_rfl

/-- A map that has met these names, each once. -/
def CntD (D : DataW Unit) (done : List ByteArray) : Prop := IsMap D ∧ ∀ s : ByteArray, (s ∈ done → D.atKey (keyS s) (.lit (.int .i64 0)) = .lit (.int .i64 1)) ∧ (s ∉ done → D.atKey (keyS s) (.lit (.int .i64 0)) = .lit (.int .i64 0))
theorem CntD.nil : CntD (.map []) [] := ⟨⟨[], rfl⟩, fun _ => ⟨fun h => (by cases h), fun _ => rfl⟩⟩
theorem isMap_put {D : DataW Unit} (h : IsMap D) (k : Lit) (d : DataW Unit) : IsMap (D.put k d) := by
  obtain ⟨es, rfl⟩ := h
  exact ⟨_, rfl⟩
theorem CntD.put {D : DataW Unit} {done : List ByteArray} (h : CntD D done) {s : ByteArray} : CntD (D.put (keyS s) (.lit (.int .i64 1))) (done ++ [s]) := by
  refine ⟨isMap_put h.1 _ _, fun t => ?_⟩
  by_cases e : t = s
  · subst e
    rw [atKey_put_same h.1 (isKeyS t)]
    exact ⟨fun _ => rfl, fun hn => absurd (by simp) hn⟩
  · rw [atKey_put_other fun k => e (keyS_inj k)]
    exact ⟨fun hm => (h.2 t).1 (by simpa [e] using hm), fun hn => (h.2 t).2 (by simpa [e] using hn)⟩
theorem ownsMap_below {w w' : World} {M n : Nat} {D : DataW Unit} (h : w.ownsMap Tryz.prog 9 (plainElem Tryz.prog 3) M n D) (hb : Below w.heap.size w w') : w'.ownsMap Tryz.prog 9 (plainElem Tryz.prog 3) M n D := by
  have hl := h.lt
  obtain ⟨es, clock, hm, r⟩ := h
  exact ⟨es, clock, (hb.block M hl).trans hm, r⟩

/-- Lists that lie in memory, in a row. -/
def ListsAt (w : World) (g o : Nat) (Ls : List (List Dp)) : Prop := g < w.heap.size ∧ ∀ k (h : k < Ls.length), ∃ u, w.cell? ⟨g, o + k, none⟩ = some u ∧ DepsAt w u Ls[k]
theorem ListsAt.below {w w' : World} {g o : Nat} {Ls : List (List Dp)} (h : ListsAt w g o Ls) (hb : Below w.heap.size w w') : ListsAt w' g o Ls :=
  ⟨Nat.lt_of_lt_of_le h.1 hb.size, fun k hk => (h.2 k hk).imp fun _ hu => ⟨(hb.cell (p := ⟨g, o + k, none⟩) h.1).trans hu.1, hu.2.below hb⟩⟩
theorem keepLists (g o : Nat) (Ls : List (List Dp)) : KeepP fun w1 => ListsAt w1 g o Ls := fun _ _ h hb => h.below hb

/-- No name stands twice. -/
def namesL (Ls : List (List Dp)) : List ByteArray := Ls.flatten.map Dp.nm
noncomputable def onceL (Ls : List (List Dp)) : Bool := @decide ((namesL Ls).Nodup) (Classical.propDecidable _)
theorem once_no {Ls : List (List Dp)} {done rest : List ByteArray} {s : ByteArray} (h : namesL Ls = done ++ s :: rest) (hs : s ∈ done) : onceL Ls = false := by
  unfold onceL
  refine @decide_eq_false _ (Classical.propDecidable _) fun hn => ?_
  rw [h, List.nodup_append] at hn
  exact hn.2.2 s hs s List.mem_cons_self rfl
theorem once_yes {Ls : List (List Dp)} (h : (namesL Ls).Nodup) : onceL Ls = true := by unfold onceL; exact @decide_eq_true _ (Classical.propDecidable _) h
theorem nodup_snoc {l : List ByteArray} {s : ByteArray} (h : l.Nodup) (hs : s ∉ l) : (l ++ [s]).Nodup := by
  rw [List.nodup_append]
  refine ⟨h, by simp, ?_⟩
  intro a ha b hb e
  rw [List.mem_singleton] at hb
  subst hb e
  exact hs ha

/-- Lists that are short, with short names. -/
def ShortL (L : List Dp) : Prop := L.length ≤ 16 ∧ ∀ d ∈ L, d.nm.size ≤ 16
theorem short_may {L : List Dp} (h : mayD L = true) : ShortL L := by
  unfold mayD at h
  rw [Bool.and_eq_true, decide_eq_true_eq] at h
  refine ⟨h.1, ?_⟩
  have : ∀ (M : List Dp) (q : Option ByteArray), riseD q M = true → ∀ d ∈ M, d.nm.size ≤ 16 := by
    intro M
    induction M with
    | nil => intro q _ d hd; cases hd
    | cons e M ih =>
      intro q hq d hd
      rw [riseD, Bool.and_eq_true, Bool.and_eq_true] at hq
      rcases List.mem_cons.1 hd with rfl | hd
      · have := hq.1.1
        unfold followB at this
        rw [Bool.and_eq_true] at this
        have := this.1
        unfold Sc.nameA at this
        rw [Bool.and_eq_true, decide_eq_true_eq, list_size] at this
        exact this.2
      · exact ih _ hq.2 d hd
  exact this L none h.2

/-- What the walk of Once keeps. -/
def KO (w : World) (M n : Nat) (D : DataW Unit) (w1 : World) : Prop := Below w.heap.size w w1 ∧ w1.ownsMap Tryz.prog 9 (plainElem Tryz.prog 3) M n D
theorem KO.alloc {w : World} {M n : Nat} {D : DataW Unit} {w1 : World} (h : KO w M n D w1) (o : Obj) : KO w M n D (w1.alloc o) := ⟨below_then h.1 (boxB _ _), h.2.alloc o⟩
theorem KO.drew {w : World} {M n : Nat} {D : DataW Unit} {w1 : World} (h : KO w M n D w1) : KO w M n D w1.drew := ⟨below_then h.1 (Below.refl _ _).drew, ownsMap_below h.2 (Below.refl _ _).drew⟩

/-- Where the inner loop stands. -/
def RelO (w : World) (Ls : List (List Dp)) (L T : List Dp) (K : Nat) (j : Value) (wq : World) : Prop := ∃ (m n : Nat) (D : DataW Unit) (done : List ByteArray), m ≤ L.length ∧ j = .int .i64 m ∧ n ≤ 16 * K + m ∧ KO w w.heap.size n D wq ∧ CntD D done ∧ done.Nodup ∧ namesL Ls = done ++ (L.drop m ++ T).map Dp.nm

set_option maxHeartbeats 6400000 in
theorem Once_any {Ls : List (List Dp)} {g o cap : Nat} {w : World} (h : ListsAt w g o Ls) (hs : ∀ L ∈ Ls, ShortL L) (hln : Ls.length ≤ 16) :
    Calls Tryz.prog 141 #[.slice (some ⟨g, o, none⟩) Ls.length cap] w fun e w' => e = .returned (.bool (onceL Ls)) ∧ Below w.heap.size w w' := by
  have HP : Hid (∀ k (h : k < Ls.length), ∃ u, ∀ w1, Below w.heap.size w w1 → w1.cell? ⟨g, o + k, none⟩ = some u ∧ DepsAt w1 u Ls[k]) := fun k hk => (h.2 k hk).imp fun u hu w1 hb => ⟨(hb.cell (p := ⟨g, o + k, none⟩) h.1).trans hu.1, hu.2.below hb⟩
  have HS := hide3 hs
  clear h hs
  have hmm := @run_makeMap Tryz.prog
  have HM0 : Hid (KO w w.heap.size 0 (.map []) (w.alloc (.map #[] 0))) := ⟨boxB _ _, World.ownsMap_made (H := Unit) w Tryz.prog 9 (plainElem Tryz.prog 3)⟩
  go_enter Tryz.func141, Tryz.ntmps141
  go_wp2_with fail
  go_loopw [11] (fun i wr => ∃ (k n : Nat) (D : DataW Unit) (done : List ByteArray), k ≤ Ls.length ∧ i = .int .i64 k ∧ n ≤ 16 * k ∧ KO w w.heap.size n D wr ∧ CntD D done ∧ done.Nodup ∧ namesL Ls = done ++ (Ls.drop k).flatten.map Dp.nm) (fun i _ => Ls.length - (intOf i).toNat)
  case atStart => exact ⟨0, 0, .map [], [], Nat.zero_le _, rfl, Nat.le_refl _, HM0.out, CntD.nil, List.nodup_nil, rfl⟩
  case round =>
    obtain ⟨k, n, D, done, hk, rfl, hn, hko, hcn, hnd, hnm⟩ := hrel
    by_cases hkl : k < Ls.length
    · obtain ⟨u, HU⟩ := HP.out k hkl
      obtain ⟨cu, hdu⟩ := HU wr hko.1
      obtain ⟨AA, CC, rfl, hzc⟩ := hdu.len
      have HU := hide3 HU
      clear hdu
      have HSL := hide3 (HS.out _ (List.getElem_mem hkl))
      have HKO0 := hide3 hko
      have HCN0 := hide3 hcn
      have HND0 := hide3 hnd
      have HNM0 : Hid (namesL Ls = done ++ (Ls[k] ++ (Ls.drop (k + 1)).flatten).map Dp.nm) := by
        unfold Hid
        rw [hnm, List.drop_eq_getElem_cons hkl, List.flatten_cons]
      have l1 := HSL.out.1
      clear hko hcn hnd hnm
      generalize Ls[k] = L at *
      generalize hT : (Ls.drop (k + 1)).flatten = T at *
      have HT := hide3 hT
      clear hT
      go_wp2_with fail
      go_loopw [17] (fun j wq => RelO w Ls L T k j wq) (fun j _ => L.length - (intOf j).toNat)
      case atStart => exact ⟨0, n, D, done, Nat.zero_le _, rfl, by omega, HKO0.out, HCN0.out, HND0.out, HNM0.out⟩
      case round =>
        clear HKO0 HCN0 HND0 HNM0 cu
        obtain ⟨m, n, D, done, hm, rfl, hn, hko, hcn, hnd, hnm⟩ := hrel
        by_cases hlt : m < L.length
        · obtain ⟨ad, cap, e, _, hcs⟩ := (HU.out wr hko.1).2
          cases e
          obtain ⟨g, o, rfl, hg, hcs⟩ : ∃ g o, AA = some ⟨g, o, none⟩ ∧ g < wr.heap.size ∧ ∀ i (h : i < L.length), ∃ u, DpIn wr g (o + i * 2) L[i] u := by
            rcases hcs with h | h
            · rw [h] at hlt; simp at hlt
            · exact h
          obtain ⟨u, p0, p1, ⟨⟨hu, _⟩, _⟩, p3⟩ := hcs m hlt
          obtain ⟨au, cu, rfl⟩ := hu.sl
          have hnz : L[m].nm.size ≤ 16 := HSL.out.2 _ (List.getElem_mem hlt)
          have HNM1 : Hid (namesL Ls = done ++ L[m].nm :: (L.drop (m + 1) ++ T).map Dp.nm) := by
            unfold Hid
            rw [hnm, List.drop_eq_getElem_cons hlt]
            rfl
          clear hcs hu hnm
          generalize L[m].rg.length = lu at *
          generalize L[m].nm = s at *
          have hkey : keyOf Tryz.prog 9 (.string s) = some (keyS s) := keyOfS (by unfold maxLen; omega)
          have HKA : Hid (KO w w.heap.size n D (wr.alloc (.cells #[.string s, .slice au lu cu] 113))) := hko.alloc _
          obtain ⟨c, hrun, hat, _⟩ := HKA.out.2.lookup_int keyedS Tryz.underlying181 Tryz.underlying3 (zeroInt _) hkey
          have hBX : Hid (BxD (wr.alloc (.cells #[.string s, .slice au lu cu] 113)) wr.heap.size s (.slice au lu cu)) := BxD.new rfl _ _
          have hMw : w.heap.size < wr.heap.size := hko.2.lt
          have hBw := hko.1.size
          by_cases hin : s ∈ done
          · rw [(hcn.2 s).1 hin] at hat
            obtain rfl : c = 1 := by injection hat with h1; injection h1 with _ h2; exact h2.symm
            have HR := hide3 (once_no HNM1.out hin)
            have HMP := hide3 hcn.1
            clear hko hcn hnd HNM1
            go_wp2_with (at_mapUpdate; refine wpList_mapUpdate_own _ rfl _ _ _ 181 rfl 9 3 keyedS Tryz.underlying181 _ w.heap.size n D rfl HKA.out.2 (by unfold maxLen; omega) _ _ _ rfl rfl hkey _ [] (plainElem_int (H := Unit) Tryz.underlying3 (show (Lit.int .i64 2).wf = true by decide)) ?_; intro w5 hown5 hg5; obtain ⟨c5, hrun5, hat5, _⟩ := hown5.lookup_int keyedS Tryz.underlying181 Tryz.underlying3 (zeroInt _) hkey; rw [atKey_put_same HMP.out (isKeyS s)] at hat5; obtain rfl : c5 = 2 := (by injection hat5 with h1; injection h1 with _ h2; exact h2.symm); have b0 : w5.cell? ⟨wr.heap.size, 0, none⟩ = some (.string s) := (hg5.cell_far ⟨wr.heap.size, 0, none⟩ (by simp) (by simp; omega)).trans hBX.out.1; have HB5 : Hid (Below w.heap.size w w5) := HKA.out.1.grown hg5 HKA.out.1.size (fun j hj => by cases hj; omega); clear hat5)
            go_ret
            exact ⟨ret_bool HR.out.symm, HB5.out⟩
          · rw [(hcn.2 s).2 hin] at hat
            obtain rfl : c = 0 := by injection hat with h1; injection h1 with _ h2; exact h2.symm
            have HCN2 : Hid (CntD (D.put (keyS s) (.lit (.int .i64 1))) (done ++ [s])) := hcn.put
            have HND2 := hide3 (nodup_snoc hnd hin)
            have HNM2 : Hid (namesL Ls = (done ++ [s]) ++ (L.drop (m + 1) ++ T).map Dp.nm) := by unfold Hid; rw [HNM1.out]; simp
            have HMP := hide3 hcn.1
            clear hko hcn hnd HNM1
            go_wp2_with (at_mapUpdate; refine wpList_mapUpdate_own _ rfl _ _ _ 181 rfl 9 3 keyedS Tryz.underlying181 _ w.heap.size n D rfl HKA.out.2 (by unfold maxLen; omega) _ _ _ rfl rfl hkey _ [] (plainElem_int (H := Unit) Tryz.underlying3 (show (Lit.int .i64 1).wf = true by decide)) ?_; intro w5 hown5 hg5; obtain ⟨c5, hrun5, hat5, _⟩ := hown5.lookup_int keyedS Tryz.underlying181 Tryz.underlying3 (zeroInt _) hkey; rw [atKey_put_same HMP.out (isKeyS s)] at hat5; obtain rfl : c5 = 1 := (by injection hat5 with h1; injection h1 with _ h2; exact h2.symm); have b0 : w5.cell? ⟨wr.heap.size, 0, none⟩ = some (.string s) := (hg5.cell_far ⟨wr.heap.size, 0, none⟩ (by simp) (by simp; omega)).trans hBX.out.1; have HB5 : Hid (KO w w.heap.size (n + 1) (D.put (keyS s) (.lit (.int .i64 1))) w5) := ⟨HKA.out.1.grown hg5 HKA.out.1.size (fun j hj => by cases hj; omega), hown5⟩; clear hat5)
            exact ⟨⟨m + 1, n + 1, _, _, by omega, by go_num, by omega, HB5.out, HCN2.out, HND2.out, HNM2.out⟩, by simp [intOf]; omega⟩
        · have HNM2 : Hid (namesL Ls = done ++ T.map Dp.nm) := by unfold Hid; rw [hnm, List.drop_of_length_le (by omega)]; rfl
          have HKO := hide3 hko
          have HCN := hide3 hcn
          have HND := hide3 hnd
          clear hko hcn hnd hnm
          go_wp2
          exact ⟨⟨k + 1, n, D, done, by omega, by go_num, by omega, HKO.out, HCN.out, HND.out, by rw [HT.out]; exact HNM2.out⟩, by simp [intOf]; omega⟩
    · have HND : Hid (onceL Ls = true) := once_yes (by rw [hnm, List.drop_of_length_le (by omega)]; simpa using hnd)
      have HKO := hide3 hko
      clear hko hcn hnd hnm
      go_wp2
      go_ret
      exact ⟨ret_bool HND.out.symm, HKO.out.1⟩
end Go.Proofs.YtcclfaioicklaaaGreatDoor
namespace Go.Proofs.YtcclfaioicklaaaGreatDoor.Sc
open Go.RowKit
set_option maxRecDepth 100000

theorem bSize : (Tryz.prog.info? 63).map (·.size) = some 2 := by kernel_rfl
theorem bLies : liesAt Tryz.prog Tryz.prog.depth 63 (2 / Tryz.prog.cellsOf 63) 0 63 1 = true := by kernel_rfl
theorem bByte : (Tryz.prog.info? 5).map (fun i => (i.zero, i.size, i.bytes)) = some (some (.int .u8 0), 1, 1) := by kernel_rfl

set_option maxHeartbeats 1600000 in
theorem check_used (b : Nat) (w : World) (h0 : w.cell? ⟨b, 0, none⟩ = some (.pointer (some ⟨b, 0, none⟩))) :
    Calls Tryz.prog 66 #[.pointer (some ⟨b, 0, none⟩)] w fun e w' => e = .returned (.tuple #[]) ∧ w' = w := by
  obtain ⟨j, hj, _⟩ := Option.map_eq_some_iff.1 bSize
  go_enter Tryz.func66, Tryz.ntmps66
  go_wp2
  rw [Lib.run_neq_ptr_same w _ Tryz.underlying60 hj]
  go_wp2
  go_end0
  exact ⟨rfl, rfl⟩

set_option maxHeartbeats 1600000 in
theorem check_fresh (b : Nat) (w : World) (h0 : w.cell? ⟨b, 0, none⟩ = some (.pointer none)) (hsh : w.shape? b = some (63, 2)) (hfz : w.frozen? ⟨b, 0, none⟩ = false) :
    Calls Tryz.prog 66 #[.pointer (some ⟨b, 0, none⟩)] w fun e w' => e = .returned (.tuple #[]) ∧ w' = w.setCell ⟨b, 0, none⟩ (.pointer (some ⟨b, 0, none⟩)) := by
  obtain ⟨j, hj, hjs⟩ := Option.map_eq_some_iff.1 bSize
  go_enter Tryz.func66, Tryz.ntmps66
  go_wp2
  rw [Lib.run_to_unsafe w ⟨b, 0, none⟩ Tryz.underlying60 Tryz.underlying118 hj (by rw [hjs]; decide) hsh (Nat.zero_lt_succ 1)]
  simp only [Result.andThen]
  rw [Oper.upon_value]
  go_wp2
  rw [run_callFunc_extern Tryz.func88 (by kernel_rfl) (by kernel_rfl) (by kernel_rfl) (e := Extern.AbiNoEscape.same) (by kernel_rfl), Lib.run_noEscape]
  simp only [Result.andThen]
  rw [Oper.upon_value]
  go_wp2
  rw [Lib.run_from_unsafe w ⟨b, 0, none⟩ Tryz.underlying118 Tryz.underlying60 hj hsh bLies]
  simp only [Result.andThen]
  rw [Oper.upon_value]
  go_wp2
  go_end0
  exact ⟨rfl, rfl⟩

/-- A builder at a block, with these bytes. -/
def Bld (B b : Nat) (l : Bs) (w : World) : Prop := Lib.IsBuilder 63 5 B b (Lib.byteCells l) w
theorem check_any {B b : Nat} {l : Bs} {w : World} (h : Bld B b l w) :
    Calls Tryz.prog 66 #[.pointer (some ⟨b, 0, none⟩)] w fun e w' => e = .returned (.tuple #[]) ∧ Lib.BuilderAt 63 5 B b (.pointer (some ⟨b, 0, none⟩)) (Lib.byteCells l) w' ∧ Below B w w' := by
  rcases h with h | h
  · refine (check_fresh b w h.cell0 h.shape h.frozen0).mono ?_
    rintro e w' ⟨rfl, rfl⟩
    exact ⟨rfl, h.used _, (Below.refl B w).setCell (p := ⟨b, 0, none⟩) h.1 _⟩
  · refine (check_used b w h.cell0).mono ?_
    rintro e w' ⟨rfl, rfl⟩
    exact ⟨rfl, h, Below.refl B _⟩

set_option maxHeartbeats 1600000 in
theorem putText {B b : Nat} {l : Bs} {w : World} (s : ByteArray) (h : Bld B b l w) (hl : l.length + s.size ≤ 140737488355328) (hB : B ≤ w.heap.size) :
    Calls Tryz.prog 35 #[.pointer (some ⟨b, 0, none⟩), .string s] w fun e w' => e = .returned (.tuple #[.int .i64 s.size, .nilIface]) ∧ Bld B b (l ++ s.data.toList) w' ∧ Below B w w' := by
  obtain ⟨i0, hi, hz0, hz1, hz2⟩ := info_parts bByte
  have HC := hide3 (check_any h)
  have hlc : (Lib.byteCells l).length = l.length := Lib.byteCells_length l
  go_enter Tryz.func35, Tryz.ntmps35
  go_wp2_with (go_at_call 66; refine HC.out.mono ?_)
  rintro e w1 ⟨rfl, h1, hb1⟩
  obtain ⟨hBb, v, hbk, hown, hne⟩ := h1
  have c0 : w1.cell? ⟨b, 0, none⟩ = some (.pointer (some ⟨b, 0, none⟩)) := by rw [Lib.cell_of_heap hbk]; rfl
  have c1 : w1.cell? ⟨b, 1, none⟩ = some v := by rw [Lib.cell_of_heap hbk]; rfl
  have hs1 := hb1.size
  go_wp2_with (at_builtin; refine Lib.wpList_append_own_string _ rfl _ _ 61 9 rfl B 5 i0 Tryz.underlying61 Tryz.underlying9 hi hz0 hz1 hz2 _ _ _ rfl hown s rfl (by unfold maxLen; omega) (by omega) (by omega) ?_)
  intro v' w2 hown' hgrow _
  have hlt : b < w1.heap.size := (Array.getElem?_eq_some_iff.1 hbk).1
  have hb2 : w2.heap[b]? = some (.cells #[.pointer (some ⟨b, 0, none⟩), v] 63 (0, 0)) := by
    rw [hgrow.block b hlt (fun e => hne e.symm)]
    exact hbk
  have d0 : w2.cell? ⟨b, 0, none⟩ = some (.pointer (some ⟨b, 0, none⟩)) := by rw [Lib.cell_of_heap hb2]; rfl
  have d1 : w2.cell? ⟨b, 1, none⟩ = some v := by rw [Lib.cell_of_heap hb2]; rfl
  have f1 : w2.frozen? ⟨b, 1, none⟩ = false := Lib.frozen_of_heap hb2 1
  obtain ⟨ao, n', cap, rfl⟩ : ∃ ao n' cap, v' = .slice ao n' cap := by
    rcases hown'.2 with ⟨hv, _⟩ | ⟨g, cap, cur, hv, _⟩
    · exact ⟨_, _, _, hv⟩
    · exact ⟨_, _, _, hv⟩
  go_wp2
  go_ret2
  refine ⟨rfl, Or.inr ?_, ?_⟩
  · refine Lib.BuilderAt.put (T := 63) (e := 5) hBb hb2 ?_ (by decide)
    rw [Lib.byteCells_append, List.length_append, ← Lib.strCells_eq, hlc]
    simpa [Lib.strCells_length] using hown'
  · exact (hb1.grown hgrow (by omega) (fun k hk => (hown.lt k hk).1)).setCell (p := ⟨b, 1, none⟩) hBb _
end Go.Proofs.YtcclfaioicklaaaGreatDoor.Sc
namespace Go.Proofs.YtcclfaioicklaaaGreatDoor
open Go.RowKit
set_option maxRecDepth 100000

theorem indexB_eq (s t : ByteArray) : Lib.indexB s t = Lib.index s.data.toList t.data.toList := rfl

theorem list_of_bytes (s : ByteArray) : (⟨s.data.toList.toArray⟩ : ByteArray) = s := (of_list rfl).symm

theorem occ_no {l : List UInt8} {c : UInt8} {tl : List UInt8} {j : Nat} (h : ∀ x, l[j]? = some x → x ≠ c) : Lib.occAt l (c :: tl) j = false := by
  unfold Lib.occAt
  cases hd : l.drop j with
  | nil => rfl
  | cons x r =>
    have hx : l[j]? = some x := by
      have := congrArg (fun q => q[0]?) hd
      simpa using this
    have := h x hx
    simp only [List.isPrefixOf_cons_cons, Bool.and_eq_false_imp, beq_iff_eq]
    intro e
    exact (this e.symm).elim

theorem pieces_one {s sep : ByteArray} {c : UInt8} {tl : List UInt8} (hsep : sep.data.toList = c :: tl) (h : ∀ x ∈ s.data.toList, x ≠ c) : piecesB s sep = [s] := by
  have hi : Lib.indexB s sep = -1 := by
    rw [indexB_eq, hsep]
    exact Lib.index_none fun j _ => occ_no fun x hx => h x (List.mem_of_getElem? hx)
  unfold piecesB
  exact Lib.splitB_miss _ _ _ _ hi

theorem pieces_more {s sep : ByteArray} {c : UInt8} {tl l r : List UInt8} (hsep : sep.data.toList = c :: tl) (hs : s.data.toList = l ++ (sep.data.toList ++ r)) (h : ∀ x ∈ l, x ≠ c) : piecesB s sep = ⟨l.toArray⟩ :: piecesB ⟨r.toArray⟩ sep := by
  have h1 : 1 ≤ sep.size := by rw [← list_size, hsep]; simp
  have hi : Lib.indexB s sep = (l.length : Int) := by
    rw [indexB_eq, hs]
    refine Lib.index_first (by simp) ?_ ?_
    · unfold Lib.occAt
      rw [List.drop_left]
      exact List.isPrefixOf_iff_prefix.2 (List.prefix_append _ _)
    · intro j hj
      rw [hsep]
      refine occ_no fun x hx => ?_
      rw [List.getElem?_append_left hj] at hx
      exact h x (List.mem_of_getElem? hx)
  have hr : s.extract (l.length + sep.size) s.size = ⟨r.toArray⟩ := by
    refine of_list ?_
    rw [Lib.extract_to_end, hs, ← list_size sep, List.drop_append, List.drop_of_length_le (by simp), List.nil_append, Nat.add_sub_cancel_left, List.drop_left]
  have hl : s.extract 0 (l.length + 0) = ⟨l.toArray⟩ := by
    refine of_list ?_
    rw [Lib.extract_from_zero, hs, Nat.add_zero, List.take_left]
  unfold piecesB
  rw [Lib.countB_hit s sep l.length h1 hi, Nat.add_comm 1, Lib.splitB_hit _ _ _ _ _ hi, hr, hl]

theorem meet_all {X : Rg} (hX : RangeR X) : meetR allR X = X := range_one (allR_ok.meet hX) hX fun n => by
  rw [meet_in allR_ok hX, allR_in]
  exact ⟨fun h => h.2, fun h => ⟨hX.in h, h⟩⟩

theorem join_none {X : Rg} (hX : RangeR X) : joinR [] X = X := range_one (RangeR.join (A := []) trivial hX) hX fun n => by
  rw [join_in (A := []) trivial hX]
  exact ⟨fun h => h.elim (fun x => x.elim) id, Or.inr⟩

/-- A version's text: it begins with a digit, and has digits and dots alone. -/
theorem text_first {a b c : Int} (h : mayV a b c = true) : ∃ d r, (textV a b c).data.toList = d :: r ∧ 48 ≤ d.toNat ∧ d.toNat ≤ 57 := by
  rw [text_list h]
  obtain ⟨a0, a1, _⟩ := may_all h
  rw [itoa_of a0]
  have hd := dec_digits a.toNat
  cases hq : Lib.decDigits a.toNat with
  | nil => exact (dec_ne _ hq).elim
  | cons d r => exact ⟨d, _, rfl, hd d (by rw [hq]; exact List.mem_cons_self)⟩

theorem text_bytes {a b c : Int} (h : mayV a b c = true) : ∀ x ∈ (textV a b c).data.toList, x.toNat = 46 ∨ (48 ≤ x.toNat ∧ x.toNat ≤ 57) := by
  rw [text_list h]
  obtain ⟨a0, a1, b0, b1, c0, c1⟩ := may_all h
  rw [itoa_of a0, itoa_of b0, itoa_of c0]
  intro x hx
  simp only [List.mem_append, List.mem_cons] at hx
  rcases hx with hx | rfl | hx | rfl | hx
  · exact Or.inr (dec_digits _ x hx)
  · exact Or.inl rfl
  · exact Or.inr (dec_digits _ x hx)
  · exact Or.inl rfl
  · exact Or.inr (dec_digits _ x hx)

theorem text_long {a b c : Int} (h : mayV a b c = true) : 2 ≤ (textV a b c).data.toList.length := by
  rw [text_list h]; simp; omega

theorem digit_in {d : UInt8} (h : 48 ≤ d.toNat ∧ d.toNat ≤ 57) : ([48, 49, 50, 51, 52, 53, 54, 55, 56, 57] : List UInt8).contains d = true := by
  have : d.toNat = 48 ∨ d.toNat = 49 ∨ d.toNat = 50 ∨ d.toNat = 51 ∨ d.toNat = 52 ∨ d.toNat = 53 ∨ d.toNat = 54 ∨ d.toNat = 55 ∨ d.toNat = 56 ∨ d.toNat = 57 := by omega
  have e : ∀ k : Nat, d.toNat = k → d = UInt8.ofNat k := fun k hk => by rw [← hk]; simp
  rcases this with h | h | h | h | h | h | h | h | h | h <;> (rw [e _ h]; decide)

theorem digit_out {d : UInt8} (h : ¬ (48 ≤ d.toNat ∧ d.toNat ≤ 57)) : ([48, 49, 50, 51, 52, 53, 54, 55, 56, 57] : List UInt8).contains d = false := by
  rw [Bool.eq_false_iff]
  intro hc
  simp only [List.contains_iff_mem, List.mem_cons, List.not_mem_nil, or_false] at hc
  apply h
  rcases hc with rfl | rfl | rfl | rfl | rfl | rfl | rfl | rfl | rfl | rfl <;> decide

theorem cat_list (x y : ByteArray) : (x ++ y).data.toList = x.data.toList ++ y.data.toList := by
  show (x ++ y).data.toList = _
  rw [ByteArray.data_append, Array.toList_append]

/-- A sign: no digit, blank or bar, ASCII. -/
def SignB (s : ByteArray) : Prop := ∀ x ∈ s.data.toList, x.toNat < 48 ∧ x.toNat ≠ 32 ∨ 57 < x.toNat ∧ x.toNat < 124 ∨ x.toNat = 126

theorem word_sign {sg : ByteArray} (hs : SignB sg) {a b c : Int} (h : mayV a b c = true) : wordR (sg ++ textV a b c) = signR sg.data.toList (rankV a b c) := by
  obtain ⟨d, r, hd, h1, h2⟩ := text_first h
  have hl := text_long h
  have hk : idxK (sg ++ textV a b c) = sg.size := by
    unfold idxK
    rw [cat_list, Lib.indexAny_hit (i := sg.data.toList.length) (x := d) ?_ ?_ (digit_in ⟨h1, h2⟩)]
    · rw [list_size]; omega
    · intro j x hj hx
      rw [List.getElem?_append_left hj] at hx
      have := hs x (List.mem_of_getElem? hx)
      exact digit_out (by omega)
    · rw [List.getElem?_append_right (Nat.le_refl _), hd]; simp
  have e1 : (sg ++ textV a b c).extract sg.size (sg ++ textV a b c).size = textV a b c := by
    have : ((sg ++ textV a b c).extract sg.size (sg ++ textV a b c).size).data.toList = (textV a b c).data.toList := by
      rw [Lib.extract_to_end, cat_list, ← list_size sg, List.drop_left]
    rw [of_list this, list_of_bytes]
  have e2 : ((sg ++ textV a b c).extract 0 sg.size).data.toList = sg.data.toList := by
    rw [Lib.extract_from_zero, cat_list, ← list_size sg, List.take_left]
  unfold wordR
  rw [if_neg, hk, e1, e2, if_pos (okP_of h).1]
  · unfold plP
    rw [(okP_of h).2.1, (okP_of h).2.2.1, (okP_of h).2.2.2]
  · rw [cat_list]
    intro e
    have := congrArg List.length e
    rw [List.length_append, List.length_singleton] at this
    omega

theorem alt_word {s : ByteArray} (h : ∀ x ∈ s.data.toList, x.toNat ≠ 32 ∧ x.toNat ≠ 124) (h0 : s.size ≠ 0) {X : Rg} (hX : wordR s = some X) : altR s = some X := by
  have p1 : piecesB s ⟨#[124, 124]⟩ = [s] := pieces_one (c := 124) (tl := [124]) rfl fun x hx e => (h x hx).2 (by rw [e]; rfl)
  have p2 : piecesB s ⟨#[32]⟩ = [s] := pieces_one (c := 32) (tl := []) rfl fun x hx e => (h x hx).1 (by rw [e]; rfl)
  have hw : wordsF allR false [s] = some (X, true) := by
    rw [wordsF, if_neg h0, hX]
    simp only [wordsF]
    rw [meet_all (word_rg hX)]
  unfold altR
  rw [p1]
  unfold altF
  rw [p2]
  have b : wordsB [s] = true := by unfold wordsB; rw [hw]
  have l : wordsL [s] = X := by unfold wordsL; rw [hw]
  rw [if_pos b, l, join_none (word_rg hX)]
  rfl

theorem sign_plain {sg : ByteArray} (hs : SignB sg) {a b c : Int} (h : mayV a b c = true) : ∀ x ∈ (sg ++ textV a b c).data.toList, x.toNat ≠ 32 ∧ x.toNat ≠ 124 ∧ x.toNat < 128 := by
  intro x hx
  rw [cat_list, List.mem_append] at hx
  rcases hx with hx | hx
  · have := hs x hx; omega
  · have := text_bytes h x hx; omega

theorem plain_of {s : ByteArray} (h : ∀ x ∈ s.data.toList, x.toNat ≠ 32 ∧ x.toNat ≠ 124 ∧ x.toNat < 128) : PlainT s := by
  have p1 : piecesB s ⟨#[124, 124]⟩ = [s] := pieces_one (c := 124) (tl := [124]) rfl fun x hx e => (h x hx).2.1 (by rw [e]; rfl)
  have p2 : piecesB s ⟨#[32]⟩ = [s] := pieces_one (c := 32) (tl := []) rfl fun x hx e => (h x hx).1 (by rw [e]; rfl)
  unfold PlainT
  rw [p1]
  intro a ha
  rw [List.mem_singleton] at ha
  subst ha
  rw [p2]
  intro p hp _
  rw [List.mem_singleton] at hp
  subst hp
  exact Or.inr fun j b hj => (h b (List.mem_of_getElem? hj)).2.2

theorem sign_len {s : List UInt8} {n : Int} {X : Rg} (h : signR s n = some X) : X.length ≤ 64 := by
  unfold signR at h
  repeat' split at h
  all_goals first | (cases h; done) | (injection h with h; subst h)
  · simp
  · have := cutR_len (B := [(n, 999999999)]) allR_ok; simp only [allR, List.length_cons, List.length_nil] at this ⊢; omega
  · simp
  · have := cutR_len (B := [(0, n)]) allR_ok; simp only [allR, List.length_cons, List.length_nil] at this ⊢; omega
  · simp
  · simp
  · simp

end Go.Proofs.YtcclfaioicklaaaGreatDoor
namespace Go.Proofs.YtcclfaioicklaaaGreatDoor
open Go.RowKit
set_option maxRecDepth 100000

theorem byte_no : ∀ (l : List UInt8) (c : UInt8), (∀ x ∈ l, x.toNat < 128) → 128 ≤ c.toNat → Lib.indexByte l c = -1
  | [], _, _, _ => rfl
  | b :: l, c, h, hc => by
    have hb := h b List.mem_cons_self
    have ih := byte_no l c (fun x hx => h x (List.mem_cons_of_mem _ hx)) hc
    unfold Lib.indexByte
    have : ¬ b = c := fun e => by subst e; omega
    simp [this, ih]

end Go.Proofs.YtcclfaioicklaaaGreatDoor
namespace Go.Proofs.YtcclfaioicklaaaGreatDoor
open Go.RowKit
set_option maxRecDepth 100000

theorem iter_below (w : World) (s : ByteArray) (p : Nat) : Below w.heap.size w (w.iter s p) := boxB _ _

def D10 : ByteArray := ⟨#[48, 49, 50, 51, 52, 53, 54, 55, 56, 57]⟩
theorem d10_low (i : Nat) (h : i < D10.size) : (D10[i]'h).toNat < 128 := by
  have : ∀ i, (h : i < D10.size) → (D10[i]'h).toNat < 128 := by decide
  exact this i h

theorem valid_same (r : Int) : Utf8.valid r = Lib.validRune r := by
  unfold Utf8.valid Lib.validRune
  rw [Bool.eq_iff_iff]
  simp
  omega

theorem last_high (n : Nat) : 128 ≤ (UInt8.ofNat (0x80 + n % 64)).toNat := by
  rw [UInt8.toNat_ofNat']
  omega

theorem decode_one (s : ByteArray) (pos : Nat) (h : pos < s.size) : 1 ≤ (Utf8.decode s pos).2 := by
  by_cases ha : (s[pos]'h).toNat < 128
  · rw [decode_ascii s pos h ha]; exact Nat.le_refl _
  · exact (decode_high s pos h (by omega)).2

end Go.Proofs.YtcclfaioicklaaaGreatDoor
namespace Go.Proofs.YtcclfaioicklaaaGreatDoor
open Go.RowKit
set_option maxRecDepth 100000

/-- A text with a byte that is no ASCII. -/
def HighB (s : ByteArray) : Prop := ∃ x ∈ s.data.toList, 128 ≤ x.toNat

theorem plain_or (s : ByteArray) : Plain8 s ∨ (s.size ≤ 8 ∧ HighB s) := by
  by_cases h8 : 8 < s.size
  · exact Or.inl (Or.inl h8)
  · by_cases h : ∀ x ∈ s.data.toList, x.toNat < 128
    · exact Or.inl (Or.inr fun j b hj => h b (List.mem_of_getElem? hj))
    · right
      refine ⟨by omega, ?_⟩
      unfold HighB
      simp only [Classical.not_forall] at h
      obtain ⟨x, hx, h2⟩ := h
      exact ⟨x, hx, by omega⟩

theorem sign_ascii {s : List UInt8} {n : Int} (h : ∃ x ∈ s, 128 ≤ x.toNat) : signR s n = none := by
  obtain ⟨x, hx, h1⟩ := h
  have no : ∀ l : List UInt8, (∀ y ∈ l, y.toNat < 128) → ¬ s = l := fun l hl e => by subst e; have := hl x hx; omega
  unfold signR
  rw [if_neg (by rintro (e | e); exact no [] (by simp) e; exact no [61] (by decide) e), if_neg (no [60] (by decide)), if_neg (no [60, 61] (by decide)), if_neg (no [62] (by decide)), if_neg (no [62, 61] (by decide)), if_neg (no [94] (by decide)), if_neg (no [126] (by decide))]

theorem high_part {s : ByteArray} (h : HighB s) {k : Nat} (ho : okP (s.extract k s.size) = true) : ∃ x ∈ (s.extract 0 k).data.toList, 128 ≤ x.toNat := by
  obtain ⟨x, hx, h1⟩ := h
  obtain ⟨m, e⟩ := okP_text ho
  have hb := text_bytes m
  rw [← e, Lib.extract_to_end] at hb
  rw [Lib.extract_from_zero]
  rw [← List.take_append_drop k s.data.toList, List.mem_append] at hx
  rcases hx with hx | hx
  · exact ⟨x, hx, h1⟩
  · have := hb x hx; omega

theorem word_high {s : ByteArray} (h : HighB s) : wordR s = none := by
  unfold wordR
  rw [if_neg]
  · split
    · rename_i ho
      exact sign_ascii (high_part h ho)
    · rfl
  · intro e
    obtain ⟨x, hx, h1⟩ := h
    rw [e] at hx
    simp at hx
    subst hx
    exact absurd h1 (by decide)

/-- What Parse makes of a text of any length. -/
def parR (s : ByteArray) : Option Rg := if s.size ≤ 4096 then altR s else none

end Go.Proofs.YtcclfaioicklaaaGreatDoor
namespace Go.Proofs.YtcclfaioicklaaaGreatDoor
open Go.RowKit
set_option maxRecDepth 100000

theorem bytes_append (l r : List UInt8) : (⟨(l ++ r).toArray⟩ : ByteArray) = ⟨l.toArray⟩ ++ ⟨r.toArray⟩ := by
  have : ((⟨l.toArray⟩ : ByteArray) ++ ⟨r.toArray⟩).data.toList = l ++ r := by rw [cat_list]
  rw [of_list this]

/-- A text is one piece, or a piece, the separator and the rest. -/
theorem pieces_cases (s sep : ByteArray) (h1 : 1 ≤ sep.size) : piecesB s sep = [s] ∨ ∃ l r : List UInt8, s.data.toList = l ++ (sep.data.toList ++ r) ∧ piecesB s sep = ⟨l.toArray⟩ :: piecesB ⟨r.toArray⟩ sep ∧ r.length < s.size := by
  rcases Lib.indexB_cases s sep with hi | ⟨i, hi, hr⟩
  · left; unfold piecesB; exact Lib.splitB_miss _ _ _ _ hi
  · right
    have ho : Lib.occAt s.data.toList sep.data.toList i = true := by
      rcases Lib.index_spec s.data.toList sep.data.toList with ⟨h2, _⟩ | ⟨j, h2, _, h3, _⟩
      · rw [indexB_eq, h2] at hi; omega
      · rw [indexB_eq, h2] at hi
        have : j = i := by omega
        subst this; exact h3
    unfold Lib.occAt at ho
    obtain ⟨r, hr2⟩ := List.isPrefixOf_iff_prefix.1 ho
    have e0 : s.data.toList = s.data.toList.take i ++ (sep.data.toList ++ r) := by rw [hr2, List.take_append_drop]
    have hle : i ≤ s.data.toList.length := by rw [list_size]; omega
    have e1 : s.extract 0 (i + 0) = ⟨(s.data.toList.take i).toArray⟩ := of_list (by rw [Lib.extract_from_zero, Nat.add_zero])
    have e2 : s.extract (i + sep.size) s.size = ⟨r.toArray⟩ := by
      refine of_list ?_
      rw [Lib.extract_to_end, ← List.drop_drop, ← hr2, ← list_size sep, List.drop_left]
    refine ⟨s.data.toList.take i, r, e0, ?_, ?_⟩
    · unfold piecesB
      rw [Lib.countB_hit s sep i h1 hi, Nat.add_comm 1, Lib.splitB_hit _ _ _ _ _ hi, e1, e2]
    · have := congrArg List.length e0
      rw [List.length_append, List.length_append, list_size, list_size, List.length_take] at this
      omega

theorem pieces_append {sep : ByteArray} {c : UInt8} {tl : List UInt8} (hsep : sep.data.toList = c :: tl) (t : ByteArray) : ∀ (n : Nat) (s : ByteArray), s.size ≤ n → (∀ p ∈ piecesB s sep, ∀ x ∈ p.data.toList, x ≠ c) → piecesB ((s ++ sep) ++ t) sep = piecesB s sep ++ piecesB t sep
  | n, s, hn, h => by
    have h1 : 1 ≤ sep.size := by rw [← list_size, hsep]; simp
    rcases pieces_cases s sep h1 with e | ⟨l, r, e0, e1, hlt⟩
    · rw [e] at h ⊢
      have := pieces_more (s := (s ++ sep) ++ t) (l := s.data.toList) (r := t.data.toList) hsep (by rw [cat_list, cat_list, List.append_assoc]) (h s List.mem_cons_self)
      rw [this, list_of_bytes, list_of_bytes]; rfl
    · rw [e1] at h ⊢
      have hl : ∀ x ∈ l, x ≠ c := fun x hx => h ⟨l.toArray⟩ List.mem_cons_self x (by simpa using hx)
      have := pieces_more (s := (s ++ sep) ++ t) (l := l) (r := r ++ (sep.data.toList ++ t.data.toList)) hsep (by rw [cat_list, cat_list, e0]; simp [List.append_assoc]) hl
      rw [this, List.cons_append]
      have er : (⟨(r ++ (sep.data.toList ++ t.data.toList)).toArray⟩ : ByteArray) = ((⟨r.toArray⟩ : ByteArray) ++ sep) ++ t := by
        refine (of_list ?_).symm
        rw [cat_list, cat_list]; simp [List.append_assoc]
      rw [er]
      cases n with
      | zero => omega
      | succ n =>
        have hs : (⟨r.toArray⟩ : ByteArray).size ≤ n := by rw [bytes_size]; omega
        rw [pieces_append hsep t n ⟨r.toArray⟩ hs fun p hp => h p (List.mem_cons_of_mem _ hp)]

/-- Between single signs there are none. -/
theorem pieces_clean (c : UInt8) : ∀ (n : Nat) (s : ByteArray), s.size ≤ n → ∀ p ∈ piecesB s ⟨#[c]⟩, ∀ x ∈ p.data.toList, x ≠ c
  | n, s, hn => by
    have h1 : 1 ≤ (⟨#[c]⟩ : ByteArray).size := Nat.le_refl _
    rcases Lib.indexB_cases s ⟨#[c]⟩ with hi | ⟨i, hi, hr⟩
    · have e : piecesB s ⟨#[c]⟩ = [s] := by unfold piecesB; exact Lib.splitB_miss _ _ _ _ hi
      rw [e]
      intro p hp x hx hc
      rw [List.mem_singleton] at hp
      subst hp
      subst hc
      obtain ⟨j, hj⟩ := List.getElem?_of_mem hx
      rcases Lib.index_spec p.data.toList [x] with ⟨_, h3⟩ | ⟨j', h2, _⟩
      · have hlt : j < p.data.toList.length := (List.getElem?_eq_some_iff.1 hj).1
        have := h3 j (by omega)
        unfold Lib.occAt at this
        rw [List.drop_eq_getElem_cons hlt] at this
        rw [List.getElem?_eq_getElem hlt, Option.some.injEq] at hj
        rw [hj] at this
        simp at this
      · rw [indexB_eq] at hi
        change Lib.index p.data.toList [x] = -1 at hi
        omega
    · have hno : ∀ x ∈ s.data.toList.take i, x ≠ c := by
        intro x hx hc
        subst hc
        obtain ⟨j, hj⟩ := List.getElem?_of_mem hx
        have hji : j < i ∧ s.data.toList[j]? = some x := by
          rw [List.getElem?_take] at hj
          split at hj
          · exact ⟨by assumption, hj⟩
          · cases hj
        rcases Lib.index_spec s.data.toList [x] with ⟨h2, _⟩ | ⟨j', h2, _, _, h3⟩
        · rw [indexB_eq] at hi
          change Lib.index s.data.toList [x] = _ at hi
          omega
        · rw [indexB_eq] at hi
          change Lib.index s.data.toList [x] = _ at hi
          have : j' = i := by omega
          subst this
          have h4 := h3 j hji.1
          unfold Lib.occAt at h4
          have hlt : j < s.data.toList.length := (List.getElem?_eq_some_iff.1 hji.2).1
          rw [List.drop_eq_getElem_cons hlt] at h4
          have h5 := hji.2
          rw [List.getElem?_eq_getElem hlt, Option.some.injEq] at h5
          rw [h5] at h4
          simp at h4
      have e1 : s.extract 0 (i + 0) = ⟨(s.data.toList.take i).toArray⟩ := of_list (by rw [Lib.extract_from_zero, Nat.add_zero])
      have e : piecesB s ⟨#[c]⟩ = ⟨(s.data.toList.take i).toArray⟩ :: piecesB (s.extract (i + 1) s.size) ⟨#[c]⟩ := by
        unfold piecesB
        rw [Lib.countB_hit s ⟨#[c]⟩ i h1 hi, Nat.add_comm 1, Lib.splitB_hit _ _ _ _ _ hi, e1]
        rfl
      rw [e]
      intro p hp
      rcases List.mem_cons.1 hp with rfl | hp
      · intro x hx; exact hno x (by simpa using hx)
      · cases n with
        | zero => have : (⟨#[c]⟩ : ByteArray).size = 1 := rfl; omega
        | succ n =>
          have hz : (s.extract (i + 1) s.size).size ≤ n := by
            rw [ByteArray.size_extract]
            have : (⟨#[c]⟩ : ByteArray).size = 1 := rfl
            omega
          exact pieces_clean c n _ hz p hp

theorem join_assoc {A B C : Rg} (hA : RangeR A) (hB : RangeR B) (hC : RangeR C) : joinR (joinR A B) C = joinR A (joinR B C) := range_one ((hA.join hB).join hC) (hA.join (hB.join hC)) fun n => by
  rw [join_in (hA.join hB) hC, join_in hA hB, join_in hA (hB.join hC), join_in hB hC, or_assoc]

theorem altF_from : ∀ {l : List ByteArray} {R : Rg}, RangeR R → altF R l = (altF [] l).map (joinR R)
  | [], R, hR => by
    have : joinR R [] = R := range_one (hR.join (B := []) trivial) hR fun n => by rw [join_in hR (B := []) trivial]; exact ⟨fun h => h.elim id (fun x => x.elim), Or.inl⟩
    simp [altF, this]
  | a :: l, R, hR => by
    unfold altF
    split
    · have hX := wordsL_rg (piecesB a ⟨#[32]⟩)
      rw [altF_from (hR.join hX), join_none hX, altF_from hX, Option.map_map]
      cases hq : altF [] l with
      | none => rfl
      | some Y =>
        have hY := altF_rg (R := []) trivial hq
        simp only [Option.map_some, Function.comp_apply, Option.some.injEq]
        exact join_assoc hR hX hY
    · rfl

theorem altF_cons {a : ByteArray} {l : List ByteArray} {R : Rg} : altF R (a :: l) = if wordsB (piecesB a ⟨#[32]⟩) = true then altF (joinR R (wordsL (piecesB a ⟨#[32]⟩))) l else none := rfl

theorem altF_append : ∀ {l m : List ByteArray} {R : Rg}, altF R (l ++ m) = (altF R l).bind fun Q => altF Q m
  | [], m, R => rfl
  | a :: l, m, R => by
    rw [List.cons_append, altF_cons, altF_cons]
    split
    · exact altF_append
    · rfl

/-- A word has no bar. -/
theorem word_bar {s : ByteArray} {X : Rg} (h : wordR s = some X) : ∀ x ∈ s.data.toList, x.toNat ≠ 124 := by
  unfold wordR at h
  split at h
  · rename_i e
    intro x hx
    rw [e] at hx
    simp at hx
    subst hx
    decide
  · split at h
    · rename_i ho
      obtain ⟨m, e⟩ := okP_text ho
      have hb := text_bytes m
      rw [← e, Lib.extract_to_end] at hb
      intro x hx
      rw [← List.take_append_drop (idxK s) s.data.toList, List.mem_append] at hx
      rcases hx with hx | hx
      · rw [Lib.extract_from_zero] at h
        generalize List.take (idxK s) s.data.toList = sg at *
        intro e124
        have no : ∀ l : List UInt8, (∀ y ∈ l, y.toNat ≠ 124) → ¬ sg = l := fun l hl e => by subst e; exact hl x hx e124
        unfold signR at h
        rw [if_neg (by rintro (e | e); exact no [] (by simp) e; exact no [61] (by decide) e), if_neg (no [60] (by decide)), if_neg (no [60, 61] (by decide)), if_neg (no [62] (by decide)), if_neg (no [62, 61] (by decide)), if_neg (no [94] (by decide)), if_neg (no [126] (by decide))] at h
        cases h
      · have := hb x hx; omega
    · cases h

theorem words_bar : ∀ {ps : List ByteArray} {R : Rg} {f : Bool}, (wordsF R f ps).isSome = true → ∀ p ∈ ps, ∀ x ∈ p.data.toList, x.toNat ≠ 124
  | [], _, _, _, p, hp => by cases hp
  | q :: ps, R, f, h, p, hp => by
    unfold wordsF at h
    split at h
    · rename_i h0
      rcases List.mem_cons.1 hp with rfl | hp
      · intro x hx
        rw [← list_size] at h0
        rw [List.eq_nil_of_length_eq_zero h0] at hx
        cases hx
      · exact words_bar h p hp
    · split at h
      · cases h
      · rename_i X hX
        rcases List.mem_cons.1 hp with rfl | hp
        · exact word_bar hX
        · exact words_bar h p hp

/-- The bytes of a text are those of its pieces and of the separators. -/
theorem pieces_bytes (sep : ByteArray) (h1 : 1 ≤ sep.size) : ∀ (n : Nat) (s : ByteArray), s.size ≤ n → ∀ x ∈ s.data.toList, x ∈ sep.data.toList ∨ ∃ p ∈ piecesB s sep, x ∈ p.data.toList
  | n, s, hn, x, hx => by
    rcases pieces_cases s sep h1 with e | ⟨l, r, e0, e1, hlt⟩
    · rw [e]; exact Or.inr ⟨s, List.mem_cons_self, hx⟩
    · rw [e0] at hx
      rw [e1]
      simp only [List.mem_append] at hx
      rcases hx with hx | hx | hx
      · exact Or.inr ⟨_, List.mem_cons_self, by simpa using hx⟩
      · exact Or.inl hx
      · cases n with
        | zero => omega
        | succ n =>
          rcases pieces_bytes sep h1 n ⟨r.toArray⟩ (by rw [bytes_size]; omega) x (by simpa using hx) with h | ⟨p, hp, hpx⟩
          · exact Or.inl h
          · exact Or.inr ⟨p, List.mem_cons_of_mem _ hp, hpx⟩

theorem alt_bar : ∀ {l : List ByteArray} {R : Rg}, (altF R l).isSome = true → ∀ p ∈ l, ∀ x ∈ p.data.toList, x ≠ 124
  | [], _, _, p, hp => by cases hp
  | a :: l, R, h, p, hp => by
    unfold altF at h
    split at h
    · rename_i hb
      rcases List.mem_cons.1 hp with rfl | hp
      · intro x hx e
        have hs : (wordsF allR false (piecesB p ⟨#[32]⟩)).isSome = true := by
          unfold wordsB at hb
          split at hb
          · rename_i e2; rw [e2]; rfl
          · cases hb
        rcases pieces_bytes ⟨#[32]⟩ (by decide) p.size p (Nat.le_refl _) x hx with h2 | ⟨q, hq, hxq⟩
        · simp at h2; rw [h2] at e; exact absurd e (by decide)
        · exact words_bar hs q hq x hxq (by rw [e]; rfl)
      · exact alt_bar h p hp
    · cases h

theorem alt_both {s t : ByteArray} {A B : Rg} (ha : altR s = some A) (hb : altR t = some B) : altR ((s ++ ⟨#[124, 124]⟩) ++ t) = some (joinR A B) := by
  unfold altR at *
  rw [pieces_append (c := 124) (tl := [124]) rfl t s.size s (Nat.le_refl _) (alt_bar (by rw [ha]; rfl)), altF_append, ha, Option.bind_some, altF_from (altF_rg (R := []) trivial ha), hb]
  rfl

theorem meet_allr {R : Rg} (hR : RangeR R) : meetR R allR = R := range_one (hR.meet allR_ok) hR fun n => by
  rw [meet_in hR allR_ok, allR_in]
  exact ⟨fun h => h.1, fun h => ⟨h, hR.in h⟩⟩

theorem meet_asc {A B C : Rg} (hA : RangeR A) (hB : RangeR B) (hC : RangeR C) : meetR (meetR A B) C = meetR A (meetR B C) := range_one ((hA.meet hB).meet hC) (hA.meet (hB.meet hC)) fun n => by
  rw [meet_in hA (hB.meet hC), meet_in hB hC, meet_in (hA.meet hB) hC, meet_in hA hB]
  exact ⟨fun h => ⟨h.1.1, h.1.2, h.2⟩, fun h => ⟨⟨h.1, h.2.1⟩, h.2.2⟩⟩

theorem wordsF_from : ∀ {ps : List ByteArray} {R : Rg} {f : Bool}, RangeR R → wordsF R f ps = (wordsF allR false ps).map fun q => (meetR R q.1, f || q.2)
  | [], R, f, hR => by simp [wordsF, meet_allr hR]
  | p :: ps, R, f, hR => by
    unfold wordsF
    split
    · exact wordsF_from hR
    · split
      · rfl
      · rename_i X hX
        have hXr := word_rg hX
        rw [wordsF_from (hR.meet hXr), meet_all hXr, wordsF_from hXr, Option.map_map]
        cases hq : wordsF allR false ps with
        | none => rfl
        | some Y =>
          obtain ⟨Y, g⟩ := Y
          have hY := wordsF_rg allR_ok hq
          simp only [Option.map_some, Function.comp_apply, Option.some.injEq, Prod.mk.injEq, Bool.true_or, Bool.or_true, and_true]
          exact meet_asc hR hXr hY

theorem wordsF_cons {p : ByteArray} {ps : List ByteArray} {R : Rg} {f : Bool} : wordsF R f (p :: ps) = if p.size = 0 then wordsF R f ps else match wordR p with
    | none => none
    | some X => wordsF (meetR R X) true ps := rfl

theorem wordsF_append : ∀ {ps qs : List ByteArray} {R : Rg} {f : Bool}, wordsF R f (ps ++ qs) = (wordsF R f ps).bind fun q => wordsF q.1 q.2 qs
  | [], qs, R, f => rfl
  | p :: ps, qs, R, f => by
    rw [List.cons_append, wordsF_cons, wordsF_cons]
    split
    · exact wordsF_append
    · cases wordR p with
      | none => rfl
      | some X => exact wordsF_append

/-- A text without bars. -/
theorem alt_plain {s : ByteArray} (h : ∀ x ∈ s.data.toList, x ≠ 124) {A : Rg} : altR s = some A ↔ wordsF allR false (piecesB s ⟨#[32]⟩) = some (A, true) := by
  have p1 : piecesB s ⟨#[124, 124]⟩ = [s] := pieces_one (c := 124) (tl := [124]) rfl h
  unfold altR
  rw [p1]
  unfold altF
  have hj := join_none (wordsL_rg (piecesB s ⟨#[32]⟩))
  rw [hj]
  unfold wordsB wordsL
  cases hq : wordsF allR false (piecesB s ⟨#[32]⟩) with
  | none => simp
  | some q =>
    obtain ⟨X, f⟩ := q
    cases f <;> simp [altF]

theorem alt_blank {s t : ByteArray} {A B : Rg} (hs : ∀ x ∈ s.data.toList, x ≠ 124) (ht : ∀ x ∈ t.data.toList, x ≠ 124) (ha : altR s = some A) (hb : altR t = some B) : altR ((s ++ ⟨#[32]⟩) ++ t) = some (meetR A B) := by
  have hst : ∀ x ∈ ((s ++ ⟨#[32]⟩) ++ t).data.toList, x ≠ 124 := by
    intro x hx
    rw [cat_list, cat_list] at hx
    simp only [List.mem_append] at hx
    rcases hx with (hx | hx) | hx
    · exact hs x hx
    · simp at hx; rw [hx]; decide
    · exact ht x hx
  have ea := (alt_plain hs).1 ha
  have eb := (alt_plain ht).1 hb
  rw [alt_plain hst, pieces_append (c := 32) (tl := []) rfl t s.size s (Nat.le_refl _) (pieces_clean 32 s.size s (Nat.le_refl _)), wordsF_append, ea, Option.bind_some, wordsF_from (altR_rg ha), eb]
  rfl
end Go.Proofs.YtcclfaioicklaaaGreatDoor
namespace Go.Proofs.YtcclfaioicklaaaGreatDoor
open Go.RowKit
set_option maxRecDepth 100000

theorem same_list {s t : ByteArray} (h : s.data.toList = t.data.toList) : s = t := (of_list h).trans (list_of_bytes t)

theorem empty_cat (s : ByteArray) : (⟨#[]⟩ : ByteArray) ++ s = s := same_list (by rw [cat_list]; rfl)

theorem cat_empty (s : ByteArray) : s ++ (⟨#[]⟩ : ByteArray) = s := same_list (by rw [cat_list]; exact List.append_nil _)

theorem pieces_empty (c : UInt8) : piecesB ⟨#[]⟩ ⟨#[c]⟩ = [⟨#[]⟩] := pieces_one (c := c) (tl := []) rfl (fun x hx => by cases hx)

/-- A blank ahead, a blank behind. -/
theorem pad_left {s : ByteArray} (hs : ∀ x ∈ s.data.toList, x ≠ 124) {A : Rg} (ha : altR s = some A) : altR (⟨#[32]⟩ ++ s) = some A ∧ ∀ x ∈ (⟨#[32]⟩ ++ s).data.toList, x ≠ 124 := by
  have hb : ∀ x ∈ (⟨#[32]⟩ ++ s).data.toList, x ≠ 124 := by
    intro x hx
    rw [cat_list] at hx
    rcases List.mem_append.1 hx with hx | hx
    · simp at hx; rw [hx]; decide
    · exact hs x hx
  refine ⟨?_, hb⟩
  have e : (⟨#[32]⟩ : ByteArray) ++ s = ((⟨#[]⟩ : ByteArray) ++ ⟨#[32]⟩) ++ s := by rw [empty_cat]
  have hp := pieces_append (sep := ⟨#[32]⟩) (c := 32) (tl := []) rfl s 0 ⟨#[]⟩ (Nat.le_refl _) (pieces_clean 32 0 ⟨#[]⟩ (Nat.le_refl _))
  rw [alt_plain hb, e, hp, pieces_empty, List.singleton_append, wordsF_cons, if_pos (show (⟨#[]⟩ : ByteArray).size = 0 from rfl)]
  exact (alt_plain hs).1 ha

theorem pad_right {s : ByteArray} (hs : ∀ x ∈ s.data.toList, x ≠ 124) {A : Rg} (ha : altR s = some A) : altR (s ++ ⟨#[32]⟩) = some A ∧ ∀ x ∈ (s ++ ⟨#[32]⟩).data.toList, x ≠ 124 := by
  have hb : ∀ x ∈ (s ++ ⟨#[32]⟩).data.toList, x ≠ 124 := by
    intro x hx
    rw [cat_list] at hx
    rcases List.mem_append.1 hx with hx | hx
    · exact hs x hx
    · simp at hx; rw [hx]; decide
  refine ⟨?_, hb⟩
  have e : s ++ (⟨#[32]⟩ : ByteArray) = (s ++ ⟨#[32]⟩) ++ ⟨#[]⟩ := by rw [cat_empty]
  have hp := pieces_append (sep := ⟨#[32]⟩) (c := 32) (tl := []) rfl ⟨#[]⟩ s.size s (Nat.le_refl _) (pieces_clean 32 s.size s (Nat.le_refl _))
  rw [alt_plain hb, e, hp, pieces_empty, wordsF_append, (alt_plain hs).1 ha]
  simp only [Option.bind_some]
  rw [wordsF_cons, if_pos (show (⟨#[]⟩ : ByteArray).size = 0 from rfl)]
  rfl

theorem sign_alt {sg : ByteArray} (hs : SignB sg) {a b c : Int} (h : mayV a b c = true) {X : Rg} (hX : signR sg.data.toList (rankV a b c) = some X) : altR (sg ++ textV a b c) = some X ∧ ∀ x ∈ (sg ++ textV a b c).data.toList, x ≠ 124 := by
  have hp := sign_plain hs h
  have hl := text_long h
  refine ⟨alt_word (fun x hx => ⟨(hp x hx).1, (hp x hx).2.1⟩) ?_ ((word_sign hs h).trans hX), fun x hx e => (hp x hx).2.1 (by rw [e]; rfl)⟩
  rw [size_cat]
  rw [list_size] at hl
  omega

theorem star_alt : altR ⟨#[42]⟩ = some allR ∧ ∀ x ∈ (⟨#[42]⟩ : ByteArray).data.toList, x ≠ 124 := by
  refine ⟨alt_word ?_ (by decide) ?_, ?_⟩
  · intro x hx; simp at hx; rw [hx]; decide
  · unfold wordR; rw [if_pos rfl]
  · intro x hx; simp at hx; rw [hx]; decide

theorem le_sign : SignB ⟨#[60, 61]⟩ := by intro x hx; simp at hx; rcases hx with rfl | rfl <;> decide

theorem ge_sign : SignB ⟨#[62, 61]⟩ := by intro x hx; simp at hx; rcases hx with rfl | rfl <;> decide

theorem no_sign : SignB ⟨#[]⟩ := by intro x hx; simp at hx

theorem rank_000 : rankV 0 0 0 = 0 := by decide +kernel

theorem rank_999 : rankV 999 999 999 = 999999999 := by decide +kernel

/-- A span's text says that span. -/
theorem spT_alt {lo hi : Int} (h1 : okR lo) (h2 : okR hi) (h : lo ≤ hi) : altR (spT (lo, hi)) = some [(lo, hi)] ∧ ∀ x ∈ (spT (lo, hi)).data.toList, x ≠ 124 := by
  obtain ⟨m1, e1⟩ := may_at h1.has
  obtain ⟨m2, e2⟩ := may_at h2.has
  unfold spT spanT
  simp only
  split
  · rename_i hq
    have hlh : lo = hi := by rw [← e1, ← e2, hq.1, hq.2.1, hq.2.2]
    have := sign_alt no_sign m1 (X := [(lo, lo)]) (by rw [e1]; rfl)
    rw [empty_cat] at this
    rw [← hlh]
    exact this
  · split
    · rename_i _ hq
      have hl : lo = 0 := by rw [← e1, hq.1.1, hq.1.2.1, hq.1.2.2]; exact rank_000
      have hh : hi = 999999999 := by rw [← e2, hq.2.1, hq.2.2.1, hq.2.2.2]; exact rank_999
      rw [hl, hh]
      exact star_alt
    · split
      · rename_i _ _ hq
        have hl : lo = 0 := by rw [← e1, hq.1, hq.2.1, hq.2.2]; exact rank_000
        have := sign_alt le_sign m2 (X := [(0, hi)]) (by rw [e2]; rfl)
        rw [hl]
        exact this
      · split
        · rename_i _ _ _ hq
          have hh : hi = 999999999 := by rw [← e2, hq.1, hq.2.1, hq.2.2]; exact rank_999
          have := sign_alt ge_sign m1 (X := [(lo, 999999999)]) (by rw [e1]; rfl)
          rw [hh]
          exact this
        · obtain ⟨a1, b1⟩ := sign_alt ge_sign m1 (X := [(lo, 999999999)]) (by rw [e1]; rfl)
          obtain ⟨a2, b2⟩ := sign_alt le_sign m2 (X := [(0, hi)]) (by rw [e2]; rfl)
          have r1 := one_ok h1 okL h1.2
          have r2 := one_ok okF h2 h2.1
          have hm : meetR [(lo, 999999999)] [(0, hi)] = [(lo, hi)] := range_one (r1.meet r2) (one_ok h1 h2 h) fun n => by
            rw [meet_in r1 r2]
            simp only [InR, or_false]
            have := h1.1
            have := h2.2
            omega
          have e : ((⟨#[62, 61]⟩ ++ textV (atA lo) (atB lo) (atC lo)) ++ ⟨#[32, 60, 61]⟩) ++ textV (atA hi) (atB hi) (atC hi) = ((⟨#[62, 61]⟩ ++ textV (atA lo) (atB lo) (atC lo)) ++ ⟨#[32]⟩) ++ (⟨#[60, 61]⟩ ++ textV (atA hi) (atB hi) (atC hi)) := same_list (by simp only [cat_list]; simp)
          rw [e]
          refine ⟨by rw [alt_blank b1 b2 a1 a2, hm], ?_⟩
          intro x hx
          rw [cat_list, cat_list] at hx
          simp only [List.mem_append] at hx
          rcases hx with (hx | hx) | hx
          · exact b1 x hx
          · simp at hx; rw [hx]; decide
          · exact b2 x hx

theorem rise_head {k M : Int} {p : Int × Int} {A : Rg} (h : RiseR k M (p :: A)) : k ≤ p.1 ∧ p.1 ≤ p.2 ∧ p.2 ≤ M ∧ RiseR (p.2 + 2) M A := h

theorem rise_down {k j M : Int} (hj : j ≤ k) : ∀ {A : Rg}, RiseR k M A → RiseR j M A
  | [], _ => trivial
  | (_, _) :: _, h => ⟨by have := h.1; omega, h.2.1, h.2.2.1, h.2.2.2⟩

/-- A range's text, and that with a blank ahead, says that range. -/
theorem print_alt : ∀ {A : Rg}, RangeR A → A ≠ [] → altR (printR A) = some A ∧ altR (⟨#[32]⟩ ++ printR A) = some A
  | [], _, h => absurd rfl h
  | [(lo, hi)], hA, _ => by
    obtain ⟨q1, q2, q3, _⟩ := rise_head hA
    obtain ⟨a, b⟩ := spT_alt (lo := lo) (hi := hi) ⟨q1, by simp at q2 q3; omega⟩ ⟨by simp at q1 q2; omega, q3⟩ q2
    have e : printR [(lo, hi)] = spT (lo, hi) := by
      unfold printR
      simp only [List.map_cons, List.map_nil]
      rw [Lib.join_one, list_of_bytes]
    rw [e]
    exact ⟨a, (pad_left b a).1⟩
  | (lo, hi) :: q :: r, hA, _ => by
    obtain ⟨q1, q2, q3, q4⟩ := rise_head hA
    have hB : RangeR (q :: r) := rise_down (by simp at q1 q2; omega) q4
    have hP : RangeR [(lo, hi)] := ⟨q1, q2, q3, trivial⟩
    obtain ⟨a, b⟩ := spT_alt (lo := lo) (hi := hi) ⟨q1, by simp at q2 q3; omega⟩ ⟨by simp at q1 q2; omega, q3⟩ q2
    obtain ⟨_, i2⟩ := print_alt hB (by simp)
    have hj : joinR [(lo, hi)] (q :: r) = (lo, hi) :: q :: r := range_one (hP.join hB) hA fun n => by
      rw [join_in hP hB]
      simp only [InR, or_false]
    have e : printR ((lo, hi) :: q :: r) = ((spT (lo, hi) ++ ⟨#[32]⟩) ++ ⟨#[124, 124]⟩) ++ (⟨#[32]⟩ ++ printR (q :: r)) := by
      refine same_list ?_
      simp only [cat_list]
      unfold printR
      simp only [List.map_cons]
      rw [Lib.join_cons]
      have : Lib.joinTail [32, 124, 124, 32] ((spT q).data.toList :: r.map fun p => (spT p).data.toList) = [32, 124, 124, 32] ++ Lib.join ((spT q).data.toList :: r.map fun p => (spT p).data.toList) [32, 124, 124, 32] := by
        rw [Lib.join_cons]
        simp [Lib.joinTail]
      rw [this]
      simp
    obtain ⟨c1, d1⟩ := pad_right b a
    obtain ⟨c2, d2⟩ := pad_left b a
    obtain ⟨c3, d3⟩ := pad_right d2 c2
    refine ⟨by rw [e, alt_both c1 i2, hj], ?_⟩
    have e2 : ⟨#[32]⟩ ++ printR ((lo, hi) :: q :: r) = (((⟨#[32]⟩ ++ spT (lo, hi)) ++ ⟨#[32]⟩) ++ ⟨#[124, 124]⟩) ++ (⟨#[32]⟩ ++ printR (q :: r)) := by
      rw [e]
      refine same_list ?_
      simp only [cat_list]
      simp
    rw [e2, alt_both c3 i2, hj]

theorem lt_sign : SignB ⟨#[60]⟩ := by intro x hx; simp at hx; rw [hx]; decide

theorem print_says {A : Rg} (hA : RangeR A) : altR (printR A) = some A := by
  cases A with
  | cons p A => exact (print_alt hA (by simp)).1
  | nil =>
    have := (sign_alt lt_sign (a := 0) (b := 0) (c := 0) (by decide +kernel) (X := cutR allR [(0, 999999999)]) (by rw [rank_000]; rfl)).1
    have e : cutR allR [(0, 999999999)] = [] := by decide +kernel
    rw [e] at this
    exact this

theorem print_size {A : Rg} (hl : A.length ≤ 64) : (printR A).size ≤ 4096 := by
  cases A with
  | nil => have := text_size 0 0 0; have z : (⟨#[60]⟩ : ByteArray).size = 1 := rfl; show (⟨#[60]⟩ ++ textV 0 0 0).size ≤ 4096; rw [size_cat]; omega
  | cons p A =>
    show (⟨(Lib.join ((p :: A).map fun p => (spT p).data.toList) [32, 124, 124, 32]).toArray⟩ : ByteArray).size ≤ 4096
    rw [bytes_size, List.map_cons, Lib.join_length, ← List.map_cons (f := fun p => (spT p).data.toList)]
    have := lens_le 27 ((p :: A).map fun p => (spT p).data.toList) (by
      intro x hx
      obtain ⟨q, _, rfl⟩ := List.mem_map.1 hx
      exact spanT_size _ _ _ _ _ _)
    simp only [List.length_map, List.length_cons, List.length_nil] at *
    omega

theorem print_par {A : Rg} (hA : RangeR A) (hl : A.length ≤ 64) : parR (printR A) = some A := by
  unfold parR
  rw [if_pos (print_size hl)]
  exact print_says hA
end Go.Proofs.YtcclfaioicklaaaGreatDoor
