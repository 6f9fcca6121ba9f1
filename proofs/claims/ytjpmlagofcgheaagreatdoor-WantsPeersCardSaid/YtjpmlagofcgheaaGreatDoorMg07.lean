/- Pk3, Pk4, Ps2, ScBd1, Pure3, Ix1, Ix2, Tx6, laid in one text. -/
import Derived.Maps.Own
import Derived.Maps.Views
import Derived.Maps.OwnSet
import Derived.Shelf.Strings.Builder1
import Derived.Lib.IndexMore
import Derived.Lib.CountLaws
import Derived.Test.YtjpmlagofcgheaaGreatDoorShelfD
import Derived.Laws.RangeAny
import Derived.WalkLawsBesides
import Derived.Lib.OthersKept
import Derived.Deep.LoopGhost
import Derived.Test.YtjpmlagofcgheaaGreatDoorMg06
namespace Go.Proofs.YtjpmlagofcgheaaGreatDoor
open Go.RowKit
set_option maxRecDepth 100000

/-- A text ahead of another one, byte by byte. -/
def ltS (s t : ByteArray) : Bool := Op.bytesLess s.toList t.toList
/-- A name that may follow another one. -/
def followB (q : Option ByteArray) (s : ByteArray) : Bool := Sc.nameA s.data.toList && (match q with
  | none => true
  | some p => ltS p s)
/-- A range that may stand in a list. -/
def rangeB (L : List Sp) : Bool := decide (0 < L.length) && mayL L
/-- A list goes on behind a name. -/
def riseD : Option ByteArray → List Dp → Bool
  | _, [] => true
  | q, d :: r => followB q d.nm && rangeB d.rg && riseD (some d.nm) r
/-- A list of dependencies may be. -/
def mayD (L : List Dp) : Bool := decide (L.length ≤ 16) && riseD none L
/-- The last name. -/
def lastN (L : List Dp) : Option ByteArray := L.getLast?.map (·.nm)

theorem DepsAt.len {w : World} {v : Value} {L : List Dp} (h : DepsAt w v L) : ∃ ad cap, v = .slice ad L.length cap ∧ L.length ≤ cap := by
  obtain ⟨ad, cap, rfl, h, _⟩ := h
  exact ⟨ad, cap, rfl, h⟩

theorem mayRange_any {v : Value} {L : List Sp} {w : World} (h : SpansAt w v L) :
    Calls Tryz.prog 145 #[v] w fun e w' => e = .returned (.bool (rangeB L)) ∧ Below w.heap.size w w' := by
  have HM := hide3 (sMay_any h)
  obtain ⟨ad, cap, rfl⟩ := h.sl
  clear h
  by_cases h0 : 0 < L.length
  · have HR : Hid (rangeB L = mayL L) := by unfold Hid rangeB; simp [h0]
    go_enter Tryz.func145, Tryz.ntmps145
    go_wp2_with (go_at_call 78; refine HM.out.mono ?_; rintro e w1 ⟨rfl, ok⟩)
    go_ret
    exact ⟨ret_bool HR.out.symm, ok⟩
  · have HR : Hid (rangeB L = false) := by unfold Hid rangeB; simp [h0]
    go_enter Tryz.func145, Tryz.ntmps145
    go_wp2
    go_ret
    exact ⟨ret_bool HR.out.symm, Below.refl _ _⟩

theorem mayFollow_any {va : Value} {A : List Dp} {w : World} (h : DepsAt w va A) (hl : A.length ≤ 1000000000000) (s : ByteArray) :
    Calls Tryz.prog 144 #[va, .string s] w fun e w' => e = .returned (.bool (followB (lastN A) s)) ∧ w' = w := by
  have HN : Hid (Calls Tryz.prog 125 #[.string s] w fun e w' => e = .returned (.bool (Sc.nameA s.data.toList)) ∧ w' = w) := Sc.Name_any s w
  cases hn : Sc.nameA s.data.toList
  · have HR : Hid (followB (lastN A) s = false) := by unfold Hid followB; rw [hn]; rfl
    rw [hn] at HN
    obtain ⟨ad, cap, rfl⟩ := h.sl
    clear h
    go_enter Tryz.func144, Tryz.ntmps144
    go_wp2_with (go_at_call 125; refine HN.out.mono ?_; rintro e w1 ⟨rfl, rfl⟩)
    go_ret
    exact ⟨ret_bool HR.out.symm, rfl⟩
  · rw [hn] at HN
    rcases List.eq_nil_or_concat A with rfl | ⟨B, d, rfl⟩
    · have HR : Hid (followB (lastN []) s = true) := by unfold Hid followB; rw [hn]; rfl
      obtain ⟨ad, cap, rfl⟩ := h.sl
      clear h
      go_enter Tryz.func144, Tryz.ntmps144
      go_wp2_with (go_at_call 125; refine HN.out.mono ?_; rintro e w1 ⟨rfl, rfl⟩)
      go_ret
      exact ⟨ret_bool HR.out.symm, rfl⟩
    · have HR : Hid (followB (lastN (B ++ [d])) s = Op.bytesLess d.nm.toList s.toList) := by unfold Hid followB lastN; rw [hn]; simp [ltS]
      rw [List.concat_eq_append] at *
      obtain ⟨ad, cap, rfl, hc, hs⟩ := h
      rcases hs with hs | ⟨g, o, rfl, hg, hs⟩
      · simp at hs
      · obtain ⟨u, c0, hrest⟩ := hs B.length (by simp)
        clear hrest hs
        simp only [List.getElem_concat_length] at c0
        have hlen : (B ++ [d]).length = B.length + 1 := by simp
        rw [hlen] at hl hc ⊢
        generalize B.length = m at *
        have w1 : IntKind.i64.wrap (((m + 1 : Nat) : Int) - 1) = (m : Int) := by rw [IntKind.wrap_i64]; omega
        go_enter Tryz.func144, Tryz.ntmps144
        go_wp2_with (go_at_call 125; refine HN.out.mono ?_; rintro e w1 ⟨rfl, rfl⟩)
        go_ret
        exact ⟨ret_bool HR.out.symm, rfl⟩

theorem DepsAt.take {w : World} {ad : Option Addr} {cap : Nat} {L : List Dp} (h : DepsAt w (.slice ad L.length cap) L) {k : Nat} (hk : k ≤ L.length) : DepsAt w (.slice ad k cap) (L.take k) := by
  obtain ⟨ad', cap', e, hc, hs⟩ := h
  cases e
  refine ⟨ad, cap, by simp [Nat.min_eq_left hk], by simp; omega, ?_⟩
  rcases hs with rfl | ⟨g, o, rfl, hg, hs⟩
  · exact Or.inl (by simp)
  · refine Or.inr ⟨g, o, rfl, hg, fun i hi => ?_⟩
    have hi' : i < L.length := by simp at hi; omega
    obtain ⟨u, hu⟩ := hs i hi'
    exact ⟨u, by simpa using hu⟩

theorem lastN_take {L : List Dp} {k : Nat} (h : k < L.length) : lastN (L.take (k + 1)) = some L[k].nm := by
  unfold lastN
  rw [List.take_succ_eq_append_getElem h, List.getLast?_concat]
  rfl

/-- What the walk of mayList keeps in a round. -/
def KM (w : World) (N : Nat) (s : ByteArray) (u : Value) (d : Dp) (va : Value) (A : List Dp) (w1 : World) : Prop := Below w.heap.size w w1 ∧ BxD w1 N s u ∧ SpansAt w1 u d.rg ∧ DepsAt w1 va A
theorem keepKM (w : World) (N : Nat) (s : ByteArray) (u : Value) (d : Dp) (va : Value) (A : List Dp) : KeepP (KM w N s u d va A) := (keepBelow w).and ((keepBxD _ _ _).and ((keepSpans _ _).and (keepDeps _ _)))

set_option maxHeartbeats 3200000 in
theorem mayList_walk (L : List Dp) (hlen : L.length ≤ 16) (g o cap : Nat) (w : World) (h : DepsAt w (.slice (some ⟨g, o, none⟩) L.length cap) L) (hs : ∀ i (h : i < L.length), ∃ u, DpIn w g (o + i * 2) L[i] u) :
    Calls Tryz.prog 126 #[.slice (some ⟨g, o, none⟩) L.length cap] w fun e w' => e = .returned (.bool (mayD L)) ∧ Below w.heap.size w w' := by
  have HL : Hid (∀ w1, Below w.heap.size w w1 → ∀ i (h : i < L.length), ∃ u, DpIn w1 g (o + i * 2) L[i] u) := fun w1 hb i hi => (hs i hi).imp fun u h => h.below hb
  have HD : Hid (∀ w1, Below w.heap.size w w1 → ∀ k, k ≤ L.length → DepsAt w1 (.slice (some ⟨g, o, none⟩) k cap) (L.take k)) := fun w1 hb k hk => (h.below hb).take hk
  have HT : Hid (mayD L = riseD none L) := by unfold Hid mayD; simp [hlen]
  have hcap : L.length ≤ cap := by obtain ⟨_, _, e, hc, _⟩ := h; cases e; exact hc
  have h16 : decide ((16 : Int) < (L.length : Int)) = false := decide_eq_false (by omega)
  clear h hs
  go_enter Tryz.func126, Tryz.ntmps126
  go_wp2_with fail
  go_loopw [10] (fun i wr => ∃ k : Nat, k ≤ L.length ∧ i = .int .i64 k ∧ Below w.heap.size w wr ∧ riseD none L = riseD (lastN (L.take k)) (L.drop k)) (fun i _ => L.length - (intOf i).toNat)
  case atStart => exact ⟨0, Nat.zero_le _, rfl, Below.refl _ _, rfl⟩
  case round =>
    obtain ⟨k, hk, rfl, hb, hall⟩ := hrel
    have HALL := hide3 hall
    have HB := hide3 hb
    clear hall
    by_cases hlt : k < L.length
    · obtain ⟨u, c0, c1, ⟨⟨hu, _⟩, _⟩, cg⟩ := HL.out wr hb k hlt
      have hd := HD.out wr hb k hk
      have hkc : (k : Int) ≤ (cap : Int) := by omega
      have hc0 : ¬ (cap = 0) := by omega
      obtain ⟨ad, uc, rfl⟩ := hu.sl
      have hdr : L.drop k = L[k] :: L.drop (k + 1) := List.drop_eq_getElem_cons hlt
      have HST : Hid (riseD none L = (followB (lastN (L.take k)) L[k].nm && rangeB L[k].rg && riseD (lastN (L.take (k + 1))) (L.drop (k + 1)))) := by
        unfold Hid
        rw [HALL.out, hdr, lastN_take hlt]
        rfl
      have HO : Hid (KM w wr.heap.size L[k].nm (.slice ad L[k].rg.length uc) L[k] (.slice (some ⟨g, o, none⟩) k cap) (L.take k) (wr.alloc (.cells #[.string L[k].nm, .slice ad L[k].rg.length uc] 70))) := ⟨below_then hb (boxB _ _), BxD.new rfl _ _, hu.below (boxB _ _), hd.below (boxB _ _)⟩
      have HK : Hid (KeepP (KM w wr.heap.size L[k].nm (.slice ad L[k].rg.length uc) L[k] (.slice (some ⟨g, o, none⟩) k cap) (L.take k))) := keepKM _ _ _ _ _ _ _
      have HF : Hid (∀ w1, KM w wr.heap.size L[k].nm (.slice ad L[k].rg.length uc) L[k] (.slice (some ⟨g, o, none⟩) k cap) (L.take k) w1 → Calls Tryz.prog 144 #[.slice (some ⟨g, o, none⟩) k cap, .string L[k].nm] w1 fun e w' => e = .returned (.bool (followB (lastN (L.take k)) L[k].nm)) ∧ Below w1.heap.size w1 w') := fun w1 hk1 => (mayFollow_any hk1.2.2.2 (by simp; omega) _).mono fun e w' ⟨h1, h2⟩ => ⟨h1, by rw [h2]; exact Below.refl _ _⟩
      have HG : Hid (∀ w1, KM w wr.heap.size L[k].nm (.slice ad L[k].rg.length uc) L[k] (.slice (some ⟨g, o, none⟩) k cap) (L.take k) w1 → Calls Tryz.prog 145 #[.slice ad L[k].rg.length uc] w1 fun e w' => e = .returned (.bool (rangeB L[k].rg)) ∧ Below w1.heap.size w1 w') := fun w1 hk1 => mayRange_any hk1.2.2.1
      clear hu hd hdr HALL hb
      generalize followB (lastN (L.take k)) L[k].nm = bf at *
      generalize rangeB L[k].rg = bg at *
      generalize L[k].rg.length = n at *
      generalize L[k].nm = s at *
      generalize L[k] = d at *
      cases bf
      · have HR : Hid (mayD L = false) := by unfold Hid; rw [HT.out, HST.out]; rfl
        clear HST HG
        go_wp2_with fail
        refine wp_region_keep HK.out (by kernel_rfl) (by kernel_rfl) (by first | exact HO.out | exact HK.out.drew HO.out) ?_
        intro C hin hout
        have HIN := hide3 hin
        have HOUT := hide3 hout
        clear hin hout HO
        repeat
          (with_reducible refine wpQuiet_step (fun K hK => ?_)
           go_simp
           first
             | (refine hK _ ?_; clear hK K)
             | (apply Exists.intro; refine ⟨fun w1 hC => ?_, hK _ ?_⟩; (focus ((first | (go_at_call 144; with_reducible exact callC' HIN.out HOUT.out HK.out HF.out w1 hC) | (exact rfl) | (obtain ⟨hb1, ⟨k0, k1, k2⟩, hs1, hd1⟩ := HOUT.out w1 hC; clear hC; go_simp; first | done | exact rfl)); done)); clear hK K))
        refine wpQuiet_nil ?_
        intro wn hC
        have HO := hide3 (HOUT.out _ hC)
        clear hC HIN HOUT C
        obtain ⟨hb1, ⟨k0, k1, k2⟩, hs1, hd1⟩ := HO.out
        go_wp2
        go_ret
        exact ⟨ret_bool HR.out.symm, HO.out.1⟩
      · cases bg
        · have HR : Hid (mayD L = false) := by unfold Hid; rw [HT.out, HST.out]; rfl
          clear HST
          go_wp2_with fail
          refine wp_region_keep HK.out (by kernel_rfl) (by kernel_rfl) (by first | exact HO.out | exact HK.out.drew HO.out) ?_
          intro C hin hout
          have HIN := hide3 hin
          have HOUT := hide3 hout
          clear hin hout HO
          repeat
            (with_reducible refine wpQuiet_step (fun K hK => ?_)
             go_simp
             first
               | (refine hK _ ?_; clear hK K)
               | (apply Exists.intro; refine ⟨fun w1 hC => ?_, hK _ ?_⟩; (focus ((first | (go_at_call 144; with_reducible exact callC' HIN.out HOUT.out HK.out HF.out w1 hC) | (go_at_call 145; with_reducible exact callC' HIN.out HOUT.out HK.out HG.out w1 hC) | (exact rfl) | (obtain ⟨hb1, ⟨k0, k1, k2⟩, hs1, hd1⟩ := HOUT.out w1 hC; clear hC; go_simp; first | done | exact rfl)); done)); clear hK K))
          refine wpQuiet_nil ?_
          intro wn hC
          have HO := hide3 (HOUT.out _ hC)
          clear hC HIN HOUT C
          obtain ⟨hb1, ⟨k0, k1, k2⟩, hs1, hd1⟩ := HO.out
          go_wp2
          go_ret
          exact ⟨ret_bool HR.out.symm, HO.out.1⟩
        · have HR : Hid (riseD none L = riseD (lastN (L.take (k + 1))) (L.drop (k + 1))) := by unfold Hid; rw [HST.out]; rfl
          clear HST
          go_wp2_with fail
          refine wp_region_keep HK.out (by kernel_rfl) (by kernel_rfl) (by first | exact HO.out | exact HK.out.drew HO.out) ?_
          intro C hin hout
          have HIN := hide3 hin
          have HOUT := hide3 hout
          clear hin hout HO
          repeat
            (with_reducible refine wpQuiet_step (fun K hK => ?_)
             go_simp
             first
               | (refine hK _ ?_; clear hK K)
               | (apply Exists.intro; refine ⟨fun w1 hC => ?_, hK _ ?_⟩; (focus ((first | (go_at_call 144; with_reducible exact callC' HIN.out HOUT.out HK.out HF.out w1 hC) | (go_at_call 145; with_reducible exact callC' HIN.out HOUT.out HK.out HG.out w1 hC) | (exact rfl) | (obtain ⟨hb1, ⟨k0, k1, k2⟩, hs1, hd1⟩ := HOUT.out w1 hC; clear hC; go_simp; first | done | exact rfl)); done)); clear hK K))
          refine wpQuiet_nil ?_
          intro wn hC
          have HO := hide3 (HOUT.out _ hC)
          clear hC HIN HOUT C
          obtain ⟨hb1, ⟨k0, k1, k2⟩, hs1, hd1⟩ := HO.out
          go_wp2
          exact ⟨⟨k + 1, by omega, by go_num, HO.out.1, HR.out⟩, by simp [intOf]; omega⟩
    · have hke : k = L.length := by omega
      subst hke
      have HR : Hid (mayD L = true) := by unfold Hid; rw [HT.out, HALL.out]; simp [riseD]
      clear hb
      go_wp2
      go_ret
      exact ⟨ret_bool HR.out.symm, HB.out⟩

theorem mayList_many (ad : Option Addr) (n cap : Nat) (h : 16 < n) (w : World) :
    Calls Tryz.prog 126 #[.slice ad n cap] w fun e w' => e = .returned (.bool false) ∧ Below w.heap.size w w' := by
  have hn : (16 : Int) < (n : Int) := by omega
  go_enter Tryz.func126, Tryz.ntmps126
  go_wp2
  go_ret
  exact ⟨rfl, Below.refl _ _⟩

theorem mayList_nil (ad : Option Addr) (cap : Nat) (w : World) :
    Calls Tryz.prog 126 #[.slice ad 0 cap] w fun e w' => e = .returned (.bool true) ∧ Below w.heap.size w w' := by
  go_enter Tryz.func126, Tryz.ntmps126
  go_wp2_with fail
  go_loop [10] (fun i => i = .int .i64 0) (fun _ => 0)
  case atStart => rfl
  case round =>
    subst hrel
    go_wp2
    go_ret
    exact ⟨rfl, Below.refl _ _⟩

theorem mayList_any {v : Value} {L : List Dp} {w : World} (h : DepsAt w v L) :
    Calls Tryz.prog 126 #[v] w fun e w' => e = .returned (.bool (mayD L)) ∧ Below w.heap.size w w' := by
  have h' := h
  obtain ⟨ad, cap, rfl, hc, hs⟩ := h'
  by_cases h16 : L.length ≤ 16
  · rcases hs with rfl | ⟨g, o, rfl, hg, hs⟩
    · exact mayList_nil _ _ w
    · exact mayList_walk L h16 g o cap w h hs
  · have : mayD L = false := by unfold mayD; simp [h16]
    rw [this]
    exact mayList_many _ _ _ (by omega) w

end Go.Proofs.YtjpmlagofcgheaaGreatDoor
namespace Go.Proofs.YtjpmlagofcgheaaGreatDoor
open Go.RowKit Go.Maps Go.WideMaps Go.WideElems
set_option maxRecDepth 100000

def keyS (s : ByteArray) : Lit := .string s.data.toList
theorem keyS_inj {s t : ByteArray} (h : keyS s = keyS t) : s = t := by
  unfold keyS at h
  injection h with h
  exact bytes_same (by rw [ByteArray.toList_eq, ByteArray.toList_eq, h])
theorem isKeyS (s : ByteArray) : WideAt.IsKeyLit (keyS s) := by unfold keyS WideAt.IsKeyLit; trivial
theorem keyedS : Keyed Tryz.prog 9 := string_keyed Tryz.underlying9
theorem keyOfS {s : ByteArray} (hs : s.size ≤ maxLen) : keyOf Tryz.prog 9 (.string s) = some (keyS s) := keyOf_string_mk Tryz.underlying9 hs
theorem zeroInt (w : World) : (zeroValue 3).run Tryz.prog w = .ok (.int .i64 0) w := by kernel_rfl

/-- A map that has met these names, each once. -/
def CntD (D : DataW Unit) (done : List ByteArray) : Prop := IsMap D ∧ ∀ s : ByteArray, (s ∈ done → D.atKey (keyS s) (.lit (.int .i64 0)) = .lit (.int .i64 1)) ∧ (s ∉ done → D.atKey (keyS s) (.lit (.int .i64 0)) = .lit (.int .i64 0))
theorem CntD.nil : CntD (.map []) [] := ⟨⟨[], rfl⟩, fun _ => ⟨fun h => (by cases h), fun _ => rfl⟩⟩
theorem isMap_put {D : DataW Unit} (h : IsMap D) (k : Lit) (d : DataW Unit) : IsMap (D.put k d) := by
  obtain ⟨es, rfl⟩ := h
  exact ⟨_, rfl⟩
theorem CntD.put {D : DataW Unit} {done : List ByteArray} (h : CntD D done) {s : ByteArray} : CntD (D.put (keyS s) (.lit (.int .i64 1))) (done ++ [s]) := by
  refine ⟨isMap_put h.1 _ _, fun t => ?_⟩
  by_cases e : t = s
  · subst e
    rw [atKey_put_same h.1 (isKeyS t)]
    exact ⟨fun _ => rfl, fun hn => absurd (by simp) hn⟩
  · rw [atKey_put_other fun k => e (keyS_inj k)]
    exact ⟨fun hm => (h.2 t).1 (by simpa [e] using hm), fun hn => (h.2 t).2 (by simpa [e] using hn)⟩
theorem ownsMap_below {w w' : World} {M n : Nat} {D : DataW Unit} (h : w.ownsMap Tryz.prog 9 (plainElem Tryz.prog 3) M n D) (hb : Below w.heap.size w w') : w'.ownsMap Tryz.prog 9 (plainElem Tryz.prog 3) M n D := by
  have hl := h.lt
  obtain ⟨es, clock, hm, r⟩ := h
  exact ⟨es, clock, (hb.block M hl).trans hm, r⟩

/-- Lists that lie in memory, in a row. -/
def ListsAt (w : World) (g o : Nat) (Ls : List (List Dp)) : Prop := g < w.heap.size ∧ ∀ k (h : k < Ls.length), ∃ u, w.cell? ⟨g, o + k, none⟩ = some u ∧ DepsAt w u Ls[k]
theorem ListsAt.below {w w' : World} {g o : Nat} {Ls : List (List Dp)} (h : ListsAt w g o Ls) (hb : Below w.heap.size w w') : ListsAt w' g o Ls :=
  ⟨Nat.lt_of_lt_of_le h.1 hb.size, fun k hk => (h.2 k hk).imp fun _ hu => ⟨(hb.cell (p := ⟨g, o + k, none⟩) h.1).trans hu.1, hu.2.below hb⟩⟩
theorem keepLists (g o : Nat) (Ls : List (List Dp)) : KeepP fun w1 => ListsAt w1 g o Ls := fun _ _ h hb => h.below hb

/-- No name stands twice. -/
def namesL (Ls : List (List Dp)) : List ByteArray := Ls.flatten.map Dp.nm
noncomputable def onceL (Ls : List (List Dp)) : Bool := @decide ((namesL Ls).Nodup) (Classical.propDecidable _)
theorem once_no {Ls : List (List Dp)} {done rest : List ByteArray} {s : ByteArray} (h : namesL Ls = done ++ s :: rest) (hs : s ∈ done) : onceL Ls = false := by
  unfold onceL
  refine @decide_eq_false _ (Classical.propDecidable _) fun hn => ?_
  rw [h, List.nodup_append] at hn
  exact hn.2.2 s hs s List.mem_cons_self rfl
theorem once_yes {Ls : List (List Dp)} (h : (namesL Ls).Nodup) : onceL Ls = true := by unfold onceL; exact @decide_eq_true _ (Classical.propDecidable _) h
theorem nodup_snoc {l : List ByteArray} {s : ByteArray} (h : l.Nodup) (hs : s ∉ l) : (l ++ [s]).Nodup := by
  rw [List.nodup_append]
  refine ⟨h, by simp, ?_⟩
  intro a ha b hb e
  rw [List.mem_singleton] at hb
  subst hb e
  exact hs ha

/-- Lists that are short, with short names. -/
def ShortL (L : List Dp) : Prop := L.length ≤ 16 ∧ ∀ d ∈ L, d.nm.size ≤ 16
theorem short_may {L : List Dp} (h : mayD L = true) : ShortL L := by
  unfold mayD at h
  rw [Bool.and_eq_true, decide_eq_true_eq] at h
  refine ⟨h.1, ?_⟩
  have : ∀ (M : List Dp) (q : Option ByteArray), riseD q M = true → ∀ d ∈ M, d.nm.size ≤ 16 := by
    intro M
    induction M with
    | nil => intro q _ d hd; cases hd
    | cons e M ih =>
      intro q hq d hd
      rw [riseD, Bool.and_eq_true, Bool.and_eq_true] at hq
      rcases List.mem_cons.1 hd with rfl | hd
      · have := hq.1.1
        unfold followB at this
        rw [Bool.and_eq_true] at this
        have := this.1
        unfold Sc.nameA at this
        rw [Bool.and_eq_true, decide_eq_true_eq, list_size] at this
        exact this.2
      · exact ih _ hq.2 d hd
  exact this L none h.2

/-- What the walk of Once keeps. -/
def KO (w : World) (M n : Nat) (D : DataW Unit) (w1 : World) : Prop := Below w.heap.size w w1 ∧ w1.ownsMap Tryz.prog 9 (plainElem Tryz.prog 3) M n D
theorem KO.alloc {w : World} {M n : Nat} {D : DataW Unit} {w1 : World} (h : KO w M n D w1) (o : Obj) : KO w M n D (w1.alloc o) := ⟨below_then h.1 (boxB _ _), h.2.alloc o⟩
theorem KO.drew {w : World} {M n : Nat} {D : DataW Unit} {w1 : World} (h : KO w M n D w1) : KO w M n D w1.drew := ⟨below_then h.1 (Below.refl _ _).drew, ownsMap_below h.2 (Below.refl _ _).drew⟩

/-- Where the inner loop stands. -/
def RelO (w : World) (Ls : List (List Dp)) (L T : List Dp) (K : Nat) (j : Value) (wq : World) : Prop := ∃ (m n : Nat) (D : DataW Unit) (done : List ByteArray), m ≤ L.length ∧ j = .int .i64 m ∧ n ≤ 16 * K + m ∧ KO w w.heap.size n D wq ∧ CntD D done ∧ done.Nodup ∧ namesL Ls = done ++ (L.drop m ++ T).map Dp.nm

set_option maxHeartbeats 6400000 in
theorem Once_any {Ls : List (List Dp)} {g o cap : Nat} {w : World} (h : ListsAt w g o Ls) (hs : ∀ L ∈ Ls, ShortL L) (hln : Ls.length ≤ 16) :
    Calls Tryz.prog 127 #[.slice (some ⟨g, o, none⟩) Ls.length cap] w fun e w' => e = .returned (.bool (onceL Ls)) ∧ Below w.heap.size w w' := by
  have HP : Hid (∀ k (h : k < Ls.length), ∃ u, ∀ w1, Below w.heap.size w w1 → w1.cell? ⟨g, o + k, none⟩ = some u ∧ DepsAt w1 u Ls[k]) := fun k hk => (h.2 k hk).imp fun u hu w1 hb => ⟨(hb.cell (p := ⟨g, o + k, none⟩) h.1).trans hu.1, hu.2.below hb⟩
  have HS := hide3 hs
  clear h hs
  have hmm := @run_makeMap Tryz.prog
  have HM0 : Hid (KO w w.heap.size 0 (.map []) (w.alloc (.map #[] 0))) := ⟨boxB _ _, World.ownsMap_made (H := Unit) w Tryz.prog 9 (plainElem Tryz.prog 3)⟩
  go_enter Tryz.func127, Tryz.ntmps127
  go_wp2_with fail
  go_loopw [11] (fun i wr => ∃ (k n : Nat) (D : DataW Unit) (done : List ByteArray), k ≤ Ls.length ∧ i = .int .i64 k ∧ n ≤ 16 * k ∧ KO w w.heap.size n D wr ∧ CntD D done ∧ done.Nodup ∧ namesL Ls = done ++ (Ls.drop k).flatten.map Dp.nm) (fun i _ => Ls.length - (intOf i).toNat)
  case atStart => exact ⟨0, 0, .map [], [], Nat.zero_le _, rfl, Nat.le_refl _, HM0.out, CntD.nil, List.nodup_nil, rfl⟩
  case round =>
    obtain ⟨k, n, D, done, hk, rfl, hn, hko, hcn, hnd, hnm⟩ := hrel
    by_cases hkl : k < Ls.length
    · obtain ⟨u, HU⟩ := HP.out k hkl
      obtain ⟨cu, hdu⟩ := HU wr hko.1
      obtain ⟨AA, CC, rfl, hzc⟩ := hdu.len
      have HU := hide3 HU
      clear hdu
      have HSL := hide3 (HS.out _ (List.getElem_mem hkl))
      have HKO0 := hide3 hko
      have HCN0 := hide3 hcn
      have HND0 := hide3 hnd
      have HNM0 : Hid (namesL Ls = done ++ (Ls[k] ++ (Ls.drop (k + 1)).flatten).map Dp.nm) := by
        unfold Hid
        rw [hnm, List.drop_eq_getElem_cons hkl, List.flatten_cons]
      have l1 := HSL.out.1
      clear hko hcn hnd hnm
      generalize Ls[k] = L at *
      generalize hT : (Ls.drop (k + 1)).flatten = T at *
      have HT := hide3 hT
      clear hT
      go_wp2_with fail
      go_loopw [17] (fun j wq => RelO w Ls L T k j wq) (fun j _ => L.length - (intOf j).toNat)
      case atStart => exact ⟨0, n, D, done, Nat.zero_le _, rfl, by omega, HKO0.out, HCN0.out, HND0.out, HNM0.out⟩
      case round =>
        clear HKO0 HCN0 HND0 HNM0 cu
        obtain ⟨m, n, D, done, hm, rfl, hn, hko, hcn, hnd, hnm⟩ := hrel
        by_cases hlt : m < L.length
        · obtain ⟨ad, cap, e, _, hcs⟩ := (HU.out wr hko.1).2
          cases e
          obtain ⟨g, o, rfl, hg, hcs⟩ : ∃ g o, AA = some ⟨g, o, none⟩ ∧ g < wr.heap.size ∧ ∀ i (h : i < L.length), ∃ u, DpIn wr g (o + i * 2) L[i] u := by
            rcases hcs with h | h
            · rw [h] at hlt; simp at hlt
            · exact h
          obtain ⟨u, p0, p1, ⟨⟨hu, _⟩, _⟩, p3⟩ := hcs m hlt
          obtain ⟨au, cu, rfl⟩ := hu.sl
          have hnz : L[m].nm.size ≤ 16 := HSL.out.2 _ (List.getElem_mem hlt)
          have HNM1 : Hid (namesL Ls = done ++ L[m].nm :: (L.drop (m + 1) ++ T).map Dp.nm) := by
            unfold Hid
            rw [hnm, List.drop_eq_getElem_cons hlt]
            rfl
          clear hcs hu hnm
          generalize L[m].rg.length = lu at *
          generalize L[m].nm = s at *
          have hkey : keyOf Tryz.prog 9 (.string s) = some (keyS s) := keyOfS (by unfold maxLen; omega)
          have HKA : Hid (KO w w.heap.size n D (wr.alloc (.cells #[.string s, .slice au lu cu] 70))) := hko.alloc _
          obtain ⟨c, hrun, hat, _⟩ := HKA.out.2.lookup_int keyedS Tryz.underlying93 Tryz.underlying3 (zeroInt _) hkey
          have hBX : Hid (BxD (wr.alloc (.cells #[.string s, .slice au lu cu] 70)) wr.heap.size s (.slice au lu cu)) := BxD.new rfl _ _
          have hMw : w.heap.size < wr.heap.size := hko.2.lt
          have hBw := hko.1.size
          by_cases hin : s ∈ done
          · rw [(hcn.2 s).1 hin] at hat
            obtain rfl : c = 1 := by injection hat with h1; injection h1 with _ h2; exact h2.symm
            have HR := hide3 (once_no HNM1.out hin)
            have HMP := hide3 hcn.1
            clear hko hcn hnd HNM1
            go_wp2_with (at_mapUpdate; refine wpList_mapUpdate_own _ rfl _ _ _ 93 rfl 9 3 keyedS Tryz.underlying93 _ w.heap.size n D rfl HKA.out.2 (by unfold maxLen; omega) _ _ _ rfl rfl hkey _ [] (plainElem_int (H := Unit) Tryz.underlying3 (show (Lit.int .i64 2).wf = true by decide)) ?_; intro w5 hown5 hg5; obtain ⟨c5, hrun5, hat5, _⟩ := hown5.lookup_int keyedS Tryz.underlying93 Tryz.underlying3 (zeroInt _) hkey; rw [atKey_put_same HMP.out (isKeyS s)] at hat5; obtain rfl : c5 = 2 := (by injection hat5 with h1; injection h1 with _ h2; exact h2.symm); have b0 : w5.cell? ⟨wr.heap.size, 0, none⟩ = some (.string s) := (hg5.cell_far ⟨wr.heap.size, 0, none⟩ (by simp) (by simp; omega)).trans hBX.out.1; have HB5 : Hid (Below w.heap.size w w5) := HKA.out.1.grown hg5 HKA.out.1.size (fun j hj => by cases hj; omega); clear hat5)
            go_ret
            exact ⟨ret_bool HR.out.symm, HB5.out⟩
          · rw [(hcn.2 s).2 hin] at hat
            obtain rfl : c = 0 := by injection hat with h1; injection h1 with _ h2; exact h2.symm
            have HCN2 : Hid (CntD (D.put (keyS s) (.lit (.int .i64 1))) (done ++ [s])) := hcn.put
            have HND2 := hide3 (nodup_snoc hnd hin)
            have HNM2 : Hid (namesL Ls = (done ++ [s]) ++ (L.drop (m + 1) ++ T).map Dp.nm) := by unfold Hid; rw [HNM1.out]; simp
            have HMP := hide3 hcn.1
            clear hko hcn hnd HNM1
            go_wp2_with (at_mapUpdate; refine wpList_mapUpdate_own _ rfl _ _ _ 93 rfl 9 3 keyedS Tryz.underlying93 _ w.heap.size n D rfl HKA.out.2 (by unfold maxLen; omega) _ _ _ rfl rfl hkey _ [] (plainElem_int (H := Unit) Tryz.underlying3 (show (Lit.int .i64 1).wf = true by decide)) ?_; intro w5 hown5 hg5; obtain ⟨c5, hrun5, hat5, _⟩ := hown5.lookup_int keyedS Tryz.underlying93 Tryz.underlying3 (zeroInt _) hkey; rw [atKey_put_same HMP.out (isKeyS s)] at hat5; obtain rfl : c5 = 1 := (by injection hat5 with h1; injection h1 with _ h2; exact h2.symm); have b0 : w5.cell? ⟨wr.heap.size, 0, none⟩ = some (.string s) := (hg5.cell_far ⟨wr.heap.size, 0, none⟩ (by simp) (by simp; omega)).trans hBX.out.1; have HB5 : Hid (KO w w.heap.size (n + 1) (D.put (keyS s) (.lit (.int .i64 1))) w5) := ⟨HKA.out.1.grown hg5 HKA.out.1.size (fun j hj => by cases hj; omega), hown5⟩; clear hat5)
            exact ⟨⟨m + 1, n + 1, _, _, by omega, by go_num, by omega, HB5.out, HCN2.out, HND2.out, HNM2.out⟩, by simp [intOf]; omega⟩
        · have HNM2 : Hid (namesL Ls = done ++ T.map Dp.nm) := by unfold Hid; rw [hnm, List.drop_of_length_le (by omega)]; rfl
          have HKO := hide3 hko
          have HCN := hide3 hcn
          have HND := hide3 hnd
          clear hko hcn hnd hnm
          go_wp2
          exact ⟨⟨k + 1, n, D, done, by omega, by go_num, by omega, HKO.out, HCN.out, HND.out, by rw [HT.out]; exact HNM2.out⟩, by simp [intOf]; omega⟩
    · have HND : Hid (onceL Ls = true) := once_yes (by rw [hnm, List.drop_of_length_le (by omega)]; simpa using hnd)
      have HKO := hide3 hko
      clear hko hcn hnd hnm
      go_wp2
      go_ret
      exact ⟨ret_bool HND.out.symm, HKO.out.1⟩
end Go.Proofs.YtjpmlagofcgheaaGreatDoor
namespace Go.Proofs.YtjpmlagofcgheaaGreatDoor
open Go.RowKit
set_option maxRecDepth 100000

theorem lists_any (s : ByteArray) (a b c : Int) (a1 a2 a3 : Option Addr) (l1 l2 l3 c1 c2 c3 : Nat) (w : World) :
    Calls Tryz.prog 95 #[.agg #[.string s, .int .i64 a, .int .i64 b, .int .i64 c, .slice a1 l1 c1, .slice a2 l2 c2, .slice a3 l3 c3]] w fun e w' => e = .returned (.agg #[.slice a1 l1 c1, .slice a2 l2 c2, .slice a3 l3 c3]) ∧ Below w.heap.size w w' := by
  go_enter Tryz.func95, Tryz.ntmps95
  go_wp2
  try simp only [Exit.inBlock, Exit.then]
  refine bodyPost_ret (by simp [results, Tryz.results95, go_sem]; try rfl) rfl ?_
  exact ⟨rfl, boxB2 _ _ _⟩

theorem index3_0 (x y z : Value) (w : World) : (Instr.index 145 (.agg #[x, y, z]) (.int .i64 0)).run Tryz.prog w = .ok x w := by kernel_rfl
theorem index3_1 (x y z : Value) (w : World) : (Instr.index 145 (.agg #[x, y, z]) (.int .i64 1)).run Tryz.prog w = .ok y w := by kernel_rfl
theorem index3_2 (x y z : Value) (w : World) : (Instr.index 145 (.agg #[x, y, z]) (.int .i64 2)).run Tryz.prog w = .ok z w := by kernel_rfl

/-- No name stands twice. -/
noncomputable def onceB (P : Pg) : Bool := onceL [P.d, P.p, P.o]
theorem lists3 {w : World} {P : Pg} {v1 v2 v3 : Value} (h : PgAt w P v1 v2 v3) : ListsAt (w.alloc (.cells #[v1, v2, v3] 32)) w.heap.size 0 [P.d, P.p, P.o] := by
  refine ⟨by simp, fun k hk => ?_⟩
  match k, hk with
  | 0, _ => exact ⟨v1, by simp, h.1.below (boxB _ _)⟩
  | 1, _ => exact ⟨v2, by simp, h.2.1.below (boxB _ _)⟩
  | 2, _ => exact ⟨v3, by simp, h.2.2.below (boxB _ _)⟩
theorem once3 {w : World} {P : Pg} {v1 v2 v3 : Value} (h : PgAt w P v1 v2 v3) (h1 : ShortL P.d) (h2 : ShortL P.p) (h3 : ShortL P.o) : Calls Tryz.prog 127 #[.slice (some ⟨w.heap.size, 0, none⟩) 3 3] (w.alloc (.cells #[v1, v2, v3] 32)) fun e w' => e = .returned (.bool (onceB P)) ∧ Below (w.alloc (.cells #[v1, v2, v3] 32)).heap.size (w.alloc (.cells #[v1, v2, v3] 32)) w' :=
  Once_any (Ls := [P.d, P.p, P.o]) (lists3 h) (fun L hL => by
    simp only [List.mem_cons, List.not_mem_nil, or_false] at hL
    rcases hL with rfl | rfl | rfl <;> assumption) (by simp)

/-- A package may be, but for the length of its text. -/
noncomputable def soundB (P : Pg) : Bool := Sc.nameA P.nm.data.toList && mayV P.a P.b P.c && (mayD P.d && (mayD P.p && mayD P.o)) && onceB P

set_option maxHeartbeats 3200000 in
theorem sound_any {P : Pg} {v1 v2 v3 : Value} {w : World} (h : PgAt w P v1 v2 v3) :
    Calls Tryz.prog 91 #[.agg #[.string P.nm, .int .i64 P.a, .int .i64 P.b, .int .i64 P.c, v1, v2, v3]] w fun e w' => e = .returned (.bool (soundB P)) ∧ Below w.heap.size w w' := by
  have HN : Hid (∀ w1, Calls Tryz.prog 125 #[.string P.nm] w1 fun e w' => e = .returned (.bool (Sc.nameA P.nm.data.toList)) ∧ w' = w1) := Sc.Name_any P.nm
  have HV : Hid (∀ w1, Calls Tryz.prog 79 #[.agg #[.int .i64 P.a, .int .i64 P.b, .int .i64 P.c]] w1 fun e w' => e = .returned (.bool (mayV P.a P.b P.c)) ∧ Below w1.heap.size w1 w') := May_any _ _ _
  have HM1 : Hid (∀ w1, Below w.heap.size w w1 → Calls Tryz.prog 126 #[v1] w1 fun e w' => e = .returned (.bool (mayD P.d)) ∧ Below w1.heap.size w1 w') := fun w1 hb => mayList_any (h.1.below hb)
  have HM2 : Hid (∀ w1, Below w.heap.size w w1 → Calls Tryz.prog 126 #[v2] w1 fun e w' => e = .returned (.bool (mayD P.p)) ∧ Below w1.heap.size w1 w') := fun w1 hb => mayList_any (h.2.1.below hb)
  have HM3 : Hid (∀ w1, Below w.heap.size w w1 → Calls Tryz.prog 126 #[v3] w1 fun e w' => e = .returned (.bool (mayD P.o)) ∧ Below w1.heap.size w1 w') := fun w1 hb => mayList_any (h.2.2.below hb)
  have HEO : Hid (mayD P.d = true → mayD P.p = true → mayD P.o = true → ∀ w1, Below w.heap.size w w1 → Calls Tryz.prog 127 #[.slice (some ⟨w1.heap.size, 0, none⟩) 3 3] (w1.alloc (.cells #[v1, v2, v3] 32)) fun e w' => e = .returned (.bool (onceB P)) ∧ Below (w1.alloc (.cells #[v1, v2, v3] 32)).heap.size (w1.alloc (.cells #[v1, v2, v3] 32)) w') := fun h1 h2 h3 w1 hb => once3 (h.below hb) (short_may h1) (short_may h2) (short_may h3)
  have HSB : Hid (soundB P = (Sc.nameA P.nm.data.toList && mayV P.a P.b P.c && (mayD P.d && (mayD P.p && mayD P.o)) && onceB P)) := rfl
  obtain ⟨a1, c1, rfl⟩ := h.1.sl
  obtain ⟨a2, c2, rfl⟩ := h.2.1.sl
  obtain ⟨a3, c3, rfl⟩ := h.2.2.sl
  have HLI : Hid (∀ w1, Calls Tryz.prog 95 #[.agg #[.string P.nm, .int .i64 P.a, .int .i64 P.b, .int .i64 P.c, .slice a1 P.d.length c1, .slice a2 P.p.length c2, .slice a3 P.o.length c3]] w1 fun e w' => e = .returned (.agg #[.slice a1 P.d.length c1, .slice a2 P.p.length c2, .slice a3 P.o.length c3]) ∧ Below w1.heap.size w1 w') := lists_any _ _ _ _ _ _ _ _ _ _ _ _ _
  clear h
  generalize soundB P = SB at *
  generalize onceB P = ob at *
  generalize mayD P.d = m1 at *
  generalize mayD P.p = m2 at *
  generalize mayD P.o = m3 at *
  generalize Sc.nameA P.nm.data.toList = nb at *
  generalize mayV P.a P.b P.c = vb at *
  generalize P.d.length = l1 at *
  generalize P.p.length = l2 at *
  generalize P.o.length = l3 at *
  generalize P.nm = s at *
  generalize P.a = a at *
  generalize P.b = b at *
  generalize P.c = c at *
  have HBX : Hid (BxP (w.alloc (.cells #[.string s, .int .i64 a, .int .i64 b, .int .i64 c, .slice a1 l1 c1, .slice a2 l2 c2, .slice a3 l3 c3] 34)) w.heap.size s a b c (.slice a1 l1 c1) (.slice a2 l2 c2) (.slice a3 l3 c3)) := BxP.new rfl _ _ _ _ _ _ _
  have HKB : Hid (KeepP fun w1 => BxP w1 w.heap.size s a b c (.slice a1 l1 c1) (.slice a2 l2 c2) (.slice a3 l3 c3)) := keepBxP _ _ _ _ _ _ _ _
  have ix0 := index3_0
  have ix1 := index3_1
  have ix2 := index3_2
  cases nb
  · have HR : Hid (SB = false) := by unfold Hid; rw [HSB.out]; rfl
    go_enter Tryz.func91, Tryz.ntmps91
    go_wp2_with (go_at_call 125; refine (HN.out _).mono ?_; rintro e w1 ⟨rfl, rfl⟩)
    go_ret
    exact ⟨ret_bool HR.out.symm, boxB _ _⟩
  · cases vb
    · have HR : Hid (SB = false) := by unfold Hid; rw [HSB.out]; rfl
      go_enter Tryz.func91, Tryz.ntmps91
      go_wp2_with (first
        | (go_at_call 125; refine (HN.out _).mono ?_; rintro e w1 ⟨rfl, rfl⟩)
        | (go_at_call 79; refine (HV.out _).mono ?_; rintro e w2 ⟨rfl, ok⟩; have HO2 := hide3 (below_then (boxB _ _) ok); clear ok))
      go_ret
      exact ⟨ret_bool HR.out.symm, HO2.out⟩
    · go_enter Tryz.func91, Tryz.ntmps91
      go_wp2_with (first
        | (go_at_call 125; refine (HN.out _).mono ?_; rintro e w1 ⟨rfl, rfl⟩)
        | (go_at_call 79; refine (HV.out _).mono ?_; rintro e w2 ⟨rfl, ok⟩; have HO2 := hide3 (below_then (boxB _ _) ok); have HB2 := hide3 (HKB.out _ _ HBX.out ok); obtain ⟨k0, k1, k2, k3, k4, k5, k6, k7⟩ := HB2.out; clear ok)
        | (go_at_call 95; refine (HLI.out _).mono ?_; rintro e w3 ⟨rfl, ok⟩; have HO3 : Hid (Below w.heap.size w w3 ∧ BxP w3 w.heap.size s a b c (.slice a1 l1 c1) (.slice a2 l2 c2) (.slice a3 l3 c3)) := ⟨below_then HO2.out ok, HKB.out _ _ HB2.out ok⟩; clear ok))
      clear k0 k1 k2 k3 k4 k5 k6 k7
      go_loopw [17] (fun i wr => ∃ k : Nat, k ≤ 3 ∧ i = .int .i64 k ∧ (Below w.heap.size w wr ∧ BxP wr w.heap.size s a b c (.slice a1 l1 c1) (.slice a2 l2 c2) (.slice a3 l3 c3)) ∧ (1 ≤ k → m1 = true) ∧ (2 ≤ k → m2 = true) ∧ (3 ≤ k → m3 = true)) (fun i _ => 3 - (intOf i).toNat)
      case atStart => exact ⟨0, Nat.zero_le _, rfl, HO3.out, (fun h => by omega), (fun h => by omega), (fun h => by omega)⟩
      case round =>
        obtain ⟨k, hk, rfl, hb, e1, e2, e3⟩ := hrel
        have HB := hide3 hb
        rcases (show k = 0 ∨ k = 1 ∨ k = 2 ∨ k = 3 by omega) with rfl | rfl | rfl | rfl
        · clear hb e1 e2 e3
          cases m1
          · have HR : Hid (SB = false) := by unfold Hid; rw [HSB.out]; simp
            go_wp2_with (go_at_call 126; refine (HM1.out _ HB.out.1).mono ?_; rintro e w4 ⟨rfl, ok⟩; have HO4 := hide3 (below_then HB.out.1 ok); clear ok)
            go_ret
            exact ⟨ret_bool HR.out.symm, HO4.out⟩
          · go_wp2_with (go_at_call 126; refine (HM1.out _ HB.out.1).mono ?_; rintro e w4 ⟨rfl, ok⟩; have HO4 : Hid (Below w.heap.size w w4 ∧ BxP w4 w.heap.size s a b c (.slice a1 l1 c1) (.slice a2 l2 c2) (.slice a3 l3 c3)) := ⟨below_then HB.out.1 ok, HKB.out _ _ HB.out.2 ok⟩; clear ok)
            exact ⟨⟨1, by omega, rfl, HO4.out, (fun _ => trivial), (fun h => by omega), (fun h => by omega)⟩, by simp [intOf]⟩
        · have e1' := e1 (by omega)
          subst e1'
          clear hb e1 e2 e3
          cases m2
          · have HR : Hid (SB = false) := by unfold Hid; rw [HSB.out]; simp
            go_wp2_with (go_at_call 126; refine (HM2.out _ HB.out.1).mono ?_; rintro e w4 ⟨rfl, ok⟩; have HO4 := hide3 (below_then HB.out.1 ok); clear ok)
            go_ret
            exact ⟨ret_bool HR.out.symm, HO4.out⟩
          · go_wp2_with (go_at_call 126; refine (HM2.out _ HB.out.1).mono ?_; rintro e w4 ⟨rfl, ok⟩; have HO4 : Hid (Below w.heap.size w w4 ∧ BxP w4 w.heap.size s a b c (.slice a1 l1 c1) (.slice a2 l2 c2) (.slice a3 l3 c3)) := ⟨below_then HB.out.1 ok, HKB.out _ _ HB.out.2 ok⟩; clear ok)
            exact ⟨⟨2, by omega, rfl, HO4.out, (fun _ => trivial), (fun _ => trivial), (fun h => by omega)⟩, by simp [intOf]⟩
        · have e1' := e1 (by omega)
          have e2' := e2 (by omega)
          subst e1' e2'
          clear hb e1 e2 e3
          cases m3
          · have HR : Hid (SB = false) := by unfold Hid; rw [HSB.out]; simp
            go_wp2_with (go_at_call 126; refine (HM3.out _ HB.out.1).mono ?_; rintro e w4 ⟨rfl, ok⟩; have HO4 := hide3 (below_then HB.out.1 ok); clear ok)
            go_ret
            exact ⟨ret_bool HR.out.symm, HO4.out⟩
          · go_wp2_with (go_at_call 126; refine (HM3.out _ HB.out.1).mono ?_; rintro e w4 ⟨rfl, ok⟩; have HO4 : Hid (Below w.heap.size w w4 ∧ BxP w4 w.heap.size s a b c (.slice a1 l1 c1) (.slice a2 l2 c2) (.slice a3 l3 c3)) := ⟨below_then HB.out.1 ok, HKB.out _ _ HB.out.2 ok⟩; clear ok)
            exact ⟨⟨3, by omega, rfl, HO4.out, (fun _ => trivial), (fun _ => trivial), (fun _ => trivial)⟩, by simp [intOf]⟩
        · have e1' := e1 (by omega)
          have e2' := e2 (by omega)
          have e3' := e3 (by omega)
          subst e1' e2' e3'
          have HR : Hid (SB = ob) := by unfold Hid; rw [HSB.out]; simp
          have HEW := hide3 (HEO.out rfl rfl rfl)
          obtain ⟨k0, k1, k2, k3, k4, k5, k6, k7⟩ := HB.out.2
          clear hb e1 e2 e3
          go_wp2_with (go_at_call 127; refine (HEW.out _ HB.out.1).mono ?_; rintro e w4 ⟨rfl, ok⟩; have HO4 := hide3 (below_then (below_then HB.out.1 (boxB _ _)) ok); clear ok)
          go_ret
          exact ⟨ret_bool HR.out.symm, HO4.out⟩
end Go.Proofs.YtjpmlagofcgheaaGreatDoor
namespace Go.Proofs.YtjpmlagofcgheaaGreatDoor.Sc
open Go.RowKit
set_option maxRecDepth 100000

theorem bSize : (Tryz.prog.info? 137).map (·.size) = some 2 := by kernel_rfl
theorem bLies : liesAt Tryz.prog Tryz.prog.depth 137 (2 / Tryz.prog.cellsOf 137) 0 137 1 = true := by kernel_rfl
theorem bByte : (Tryz.prog.info? 5).map (fun i => (i.zero, i.size, i.bytes)) = some (some (.int .u8 0), 1, 1) := by kernel_rfl

set_option maxHeartbeats 1600000 in
theorem check_used (b : Nat) (w : World) (h0 : w.cell? ⟨b, 0, none⟩ = some (.pointer (some ⟨b, 0, none⟩))) :
    Calls Tryz.prog 128 #[.pointer (some ⟨b, 0, none⟩)] w fun e w' => e = .returned (.tuple #[]) ∧ w' = w := by
  obtain ⟨j, hj, _⟩ := Option.map_eq_some_iff.1 bSize
  go_enter Tryz.func128, Tryz.ntmps128
  go_wp2
  rw [Lib.run_neq_ptr_same w _ Tryz.underlying134 hj]
  go_wp2
  go_end0
  exact ⟨rfl, rfl⟩

set_option maxHeartbeats 1600000 in
theorem check_fresh (b : Nat) (w : World) (h0 : w.cell? ⟨b, 0, none⟩ = some (.pointer none)) (hsh : w.shape? b = some (137, 2)) (hfz : w.frozen? ⟨b, 0, none⟩ = false) :
    Calls Tryz.prog 128 #[.pointer (some ⟨b, 0, none⟩)] w fun e w' => e = .returned (.tuple #[]) ∧ w' = w.setCell ⟨b, 0, none⟩ (.pointer (some ⟨b, 0, none⟩)) := by
  obtain ⟨j, hj, hjs⟩ := Option.map_eq_some_iff.1 bSize
  go_enter Tryz.func128, Tryz.ntmps128
  go_wp2
  rw [Lib.run_to_unsafe w ⟨b, 0, none⟩ Tryz.underlying134 Tryz.underlying188 hj (by rw [hjs]; decide) hsh (Nat.zero_lt_succ 1)]
  simp only [Result.andThen]
  rw [Oper.upon_value]
  go_wp2
  rw [run_callFunc_extern Tryz.func146 (by kernel_rfl) (by kernel_rfl) (by kernel_rfl) (e := Extern.AbiNoEscape.same) (by kernel_rfl), Lib.run_noEscape]
  simp only [Result.andThen]
  rw [Oper.upon_value]
  go_wp2
  rw [Lib.run_from_unsafe w ⟨b, 0, none⟩ Tryz.underlying188 Tryz.underlying134 hj hsh bLies]
  simp only [Result.andThen]
  rw [Oper.upon_value]
  go_wp2
  go_end0
  exact ⟨rfl, rfl⟩

/-- A builder at a block, with these bytes. -/
def Bld (B b : Nat) (l : Bs) (w : World) : Prop := Lib.IsBuilder 137 5 B b (Lib.byteCells l) w
theorem check_any {B b : Nat} {l : Bs} {w : World} (h : Bld B b l w) :
    Calls Tryz.prog 128 #[.pointer (some ⟨b, 0, none⟩)] w fun e w' => e = .returned (.tuple #[]) ∧ Lib.BuilderAt 137 5 B b (.pointer (some ⟨b, 0, none⟩)) (Lib.byteCells l) w' ∧ Below B w w' := by
  rcases h with h | h
  · refine (check_fresh b w h.cell0 h.shape h.frozen0).mono ?_
    rintro e w' ⟨rfl, rfl⟩
    exact ⟨rfl, h.used _, (Below.refl B w).setCell (p := ⟨b, 0, none⟩) h.1 _⟩
  · refine (check_used b w h.cell0).mono ?_
    rintro e w' ⟨rfl, rfl⟩
    exact ⟨rfl, h, Below.refl B _⟩

set_option maxHeartbeats 1600000 in
theorem putText {B b : Nat} {l : Bs} {w : World} (s : ByteArray) (h : Bld B b l w) (hl : l.length + s.size ≤ 140737488355328) (hB : B ≤ w.heap.size) :
    Calls Tryz.prog 92 #[.pointer (some ⟨b, 0, none⟩), .string s] w fun e w' => e = .returned (.tuple #[.int .i64 s.size, .nilIface]) ∧ Bld B b (l ++ s.data.toList) w' ∧ Below B w w' := by
  obtain ⟨i0, hi, hz0, hz1, hz2⟩ := info_parts bByte
  have HC := hide3 (check_any h)
  have hlc : (Lib.byteCells l).length = l.length := Lib.byteCells_length l
  go_enter Tryz.func92, Tryz.ntmps92
  go_wp2_with (go_at_call 128; refine HC.out.mono ?_)
  rintro e w1 ⟨rfl, h1, hb1⟩
  obtain ⟨hBb, v, hbk, hown, hne⟩ := h1
  have c0 : w1.cell? ⟨b, 0, none⟩ = some (.pointer (some ⟨b, 0, none⟩)) := by rw [Lib.cell_of_heap hbk]; rfl
  have c1 : w1.cell? ⟨b, 1, none⟩ = some v := by rw [Lib.cell_of_heap hbk]; rfl
  have hs1 := hb1.size
  go_wp2_with (at_builtin; refine Lib.wpList_append_own_string _ rfl _ _ 135 9 rfl B 5 i0 Tryz.underlying135 Tryz.underlying9 hi hz0 hz1 hz2 _ _ _ rfl hown s rfl (by unfold maxLen; omega) (by omega) (by omega) ?_)
  intro v' w2 hown' hgrow _
  have hlt : b < w1.heap.size := (Array.getElem?_eq_some_iff.1 hbk).1
  have hb2 : w2.heap[b]? = some (.cells #[.pointer (some ⟨b, 0, none⟩), v] 137 (0, 0)) := by
    rw [hgrow.block b hlt (fun e => hne e.symm)]
    exact hbk
  have d0 : w2.cell? ⟨b, 0, none⟩ = some (.pointer (some ⟨b, 0, none⟩)) := by rw [Lib.cell_of_heap hb2]; rfl
  have d1 : w2.cell? ⟨b, 1, none⟩ = some v := by rw [Lib.cell_of_heap hb2]; rfl
  have f1 : w2.frozen? ⟨b, 1, none⟩ = false := Lib.frozen_of_heap hb2 1
  obtain ⟨ao, n', cap, rfl⟩ : ∃ ao n' cap, v' = .slice ao n' cap := by
    rcases hown'.2 with ⟨hv, _⟩ | ⟨g, cap, cur, hv, _⟩
    · exact ⟨_, _, _, hv⟩
    · exact ⟨_, _, _, hv⟩
  go_wp2
  go_ret2
  refine ⟨rfl, Or.inr ?_, ?_⟩
  · refine Lib.BuilderAt.put (T := 137) (e := 5) hBb hb2 ?_ (by decide)
    rw [Lib.byteCells_append, List.length_append, ← Lib.strCells_eq, hlc]
    simpa [Lib.strCells_length] using hown'
  · exact (hb1.grown hgrow (by omega) (fun k hk => (hown.lt k hk).1)).setCell (p := ⟨b, 1, none⟩) hBb _
end Go.Proofs.YtjpmlagofcgheaaGreatDoor.Sc
namespace Go.Proofs.YtjpmlagofcgheaaGreatDoor
open Go.RowKit
set_option maxRecDepth 100000

theorem indexB_eq (s t : ByteArray) : Lib.indexB s t = Lib.index s.data.toList t.data.toList := rfl

theorem list_of_bytes (s : ByteArray) : (⟨s.data.toList.toArray⟩ : ByteArray) = s := (of_list rfl).symm

theorem occ_no {l : List UInt8} {c : UInt8} {tl : List UInt8} {j : Nat} (h : ∀ x, l[j]? = some x → x ≠ c) : Lib.occAt l (c :: tl) j = false := by
  unfold Lib.occAt
  cases hd : l.drop j with
  | nil => rfl
  | cons x r =>
    have hx : l[j]? = some x := by
      have := congrArg (fun q => q[0]?) hd
      simpa using this
    have := h x hx
    simp only [List.isPrefixOf_cons_cons, Bool.and_eq_false_imp, beq_iff_eq]
    intro e
    exact (this e.symm).elim

theorem pieces_one {s sep : ByteArray} {c : UInt8} {tl : List UInt8} (hsep : sep.data.toList = c :: tl) (h : ∀ x ∈ s.data.toList, x ≠ c) : piecesB s sep = [s] := by
  have hi : Lib.indexB s sep = -1 := by
    rw [indexB_eq, hsep]
    exact Lib.index_none fun j _ => occ_no fun x hx => h x (List.mem_of_getElem? hx)
  unfold piecesB
  exact Lib.splitB_miss _ _ _ _ hi

theorem pieces_more {s sep : ByteArray} {c : UInt8} {tl l r : List UInt8} (hsep : sep.data.toList = c :: tl) (hs : s.data.toList = l ++ (sep.data.toList ++ r)) (h : ∀ x ∈ l, x ≠ c) : piecesB s sep = ⟨l.toArray⟩ :: piecesB ⟨r.toArray⟩ sep := by
  have h1 : 1 ≤ sep.size := by rw [← list_size, hsep]; simp
  have hi : Lib.indexB s sep = (l.length : Int) := by
    rw [indexB_eq, hs]
    refine Lib.index_first (by simp) ?_ ?_
    · unfold Lib.occAt
      rw [List.drop_left]
      exact List.isPrefixOf_iff_prefix.2 (List.prefix_append _ _)
    · intro j hj
      rw [hsep]
      refine occ_no fun x hx => ?_
      rw [List.getElem?_append_left hj] at hx
      exact h x (List.mem_of_getElem? hx)
  have hr : s.extract (l.length + sep.size) s.size = ⟨r.toArray⟩ := by
    refine of_list ?_
    rw [Lib.extract_to_end, hs, ← list_size sep, List.drop_append, List.drop_of_length_le (by simp), List.nil_append, Nat.add_sub_cancel_left, List.drop_left]
  have hl : s.extract 0 (l.length + 0) = ⟨l.toArray⟩ := by
    refine of_list ?_
    rw [Lib.extract_from_zero, hs, Nat.add_zero, List.take_left]
  unfold piecesB
  rw [Lib.countB_hit s sep l.length h1 hi, Nat.add_comm 1, Lib.splitB_hit _ _ _ _ _ hi, hr, hl]

theorem meet_all {X : Rg} (hX : RangeR X) : meetR allR X = X := range_one (allR_ok.meet hX) hX fun n => by
  rw [meet_in allR_ok hX, allR_in]
  exact ⟨fun h => h.2, fun h => ⟨hX.in h, h⟩⟩

theorem join_none {X : Rg} (hX : RangeR X) : joinR [] X = X := range_one (RangeR.join (A := []) trivial hX) hX fun n => by
  rw [join_in (A := []) trivial hX]
  exact ⟨fun h => h.elim (fun x => x.elim) id, Or.inr⟩

/-- A version's text: it begins with a digit, and has digits and dots alone. -/
theorem text_first {a b c : Int} (h : mayV a b c = true) : ∃ d r, (textV a b c).data.toList = d :: r ∧ 48 ≤ d.toNat ∧ d.toNat ≤ 57 := by
  rw [text_list h]
  obtain ⟨a0, a1, _⟩ := may_all h
  rw [itoa_of a0]
  have hd := dec_digits a.toNat
  cases hq : Lib.decDigits a.toNat with
  | nil => exact (dec_ne _ hq).elim
  | cons d r => exact ⟨d, _, rfl, hd d (by rw [hq]; exact List.mem_cons_self)⟩

theorem text_bytes {a b c : Int} (h : mayV a b c = true) : ∀ x ∈ (textV a b c).data.toList, x.toNat = 46 ∨ (48 ≤ x.toNat ∧ x.toNat ≤ 57) := by
  rw [text_list h]
  obtain ⟨a0, a1, b0, b1, c0, c1⟩ := may_all h
  rw [itoa_of a0, itoa_of b0, itoa_of c0]
  intro x hx
  simp only [List.mem_append, List.mem_cons] at hx
  rcases hx with hx | rfl | hx | rfl | hx
  · exact Or.inr (dec_digits _ x hx)
  · exact Or.inl rfl
  · exact Or.inr (dec_digits _ x hx)
  · exact Or.inl rfl
  · exact Or.inr (dec_digits _ x hx)

theorem text_long {a b c : Int} (h : mayV a b c = true) : 2 ≤ (textV a b c).data.toList.length := by
  rw [text_list h]; simp; omega

theorem digit_in {d : UInt8} (h : 48 ≤ d.toNat ∧ d.toNat ≤ 57) : ([48, 49, 50, 51, 52, 53, 54, 55, 56, 57] : List UInt8).contains d = true := by
  have : d.toNat = 48 ∨ d.toNat = 49 ∨ d.toNat = 50 ∨ d.toNat = 51 ∨ d.toNat = 52 ∨ d.toNat = 53 ∨ d.toNat = 54 ∨ d.toNat = 55 ∨ d.toNat = 56 ∨ d.toNat = 57 := by omega
  have e : ∀ k : Nat, d.toNat = k → d = UInt8.ofNat k := fun k hk => by rw [← hk]; simp
  rcases this with h | h | h | h | h | h | h | h | h | h <;> (rw [e _ h]; decide)

theorem digit_out {d : UInt8} (h : ¬ (48 ≤ d.toNat ∧ d.toNat ≤ 57)) : ([48, 49, 50, 51, 52, 53, 54, 55, 56, 57] : List UInt8).contains d = false := by
  rw [Bool.eq_false_iff]
  intro hc
  simp only [List.contains_iff_mem, List.mem_cons, List.not_mem_nil, or_false] at hc
  apply h
  rcases hc with rfl | rfl | rfl | rfl | rfl | rfl | rfl | rfl | rfl | rfl <;> decide

theorem cat_list (x y : ByteArray) : (x ++ y).data.toList = x.data.toList ++ y.data.toList := by
  show (x ++ y).data.toList = _
  rw [ByteArray.data_append, Array.toList_append]

/-- A sign: no digit, blank or bar, ASCII. -/
def SignB (s : ByteArray) : Prop := ∀ x ∈ s.data.toList, x.toNat < 48 ∧ x.toNat ≠ 32 ∨ 57 < x.toNat ∧ x.toNat < 124 ∨ x.toNat = 126

theorem word_sign {sg : ByteArray} (hs : SignB sg) {a b c : Int} (h : mayV a b c = true) : wordR (sg ++ textV a b c) = signR sg.data.toList (rankV a b c) := by
  obtain ⟨d, r, hd, h1, h2⟩ := text_first h
  have hl := text_long h
  have hk : idxK (sg ++ textV a b c) = sg.size := by
    unfold idxK
    rw [cat_list, Lib.indexAny_hit (i := sg.data.toList.length) (x := d) ?_ ?_ (digit_in ⟨h1, h2⟩)]
    · rw [list_size]; omega
    · intro j x hj hx
      rw [List.getElem?_append_left hj] at hx
      have := hs x (List.mem_of_getElem? hx)
      exact digit_out (by omega)
    · rw [List.getElem?_append_right (Nat.le_refl _), hd]; simp
  have e1 : (sg ++ textV a b c).extract sg.size (sg ++ textV a b c).size = textV a b c := by
    have : ((sg ++ textV a b c).extract sg.size (sg ++ textV a b c).size).data.toList = (textV a b c).data.toList := by
      rw [Lib.extract_to_end, cat_list, ← list_size sg, List.drop_left]
    rw [of_list this, list_of_bytes]
  have e2 : ((sg ++ textV a b c).extract 0 sg.size).data.toList = sg.data.toList := by
    rw [Lib.extract_from_zero, cat_list, ← list_size sg, List.take_left]
  unfold wordR
  rw [if_neg, hk, e1, e2, if_pos (okP_of h).1]
  · unfold plP
    rw [(okP_of h).2.1, (okP_of h).2.2.1, (okP_of h).2.2.2]
  · rw [cat_list]
    intro e
    have := congrArg List.length e
    rw [List.length_append, List.length_singleton] at this
    omega

theorem alt_word {s : ByteArray} (h : ∀ x ∈ s.data.toList, x.toNat ≠ 32 ∧ x.toNat ≠ 124) (h0 : s.size ≠ 0) {X : Rg} (hX : wordR s = some X) : altR s = some X := by
  have p1 : piecesB s ⟨#[124, 124]⟩ = [s] := pieces_one (c := 124) (tl := [124]) rfl fun x hx e => (h x hx).2 (by rw [e]; rfl)
  have p2 : piecesB s ⟨#[32]⟩ = [s] := pieces_one (c := 32) (tl := []) rfl fun x hx e => (h x hx).1 (by rw [e]; rfl)
  have hw : wordsF allR false [s] = some (X, true) := by
    rw [wordsF, if_neg h0, hX]
    simp only [wordsF]
    rw [meet_all (word_rg hX)]
  unfold altR
  rw [p1]
  unfold altF
  rw [p2]
  have b : wordsB [s] = true := by unfold wordsB; rw [hw]
  have l : wordsL [s] = X := by unfold wordsL; rw [hw]
  rw [if_pos b, l, join_none (word_rg hX)]
  rfl

theorem sign_plain {sg : ByteArray} (hs : SignB sg) {a b c : Int} (h : mayV a b c = true) : ∀ x ∈ (sg ++ textV a b c).data.toList, x.toNat ≠ 32 ∧ x.toNat ≠ 124 ∧ x.toNat < 128 := by
  intro x hx
  rw [cat_list, List.mem_append] at hx
  rcases hx with hx | hx
  · have := hs x hx; omega
  · have := text_bytes h x hx; omega

theorem plain_of {s : ByteArray} (h : ∀ x ∈ s.data.toList, x.toNat ≠ 32 ∧ x.toNat ≠ 124 ∧ x.toNat < 128) : PlainT s := by
  have p1 : piecesB s ⟨#[124, 124]⟩ = [s] := pieces_one (c := 124) (tl := [124]) rfl fun x hx e => (h x hx).2.1 (by rw [e]; rfl)
  have p2 : piecesB s ⟨#[32]⟩ = [s] := pieces_one (c := 32) (tl := []) rfl fun x hx e => (h x hx).1 (by rw [e]; rfl)
  unfold PlainT
  rw [p1]
  intro a ha
  rw [List.mem_singleton] at ha
  subst ha
  rw [p2]
  intro p hp _
  rw [List.mem_singleton] at hp
  subst hp
  exact Or.inr fun j b hj => (h b (List.mem_of_getElem? hj)).2.2

theorem sign_len {s : List UInt8} {n : Int} {X : Rg} (h : signR s n = some X) : X.length ≤ 64 := by
  unfold signR at h
  repeat' split at h
  all_goals first | (cases h; done) | (injection h with h; subst h)
  · simp
  · have := cutR_len (B := [(n, 999999999)]) allR_ok; simp only [allR, List.length_cons, List.length_nil] at this ⊢; omega
  · simp
  · have := cutR_len (B := [(0, n)]) allR_ok; simp only [allR, List.length_cons, List.length_nil] at this ⊢; omega
  · simp
  · simp
  · simp

end Go.Proofs.YtjpmlagofcgheaaGreatDoor
namespace Go.Proofs.YtjpmlagofcgheaaGreatDoor
open Go.RowKit
set_option maxRecDepth 100000

theorem byte_no : ∀ (l : List UInt8) (c : UInt8), (∀ x ∈ l, x.toNat < 128) → 128 ≤ c.toNat → Lib.indexByte l c = -1
  | [], _, _, _ => rfl
  | b :: l, c, h, hc => by
    have hb := h b List.mem_cons_self
    have ih := byte_no l c (fun x hx => h x (List.mem_cons_of_mem _ hx)) hc
    unfold Lib.indexByte
    have : ¬ b = c := fun e => by subst e; omega
    simp [this, ih]

end Go.Proofs.YtjpmlagofcgheaaGreatDoor
namespace Go.Proofs.YtjpmlagofcgheaaGreatDoor
open Go.RowKit
set_option maxRecDepth 100000

theorem iter_below (w : World) (s : ByteArray) (p : Nat) : Below w.heap.size w (w.iter s p) := boxB _ _

def D10 : ByteArray := ⟨#[48, 49, 50, 51, 52, 53, 54, 55, 56, 57]⟩
theorem d10_low (i : Nat) (h : i < D10.size) : (D10[i]'h).toNat < 128 := by
  have : ∀ i, (h : i < D10.size) → (D10[i]'h).toNat < 128 := by decide
  exact this i h

theorem valid_same (r : Int) : Utf8.valid r = Lib.validRune r := by
  unfold Utf8.valid Lib.validRune
  rw [Bool.eq_iff_iff]
  simp
  omega

theorem last_high (n : Nat) : 128 ≤ (UInt8.ofNat (0x80 + n % 64)).toNat := by
  rw [UInt8.toNat_ofNat']
  omega

theorem decode_one (s : ByteArray) (pos : Nat) (h : pos < s.size) : 1 ≤ (Utf8.decode s pos).2 := by
  by_cases ha : (s[pos]'h).toNat < 128
  · rw [decode_ascii s pos h ha]; exact Nat.le_refl _
  · exact (decode_high s pos h (by omega)).2

end Go.Proofs.YtjpmlagofcgheaaGreatDoor
namespace Go.Proofs.YtjpmlagofcgheaaGreatDoor
open Go.RowKit
set_option maxRecDepth 100000

/-- A text with a byte that is no ASCII. -/
def HighB (s : ByteArray) : Prop := ∃ x ∈ s.data.toList, 128 ≤ x.toNat

theorem plain_or (s : ByteArray) : Plain8 s ∨ (s.size ≤ 8 ∧ HighB s) := by
  by_cases h8 : 8 < s.size
  · exact Or.inl (Or.inl h8)
  · by_cases h : ∀ x ∈ s.data.toList, x.toNat < 128
    · exact Or.inl (Or.inr fun j b hj => h b (List.mem_of_getElem? hj))
    · right
      refine ⟨by omega, ?_⟩
      unfold HighB
      simp only [Classical.not_forall] at h
      obtain ⟨x, hx, h2⟩ := h
      exact ⟨x, hx, by omega⟩

theorem sign_ascii {s : List UInt8} {n : Int} (h : ∃ x ∈ s, 128 ≤ x.toNat) : signR s n = none := by
  obtain ⟨x, hx, h1⟩ := h
  have no : ∀ l : List UInt8, (∀ y ∈ l, y.toNat < 128) → ¬ s = l := fun l hl e => by subst e; have := hl x hx; omega
  unfold signR
  rw [if_neg (by rintro (e | e); exact no [] (by simp) e; exact no [61] (by decide) e), if_neg (no [60] (by decide)), if_neg (no [60, 61] (by decide)), if_neg (no [62] (by decide)), if_neg (no [62, 61] (by decide)), if_neg (no [94] (by decide)), if_neg (no [126] (by decide))]

theorem high_part {s : ByteArray} (h : HighB s) {k : Nat} (ho : okP (s.extract k s.size) = true) : ∃ x ∈ (s.extract 0 k).data.toList, 128 ≤ x.toNat := by
  obtain ⟨x, hx, h1⟩ := h
  obtain ⟨m, e⟩ := okP_text ho
  have hb := text_bytes m
  rw [← e, Lib.extract_to_end] at hb
  rw [Lib.extract_from_zero]
  rw [← List.take_append_drop k s.data.toList, List.mem_append] at hx
  rcases hx with hx | hx
  · exact ⟨x, hx, h1⟩
  · have := hb x hx; omega

theorem word_high {s : ByteArray} (h : HighB s) : wordR s = none := by
  unfold wordR
  rw [if_neg]
  · split
    · rename_i ho
      exact sign_ascii (high_part h ho)
    · rfl
  · intro e
    obtain ⟨x, hx, h1⟩ := h
    rw [e] at hx
    simp at hx
    subst hx
    exact absurd h1 (by decide)

/-- What Parse makes of a text of any length. -/
def parR (s : ByteArray) : Option Rg := if s.size ≤ 4096 then altR s else none

end Go.Proofs.YtjpmlagofcgheaaGreatDoor
