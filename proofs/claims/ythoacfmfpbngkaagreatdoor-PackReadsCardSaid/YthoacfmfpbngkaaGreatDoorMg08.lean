/- Pk3, Rk1, Rk3, laid in one text. -/
import Derived.Test.YthoacfmfpbngkaaGreatDoorMg07
namespace Go.Proofs.YthoacfmfpbngkaaGreatDoor
open Go.RowKit
set_option maxRecDepth 100000

/-- A text ahead of another one, byte by byte. -/
def ltS (s t : ByteArray) : Bool := Op.bytesLess s.toList t.toList
/-- A name that may follow another one. -/
def followB (q : Option ByteArray) (s : ByteArray) : Bool := Sc.nameA s.data.toList && (match q with
  | none => true
  | some p => ltS p s)
/-- A range that may stand in a list. -/
def rangeB (L : List Sp) : Bool := decide (0 < L.length) && mayL L
/-- A list goes on behind a name. -/
def riseD : Option ByteArray → List Dp → Bool
  | _, [] => true
  | q, d :: r => followB q d.nm && rangeB d.rg && riseD (some d.nm) r
/-- A list of dependencies may be. -/
def mayD (L : List Dp) : Bool := decide (L.length ≤ 16) && riseD none L
/-- The last name. -/
def lastN (L : List Dp) : Option ByteArray := L.getLast?.map (·.nm)

theorem DepsAt.len {w : World} {v : Value} {L : List Dp} (h : DepsAt w v L) : ∃ ad cap, v = .slice ad L.length cap ∧ L.length ≤ cap := by
  obtain ⟨ad, cap, rfl, h, _⟩ := h
  exact ⟨ad, cap, rfl, h⟩

theorem mayRange_any {v : Value} {L : List Sp} {w : World} (h : SpansAt w v L) :
    Calls Tryz.prog 64 #[v] w fun e w' => e = .returned (.bool (rangeB L)) ∧ Below w.heap.size w w' := by
  have HM := hide3 (sMay_any h)
  obtain ⟨ad, cap, rfl⟩ := h.sl
  clear h
  by_cases h0 : 0 < L.length
  · have HR : Hid (rangeB L = mayL L) := by unfold Hid rangeB; simp [h0]
    go_enter Tryz.func64, Tryz.ntmps64
    go_wp2_with (go_at_call 86; refine HM.out.mono ?_; rintro e w1 ⟨rfl, ok⟩)
    go_ret
    exact ⟨ret_bool HR.out.symm, ok⟩
  · have HR : Hid (rangeB L = false) := by unfold Hid rangeB; simp [h0]
    go_enter Tryz.func64, Tryz.ntmps64
    go_wp2
    go_ret
    exact ⟨ret_bool HR.out.symm, Below.refl _ _⟩

theorem mayFollow_any {va : Value} {A : List Dp} {w : World} (h : DepsAt w va A) (hl : A.length ≤ 1000000000000) (s : ByteArray) :
    Calls Tryz.prog 61 #[va, .string s] w fun e w' => e = .returned (.bool (followB (lastN A) s)) ∧ w' = w := by
  have HN : Hid (Calls Tryz.prog 36 #[.string s] w fun e w' => e = .returned (.bool (Sc.nameA s.data.toList)) ∧ w' = w) := Sc.Name_any s w
  cases hn : Sc.nameA s.data.toList
  · have HR : Hid (followB (lastN A) s = false) := by unfold Hid followB; rw [hn]; rfl
    rw [hn] at HN
    obtain ⟨ad, cap, rfl⟩ := h.sl
    clear h
    go_enter Tryz.func61, Tryz.ntmps61
    go_wp2_with (go_at_call 36; refine HN.out.mono ?_; rintro e w1 ⟨rfl, rfl⟩)
    go_ret
    exact ⟨ret_bool HR.out.symm, rfl⟩
  · rw [hn] at HN
    rcases List.eq_nil_or_concat A with rfl | ⟨B, d, rfl⟩
    · have HR : Hid (followB (lastN []) s = true) := by unfold Hid followB; rw [hn]; rfl
      obtain ⟨ad, cap, rfl⟩ := h.sl
      clear h
      go_enter Tryz.func61, Tryz.ntmps61
      go_wp2_with (go_at_call 36; refine HN.out.mono ?_; rintro e w1 ⟨rfl, rfl⟩)
      go_ret
      exact ⟨ret_bool HR.out.symm, rfl⟩
    · have HR : Hid (followB (lastN (B ++ [d])) s = Op.bytesLess d.nm.toList s.toList) := by unfold Hid followB lastN; rw [hn]; simp [ltS]
      rw [List.concat_eq_append] at *
      obtain ⟨ad, cap, rfl, hc, hs⟩ := h
      rcases hs with hs | ⟨g, o, rfl, hg, hs⟩
      · simp at hs
      · obtain ⟨u, c0, hrest⟩ := hs B.length (by simp)
        clear hrest hs
        simp only [List.getElem_concat_length] at c0
        have hlen : (B ++ [d]).length = B.length + 1 := by simp
        rw [hlen] at hl hc ⊢
        generalize B.length = m at *
        have w1 : IntKind.i64.wrap (((m + 1 : Nat) : Int) - 1) = (m : Int) := by rw [IntKind.wrap_i64]; omega
        go_enter Tryz.func61, Tryz.ntmps61
        go_wp2_with (go_at_call 36; refine HN.out.mono ?_; rintro e w1 ⟨rfl, rfl⟩)
        go_ret
        exact ⟨ret_bool HR.out.symm, rfl⟩

theorem DepsAt.take {w : World} {ad : Option Addr} {cap : Nat} {L : List Dp} (h : DepsAt w (.slice ad L.length cap) L) {k : Nat} (hk : k ≤ L.length) : DepsAt w (.slice ad k cap) (L.take k) := by
  obtain ⟨ad', cap', e, hc, hs⟩ := h
  cases e
  refine ⟨ad, cap, by simp [Nat.min_eq_left hk], by simp; omega, ?_⟩
  rcases hs with rfl | ⟨g, o, rfl, hg, hs⟩
  · exact Or.inl (by simp)
  · refine Or.inr ⟨g, o, rfl, hg, fun i hi => ?_⟩
    have hi' : i < L.length := by simp at hi; omega
    obtain ⟨u, hu⟩ := hs i hi'
    exact ⟨u, by simpa using hu⟩

theorem lastN_take {L : List Dp} {k : Nat} (h : k < L.length) : lastN (L.take (k + 1)) = some L[k].nm := by
  unfold lastN
  rw [List.take_succ_eq_append_getElem h, List.getLast?_concat]
  rfl

/-- What the walk of mayList keeps in a round. -/
def KM (w : World) (N : Nat) (s : ByteArray) (u : Value) (d : Dp) (va : Value) (A : List Dp) (w1 : World) : Prop := Below w.heap.size w w1 ∧ BxD w1 N s u ∧ SpansAt w1 u d.rg ∧ DepsAt w1 va A
theorem keepKM (w : World) (N : Nat) (s : ByteArray) (u : Value) (d : Dp) (va : Value) (A : List Dp) : KeepP (KM w N s u d va A) := (keepBelow w).and ((keepBxD _ _ _).and ((keepSpans _ _).and (keepDeps _ _)))

set_option maxHeartbeats 3200000 in
theorem mayList_walk (L : List Dp) (hlen : L.length ≤ 16) (g o cap : Nat) (w : World) (h : DepsAt w (.slice (some ⟨g, o, none⟩) L.length cap) L) (hs : ∀ i (h : i < L.length), ∃ u, DpIn w g (o + i * 2) L[i] u) :
    Calls Tryz.prog 65 #[.slice (some ⟨g, o, none⟩) L.length cap] w fun e w' => e = .returned (.bool (mayD L)) ∧ Below w.heap.size w w' := by
  have HL : Hid (∀ w1, Below w.heap.size w w1 → ∀ i (h : i < L.length), ∃ u, DpIn w1 g (o + i * 2) L[i] u) := fun w1 hb i hi => (hs i hi).imp fun u h => h.below hb
  have HD : Hid (∀ w1, Below w.heap.size w w1 → ∀ k, k ≤ L.length → DepsAt w1 (.slice (some ⟨g, o, none⟩) k cap) (L.take k)) := fun w1 hb k hk => (h.below hb).take hk
  have HT : Hid (mayD L = riseD none L) := by unfold Hid mayD; simp [hlen]
  have hcap : L.length ≤ cap := by obtain ⟨_, _, e, hc, _⟩ := h; cases e; exact hc
  have h16 : decide ((16 : Int) < (L.length : Int)) = false := decide_eq_false (by omega)
  clear h hs
  go_enter Tryz.func65, Tryz.ntmps65
  go_wp2_with fail
  go_loopw [10] (fun i wr => ∃ k : Nat, k ≤ L.length ∧ i = .int .i64 k ∧ Below w.heap.size w wr ∧ riseD none L = riseD (lastN (L.take k)) (L.drop k)) (fun i _ => L.length - (intOf i).toNat)
  case atStart => exact ⟨0, Nat.zero_le _, rfl, Below.refl _ _, rfl⟩
  case round =>
    obtain ⟨k, hk, rfl, hb, hall⟩ := hrel
    have HALL := hide3 hall
    have HB := hide3 hb
    clear hall
    by_cases hlt : k < L.length
    · obtain ⟨u, c0, c1, ⟨⟨hu, _⟩, _⟩, cg⟩ := HL.out wr hb k hlt
      have hd := HD.out wr hb k hk
      have hkc : (k : Int) ≤ (cap : Int) := by omega
      have hc0 : ¬ (cap = 0) := by omega
      obtain ⟨ad, uc, rfl⟩ := hu.sl
      have hdr : L.drop k = L[k] :: L.drop (k + 1) := List.drop_eq_getElem_cons hlt
      have HST : Hid (riseD none L = (followB (lastN (L.take k)) L[k].nm && rangeB L[k].rg && riseD (lastN (L.take (k + 1))) (L.drop (k + 1)))) := by
        unfold Hid
        rw [HALL.out, hdr, lastN_take hlt]
        rfl
      have HO : Hid (KM w wr.heap.size L[k].nm (.slice ad L[k].rg.length uc) L[k] (.slice (some ⟨g, o, none⟩) k cap) (L.take k) (wr.alloc (.cells #[.string L[k].nm, .slice ad L[k].rg.length uc] 60))) := ⟨below_then hb (boxB _ _), BxD.new rfl _ _, hu.below (boxB _ _), hd.below (boxB _ _)⟩
      have HK : Hid (KeepP (KM w wr.heap.size L[k].nm (.slice ad L[k].rg.length uc) L[k] (.slice (some ⟨g, o, none⟩) k cap) (L.take k))) := keepKM _ _ _ _ _ _ _
      have HF : Hid (∀ w1, KM w wr.heap.size L[k].nm (.slice ad L[k].rg.length uc) L[k] (.slice (some ⟨g, o, none⟩) k cap) (L.take k) w1 → Calls Tryz.prog 61 #[.slice (some ⟨g, o, none⟩) k cap, .string L[k].nm] w1 fun e w' => e = .returned (.bool (followB (lastN (L.take k)) L[k].nm)) ∧ Below w1.heap.size w1 w') := fun w1 hk1 => (mayFollow_any hk1.2.2.2 (by simp; omega) _).mono fun e w' ⟨h1, h2⟩ => ⟨h1, by rw [h2]; exact Below.refl _ _⟩
      have HG : Hid (∀ w1, KM w wr.heap.size L[k].nm (.slice ad L[k].rg.length uc) L[k] (.slice (some ⟨g, o, none⟩) k cap) (L.take k) w1 → Calls Tryz.prog 64 #[.slice ad L[k].rg.length uc] w1 fun e w' => e = .returned (.bool (rangeB L[k].rg)) ∧ Below w1.heap.size w1 w') := fun w1 hk1 => mayRange_any hk1.2.2.1
      clear hu hd hdr HALL hb
      generalize followB (lastN (L.take k)) L[k].nm = bf at *
      generalize rangeB L[k].rg = bg at *
      generalize L[k].rg.length = n at *
      generalize L[k].nm = s at *
      generalize L[k] = d at *
      cases bf
      · have HR : Hid (mayD L = false) := by unfold Hid; rw [HT.out, HST.out]; rfl
        clear HST HG
        go_wp2_with fail
        refine wp_region_keep HK.out (by kernel_rfl) (by kernel_rfl) (by first | exact HO.out | exact HK.out.drew HO.out) ?_
        intro C hin hout
        have HIN := hide3 hin
        have HOUT := hide3 hout
        clear hin hout HO
        repeat
          (with_reducible refine wpQuiet_step (fun K hK => ?_)
           go_simp
           first
             | (refine hK _ ?_; clear hK K)
             | (apply Exists.intro; refine ⟨fun w1 hC => ?_, hK _ ?_⟩; (focus ((first | (go_at_call 61; with_reducible exact callC' HIN.out HOUT.out HK.out HF.out w1 hC) | (exact rfl) | (obtain ⟨hb1, ⟨k0, k1, k2⟩, hs1, hd1⟩ := HOUT.out w1 hC; clear hC; go_simp; first | done | exact rfl)); done)); clear hK K))
        refine wpQuiet_nil ?_
        intro wn hC
        have HO := hide3 (HOUT.out _ hC)
        clear hC HIN HOUT C
        obtain ⟨hb1, ⟨k0, k1, k2⟩, hs1, hd1⟩ := HO.out
        go_wp2
        go_ret
        exact ⟨ret_bool HR.out.symm, HO.out.1⟩
      · cases bg
        · have HR : Hid (mayD L = false) := by unfold Hid; rw [HT.out, HST.out]; rfl
          clear HST
          go_wp2_with fail
          refine wp_region_keep HK.out (by kernel_rfl) (by kernel_rfl) (by first | exact HO.out | exact HK.out.drew HO.out) ?_
          intro C hin hout
          have HIN := hide3 hin
          have HOUT := hide3 hout
          clear hin hout HO
          repeat
            (with_reducible refine wpQuiet_step (fun K hK => ?_)
             go_simp
             first
               | (refine hK _ ?_; clear hK K)
               | (apply Exists.intro; refine ⟨fun w1 hC => ?_, hK _ ?_⟩; (focus ((first | (go_at_call 61; with_reducible exact callC' HIN.out HOUT.out HK.out HF.out w1 hC) | (go_at_call 64; with_reducible exact callC' HIN.out HOUT.out HK.out HG.out w1 hC) | (exact rfl) | (obtain ⟨hb1, ⟨k0, k1, k2⟩, hs1, hd1⟩ := HOUT.out w1 hC; clear hC; go_simp; first | done | exact rfl)); done)); clear hK K))
          refine wpQuiet_nil ?_
          intro wn hC
          have HO := hide3 (HOUT.out _ hC)
          clear hC HIN HOUT C
          obtain ⟨hb1, ⟨k0, k1, k2⟩, hs1, hd1⟩ := HO.out
          go_wp2
          go_ret
          exact ⟨ret_bool HR.out.symm, HO.out.1⟩
        · have HR : Hid (riseD none L = riseD (lastN (L.take (k + 1))) (L.drop (k + 1))) := by unfold Hid; rw [HST.out]; rfl
          clear HST
          go_wp2_with fail
          refine wp_region_keep HK.out (by kernel_rfl) (by kernel_rfl) (by first | exact HO.out | exact HK.out.drew HO.out) ?_
          intro C hin hout
          have HIN := hide3 hin
          have HOUT := hide3 hout
          clear hin hout HO
          repeat
            (with_reducible refine wpQuiet_step (fun K hK => ?_)
             go_simp
             first
               | (refine hK _ ?_; clear hK K)
               | (apply Exists.intro; refine ⟨fun w1 hC => ?_, hK _ ?_⟩; (focus ((first | (go_at_call 61; with_reducible exact callC' HIN.out HOUT.out HK.out HF.out w1 hC) | (go_at_call 64; with_reducible exact callC' HIN.out HOUT.out HK.out HG.out w1 hC) | (exact rfl) | (obtain ⟨hb1, ⟨k0, k1, k2⟩, hs1, hd1⟩ := HOUT.out w1 hC; clear hC; go_simp; first | done | exact rfl)); done)); clear hK K))
          refine wpQuiet_nil ?_
          intro wn hC
          have HO := hide3 (HOUT.out _ hC)
          clear hC HIN HOUT C
          obtain ⟨hb1, ⟨k0, k1, k2⟩, hs1, hd1⟩ := HO.out
          go_wp2
          exact ⟨⟨k + 1, by omega, by go_num, HO.out.1, HR.out⟩, by simp [intOf]; omega⟩
    · have hke : k = L.length := by omega
      subst hke
      have HR : Hid (mayD L = true) := by unfold Hid; rw [HT.out, HALL.out]; simp [riseD]
      clear hb
      go_wp2
      go_ret
      exact ⟨ret_bool HR.out.symm, HB.out⟩

theorem mayList_many (ad : Option Addr) (n cap : Nat) (h : 16 < n) (w : World) :
    Calls Tryz.prog 65 #[.slice ad n cap] w fun e w' => e = .returned (.bool false) ∧ Below w.heap.size w w' := by
  have hn : (16 : Int) < (n : Int) := by omega
  go_enter Tryz.func65, Tryz.ntmps65
  go_wp2
  go_ret
  exact ⟨rfl, Below.refl _ _⟩

theorem mayList_nil (ad : Option Addr) (cap : Nat) (w : World) :
    Calls Tryz.prog 65 #[.slice ad 0 cap] w fun e w' => e = .returned (.bool true) ∧ Below w.heap.size w w' := by
  go_enter Tryz.func65, Tryz.ntmps65
  go_wp2_with fail
  go_loop [10] (fun i => i = .int .i64 0) (fun _ => 0)
  case atStart => rfl
  case round =>
    subst hrel
    go_wp2
    go_ret
    exact ⟨rfl, Below.refl _ _⟩

theorem mayList_any {v : Value} {L : List Dp} {w : World} (h : DepsAt w v L) :
    Calls Tryz.prog 65 #[v] w fun e w' => e = .returned (.bool (mayD L)) ∧ Below w.heap.size w w' := by
  have h' := h
  obtain ⟨ad, cap, rfl, hc, hs⟩ := h'
  by_cases h16 : L.length ≤ 16
  · rcases hs with rfl | ⟨g, o, rfl, hg, hs⟩
    · exact mayList_nil _ _ w
    · exact mayList_walk L h16 g o cap w h hs
  · have : mayD L = false := by unfold mayD; simp [h16]
    rw [this]
    exact mayList_many _ _ _ (by omega) w

end Go.Proofs.YthoacfmfpbngkaaGreatDoor
namespace Go.Proofs.YthoacfmfpbngkaaGreatDoor
open Go.RowKit
set_option maxRecDepth 100000

set_option maxHeartbeats 1600000 in
theorem rSpans_walk (A B : List Sp) (hAB : A.length = B.length) (hsz : A.length ≤ 9223372036854775807) (ga oa ca gb ob cb : Nat) (w : World) (hga : ga < w.heap.size) (hgb : gb < w.heap.size) (hla : ∀ i (h : i < A.length), SpAt w ga (oa + i * 6) A[i]) (hlb : ∀ i (h : i < B.length), SpAt w gb (ob + i * 6) B[i]) :
    Calls Tryz.prog 33 #[.slice (some ⟨ga, oa, none⟩) A.length ca, .slice (some ⟨gb, ob, none⟩) B.length cb] w fun e w' => e = .returned (.bool (eqB A B)) ∧ Below w.heap.size w w' := by
  have HL : Hid (∀ w1, Below w.heap.size w w1 → ∀ i (h : i < A.length) (h2 : i < B.length), SpIn w1 ga (oa + i * 6) A[i] ∧ SpIn w1 gb (ob + i * 6) B[i]) := fun w1 hb i hi hi2 => ⟨⟨(hla i hi).below hb hga, Nat.lt_of_lt_of_le hga hb.size⟩, ⟨(hlb i hi2).below hb hgb, Nat.lt_of_lt_of_le hgb hb.size⟩⟩
  have HAB := hide3 hAB
  clear hla hlb
  rw [← hAB]
  clear hAB
  go_enter Tryz.func33, Tryz.ntmps33
  go_wp2_with fail
  go_loopw [5] (fun i wr => ∃ k : Nat, k ≤ A.length ∧ i = .int .i64 k ∧ Below w.heap.size w wr ∧ ∀ j (h : j < k) (h1 : j < A.length) (h2 : j < B.length), A[j] = B[j]) (fun i _ => A.length - (intOf i).toNat)
  case atStart => exact ⟨0, Nat.zero_le _, rfl, Below.refl _ _, fun j h => by omega⟩
  case round =>
    obtain ⟨k, hk, rfl, hb, hall⟩ := hrel
    have HALL := hide3 hall
    have HB := hide3 hb
    clear hall
    by_cases hlt : k < A.length
    · have hltB : k < B.length := HAB.out ▸ hlt
      have HO : Hid (Below w.heap.size w wr ∧ SpIn wr ga (oa + k * 6) A[k] ∧ SpIn wr gb (ob + k * 6) B[k]) := ⟨hb, HL.out wr hb k hlt hltB⟩
      have HK : Hid (KeepP fun w1 => Below w.heap.size w w1 ∧ SpIn w1 ga (oa + k * 6) A[k] ∧ SpIn w1 gb (ob + k * 6) B[k]) := (keepBelow w).and ((keepSp _ _ _).and (keepSp _ _ _))
      have HNE : Hid (eqS A[k] B[k] = false → eqB A B = false) := fun h => eqB_no fun e => by subst e; rw [(eqS_iff).2 rfl] at h; cases h
      have HST : Hid (eqS A[k] B[k] = true → ∀ j (h : j < k + 1) (h1 : j < A.length) (h2 : j < B.length), A[j] = B[j]) := fun h j hj h1 h2 => by
        rcases Nat.lt_or_ge j k with hjk | hjk
        · exact HALL.out j hjk h1 h2
        · obtain rfl : j = k := by omega
          exact eqS_iff.1 h
      generalize A[k] = s at *
      generalize B[k] = t at *
      obtain ⟨a, b, c, x, y, z⟩ := s
      obtain ⟨a', b', c', x', y', z'⟩ := t
      have he := neqSp2 a b c x y z a' b' c' x' y' z'
      have hgd := guardSp
      cases hq : eqS ⟨a, b, c, x, y, z⟩ ⟨a', b', c', x', y', z'⟩
      · have HR := hide3 (HNE.out hq)
        rw [hq] at he
        clear hb HNE HST HALL
        go_wp2_with fail
        refine wp_region_keep HK.out (by kernel_rfl) (by kernel_rfl) (by first | exact HO.out | exact HK.out.drew HO.out) ?_
        intro C hin hout
        have HIN := hide3 hin
        have HOUT := hide3 hout
        clear hin hout HO
        repeat
          (with_reducible refine wpQuiet_step (fun K hK => ?_)
           go_simp
           first
             | (refine hK _ ?_; clear hK K)
             | (apply Exists.intro; refine ⟨fun w1 hC => ?_, hK _ ?_⟩; (focus ((first | (exact rfl) | (obtain ⟨hb1, ⟨⟨p0, p1, p2, p3, p4, p5⟩, p6⟩, ⟨⟨q0, q1, q2, q3, q4, q5⟩, q6⟩⟩ := HOUT.out w1 hC; clear hC; go_simp; first | done | exact rfl)); done)); clear hK K))
        refine wpQuiet_nil ?_
        intro wn hC
        have HO := hide3 (HOUT.out _ hC)
        clear hC HIN HOUT C
        obtain ⟨hb1, ⟨⟨p0, p1, p2, p3, p4, p5⟩, p6⟩, ⟨⟨q0, q1, q2, q3, q4, q5⟩, q6⟩⟩ := HO.out
        go_wp2
        go_ret
        exact ⟨ret_bool HR.out.symm, HO.out.1⟩
      · have HR := hide3 (HST.out hq)
        rw [hq] at he
        clear hb HNE HST HALL
        go_wp2_with fail
        refine wp_region_keep HK.out (by kernel_rfl) (by kernel_rfl) (by first | exact HO.out | exact HK.out.drew HO.out) ?_
        intro C hin hout
        have HIN := hide3 hin
        have HOUT := hide3 hout
        clear hin hout HO
        repeat
          (with_reducible refine wpQuiet_step (fun K hK => ?_)
           go_simp
           first
             | (refine hK _ ?_; clear hK K)
             | (apply Exists.intro; refine ⟨fun w1 hC => ?_, hK _ ?_⟩; (focus ((first | (exact rfl) | (obtain ⟨hb1, ⟨⟨p0, p1, p2, p3, p4, p5⟩, p6⟩, ⟨⟨q0, q1, q2, q3, q4, q5⟩, q6⟩⟩ := HOUT.out w1 hC; clear hC; go_simp; first | done | exact rfl)); done)); clear hK K))
        refine wpQuiet_nil ?_
        intro wn hC
        have HO := hide3 (HOUT.out _ hC)
        clear hC HIN HOUT C
        obtain ⟨hb1, ⟨⟨p0, p1, p2, p3, p4, p5⟩, p6⟩, ⟨⟨q0, q1, q2, q3, q4, q5⟩, q6⟩⟩ := HO.out
        go_wp2
        exact ⟨⟨k + 1, by omega, by go_num, HO.out.1, HR.out⟩, by simp [intOf]; omega⟩
    · have hke : k = A.length := by omega
      subst hke
      have HR : Hid (eqB A B = true) := eqB_yes (List.ext_getElem HAB.out fun j h1 h2 => HALL.out j h1 h1 h2)
      clear hb
      go_wp2
      go_ret
      exact ⟨ret_bool HR.out.symm, HB.out⟩

theorem rSpans_nil (ad bd : Option Addr) (ca cb : Nat) (w : World) :
    Calls Tryz.prog 33 #[.slice ad 0 ca, .slice bd 0 cb] w fun e w' => e = .returned (.bool true) ∧ Below w.heap.size w w' := by
  go_enter Tryz.func33, Tryz.ntmps33
  go_wp2_with fail
  go_loop [5] (fun i => i = .int .i64 0) (fun _ => 0)
  case atStart => rfl
  case round =>
    subst hrel
    go_wp2
    go_ret
    exact ⟨rfl, Below.refl _ _⟩

theorem rSpans_len (ad bd : Option Addr) (n m ca cb : Nat) (h : n ≠ m) (w : World) :
    Calls Tryz.prog 33 #[.slice ad n ca, .slice bd m cb] w fun e w' => e = .returned (.bool false) ∧ Below w.heap.size w w' := by
  have hn : ((n : Int) = (m : Int)) = False := by simp; omega
  go_enter Tryz.func33, Tryz.ntmps33
  go_wp2
  go_ret
  exact ⟨rfl, Below.refl _ _⟩

theorem rSpans_any {A B : List Sp} {va vb : Value} {w : World} (ha : SpansAt w va A) (hb : SpansAt w vb B) (hsz : A.length ≤ 9223372036854775807) :
    Calls Tryz.prog 33 #[va, vb] w fun e w' => e = .returned (.bool (eqB A B)) ∧ Below w.heap.size w w' := by
  obtain ⟨ad, ca, rfl, hl⟩ := ha
  obtain ⟨bd, cb, rfl, hm⟩ := hb
  by_cases hn : A.length = B.length
  · rcases hl with rfl | ⟨ga, oa, rfl, hga, hla⟩
    · obtain rfl : B = [] := List.eq_nil_of_length_eq_zero (by simpa using hn.symm)
      rw [eqB_yes rfl]
      exact rSpans_nil _ _ _ _ w
    · rcases hm with rfl | ⟨gb, ob, rfl, hgb, hlb⟩
      · obtain rfl : A = [] := List.eq_nil_of_length_eq_zero (by simpa using hn)
        rw [eqB_yes rfl]
        exact rSpans_nil _ _ _ _ w
      · exact rSpans_walk A B hn hsz ga oa ca gb ob cb w hga hgb hla hlb
  · rw [eqB_no fun e => hn (by rw [e])]
    exact rSpans_len _ _ _ _ _ _ hn w

set_option maxHeartbeats 3200000 in
theorem rDeps_walk (A B : List Dp) (hAB : A.length = B.length) (hsz : A.length ≤ 9223372036854775807) (ga oa ca gb ob cb : Nat) (w : World) (hla : ∀ i (h : i < A.length), ∃ u, DpIn w ga (oa + i * 2) A[i] u) (hlb : ∀ i (h : i < B.length), ∃ u, DpIn w gb (ob + i * 2) B[i] u) :
    Calls Tryz.prog 16 #[.slice (some ⟨ga, oa, none⟩) A.length ca, .slice (some ⟨gb, ob, none⟩) B.length cb] w fun e w' => e = .returned (.bool (eqB A B)) ∧ Below w.heap.size w w' := by
  have HL : Hid (∀ w1, Below w.heap.size w w1 → ∀ i (h : i < A.length) (h2 : i < B.length), (∃ u, DpIn w1 ga (oa + i * 2) A[i] u) ∧ ∃ u, DpIn w1 gb (ob + i * 2) B[i] u) := fun w1 hb i hi hi2 => ⟨(hla i hi).imp fun u h => h.below hb, (hlb i hi2).imp fun u h => h.below hb⟩
  have HAB := hide3 hAB
  clear hla hlb
  rw [← hAB]
  clear hAB
  go_enter Tryz.func16, Tryz.ntmps16
  go_wp2_with fail
  go_loopw [5] (fun i wr => ∃ k : Nat, k ≤ A.length ∧ i = .int .i64 k ∧ Below w.heap.size w wr ∧ ∀ j (h : j < k) (h1 : j < A.length) (h2 : j < B.length), A[j] = B[j]) (fun i _ => A.length - (intOf i).toNat)
  case atStart => exact ⟨0, Nat.zero_le _, rfl, Below.refl _ _, fun j h => by omega⟩
  case round =>
    obtain ⟨k, hk, rfl, hb, hall⟩ := hrel
    have HALL := hide3 hall
    have HB := hide3 hb
    clear hall
    by_cases hlt : k < A.length
    · have hltB : k < B.length := HAB.out ▸ hlt
      obtain ⟨⟨u, hu⟩, ⟨v, hv⟩⟩ := HL.out wr hb k hlt hltB
      have HO : Hid (Below w.heap.size w wr ∧ DpIn wr ga (oa + k * 2) A[k] u ∧ DpIn wr gb (ob + k * 2) B[k] v) := ⟨hb, hu, hv⟩
      have HK : Hid (KeepP fun w1 => Below w.heap.size w w1 ∧ DpIn w1 ga (oa + k * 2) A[k] u ∧ DpIn w1 gb (ob + k * 2) B[k] v) := (keepBelow w).and ((keepDp _ _ _ _).and (keepDp _ _ _ _))
      have HC : Hid (∀ w1, (Below w.heap.size w w1 ∧ DpIn w1 ga (oa + k * 2) A[k] u ∧ DpIn w1 gb (ob + k * 2) B[k] v) → Calls Tryz.prog 33 #[u, v] w1 fun x w' => x = .returned (.bool (eqB A[k].rg B[k].rg)) ∧ Below w1.heap.size w1 w') := fun w1 h => rSpans_any h.2.1.2.2.1.1.1 h.2.2.2.2.1.1.1 h.2.1.2.2.1.2
      have HNE : Hid (A[k] ≠ B[k] → eqB A B = false) := fun h => eqB_no fun e => by subst e; exact h rfl
      have HST : Hid (A[k] = B[k] → ∀ j (h : j < k + 1) (h1 : j < A.length) (h2 : j < B.length), A[j] = B[j]) := fun h j hj h1 h2 => by
        rcases Nat.lt_or_ge j k with hjk | hjk
        · exact HALL.out j hjk h1 h2
        · obtain rfl : j = k := by omega
          exact h
      obtain ⟨au, cu, rfl⟩ := hu.2.2.1.1.1.sl
      obtain ⟨av, cv, rfl⟩ := hv.2.2.1.1.1.sl
      clear hu hv
      generalize A[k] = d at *
      generalize B[k] = e at *
      obtain ⟨n, r⟩ := d
      obtain ⟨m, q⟩ := e
      simp only at *
      by_cases hn : n = m
      · subst hn
        have hq : (n.toList == n.toList) = true := by simp
        cases hr : eqB r q
        · have HR := hide3 (HNE.out fun e => by injection e with _ e2; rw [eqB_yes e2] at hr; cases hr)
          rw [hr] at HC
          clear hb HNE HST HALL hr
          go_wp2_with fail
          refine wp_region_keep HK.out (by kernel_rfl) (by kernel_rfl) (by first | exact HO.out | exact HK.out.drew HO.out) ?_
          intro C hin hout
          have HIN := hide3 hin
          have HOUT := hide3 hout
          clear hin hout HO
          repeat
            (with_reducible refine wpQuiet_step (fun K hK => ?_)
             go_simp
             first
               | (refine hK _ ?_; clear hK K)
               | (apply Exists.intro; refine ⟨fun w1 hC => ?_, hK _ ?_⟩; (focus ((first | (go_at_call 33; with_reducible exact callC' HIN.out HOUT.out HK.out HC.out w1 hC) | (exact rfl) | (obtain ⟨hb1, ⟨p0, p1, ph, p3⟩, ⟨q0, q1, qh, q3⟩⟩ := HOUT.out w1 hC; clear hC; go_simp; first | done | exact rfl)); done)); clear hK K))
          refine wpQuiet_nil ?_
          intro wn hC
          have HO := hide3 (HOUT.out _ hC)
          clear hC HIN HOUT C
          obtain ⟨hb1, ⟨p0, p1, ph, p3⟩, ⟨q0, q1, qh, q3⟩⟩ := HO.out
          go_wp2
          go_ret
          exact ⟨ret_bool HR.out.symm, HO.out.1⟩
        · have HR := hide3 (HST.out (by rw [eqB_iff.1 hr]))
          rw [hr] at HC
          clear hb HNE HST HALL hr
          go_wp2_with fail
          refine wp_region_keep HK.out (by kernel_rfl) (by kernel_rfl) (by first | exact HO.out | exact HK.out.drew HO.out) ?_
          intro C hin hout
          have HIN := hide3 hin
          have HOUT := hide3 hout
          clear hin hout HO
          repeat
            (with_reducible refine wpQuiet_step (fun K hK => ?_)
             go_simp
             first
               | (refine hK _ ?_; clear hK K)
               | (apply Exists.intro; refine ⟨fun w1 hC => ?_, hK _ ?_⟩; (focus ((first | (go_at_call 33; with_reducible exact callC' HIN.out HOUT.out HK.out HC.out w1 hC) | (exact rfl) | (obtain ⟨hb1, ⟨p0, p1, ph, p3⟩, ⟨q0, q1, qh, q3⟩⟩ := HOUT.out w1 hC; clear hC; go_simp; first | done | exact rfl)); done)); clear hK K))
          refine wpQuiet_nil ?_
          intro wn hC
          have HO := hide3 (HOUT.out _ hC)
          clear hC HIN HOUT C
          obtain ⟨hb1, ⟨p0, p1, ph, p3⟩, ⟨q0, q1, qh, q3⟩⟩ := HO.out
          go_wp2
          exact ⟨⟨k + 1, by omega, by go_num, HO.out.1, HR.out⟩, by simp [intOf]; omega⟩
      · have HR := hide3 (HNE.out fun e => hn (by injection e))
        have hq : (n.toList == m.toList) = false := beq_eq_false_iff_ne.2 fun e => hn (bytes_same e)
        clear hb HNE HST HALL HC
        go_wp2_with fail
        refine wp_region_keep HK.out (by kernel_rfl) (by kernel_rfl) (by first | exact HO.out | exact HK.out.drew HO.out) ?_
        intro C hin hout
        have HIN := hide3 hin
        have HOUT := hide3 hout
        clear hin hout HO
        repeat
          (with_reducible refine wpQuiet_step (fun K hK => ?_)
           go_simp
           first
             | (refine hK _ ?_; clear hK K)
             | (apply Exists.intro; refine ⟨fun w1 hC => ?_, hK _ ?_⟩; (focus ((first | (exact rfl) | (obtain ⟨hb1, ⟨p0, p1, ph, p3⟩, ⟨q0, q1, qh, q3⟩⟩ := HOUT.out w1 hC; clear hC; go_simp; first | done | exact rfl)); done)); clear hK K))
        refine wpQuiet_nil ?_
        intro wn hC
        have HO := hide3 (HOUT.out _ hC)
        clear hC HIN HOUT C
        obtain ⟨hb1, ⟨p0, p1, ph, p3⟩, ⟨q0, q1, qh, q3⟩⟩ := HO.out
        go_wp2
        go_ret
        exact ⟨ret_bool HR.out.symm, HO.out.1⟩
    · have hke : k = A.length := by omega
      subst hke
      have HR : Hid (eqB A B = true) := eqB_yes (List.ext_getElem HAB.out fun j h1 h2 => HALL.out j h1 h1 h2)
      clear hb
      go_wp2
      go_ret
      exact ⟨ret_bool HR.out.symm, HB.out⟩

theorem rDeps_nil (ad bd : Option Addr) (ca cb : Nat) (w : World) :
    Calls Tryz.prog 16 #[.slice ad 0 ca, .slice bd 0 cb] w fun e w' => e = .returned (.bool true) ∧ Below w.heap.size w w' := by
  go_enter Tryz.func16, Tryz.ntmps16
  go_wp2_with fail
  go_loop [5] (fun i => i = .int .i64 0) (fun _ => 0)
  case atStart => rfl
  case round =>
    subst hrel
    go_wp2
    go_ret
    exact ⟨rfl, Below.refl _ _⟩

theorem rDeps_len (ad bd : Option Addr) (n m ca cb : Nat) (h : n ≠ m) (w : World) :
    Calls Tryz.prog 16 #[.slice ad n ca, .slice bd m cb] w fun e w' => e = .returned (.bool false) ∧ Below w.heap.size w w' := by
  have hn : ((n : Int) = (m : Int)) = False := by simp; omega
  go_enter Tryz.func16, Tryz.ntmps16
  go_wp2
  go_ret
  exact ⟨rfl, Below.refl _ _⟩

theorem rDeps_any {A B : List Dp} {va vb : Value} {w : World} (ha : DepsAt w va A) (hb : DepsAt w vb B) (hsz : A.length ≤ 9223372036854775807) :
    Calls Tryz.prog 16 #[va, vb] w fun e w' => e = .returned (.bool (eqB A B)) ∧ Below w.heap.size w w' := by
  obtain ⟨ad, ca, rfl, _, hl⟩ := ha
  obtain ⟨bd, cb, rfl, _, hm⟩ := hb
  by_cases hn : A.length = B.length
  · rcases hl with rfl | ⟨ga, oa, rfl, hga, hla⟩
    · obtain rfl : B = [] := List.eq_nil_of_length_eq_zero (by simpa using hn.symm)
      rw [eqB_yes rfl]
      exact rDeps_nil _ _ _ _ w
    · rcases hm with rfl | ⟨gb, ob, rfl, hgb, hlb⟩
      · obtain rfl : A = [] := List.eq_nil_of_length_eq_zero (by simpa using hn)
        rw [eqB_yes rfl]
        exact rDeps_nil _ _ _ _ w
      · exact rDeps_walk A B hn hsz ga oa ca gb ob cb w hla hlb
  · rw [eqB_no fun e => hn (by rw [e])]
    exact rDeps_len _ _ _ _ _ _ hn w
end Go.Proofs.YthoacfmfpbngkaaGreatDoor
namespace Go.Proofs.YthoacfmfpbngkaaGreatDoor
open Go.RowKit
set_option maxRecDepth 100000

theorem drop_byte {s : ByteArray} {k : Nat} (h : k < s.size) : s.toList.drop k = s[k] :: s.toList.drop (k + 1) := by
  have := List.drop_eq_getElem_cons (l := s.data.toList) (i := k) (by rw [list_size]; exact h)
  rw [ByteArray.toList_eq]
  exact this
theorem drop_all {s : ByteArray} {k : Nat} (h : s.size ≤ k) : s.toList.drop k = [] := by
  rw [ByteArray.toList_eq]
  exact List.drop_of_length_le (by rw [list_size]; exact h)
theorem bl_hit {a b : ByteArray} {k : Nat} (ha : k < a.size) (hb : k < b.size) (h : a[k] ≠ b[k]) : Op.bytesLess (a.toList.drop k) (b.toList.drop k) = decide (a[k].toNat < b[k].toNat) := by
  rw [drop_byte ha, drop_byte hb]
  show (decide (a[k] < b[k]) || (a[k] == b[k] && _)) = _
  rw [show (a[k] == b[k]) = false from beq_eq_false_iff_ne.2 h, Bool.false_and, Bool.or_false]
  rfl
theorem bl_step {a b : ByteArray} {k : Nat} (ha : k < a.size) (hb : k < b.size) (h : a[k] = b[k]) : Op.bytesLess (a.toList.drop k) (b.toList.drop k) = Op.bytesLess (a.toList.drop (k + 1)) (b.toList.drop (k + 1)) := by
  rw [drop_byte ha, drop_byte hb, h]
  show (decide (b[k] < b[k]) || (b[k] == b[k] && _)) = _
  simp
theorem bl_end {a b : ByteArray} {k : Nat} (hka : k ≤ a.size) (hkb : k ≤ b.size) (h : ¬ (k < a.size ∧ k < b.size)) : Op.bytesLess (a.toList.drop k) (b.toList.drop k) = decide (a.size < b.size) := by
  by_cases hb : k < b.size
  · have ha : a.size = k := by omega
    rw [drop_all (by omega), drop_byte hb]
    show true = _
    rw [decide_eq_true (by omega)]
  · rw [drop_all (s := b) (by omega)]
    rw [decide_eq_false (by omega)]
    cases List.drop k a.toList <;> rfl

set_option maxHeartbeats 1600000 in
theorem rLess_any (a b : ByteArray) (w : World) (ha : a.size ≤ 9223372036854775807) : Calls Tryz.prog 49 #[.string a, .string b] w fun e w' => e = .returned (.bool (ltS a b)) ∧ Below w.heap.size w w' := by
  have HR0 : Hid (ltS a b = Op.bytesLess (a.toList.drop 0) (b.toList.drop 0)) := rfl
  have HK : Hid (KeepP fun w1 => Below w.heap.size w w1) := keepBelow w
  go_enter Tryz.func49, Tryz.ntmps49
  go_wp2_with fail
  go_loopw [5] (fun i wr => ∃ k : Nat, k ≤ a.size ∧ k ≤ b.size ∧ i = .int .i64 k ∧ Below w.heap.size w wr ∧ ltS a b = Op.bytesLess (a.toList.drop k) (b.toList.drop k)) (fun i _ => a.size - (intOf i).toNat)
  case atStart => exact ⟨0, Nat.zero_le _, Nat.zero_le _, rfl, Below.refl _ _, HR0.out⟩
  case round =>
    clear HR0
    obtain ⟨k, hka, hkb, rfl, hbw, hrl⟩ := hrel
    have HO := hide3 hbw
    have HRL := hide3 hrl
    clear hbw hrl
    by_cases hh : k < a.size ∧ k < b.size
    · obtain ⟨h1, h2⟩ := hh
      have g1 : (k : Int) < (a.size : Int) := by omega
      have g2 : (k : Int) < (b.size : Int) := by omega
      by_cases he : a[k] = b[k]
      · have HS : Hid (ltS a b = Op.bytesLess (a.toList.drop (k + 1)) (b.toList.drop (k + 1))) := by unfold Hid; rw [HRL.out, bl_step h1 h2 he]
        have e1 : ((a[k].toNat : Int) == (b[k].toNat : Int)) = true := by rw [he]; simp
        clear he
        go_wp2_with fail
        refine wp_region_keep HK.out (by kernel_rfl) (by kernel_rfl) (by first | exact HO.out | exact HK.out.drew HO.out) ?_
        intro C hin hout
        have HIN := hide3 hin
        have HOUT := hide3 hout
        clear hin hout HO
        repeat
          (with_reducible refine wpQuiet_step (fun K hK => ?_)
           go_simp
           first
             | (refine hK _ ?_; clear hK K)
             | (apply Exists.intro; refine ⟨fun w1 hC => ?_, hK _ ?_⟩; (focus ((first | (exact rfl) | (obtain hb1 := HOUT.out w1 hC; clear hC; go_simp; first | done | exact rfl)); done)); clear hK K))
        refine wpQuiet_nil ?_
        intro wn hC
        have HO := hide3 (HOUT.out _ hC)
        clear hC HIN HOUT C
        obtain hb1 := HO.out
        go_wp2
        exact ⟨⟨k + 1, by omega, by omega, by go_num, HO.out, HS.out⟩, by simp [intOf]; omega⟩
      · have HS : Hid (ltS a b = decide (a[k].toNat < b[k].toNat)) := by unfold Hid; rw [HRL.out, bl_hit h1 h2 he]
        have e1 : ((a[k].toNat : Int) == (b[k].toNat : Int)) = false := by
          rw [beq_eq_false_iff_ne]
          intro e
          exact he (UInt8.toNat_inj.1 (by omega))
        clear he
        by_cases hl : a[k].toNat < b[k].toNat
        · have HR : Hid (ltS a b = true) := by unfold Hid; rw [HS.out, decide_eq_true hl]
          have e2 : decide ((a[k].toNat : Int) < (b[k].toNat : Int)) = true := decide_eq_true (by omega)
          go_wp2_with fail
          refine wp_region_keep HK.out (by kernel_rfl) (by kernel_rfl) (by first | exact HO.out | exact HK.out.drew HO.out) ?_
          intro C hin hout
          have HIN := hide3 hin
          have HOUT := hide3 hout
          clear hin hout HO
          repeat
            (with_reducible refine wpQuiet_step (fun K hK => ?_)
             go_simp
             first
               | (refine hK _ ?_; clear hK K)
               | (apply Exists.intro; refine ⟨fun w1 hC => ?_, hK _ ?_⟩; (focus ((first | (exact rfl) | (obtain hb1 := HOUT.out w1 hC; clear hC; go_simp; first | done | exact rfl)); done)); clear hK K))
          refine wpQuiet_nil ?_
          intro wn hC
          have HO := hide3 (HOUT.out _ hC)
          clear hC HIN HOUT C
          obtain hb1 := HO.out
          go_wp2_with fail
          refine wp_region_keep HK.out (by kernel_rfl) (by kernel_rfl) (by first | exact HO.out | exact HK.out.drew HO.out) ?_
          intro C hin hout
          have HIN := hide3 hin
          have HOUT := hide3 hout
          clear hin hout HO
          repeat
            (with_reducible refine wpQuiet_step (fun K hK => ?_)
             go_simp
             first
               | (refine hK _ ?_; clear hK K)
               | (apply Exists.intro; refine ⟨fun w1 hC => ?_, hK _ ?_⟩; (focus ((first | (exact rfl) | (obtain hb2 := HOUT.out w1 hC; clear hC; go_simp; first | done | exact rfl)); done)); clear hK K))
          refine wpQuiet_nil ?_
          intro wm hC
          have HO := hide3 (HOUT.out _ hC)
          clear hC HIN HOUT C
          obtain hb2 := HO.out
          go_wp2
          go_ret
          exact ⟨ret_bool HR.out.symm, HO.out⟩
        · have HR : Hid (ltS a b = false) := by unfold Hid; rw [HS.out, decide_eq_false hl]
          have e2 : decide ((a[k].toNat : Int) < (b[k].toNat : Int)) = false := decide_eq_false (by omega)
          go_wp2_with fail
          refine wp_region_keep HK.out (by kernel_rfl) (by kernel_rfl) (by first | exact HO.out | exact HK.out.drew HO.out) ?_
          intro C hin hout
          have HIN := hide3 hin
          have HOUT := hide3 hout
          clear hin hout HO
          repeat
            (with_reducible refine wpQuiet_step (fun K hK => ?_)
             go_simp
             first
               | (refine hK _ ?_; clear hK K)
               | (apply Exists.intro; refine ⟨fun w1 hC => ?_, hK _ ?_⟩; (focus ((first | (exact rfl) | (obtain hb1 := HOUT.out w1 hC; clear hC; go_simp; first | done | exact rfl)); done)); clear hK K))
          refine wpQuiet_nil ?_
          intro wn hC
          have HO := hide3 (HOUT.out _ hC)
          clear hC HIN HOUT C
          obtain hb1 := HO.out
          go_wp2_with fail
          refine wp_region_keep HK.out (by kernel_rfl) (by kernel_rfl) (by first | exact HO.out | exact HK.out.drew HO.out) ?_
          intro C hin hout
          have HIN := hide3 hin
          have HOUT := hide3 hout
          clear hin hout HO
          repeat
            (with_reducible refine wpQuiet_step (fun K hK => ?_)
             go_simp
             first
               | (refine hK _ ?_; clear hK K)
               | (apply Exists.intro; refine ⟨fun w1 hC => ?_, hK _ ?_⟩; (focus ((first | (exact rfl) | (obtain hb2 := HOUT.out w1 hC; clear hC; go_simp; first | done | exact rfl)); done)); clear hK K))
          refine wpQuiet_nil ?_
          intro wm hC
          have HO := hide3 (HOUT.out _ hC)
          clear hC HIN HOUT C
          obtain hb2 := HO.out
          go_wp2
          go_ret
          exact ⟨ret_bool HR.out.symm, HO.out⟩
    · have HR : Hid (ltS a b = decide (a.size < b.size)) := by
        unfold Hid
        rw [HRL.out, bl_end hka hkb hh]
      by_cases h1 : k < a.size
      · have h2 : decide ((k : Int) < (b.size : Int)) = false := decide_eq_false (by omega)
        have g1 : (k : Int) < (a.size : Int) := by omega
        go_wp2
        go_ret
        exact ⟨ret_bool HR.out.symm, HO.out⟩
      · have h2 : decide ((k : Int) < (a.size : Int)) = false := decide_eq_false (by omega)
        go_wp2
        go_ret
        exact ⟨ret_bool HR.out.symm, HO.out⟩

/-- No name stands in both. -/
def apartB (A B : List Dp) : Bool := A.all fun d => B.all fun e => !(d.nm.toList == e.nm.toList)
theorem apart_no {A B : List Dp} {i k : Nat} (hi : i < A.length) (hk : k < B.length) (h : (A[i].nm.toList == B[k].nm.toList) = true) : apartB A B = false := by
  rw [Bool.eq_false_iff]
  intro ha
  have := List.all_eq_true.1 (List.all_eq_true.1 ha _ (List.getElem_mem hi)) _ (List.getElem_mem hk)
  rw [h] at this
  cases this

set_option maxHeartbeats 3200000 in
theorem rApart_any {A B : List Dp} {va vb : Value} {w : World} (ha : DepsAt w va A) (hb : DepsAt w vb B) (hz : A.length ≤ 1000000 ∧ B.length ≤ 1000000) : Calls Tryz.prog 31 #[va, vb] w fun e w' => e = .returned (.bool (apartB A B)) ∧ Below w.heap.size w w' := by
  have HA : Hid (∀ w1, Below w.heap.size w w1 → DepsAt w1 va A) := fun w1 h => ha.below h
  have HB : Hid (∀ w1, Below w.heap.size w w1 → DepsAt w1 vb B) := fun w1 h => hb.below h
  obtain ⟨aa, ca, rfl⟩ := ha.sl
  obtain ⟨ab, cb, rfl⟩ := hb.sl
  obtain ⟨z1, z2⟩ := hz
  clear ha hb
  go_enter Tryz.func31, Tryz.ntmps31
  go_wp2_with fail
  go_loopw [5] (fun i wr => ∃ k : Nat, k ≤ A.length ∧ i = .int .i64 k ∧ Below w.heap.size w wr ∧ apartB A B = apartB (A.drop k) B) (fun i _ => A.length - (intOf i).toNat)
  case atStart => exact ⟨0, Nat.zero_le _, rfl, Below.refl _ _, rfl⟩
  case round =>
    obtain ⟨k, hk, rfl, hbw, hap⟩ := hrel
    have HBW := hide3 hbw
    have HAP := hide3 hap
    clear hap
    by_cases hlt : k < A.length
    · have HAPK : Hid (apartB A B = ((B.all fun e => !(A[k].nm.toList == e.nm.toList)) && apartB (A.drop (k + 1)) B)) := by
        unfold Hid
        rw [HAP.out, List.drop_eq_getElem_cons hlt]
        rfl
      clear hbw HAP
      go_wp2_with fail
      go_loopw [6] (fun j wq => ∃ m : Nat, m ≤ B.length ∧ j = .int .i64 m ∧ Below w.heap.size w wq ∧ (B.all fun e => !(A[k].nm.toList == e.nm.toList)) = ((B.drop m).all fun e => !(A[k].nm.toList == e.nm.toList))) (fun j _ => B.length - (intOf j).toNat)
      case atStart => exact ⟨0, Nat.zero_le _, rfl, HBW.out, rfl⟩
      case round =>
        clear HBW
        obtain ⟨m, hm, rfl, hbw, hal⟩ := hrel
        have HAL := hide3 hal
        have HBW := hide3 hbw
        clear hal
        by_cases hml : m < B.length
        · obtain ⟨ad1, cap1, e1, _, h1⟩ := HA.out wr hbw
          cases e1
          obtain ⟨ad2, cap2, e2, _, h2⟩ := HB.out wr hbw
          cases e2
          obtain ⟨ga, oa, rfl, _, h1⟩ : ∃ g o, aa = some ⟨g, o, none⟩ ∧ g < wr.heap.size ∧ ∀ i (h : i < A.length), ∃ u, DpIn wr g (o + i * 2) A[i] u := by
            rcases h1 with h | h
            · rw [h] at hlt; simp at hlt
            · exact h
          obtain ⟨gb, ob, rfl, _, h2⟩ : ∃ g o, ab = some ⟨g, o, none⟩ ∧ g < wr.heap.size ∧ ∀ i (h : i < B.length), ∃ u, DpIn wr g (o + i * 2) B[i] u := by
            rcases h2 with h | h
            · rw [h] at hml; simp at hml
            · exact h
          obtain ⟨u, hu⟩ := h1 k hlt
          obtain ⟨v, hv⟩ := h2 m hml
          have HO : Hid (Below w.heap.size w wr ∧ DpIn wr ga (oa + k * 2) A[k] u ∧ DpIn wr gb (ob + m * 2) B[m] v) := ⟨hbw, hu, hv⟩
          have HK : Hid (KeepP fun w1 => Below w.heap.size w w1 ∧ DpIn w1 ga (oa + k * 2) A[k] u ∧ DpIn w1 gb (ob + m * 2) B[m] v) := (keepBelow w).and ((keepDp _ _ _ _).and (keepDp _ _ _ _))
          have HNO : Hid ((A[k].nm.toList == B[m].nm.toList) = true → apartB A B = false) := fun h => apart_no hlt hml h
          have HST : Hid ((A[k].nm.toList == B[m].nm.toList) = false → (B.all fun e => !(A[k].nm.toList == e.nm.toList)) = ((B.drop (m + 1)).all fun e => !(A[k].nm.toList == e.nm.toList))) := fun h => by
            rw [HAL.out, List.drop_eq_getElem_cons hml, List.all_cons, h]
            rfl
          clear h1 h2 hu hv hbw HAL
          cases hq : (A[k].nm.toList == B[m].nm.toList)
          · have HR := hide3 (HST.out hq)
            clear HST HNO HAPK
            generalize A[k] = d at *
            generalize B[m] = e at *
            go_wp2_with fail
            refine wp_region_keep HK.out (by kernel_rfl) (by kernel_rfl) (by first | exact HO.out | exact HK.out.drew HO.out) ?_
            intro C hin hout
            have HIN := hide3 hin
            have HOUT := hide3 hout
            clear hin hout HO
            repeat
              (with_reducible refine wpQuiet_step (fun K hK => ?_)
               go_simp
               first
                 | (refine hK _ ?_; clear hK K)
                 | (apply Exists.intro; refine ⟨fun w1 hC => ?_, hK _ ?_⟩; (focus ((first | (exact rfl) | (obtain ⟨hb1, ⟨p0, p1, ph, p3⟩, ⟨q0, q1, qh, q3⟩⟩ := HOUT.out w1 hC; clear hC; go_simp; first | done | exact rfl)); done)); clear hK K))
            refine wpQuiet_nil ?_
            intro wn hC
            have HO := hide3 (HOUT.out _ hC)
            clear hC HIN HOUT C
            obtain ⟨hb1, ⟨p0, p1, ph, p3⟩, ⟨q0, q1, qh, q3⟩⟩ := HO.out
            go_wp2
            exact ⟨⟨m + 1, by omega, by go_num, HO.out.1, HR.out⟩, by simp [intOf]; omega⟩
          · have HR := hide3 (HNO.out hq)
            clear HST HNO HAPK
            generalize A[k] = d at *
            generalize B[m] = e at *
            go_wp2_with fail
            refine wp_region_keep HK.out (by kernel_rfl) (by kernel_rfl) (by first | exact HO.out | exact HK.out.drew HO.out) ?_
            intro C hin hout
            have HIN := hide3 hin
            have HOUT := hide3 hout
            clear hin hout HO
            repeat
              (with_reducible refine wpQuiet_step (fun K hK => ?_)
               go_simp
               first
                 | (refine hK _ ?_; clear hK K)
                 | (apply Exists.intro; refine ⟨fun w1 hC => ?_, hK _ ?_⟩; (focus ((first | (exact rfl) | (obtain ⟨hb1, ⟨p0, p1, ph, p3⟩, ⟨q0, q1, qh, q3⟩⟩ := HOUT.out w1 hC; clear hC; go_simp; first | done | exact rfl)); done)); clear hK K))
            refine wpQuiet_nil ?_
            intro wn hC
            have HO := hide3 (HOUT.out _ hC)
            clear hC HIN HOUT C
            obtain ⟨hb1, ⟨p0, p1, ph, p3⟩, ⟨q0, q1, qh, q3⟩⟩ := HO.out
            go_wp2
            go_ret
            exact ⟨ret_bool HR.out.symm, HO.out.1⟩
        · have HN : Hid (apartB A B = apartB (A.drop (k + 1)) B) := by
            unfold Hid
            rw [HAPK.out, HAL.out, List.drop_of_length_le (by omega)]
            rfl
          clear hbw
          go_wp2
          exact ⟨⟨k + 1, by omega, by go_num, HBW.out, HN.out⟩, by simp [intOf]; omega⟩
    · have HR : Hid (apartB A B = true) := by unfold Hid; rw [HAP.out, List.drop_of_length_le (by omega)]; rfl
      clear hbw
      go_wp2
      go_ret
      exact ⟨ret_bool HR.out.symm, HBW.out⟩
end Go.Proofs.YthoacfmfpbngkaaGreatDoor
