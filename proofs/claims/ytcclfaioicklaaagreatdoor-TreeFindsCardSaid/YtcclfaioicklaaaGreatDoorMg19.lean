/- Te3, Rk1, Rk3, Kn2, laid in one text. -/
import Derived.Test.YtcclfaioicklaaaGreatDoorMg18
namespace Go.Proofs.YtcclfaioicklaaaGreatDoor
open Go.Shelf Go.RowKit Go.Lib Go.Sort
set_option maxRecDepth 100000

/-- The path of a place. -/
def paN (L : List Dr) (i : Nat) : List ByteArray := match L[i]? with
  | some d => d.pa
  | none => []
theorem paN_at {L : List Dr} {i : Nat} (h : i < L.length) : paN L i = L[i].pa := by unfold paN; rw [List.getElem?_eq_getElem h]
/-- Those of the first k that stand in a directory's modules. -/
noncomputable def inK (L : List Dr) (a k : Nat) : List Nat := (List.range k).filter fun i => stB (paN L i) (paN L a)
theorem inK_yes {L : List Dr} {a k : Nat} (h : stB (paN L k) (paN L a) = true) : inK L a (k + 1) = inK L a k ++ [k] := by
  unfold inK
  rw [List.range_succ, List.filter_append]
  simp [h]
theorem inK_no {L : List Dr} {a k : Nat} (h : stB (paN L k) (paN L a) = false) : inK L a (k + 1) = inK L a k := by
  unfold inK
  rw [List.range_succ, List.filter_append]
  simp [h]
theorem inK_len (L : List Dr) (a k : Nat) : (inK L a k).length ≤ k := by
  unfold inK
  exact Nat.le_trans (List.length_filter_le _ _) (by simp)
theorem inK_mem {L : List Dr} {a k i : Nat} : i ∈ inK L a k ↔ i < k ∧ stB (paN L i) (paN L a) = true := by
  unfold inK
  rw [List.mem_filter, List.mem_range]
theorem inK_nodup (L : List Dr) (a k : Nat) : (inK L a k).Nodup := List.Pairwise.filter _ List.nodup_range
/-- What Inside answers. -/
def Ins (L : List Dr) (a : Nat) (ts : List Nat) : Prop := ts.Perm (inK L a L.length) ∧ ts.Pairwise fun i j => cmpI L i j < 0
theorem Ins.uniq {L : List Dr} {a : Nat} {s t : List Nat} (hs : Ins L a s) (ht : Ins L a t) : s = t :=
  List.Perm.eq_of_pairwise (le := fun i j => cmpI L i j < 0) (fun _ _ _ _ h1 h2 => absurd h2 ((ordI L).asymm h1)) hs.2 ht.2 (hs.1.trans ht.1.symm)
theorem Ins.mem {L : List Dr} {a : Nat} {s : List Nat} (h : Ins L a s) {i : Nat} : i ∈ s ↔ i < L.length ∧ stB (paN L i) (paN L a) = true := (h.1.mem_iff).trans inK_mem
theorem Ins.nodup {L : List Dr} {a : Nat} {s : List Nat} (h : Ins L a s) : s.Nodup := h.1.nodup_iff.2 (inK_nodup _ _ _)
def InsV (L : List Dr) (at_ : Int) (ts : List Nat) : Prop := (0 ≤ at_ ∧ at_ < L.length → Ins L at_.toNat ts) ∧ (¬ (0 ≤ at_ ∧ at_ < L.length) → ts = [])

/-- Places as cells. -/
def encI (i : Nat) : Value := .int .i64 (i : Int)
/-- Places in a row of one's own. -/
def OwnIs (w : World) (B : Nat) (v : Value) (ts : List Nat) : Prop := w.ownsRow B 3 1 v ts.length (ts.map encI)
theorem OwnIs.below {w w' : World} {B : Nat} {v : Value} {ts : List Nat} (h : OwnIs w B v ts) (hb : Below w.heap.size w w') : OwnIs w' B v ts := by
  refine ⟨h.1, ?_⟩
  rcases h.2 with hn | ⟨g, cap, cur, rfl, hB, hgg, r⟩
  · exact Or.inl hn
  · exact Or.inr ⟨g, cap, cur, rfl, hB, (hb.block g (Array.getElem?_eq_some_iff.1 hgg).1).trans hgg, r⟩
theorem keepOwnIs (B : Nat) (v : Value) (ts : List Nat) : KeepP fun w1 => OwnIs w1 B v ts := fun _ _ h hb => h.below hb
theorem OwnIs.base {w : World} {B B' : Nat} {v : Value} {ts : List Nat} (h : OwnIs w B v ts) (hb : B' ≤ B) : OwnIs w B' v ts := by
  refine ⟨h.1, h.2.imp id ?_⟩
  rintro ⟨g, cap, cur, e, hB, r⟩
  exact ⟨g, cap, cur, e, Nat.le_trans hb hB, r⟩
theorem OwnIs.nil (w : World) (B : Nat) : OwnIs w B (.slice none 0 0) [] := ⟨rfl, Or.inl ⟨rfl, rfl⟩⟩
theorem OwnIs.form {w : World} {B : Nat} {v : Value} {ts : List Nat} (h : OwnIs w B v ts) : ∃ ad cap, v = .slice ad ts.length cap := by
  rcases h.2 with ⟨rfl, hn⟩ | ⟨g, cap, cur, rfl, _⟩
  · exact ⟨none, 0, by rw [hn]⟩
  · exact ⟨_, cap, rfl⟩

theorem isPlace_any {L : List Dr} {v : Value} {w : World} (h : ∃ ad cap, v = .slice ad L.length cap) (k : Int) :
    Calls Tryz.prog 41 #[.agg #[v], .int .i64 k] w fun e w' => e = .returned (.bool (decide (0 ≤ k ∧ k < L.length))) ∧ Below w.heap.size w w' := by
  obtain ⟨ad, cap, rfl⟩ := h
  by_cases h0 : 0 ≤ k
  · by_cases h1 : k < (L.length : Int)
    · have HR : Hid (decide (0 ≤ k ∧ k < L.length) = true) := decide_eq_true ⟨h0, h1⟩
      rw [HR.out]
      clear HR
      generalize L.length = n at *
      go_enter Tryz.func41, Tryz.ntmps41
      go_wp2
      go_ret
      exact ⟨rfl, boxB _ _⟩
    · have HR : Hid (decide (0 ≤ k ∧ k < L.length) = false) := decide_eq_false (fun q => h1 q.2)
      rw [HR.out]
      clear HR
      generalize L.length = n at *
      go_enter Tryz.func41, Tryz.ntmps41
      go_wp2
      go_ret
      exact ⟨rfl, boxB _ _⟩
  · have HR : Hid (decide (0 ≤ k ∧ k < L.length) = false) := decide_eq_false (fun q => h0 q.1)
    rw [HR.out]
    clear HR
    generalize L.length = n at *
    go_enter Tryz.func41, Tryz.ntmps41
    go_wp2
    go_ret
    exact ⟨rfl, boxB _ _⟩

/-- Places of one's own are sorted. -/
theorem sortI_any {L : List Dr} {vt : Value} {W0 w : World} {Bt B : Nat} {v : Value} {xs : List Nat} (hd : DirsAt W0 vt L) (hbx : BxT W0 Bt vt) (hf : FitD L) (hB : W0.heap.size ≤ B) (hb : Below W0.heap.size W0 w) (h : OwnIs w B v xs) (hx : ∀ i ∈ xs, i < L.length ∧ 0 < (paN L i).length) (hz : xs.length < 4611686018427387904) :
    Calls Tryz.prog 44 #[v, .func (.func 45) #[] #[.pointer (some ⟨Bt, 0, none⟩)]] w fun e w' => e = .returned (.tuple #[]) ∧ ∃ ts : List Nat, ts.Perm xs ∧ (ts.Pairwise fun x y => 0 ≤ cmpI L y x) ∧ OwnIs w' B v ts ∧ w.grownBy w' v.ownBlock := by
  by_cases hn : xs = []
  · subst hn
    have hno : ∀ p c, v = .slice p 0 c → Calls Tryz.prog 44 #[v, .func (.func 45) #[] #[.pointer (some ⟨Bt, 0, none⟩)]] w fun e w' => e = .returned (.tuple #[]) ∧ w' = w := fun p c e => by
      subst e
      exact AnyF.slices_SortFunc_none { Tryz.sortI with } p c _ w
    obtain ⟨ad, cap, e⟩ := h.form
    refine (hno _ _ e).mono ?_
    rintro e w' ⟨rfl, rfl⟩
    exact ⟨rfl, [], List.Perm.refl _, List.Pairwise.nil, h, ⟨rfl, rfl, rfl, Nat.le_refl _, fun _ _ _ => rfl⟩⟩
  · haveI : Inhabited {i : Nat // i < L.length ∧ 0 < (paN L i).length} := by
      cases xs with
      | nil => exact absurd rfl hn
      | cons x _ => exact ⟨⟨x, hx x List.mem_cons_self⟩⟩
    have eg : ∀ args w, (callFunc 45 args).run Tryz.prog w = .ok (.enter 45 args) w := enters_of Tryz.func45 (by kernel_rfl) rfl
    obtain ⟨ys, hys⟩ : ∃ ys : List {i : Nat // i < L.length ∧ 0 < (paN L i).length}, ys.map (·.1) = xs := ⟨xs.attachWith _ hx, by simp⟩
    have hown : w.ownsRow B 3 1 v ys.length (ys.map fun x => encI x.1) := by
      have q := h
      unfold OwnIs at q
      rw [← hys, List.map_map, List.length_map] at q
      exact q
    have hs := sort_mem1 (α := {i : Nat // i < L.length ∧ 0 < (paN L i).length}) Tryz.sortI (fun x => encI x.1) (fun _ => rfl) (fun x y => cmpI L x.1 y.1) ((ordI L).swo fun x : {i : Nat // i < L.length ∧ 0 < (paN L i).length} => x.1) 45 #[.pointer (some ⟨Bt, 0, none⟩)] eg hown (by rw [← hys, List.length_map] at hz; exact hz) (fun W hW x y => by
      have hbW : Below W0.heap.size W0 W := hb.grown hW hb.size (fun k hk => Nat.le_trans hB (World.ownsRow.lt h k hk).1)
      exact insideCmp_gd (hd.below hbW) (keepBxT _ _ _ _ hbx hbW) hf x.2.1 y.2.1 (by rw [← paN_at x.2.1]; exact x.2.2) (by rw [← paN_at y.2.1]; exact y.2.2))
    refine hs.mono ?_
    rintro e w' ⟨rfl, ts, hp, hpw, ho, hg⟩
    refine ⟨rfl, ts.map (·.1), ?_, ?_, ?_, hg⟩
    · rw [← hys]
      exact hp.map _
    · rw [List.pairwise_map]
      refine hpw.imp fun {x y} q => ?_
      unfold ltOf at q
      rw [decide_eq_false_iff_not] at q
      exact Int.not_lt.1 q
    · unfold OwnIs
      rw [List.length_map, List.map_map]
      exact ho

theorem ins_of {L : List Dr} {a : Nat} {ts : List Nat} (hp : ts.Perm (inK L a L.length)) (hs : ts.Pairwise fun x y => 0 ≤ cmpI L y x) : Ins L a ts := by
  refine ⟨hp, ?_⟩
  have hn : ts.Nodup := hp.nodup_iff.2 (inK_nodup _ _ _)
  refine (hs.and hn).imp fun {x y} q => ?_
  rcases (ordI L).tri x y with p | p | p
  · exact p
  · exact absurd p q.2
  · exact absurd q.1 (by omega)

set_option maxHeartbeats 3200000 in
theorem tInside_in {L : List Dr} {v : Value} {w : World} (h : DirsAt w v L) (hz : L.length ≤ 1000000000000) (hf : FitD L) {a : Nat} (ha : a < L.length) :
    Calls Tryz.prog 22 #[.agg #[v], .int .i64 a] w fun e w' => ∃ v' ts, e = .returned v' ∧ OwnIs w' w.heap.size v' ts ∧ Ins L a ts ∧ Below w.heap.size w w' := by
  obtain ⟨ad, cap, rfl, hc, hsl⟩ := h.sl
  obtain ⟨g, o, rfl, ua, a1, a2, a3, hda⟩ := hsl a ha
  have HIP : Hid (∀ w1, Calls Tryz.prog 41 #[.agg #[.slice (some ⟨g, o, none⟩) L.length cap], .int .i64 a] w1 fun e w' => e = .returned (.bool true) ∧ Below w1.heap.size w1 w') := fun w1 => by
    have q := isPlace_any (L := L) (v := .slice (some ⟨g, o, none⟩) L.length cap) (w := w1) ⟨_, _, rfl⟩ (a : Int)
    rw [decide_eq_true (show (0 : Int) ≤ a ∧ (a : Int) < L.length by omega)] at q
    exact q
  have HBX : Hid (∀ w1, Below (w.alloc (.cells #[.slice (some ⟨g, o, none⟩) L.length cap] 24)).heap.size (w.alloc (.cells #[.slice (some ⟨g, o, none⟩) L.length cap] 24)) w1 → BxT w1 w.heap.size (.slice (some ⟨g, o, none⟩) L.length cap)) := fun w1 hb => keepBxT _ _ _ _ (BxT.new _ _) hb
  have HDA : Hid (∀ w1, Below (w.alloc (.cells #[.slice (some ⟨g, o, none⟩) L.length cap] 24)).heap.size (w.alloc (.cells #[.slice (some ⟨g, o, none⟩) L.length cap] 24)) w1 → DrIn w1 g (o + a * 9) L[a] ua a1 a2 a3) := fun w1 hb => (hda.below (boxB _ _)).below hb
  have HDK : Hid (∀ w1, Below (w.alloc (.cells #[.slice (some ⟨g, o, none⟩) L.length cap] 24)).heap.size (w.alloc (.cells #[.slice (some ⟨g, o, none⟩) L.length cap] 24)) w1 → ∀ k (hk : k < L.length), ∃ u v1 v2 v3, DrIn w1 g (o + k * 9) L[k] u v1 v2 v3) := fun w1 hb k hk => by
    obtain ⟨g2, o2, e2, u, v1, v2, v3, hd⟩ := hsl k hk
    cases e2
    exact ⟨u, v1, v2, v3, (hd.below (boxB _ _)).below hb⟩
  have HB0 : Hid (Below w.heap.size w (w.alloc (.cells #[.slice (some ⟨g, o, none⟩) L.length cap] 24))) := boxB _ _
  have hs0 : (w.alloc (.cells #[.slice (some ⟨g, o, none⟩) L.length cap] 24)).heap.size = w.heap.size + 1 := by simp
  have HDT : Hid (DirsAt (w.alloc (.cells #[.slice (some ⟨g, o, none⟩) L.length cap] 24)) (.slice (some ⟨g, o, none⟩) L.length cap) L) := h.below (boxB _ _)
  have HSO : Hid (∀ w1 vl xs, Below (w.alloc (.cells #[.slice (some ⟨g, o, none⟩) L.length cap] 24)).heap.size (w.alloc (.cells #[.slice (some ⟨g, o, none⟩) L.length cap] 24)) w1 → OwnIs w1 (w.heap.size + 1) vl xs → (∀ i ∈ xs, i < L.length ∧ 0 < (paN L i).length) → xs.length < 4611686018427387904 → Calls Tryz.prog 44 #[vl, .func (.func 45) #[] #[.pointer (some ⟨w.heap.size, 0, none⟩)]] w1 fun e w' => e = .returned (.tuple #[]) ∧ ∃ ts : List Nat, ts.Perm xs ∧ (ts.Pairwise fun x y => 0 ≤ cmpI L y x) ∧ OwnIs w' (w.heap.size + 1) vl ts ∧ w1.grownBy w' vl.ownBlock) := fun w1 vl xs hb ho hx hl => sortI_any HDT.out (BxT.new _ _) hf (by rw [hs0]; exact Nat.le_refl _) hb ho hx hl
  have HF := hide3 hf
  obtain ⟨i0, hi, hz0, hz1, hz2⟩ := Sc.info_parts infoI8
  have hai : (a : Int) < L.length := by omega
  have HPA : Hid (paN L a = L[a].pa) := paN_at ha
  have hka : Hid (BxT (w.alloc (.cells #[.slice (some ⟨g, o, none⟩) L.length cap] 24)) w.heap.size (.slice (some ⟨g, o, none⟩) L.length cap)) := BxT.new _ _
  clear h hsl hda hf
  generalize hW0 : w.alloc (.cells #[.slice (some ⟨g, o, none⟩) L.length cap] 24) = W0 at *
  obtain ⟨bz0, bz1⟩ := hka.out
  go_enter Tryz.func22, Tryz.ntmps22
  go_wp2_with (go_at_call 41; refine (HIP.out _).mono ?_; rintro e w1 ⟨rfl, ok⟩; have HB1 := hide3 ok; obtain ⟨by0, by1⟩ := HBX.out _ ok; clear ok)
  clear bz0 bz1 hka hW0
  go_loopw [5, 14] (fun vl vi wr => ∃ k : Nat, k ≤ L.length ∧ vi = .int .i64 k ∧ OwnIs wr (w.heap.size + 1) vl (inK L a k) ∧ Below W0.heap.size W0 wr) (fun _ vi _ => L.length - (intOf vi).toNat)
  case atStart => exact ⟨0, Nat.zero_le _, rfl, OwnIs.nil _ _, HB1.out⟩
  case round =>
    obtain ⟨k, hk, rfl, ho, hb⟩ := hrel
    have HO1 := hide3 ho
    have HB := hide3 hb
    obtain ⟨la, lc, rfl⟩ := ho.form
    clear ho by0 by1
    by_cases hlt : k < L.length
    · obtain ⟨u, v1, v2, v3, hdk⟩ := HDK.out wr hb k hlt
      have hda := HDA.out wr hb
      have HST : Hid (∀ w1, Below wr.heap.size wr w1 → Calls Tryz.prog 43 #[u, ua] w1 fun e w' => e = .returned (.bool (stB (paN L k) (paN L a))) ∧ Below w1.heap.size w1 w') := fun w1 h1 => by
        rw [HPA.out, paN_at hlt]
        exact standsIn_any (hdk.2.1.1.below h1) (hda.2.1.1.below h1) (HF.out _ (List.getElem_mem hlt))
      have HKY : Hid (stB (paN L k) (paN L a) = true → inK L a (k + 1) = inK L a k ++ [k]) := inK_yes
      have HKN : Hid (stB (paN L k) (paN L a) = false → inK L a (k + 1) = inK L a k) := inK_no
      have hll := inK_len L a k
      have hki : (k : Int) < L.length := by omega
      obtain ⟨pa, pc, rfl⟩ := hdk.2.1.1.sl
      obtain ⟨qa, qc, rfl⟩ := hda.2.1.1.sl
      have HK : Hid (KeepP fun w1 => (Below wr.heap.size wr w1 ∧ OwnIs w1 (w.heap.size + 1) (.slice la (inK L a k).length lc) (inK L a k)) ∧ BxT w1 w.heap.size (.slice (some ⟨g, o, none⟩) L.length cap) ∧ DrIn w1 g (o + k * 9) L[k] (.slice pa L[k].pa.length pc) v1 v2 v3 ∧ DrIn w1 g (o + a * 9) L[a] (.slice qa L[a].pa.length qc) a1 a2 a3) := ((keepBelow wr).and (keepOwnIs _ _ _)).and ((keepBxT _ _).and ((keepDr _ _ _ _ _ _ _).and (keepDr _ _ _ _ _ _ _)))
      have HO : Hid ((Below wr.heap.size wr wr ∧ OwnIs wr (w.heap.size + 1) (.slice la (inK L a k).length lc) (inK L a k)) ∧ BxT wr w.heap.size (.slice (some ⟨g, o, none⟩) L.length cap) ∧ DrIn wr g (o + k * 9) L[k] (.slice pa L[k].pa.length pc) v1 v2 v3 ∧ DrIn wr g (o + a * 9) L[a] (.slice qa L[a].pa.length qc) a1 a2 a3) := ⟨⟨Below.refl _ _, HO1.out⟩, HBX.out wr hb, hdk, hda⟩
      clear hdk hda hb
      generalize (inK L a k).length = m at *
      cases hst : stB (paN L k) (paN L a)
      · have HR := hide3 (HKN.out hst)
        rw [hst] at HST
        clear HKY HKN hst HO1
        go_wp2_with fail
        refine wp_region_keep HK.out (by kernel_rfl) (by kernel_rfl) (by first | exact HO.out | exact HK.out.drew HO.out) ?_
        intro C hin hout
        have HIN := hide3 hin
        have HOUT := hide3 hout
        clear hin hout HO
        repeat
          (with_reducible refine wpQuiet_step (fun K hK => ?_)
           go_simp
           first
             | (refine hK _ ?_; clear hK K)
             | (apply Exists.intro; refine ⟨fun w1 hC => ?_, hK _ ?_⟩; (focus ((first | (go_at_call 43; with_reducible exact callC' HIN.out HOUT.out HK.out (fun w1 hk => HST.out w1 hk.1.1) w1 hC) | (exact rfl) | (obtain ⟨⟨hb1, hown⟩, ⟨b0, b1⟩, ⟨⟨p0, _⟩, _, p9⟩, ⟨⟨q0, _⟩, _, q9⟩⟩ := HOUT.out w1 hC; clear hC; go_simp; first | done | exact rfl)); done)); clear hK K))
        refine wpQuiet_nil ?_
        intro wn hC
        have HO := hide3 (HOUT.out _ hC)
        clear hC HIN HOUT C
        obtain ⟨⟨hb1, hown⟩, ⟨b0, b1⟩, ⟨⟨p0, _⟩, _, p9⟩, ⟨⟨q0, _⟩, _, q9⟩⟩ := HO.out
        go_wp2
        exact ⟨⟨k + 1, by omega, by go_num, by rw [HR.out]; exact HO.out.1.2, below_then HB.out HO.out.1.1⟩, by simp [intOf]; omega⟩
      · have HR := hide3 (HKY.out hst)
        rw [hst] at HST
        clear HKY HKN hst HO1
        go_wp2_with fail
        refine wp_region_keep HK.out (by kernel_rfl) (by kernel_rfl) (by first | exact HO.out | exact HK.out.drew HO.out) ?_
        intro C hin hout
        have HIN := hide3 hin
        have HOUT := hide3 hout
        clear hin hout HO
        repeat
          (with_reducible refine wpQuiet_step (fun K hK => ?_)
           go_simp
           first
             | (refine hK _ ?_; clear hK K)
             | (apply Exists.intro; refine ⟨fun w1 hC => ?_, hK _ ?_⟩; (focus ((first | (go_at_call 43; with_reducible exact callC' HIN.out HOUT.out HK.out (fun w1 hk => HST.out w1 hk.1.1) w1 hC) | (exact rfl) | (obtain ⟨⟨hb1, hown⟩, ⟨b0, b1⟩, ⟨⟨p0, _⟩, _, p9⟩, ⟨⟨q0, _⟩, _, q9⟩⟩ := HOUT.out w1 hC; clear hC; go_simp; first | done | exact rfl)); done)); clear hK K))
        refine wpQuiet_nil ?_
        intro wn hC
        have HO := hide3 (HOUT.out _ hC)
        clear hC HIN HOUT C
        obtain ⟨⟨hb1, hown⟩, ⟨b0, b1⟩, ⟨⟨p0, _⟩, _, p9⟩, ⟨⟨q0, _⟩, _, q9⟩⟩ := HO.out
        have HOW := hide3 hown
        have HBW := hide3 (below_then HB.out hb1)
        have hmm : m = (inK L a k).length := by obtain ⟨_, _, e⟩ := hown.form; injection e
        clear b0 b1 p0 p9 q0 q9 hown hb1 HO
        go_wp2_with (at_builtin; refine wpList_append_own_wide _ rfl _ _ 38 rfl (w.heap.size + 1) 3 i0 _ 1 8 Tryz.underlying38 hi hz0 hz1 hz2 rfl (by decide) _ _ _ rfl (by have q := HOW.out.alloc (.cells #[.int .i64 (k : Int)] 3); exact q) ⟨wn.heap.size, 0, none⟩ 1 1 [encI k] rfl rfl (cell_one_new _ _ _) (by simp [encI, Value.oneCell']) (by unfold maxLen; omega) (by omega) (by have := HBW.out.size; simp; omega) ?_; intro v3 w3 ho3 hg3 _; have HO3 : Hid (OwnIs w3 (w.heap.size + 1) v3 (inK L a k ++ [k])) := (by have e := ho3; unfold Hid OwnIs; rw [List.map_append, List.length_append]; exact e); have HB3 : Hid (Below W0.heap.size W0 w3) := (HBW.out.alloc (by have := HBW.out.size; omega) _).grown hg3 (by have := HBW.out.size; simp; omega) (fun k hk => by have := (World.ownsRow.lt HOW.out k hk).1; omega); clear ho3 hg3)
        exact ⟨⟨k + 1, by omega, by go_num, by rw [HR.out]; exact HO3.out, HB3.out⟩, by simp [intOf]; omega⟩
    · obtain rfl : k = L.length := by omega
      have HSK := hide3 (HSO.out wr _ _ hb HO1.out (fun i hi => by
        have q := inK_mem.1 hi
        exact ⟨q.1, (stB_iff.1 q.2).1⟩) (by have := inK_len L a L.length; omega))
      generalize (inK L a L.length).length = m at *
      clear hb
      go_wp2_with (go_at_call 44; refine HSK.out.mono ?_; rintro e w2 ⟨rfl, ts, hp, hpw, ho2, hg2⟩; have HI := hide3 (ins_of hp hpw); have HO2 := hide3 ho2; have HB2 : Hid (Below W0.heap.size W0 w2) := HB.out.grown hg2 HB.out.size (fun k hk => by have := (World.ownsRow.lt HO1.out k hk).1; omega); clear hp hpw ho2 hg2)
      go_ret
      exact ⟨_, ts, rfl, HO2.out.base (by omega), HI.out, below_then HB0.out HB2.out⟩

theorem tInside_any {L : List Dr} {v : Value} {w : World} (h : DirsAt w v L) (hz : L.length ≤ 1000000000000) (hf : FitD L) (k : Int) :
    Calls Tryz.prog 22 #[.agg #[v], .int .i64 k] w fun e w' => ∃ v' ts, e = .returned v' ∧ OwnIs w' w.heap.size v' ts ∧ InsV L k ts ∧ Below w.heap.size w w' := by
  by_cases hk : 0 ≤ k ∧ k < L.length
  · obtain ⟨a, rfl⟩ : ∃ a : Nat, k = a := ⟨k.toNat, by omega⟩
    refine (tInside_in h hz hf (a := a) (by omega)).mono ?_
    rintro e w' ⟨v', ts, rfl, ho, hi, hb⟩
    exact ⟨v', ts, rfl, ho, ⟨fun _ => by simpa using hi, fun q => absurd hk q⟩, hb⟩
  · have HIP : Hid (∀ w1, Calls Tryz.prog 41 #[.agg #[v], .int .i64 k] w1 fun e w' => e = .returned (.bool false) ∧ Below w1.heap.size w1 w') := fun w1 => by
      obtain ⟨ad, cap, e, _⟩ := h.sl
      have q := isPlace_any (L := L) (v := v) (w := w1) ⟨_, _, e⟩ k
      rw [decide_eq_false hk] at q
      exact q
    have HI : Hid (InsV L k []) := ⟨fun q => absurd q hk, fun _ => rfl⟩
    obtain ⟨ad, cap, rfl, hx⟩ := h.sl
    clear h hf hx hk
    generalize L.length = n at *
    go_enter Tryz.func22, Tryz.ntmps22
    go_wp2_with (go_at_call 41; refine (HIP.out _).mono ?_; rintro e w1 ⟨rfl, ok⟩; have HB1 := hide3 (below_then (boxB _ _) ok); clear ok)
    go_ret
    exact ⟨_, [], rfl, OwnIs.nil _ _, HI.out, HB1.out⟩
end Go.Proofs.YtcclfaioicklaaaGreatDoor
namespace Go.Proofs.YtcclfaioicklaaaGreatDoor
open Go.RowKit
set_option maxRecDepth 100000

set_option maxHeartbeats 1600000 in
theorem rSpans_walk (A B : List Sp) (hAB : A.length = B.length) (hsz : A.length ≤ 9223372036854775807) (ga oa ca gb ob cb : Nat) (w : World) (hga : ga < w.heap.size) (hgb : gb < w.heap.size) (hla : ∀ i (h : i < A.length), SpAt w ga (oa + i * 6) A[i]) (hlb : ∀ i (h : i < B.length), SpAt w gb (ob + i * 6) B[i]) :
    Calls Tryz.prog 83 #[.slice (some ⟨ga, oa, none⟩) A.length ca, .slice (some ⟨gb, ob, none⟩) B.length cb] w fun e w' => e = .returned (.bool (eqB A B)) ∧ Below w.heap.size w w' := by
  have HL : Hid (∀ w1, Below w.heap.size w w1 → ∀ i (h : i < A.length) (h2 : i < B.length), SpIn w1 ga (oa + i * 6) A[i] ∧ SpIn w1 gb (ob + i * 6) B[i]) := fun w1 hb i hi hi2 => ⟨⟨(hla i hi).below hb hga, Nat.lt_of_lt_of_le hga hb.size⟩, ⟨(hlb i hi2).below hb hgb, Nat.lt_of_lt_of_le hgb hb.size⟩⟩
  have HAB := hide3 hAB
  clear hla hlb
  rw [← hAB]
  clear hAB
  go_enter Tryz.func83, Tryz.ntmps83
  go_wp2_with fail
  go_loopw [5] (fun i wr => ∃ k : Nat, k ≤ A.length ∧ i = .int .i64 k ∧ Below w.heap.size w wr ∧ ∀ j (h : j < k) (h1 : j < A.length) (h2 : j < B.length), A[j] = B[j]) (fun i _ => A.length - (intOf i).toNat)
  case atStart => exact ⟨0, Nat.zero_le _, rfl, Below.refl _ _, fun j h => by omega⟩
  case round =>
    obtain ⟨k, hk, rfl, hb, hall⟩ := hrel
    have HALL := hide3 hall
    have HB := hide3 hb
    clear hall
    by_cases hlt : k < A.length
    · have hltB : k < B.length := HAB.out ▸ hlt
      have HO : Hid (Below w.heap.size w wr ∧ SpIn wr ga (oa + k * 6) A[k] ∧ SpIn wr gb (ob + k * 6) B[k]) := ⟨hb, HL.out wr hb k hlt hltB⟩
      have HK : Hid (KeepP fun w1 => Below w.heap.size w w1 ∧ SpIn w1 ga (oa + k * 6) A[k] ∧ SpIn w1 gb (ob + k * 6) B[k]) := (keepBelow w).and ((keepSp _ _ _).and (keepSp _ _ _))
      have HNE : Hid (eqS A[k] B[k] = false → eqB A B = false) := fun h => eqB_no fun e => by subst e; rw [(eqS_iff).2 rfl] at h; cases h
      have HST : Hid (eqS A[k] B[k] = true → ∀ j (h : j < k + 1) (h1 : j < A.length) (h2 : j < B.length), A[j] = B[j]) := fun h j hj h1 h2 => by
        rcases Nat.lt_or_ge j k with hjk | hjk
        · exact HALL.out j hjk h1 h2
        · obtain rfl : j = k := by omega
          exact eqS_iff.1 h
      generalize A[k] = s at *
      generalize B[k] = t at *
      obtain ⟨a, b, c, x, y, z⟩ := s
      obtain ⟨a', b', c', x', y', z'⟩ := t
      have he := neqSp2 a b c x y z a' b' c' x' y' z'
      have hgd := guardSp
      cases hq : eqS ⟨a, b, c, x, y, z⟩ ⟨a', b', c', x', y', z'⟩
      · have HR := hide3 (HNE.out hq)
        rw [hq] at he
        clear hb HNE HST HALL
        go_wp2_with fail
        refine wp_region_keep HK.out (by kernel_rfl) (by kernel_rfl) (by first | exact HO.out | exact HK.out.drew HO.out) ?_
        intro C hin hout
        have HIN := hide3 hin
        have HOUT := hide3 hout
        clear hin hout HO
        repeat
          (with_reducible refine wpQuiet_step (fun K hK => ?_)
           go_simp
           first
             | (refine hK _ ?_; clear hK K)
             | (apply Exists.intro; refine ⟨fun w1 hC => ?_, hK _ ?_⟩; (focus ((first | (exact rfl) | (obtain ⟨hb1, ⟨⟨p0, p1, p2, p3, p4, p5⟩, p6⟩, ⟨⟨q0, q1, q2, q3, q4, q5⟩, q6⟩⟩ := HOUT.out w1 hC; clear hC; go_simp; first | done | exact rfl)); done)); clear hK K))
        refine wpQuiet_nil ?_
        intro wn hC
        have HO := hide3 (HOUT.out _ hC)
        clear hC HIN HOUT C
        obtain ⟨hb1, ⟨⟨p0, p1, p2, p3, p4, p5⟩, p6⟩, ⟨⟨q0, q1, q2, q3, q4, q5⟩, q6⟩⟩ := HO.out
        go_wp2
        go_ret
        exact ⟨ret_bool HR.out.symm, HO.out.1⟩
      · have HR := hide3 (HST.out hq)
        rw [hq] at he
        clear hb HNE HST HALL
        go_wp2_with fail
        refine wp_region_keep HK.out (by kernel_rfl) (by kernel_rfl) (by first | exact HO.out | exact HK.out.drew HO.out) ?_
        intro C hin hout
        have HIN := hide3 hin
        have HOUT := hide3 hout
        clear hin hout HO
        repeat
          (with_reducible refine wpQuiet_step (fun K hK => ?_)
           go_simp
           first
             | (refine hK _ ?_; clear hK K)
             | (apply Exists.intro; refine ⟨fun w1 hC => ?_, hK _ ?_⟩; (focus ((first | (exact rfl) | (obtain ⟨hb1, ⟨⟨p0, p1, p2, p3, p4, p5⟩, p6⟩, ⟨⟨q0, q1, q2, q3, q4, q5⟩, q6⟩⟩ := HOUT.out w1 hC; clear hC; go_simp; first | done | exact rfl)); done)); clear hK K))
        refine wpQuiet_nil ?_
        intro wn hC
        have HO := hide3 (HOUT.out _ hC)
        clear hC HIN HOUT C
        obtain ⟨hb1, ⟨⟨p0, p1, p2, p3, p4, p5⟩, p6⟩, ⟨⟨q0, q1, q2, q3, q4, q5⟩, q6⟩⟩ := HO.out
        go_wp2
        exact ⟨⟨k + 1, by omega, by go_num, HO.out.1, HR.out⟩, by simp [intOf]; omega⟩
    · have hke : k = A.length := by omega
      subst hke
      have HR : Hid (eqB A B = true) := eqB_yes (List.ext_getElem HAB.out fun j h1 h2 => HALL.out j h1 h1 h2)
      clear hb
      go_wp2
      go_ret
      exact ⟨ret_bool HR.out.symm, HB.out⟩

theorem rSpans_nil (ad bd : Option Addr) (ca cb : Nat) (w : World) :
    Calls Tryz.prog 83 #[.slice ad 0 ca, .slice bd 0 cb] w fun e w' => e = .returned (.bool true) ∧ Below w.heap.size w w' := by
  go_enter Tryz.func83, Tryz.ntmps83
  go_wp2_with fail
  go_loop [5] (fun i => i = .int .i64 0) (fun _ => 0)
  case atStart => rfl
  case round =>
    subst hrel
    go_wp2
    go_ret
    exact ⟨rfl, Below.refl _ _⟩

theorem rSpans_len (ad bd : Option Addr) (n m ca cb : Nat) (h : n ≠ m) (w : World) :
    Calls Tryz.prog 83 #[.slice ad n ca, .slice bd m cb] w fun e w' => e = .returned (.bool false) ∧ Below w.heap.size w w' := by
  have hn : ((n : Int) = (m : Int)) = False := by simp; omega
  go_enter Tryz.func83, Tryz.ntmps83
  go_wp2
  go_ret
  exact ⟨rfl, Below.refl _ _⟩

theorem rSpans_any {A B : List Sp} {va vb : Value} {w : World} (ha : SpansAt w va A) (hb : SpansAt w vb B) (hsz : A.length ≤ 9223372036854775807) :
    Calls Tryz.prog 83 #[va, vb] w fun e w' => e = .returned (.bool (eqB A B)) ∧ Below w.heap.size w w' := by
  obtain ⟨ad, ca, rfl, hl⟩ := ha
  obtain ⟨bd, cb, rfl, hm⟩ := hb
  by_cases hn : A.length = B.length
  · rcases hl with rfl | ⟨ga, oa, rfl, hga, hla⟩
    · obtain rfl : B = [] := List.eq_nil_of_length_eq_zero (by simpa using hn.symm)
      rw [eqB_yes rfl]
      exact rSpans_nil _ _ _ _ w
    · rcases hm with rfl | ⟨gb, ob, rfl, hgb, hlb⟩
      · obtain rfl : A = [] := List.eq_nil_of_length_eq_zero (by simpa using hn)
        rw [eqB_yes rfl]
        exact rSpans_nil _ _ _ _ w
      · exact rSpans_walk A B hn hsz ga oa ca gb ob cb w hga hgb hla hlb
  · rw [eqB_no fun e => hn (by rw [e])]
    exact rSpans_len _ _ _ _ _ _ hn w

set_option maxHeartbeats 3200000 in
theorem rDeps_walk (A B : List Dp) (hAB : A.length = B.length) (hsz : A.length ≤ 9223372036854775807) (ga oa ca gb ob cb : Nat) (w : World) (hla : ∀ i (h : i < A.length), ∃ u, DpIn w ga (oa + i * 2) A[i] u) (hlb : ∀ i (h : i < B.length), ∃ u, DpIn w gb (ob + i * 2) B[i] u) :
    Calls Tryz.prog 62 #[.slice (some ⟨ga, oa, none⟩) A.length ca, .slice (some ⟨gb, ob, none⟩) B.length cb] w fun e w' => e = .returned (.bool (eqB A B)) ∧ Below w.heap.size w w' := by
  have HL : Hid (∀ w1, Below w.heap.size w w1 → ∀ i (h : i < A.length) (h2 : i < B.length), (∃ u, DpIn w1 ga (oa + i * 2) A[i] u) ∧ ∃ u, DpIn w1 gb (ob + i * 2) B[i] u) := fun w1 hb i hi hi2 => ⟨(hla i hi).imp fun u h => h.below hb, (hlb i hi2).imp fun u h => h.below hb⟩
  have HAB := hide3 hAB
  clear hla hlb
  rw [← hAB]
  clear hAB
  go_enter Tryz.func62, Tryz.ntmps62
  go_wp2_with fail
  go_loopw [5] (fun i wr => ∃ k : Nat, k ≤ A.length ∧ i = .int .i64 k ∧ Below w.heap.size w wr ∧ ∀ j (h : j < k) (h1 : j < A.length) (h2 : j < B.length), A[j] = B[j]) (fun i _ => A.length - (intOf i).toNat)
  case atStart => exact ⟨0, Nat.zero_le _, rfl, Below.refl _ _, fun j h => by omega⟩
  case round =>
    obtain ⟨k, hk, rfl, hb, hall⟩ := hrel
    have HALL := hide3 hall
    have HB := hide3 hb
    clear hall
    by_cases hlt : k < A.length
    · have hltB : k < B.length := HAB.out ▸ hlt
      obtain ⟨⟨u, hu⟩, ⟨v, hv⟩⟩ := HL.out wr hb k hlt hltB
      have HO : Hid (Below w.heap.size w wr ∧ DpIn wr ga (oa + k * 2) A[k] u ∧ DpIn wr gb (ob + k * 2) B[k] v) := ⟨hb, hu, hv⟩
      have HK : Hid (KeepP fun w1 => Below w.heap.size w w1 ∧ DpIn w1 ga (oa + k * 2) A[k] u ∧ DpIn w1 gb (ob + k * 2) B[k] v) := (keepBelow w).and ((keepDp _ _ _ _).and (keepDp _ _ _ _))
      have HC : Hid (∀ w1, (Below w.heap.size w w1 ∧ DpIn w1 ga (oa + k * 2) A[k] u ∧ DpIn w1 gb (ob + k * 2) B[k] v) → Calls Tryz.prog 83 #[u, v] w1 fun x w' => x = .returned (.bool (eqB A[k].rg B[k].rg)) ∧ Below w1.heap.size w1 w') := fun w1 h => rSpans_any h.2.1.2.2.1.1.1 h.2.2.2.2.1.1.1 h.2.1.2.2.1.2
      have HNE : Hid (A[k] ≠ B[k] → eqB A B = false) := fun h => eqB_no fun e => by subst e; exact h rfl
      have HST : Hid (A[k] = B[k] → ∀ j (h : j < k + 1) (h1 : j < A.length) (h2 : j < B.length), A[j] = B[j]) := fun h j hj h1 h2 => by
        rcases Nat.lt_or_ge j k with hjk | hjk
        · exact HALL.out j hjk h1 h2
        · obtain rfl : j = k := by omega
          exact h
      obtain ⟨au, cu, rfl⟩ := hu.2.2.1.1.1.sl
      obtain ⟨av, cv, rfl⟩ := hv.2.2.1.1.1.sl
      clear hu hv
      generalize A[k] = d at *
      generalize B[k] = e at *
      obtain ⟨n, r⟩ := d
      obtain ⟨m, q⟩ := e
      simp only at *
      by_cases hn : n = m
      · subst hn
        have hq : (n.toList == n.toList) = true := by simp
        cases hr : eqB r q
        · have HR := hide3 (HNE.out fun e => by injection e with _ e2; rw [eqB_yes e2] at hr; cases hr)
          rw [hr] at HC
          clear hb HNE HST HALL hr
          go_wp2_with fail
          refine wp_region_keep HK.out (by kernel_rfl) (by kernel_rfl) (by first | exact HO.out | exact HK.out.drew HO.out) ?_
          intro C hin hout
          have HIN := hide3 hin
          have HOUT := hide3 hout
          clear hin hout HO
          repeat
            (with_reducible refine wpQuiet_step (fun K hK => ?_)
             go_simp
             first
               | (refine hK _ ?_; clear hK K)
               | (apply Exists.intro; refine ⟨fun w1 hC => ?_, hK _ ?_⟩; (focus ((first | (go_at_call 83; with_reducible exact callC' HIN.out HOUT.out HK.out HC.out w1 hC) | (exact rfl) | (obtain ⟨hb1, ⟨p0, p1, ph, p3⟩, ⟨q0, q1, qh, q3⟩⟩ := HOUT.out w1 hC; clear hC; go_simp; first | done | exact rfl)); done)); clear hK K))
          refine wpQuiet_nil ?_
          intro wn hC
          have HO := hide3 (HOUT.out _ hC)
          clear hC HIN HOUT C
          obtain ⟨hb1, ⟨p0, p1, ph, p3⟩, ⟨q0, q1, qh, q3⟩⟩ := HO.out
          go_wp2
          go_ret
          exact ⟨ret_bool HR.out.symm, HO.out.1⟩
        · have HR := hide3 (HST.out (by rw [eqB_iff.1 hr]))
          rw [hr] at HC
          clear hb HNE HST HALL hr
          go_wp2_with fail
          refine wp_region_keep HK.out (by kernel_rfl) (by kernel_rfl) (by first | exact HO.out | exact HK.out.drew HO.out) ?_
          intro C hin hout
          have HIN := hide3 hin
          have HOUT := hide3 hout
          clear hin hout HO
          repeat
            (with_reducible refine wpQuiet_step (fun K hK => ?_)
             go_simp
             first
               | (refine hK _ ?_; clear hK K)
               | (apply Exists.intro; refine ⟨fun w1 hC => ?_, hK _ ?_⟩; (focus ((first | (go_at_call 83; with_reducible exact callC' HIN.out HOUT.out HK.out HC.out w1 hC) | (exact rfl) | (obtain ⟨hb1, ⟨p0, p1, ph, p3⟩, ⟨q0, q1, qh, q3⟩⟩ := HOUT.out w1 hC; clear hC; go_simp; first | done | exact rfl)); done)); clear hK K))
          refine wpQuiet_nil ?_
          intro wn hC
          have HO := hide3 (HOUT.out _ hC)
          clear hC HIN HOUT C
          obtain ⟨hb1, ⟨p0, p1, ph, p3⟩, ⟨q0, q1, qh, q3⟩⟩ := HO.out
          go_wp2
          exact ⟨⟨k + 1, by omega, by go_num, HO.out.1, HR.out⟩, by simp [intOf]; omega⟩
      · have HR := hide3 (HNE.out fun e => hn (by injection e))
        have hq : (n.toList == m.toList) = false := beq_eq_false_iff_ne.2 fun e => hn (bytes_same e)
        clear hb HNE HST HALL HC
        go_wp2_with fail
        refine wp_region_keep HK.out (by kernel_rfl) (by kernel_rfl) (by first | exact HO.out | exact HK.out.drew HO.out) ?_
        intro C hin hout
        have HIN := hide3 hin
        have HOUT := hide3 hout
        clear hin hout HO
        repeat
          (with_reducible refine wpQuiet_step (fun K hK => ?_)
           go_simp
           first
             | (refine hK _ ?_; clear hK K)
             | (apply Exists.intro; refine ⟨fun w1 hC => ?_, hK _ ?_⟩; (focus ((first | (exact rfl) | (obtain ⟨hb1, ⟨p0, p1, ph, p3⟩, ⟨q0, q1, qh, q3⟩⟩ := HOUT.out w1 hC; clear hC; go_simp; first | done | exact rfl)); done)); clear hK K))
        refine wpQuiet_nil ?_
        intro wn hC
        have HO := hide3 (HOUT.out _ hC)
        clear hC HIN HOUT C
        obtain ⟨hb1, ⟨p0, p1, ph, p3⟩, ⟨q0, q1, qh, q3⟩⟩ := HO.out
        go_wp2
        go_ret
        exact ⟨ret_bool HR.out.symm, HO.out.1⟩
    · have hke : k = A.length := by omega
      subst hke
      have HR : Hid (eqB A B = true) := eqB_yes (List.ext_getElem HAB.out fun j h1 h2 => HALL.out j h1 h1 h2)
      clear hb
      go_wp2
      go_ret
      exact ⟨ret_bool HR.out.symm, HB.out⟩

theorem rDeps_nil (ad bd : Option Addr) (ca cb : Nat) (w : World) :
    Calls Tryz.prog 62 #[.slice ad 0 ca, .slice bd 0 cb] w fun e w' => e = .returned (.bool true) ∧ Below w.heap.size w w' := by
  go_enter Tryz.func62, Tryz.ntmps62
  go_wp2_with fail
  go_loop [5] (fun i => i = .int .i64 0) (fun _ => 0)
  case atStart => rfl
  case round =>
    subst hrel
    go_wp2
    go_ret
    exact ⟨rfl, Below.refl _ _⟩

theorem rDeps_len (ad bd : Option Addr) (n m ca cb : Nat) (h : n ≠ m) (w : World) :
    Calls Tryz.prog 62 #[.slice ad n ca, .slice bd m cb] w fun e w' => e = .returned (.bool false) ∧ Below w.heap.size w w' := by
  have hn : ((n : Int) = (m : Int)) = False := by simp; omega
  go_enter Tryz.func62, Tryz.ntmps62
  go_wp2
  go_ret
  exact ⟨rfl, Below.refl _ _⟩

theorem rDeps_any {A B : List Dp} {va vb : Value} {w : World} (ha : DepsAt w va A) (hb : DepsAt w vb B) (hsz : A.length ≤ 9223372036854775807) :
    Calls Tryz.prog 62 #[va, vb] w fun e w' => e = .returned (.bool (eqB A B)) ∧ Below w.heap.size w w' := by
  obtain ⟨ad, ca, rfl, _, hl⟩ := ha
  obtain ⟨bd, cb, rfl, _, hm⟩ := hb
  by_cases hn : A.length = B.length
  · rcases hl with rfl | ⟨ga, oa, rfl, hga, hla⟩
    · obtain rfl : B = [] := List.eq_nil_of_length_eq_zero (by simpa using hn.symm)
      rw [eqB_yes rfl]
      exact rDeps_nil _ _ _ _ w
    · rcases hm with rfl | ⟨gb, ob, rfl, hgb, hlb⟩
      · obtain rfl : A = [] := List.eq_nil_of_length_eq_zero (by simpa using hn)
        rw [eqB_yes rfl]
        exact rDeps_nil _ _ _ _ w
      · exact rDeps_walk A B hn hsz ga oa ca gb ob cb w hla hlb
  · rw [eqB_no fun e => hn (by rw [e])]
    exact rDeps_len _ _ _ _ _ _ hn w
end Go.Proofs.YtcclfaioicklaaaGreatDoor
namespace Go.Proofs.YtcclfaioicklaaaGreatDoor
open Go.RowKit
set_option maxRecDepth 100000

theorem drop_byte {s : ByteArray} {k : Nat} (h : k < s.size) : s.toList.drop k = s[k] :: s.toList.drop (k + 1) := by
  have := List.drop_eq_getElem_cons (l := s.data.toList) (i := k) (by rw [list_size]; exact h)
  rw [ByteArray.toList_eq]
  exact this
theorem drop_all {s : ByteArray} {k : Nat} (h : s.size ≤ k) : s.toList.drop k = [] := by
  rw [ByteArray.toList_eq]
  exact List.drop_of_length_le (by rw [list_size]; exact h)
theorem bl_hit {a b : ByteArray} {k : Nat} (ha : k < a.size) (hb : k < b.size) (h : a[k] ≠ b[k]) : Op.bytesLess (a.toList.drop k) (b.toList.drop k) = decide (a[k].toNat < b[k].toNat) := by
  rw [drop_byte ha, drop_byte hb]
  show (decide (a[k] < b[k]) || (a[k] == b[k] && _)) = _
  rw [show (a[k] == b[k]) = false from beq_eq_false_iff_ne.2 h, Bool.false_and, Bool.or_false]
  rfl
theorem bl_step {a b : ByteArray} {k : Nat} (ha : k < a.size) (hb : k < b.size) (h : a[k] = b[k]) : Op.bytesLess (a.toList.drop k) (b.toList.drop k) = Op.bytesLess (a.toList.drop (k + 1)) (b.toList.drop (k + 1)) := by
  rw [drop_byte ha, drop_byte hb, h]
  show (decide (b[k] < b[k]) || (b[k] == b[k] && _)) = _
  simp
theorem bl_end {a b : ByteArray} {k : Nat} (hka : k ≤ a.size) (hkb : k ≤ b.size) (h : ¬ (k < a.size ∧ k < b.size)) : Op.bytesLess (a.toList.drop k) (b.toList.drop k) = decide (a.size < b.size) := by
  by_cases hb : k < b.size
  · have ha : a.size = k := by omega
    rw [drop_all (by omega), drop_byte hb]
    show true = _
    rw [decide_eq_true (by omega)]
  · rw [drop_all (s := b) (by omega)]
    rw [decide_eq_false (by omega)]
    cases List.drop k a.toList <;> rfl

set_option maxHeartbeats 1600000 in
theorem rLess_any (a b : ByteArray) (w : World) (ha : a.size ≤ 9223372036854775807) : Calls Tryz.prog 117 #[.string a, .string b] w fun e w' => e = .returned (.bool (ltS a b)) ∧ Below w.heap.size w w' := by
  have HR0 : Hid (ltS a b = Op.bytesLess (a.toList.drop 0) (b.toList.drop 0)) := rfl
  have HK : Hid (KeepP fun w1 => Below w.heap.size w w1) := keepBelow w
  go_enter Tryz.func117, Tryz.ntmps117
  go_wp2_with fail
  go_loopw [5] (fun i wr => ∃ k : Nat, k ≤ a.size ∧ k ≤ b.size ∧ i = .int .i64 k ∧ Below w.heap.size w wr ∧ ltS a b = Op.bytesLess (a.toList.drop k) (b.toList.drop k)) (fun i _ => a.size - (intOf i).toNat)
  case atStart => exact ⟨0, Nat.zero_le _, Nat.zero_le _, rfl, Below.refl _ _, HR0.out⟩
  case round =>
    clear HR0
    obtain ⟨k, hka, hkb, rfl, hbw, hrl⟩ := hrel
    have HO := hide3 hbw
    have HRL := hide3 hrl
    clear hbw hrl
    by_cases hh : k < a.size ∧ k < b.size
    · obtain ⟨h1, h2⟩ := hh
      have g1 : (k : Int) < (a.size : Int) := by omega
      have g2 : (k : Int) < (b.size : Int) := by omega
      by_cases he : a[k] = b[k]
      · have HS : Hid (ltS a b = Op.bytesLess (a.toList.drop (k + 1)) (b.toList.drop (k + 1))) := by unfold Hid; rw [HRL.out, bl_step h1 h2 he]
        have e1 : ((a[k].toNat : Int) == (b[k].toNat : Int)) = true := by rw [he]; simp
        clear he
        go_wp2_with fail
        refine wp_region_keep HK.out (by kernel_rfl) (by kernel_rfl) (by first | exact HO.out | exact HK.out.drew HO.out) ?_
        intro C hin hout
        have HIN := hide3 hin
        have HOUT := hide3 hout
        clear hin hout HO
        repeat
          (with_reducible refine wpQuiet_step (fun K hK => ?_)
           go_simp
           first
             | (refine hK _ ?_; clear hK K)
             | (apply Exists.intro; refine ⟨fun w1 hC => ?_, hK _ ?_⟩; (focus ((first | (exact rfl) | (obtain hb1 := HOUT.out w1 hC; clear hC; go_simp; first | done | exact rfl)); done)); clear hK K))
        refine wpQuiet_nil ?_
        intro wn hC
        have HO := hide3 (HOUT.out _ hC)
        clear hC HIN HOUT C
        obtain hb1 := HO.out
        go_wp2
        exact ⟨⟨k + 1, by omega, by omega, by go_num, HO.out, HS.out⟩, by simp [intOf]; omega⟩
      · have HS : Hid (ltS a b = decide (a[k].toNat < b[k].toNat)) := by unfold Hid; rw [HRL.out, bl_hit h1 h2 he]
        have e1 : ((a[k].toNat : Int) == (b[k].toNat : Int)) = false := by
          rw [beq_eq_false_iff_ne]
          intro e
          exact he (UInt8.toNat_inj.1 (by omega))
        clear he
        by_cases hl : a[k].toNat < b[k].toNat
        · have HR : Hid (ltS a b = true) := by unfold Hid; rw [HS.out, decide_eq_true hl]
          have e2 : decide ((a[k].toNat : Int) < (b[k].toNat : Int)) = true := decide_eq_true (by omega)
          go_wp2_with fail
          refine wp_region_keep HK.out (by kernel_rfl) (by kernel_rfl) (by first | exact HO.out | exact HK.out.drew HO.out) ?_
          intro C hin hout
          have HIN := hide3 hin
          have HOUT := hide3 hout
          clear hin hout HO
          repeat
            (with_reducible refine wpQuiet_step (fun K hK => ?_)
             go_simp
             first
               | (refine hK _ ?_; clear hK K)
               | (apply Exists.intro; refine ⟨fun w1 hC => ?_, hK _ ?_⟩; (focus ((first | (exact rfl) | (obtain hb1 := HOUT.out w1 hC; clear hC; go_simp; first | done | exact rfl)); done)); clear hK K))
          refine wpQuiet_nil ?_
          intro wn hC
          have HO := hide3 (HOUT.out _ hC)
          clear hC HIN HOUT C
          obtain hb1 := HO.out
          go_wp2_with fail
          refine wp_region_keep HK.out (by kernel_rfl) (by kernel_rfl) (by first | exact HO.out | exact HK.out.drew HO.out) ?_
          intro C hin hout
          have HIN := hide3 hin
          have HOUT := hide3 hout
          clear hin hout HO
          repeat
            (with_reducible refine wpQuiet_step (fun K hK => ?_)
             go_simp
             first
               | (refine hK _ ?_; clear hK K)
               | (apply Exists.intro; refine ⟨fun w1 hC => ?_, hK _ ?_⟩; (focus ((first | (exact rfl) | (obtain hb2 := HOUT.out w1 hC; clear hC; go_simp; first | done | exact rfl)); done)); clear hK K))
          refine wpQuiet_nil ?_
          intro wm hC
          have HO := hide3 (HOUT.out _ hC)
          clear hC HIN HOUT C
          obtain hb2 := HO.out
          go_wp2
          go_ret
          exact ⟨ret_bool HR.out.symm, HO.out⟩
        · have HR : Hid (ltS a b = false) := by unfold Hid; rw [HS.out, decide_eq_false hl]
          have e2 : decide ((a[k].toNat : Int) < (b[k].toNat : Int)) = false := decide_eq_false (by omega)
          go_wp2_with fail
          refine wp_region_keep HK.out (by kernel_rfl) (by kernel_rfl) (by first | exact HO.out | exact HK.out.drew HO.out) ?_
          intro C hin hout
          have HIN := hide3 hin
          have HOUT := hide3 hout
          clear hin hout HO
          repeat
            (with_reducible refine wpQuiet_step (fun K hK => ?_)
             go_simp
             first
               | (refine hK _ ?_; clear hK K)
               | (apply Exists.intro; refine ⟨fun w1 hC => ?_, hK _ ?_⟩; (focus ((first | (exact rfl) | (obtain hb1 := HOUT.out w1 hC; clear hC; go_simp; first | done | exact rfl)); done)); clear hK K))
          refine wpQuiet_nil ?_
          intro wn hC
          have HO := hide3 (HOUT.out _ hC)
          clear hC HIN HOUT C
          obtain hb1 := HO.out
          go_wp2_with fail
          refine wp_region_keep HK.out (by kernel_rfl) (by kernel_rfl) (by first | exact HO.out | exact HK.out.drew HO.out) ?_
          intro C hin hout
          have HIN := hide3 hin
          have HOUT := hide3 hout
          clear hin hout HO
          repeat
            (with_reducible refine wpQuiet_step (fun K hK => ?_)
             go_simp
             first
               | (refine hK _ ?_; clear hK K)
               | (apply Exists.intro; refine ⟨fun w1 hC => ?_, hK _ ?_⟩; (focus ((first | (exact rfl) | (obtain hb2 := HOUT.out w1 hC; clear hC; go_simp; first | done | exact rfl)); done)); clear hK K))
          refine wpQuiet_nil ?_
          intro wm hC
          have HO := hide3 (HOUT.out _ hC)
          clear hC HIN HOUT C
          obtain hb2 := HO.out
          go_wp2
          go_ret
          exact ⟨ret_bool HR.out.symm, HO.out⟩
    · have HR : Hid (ltS a b = decide (a.size < b.size)) := by
        unfold Hid
        rw [HRL.out, bl_end hka hkb hh]
      by_cases h1 : k < a.size
      · have h2 : decide ((k : Int) < (b.size : Int)) = false := decide_eq_false (by omega)
        have g1 : (k : Int) < (a.size : Int) := by omega
        go_wp2
        go_ret
        exact ⟨ret_bool HR.out.symm, HO.out⟩
      · have h2 : decide ((k : Int) < (a.size : Int)) = false := decide_eq_false (by omega)
        go_wp2
        go_ret
        exact ⟨ret_bool HR.out.symm, HO.out⟩

/-- No name stands in both. -/
def apartB (A B : List Dp) : Bool := A.all fun d => B.all fun e => !(d.nm.toList == e.nm.toList)
theorem apart_no {A B : List Dp} {i k : Nat} (hi : i < A.length) (hk : k < B.length) (h : (A[i].nm.toList == B[k].nm.toList) = true) : apartB A B = false := by
  rw [Bool.eq_false_iff]
  intro ha
  have := List.all_eq_true.1 (List.all_eq_true.1 ha _ (List.getElem_mem hi)) _ (List.getElem_mem hk)
  rw [h] at this
  cases this

set_option maxHeartbeats 3200000 in
theorem rApart_any {A B : List Dp} {va vb : Value} {w : World} (ha : DepsAt w va A) (hb : DepsAt w vb B) (hz : A.length ≤ 1000000 ∧ B.length ≤ 1000000) : Calls Tryz.prog 86 #[va, vb] w fun e w' => e = .returned (.bool (apartB A B)) ∧ Below w.heap.size w w' := by
  have HA : Hid (∀ w1, Below w.heap.size w w1 → DepsAt w1 va A) := fun w1 h => ha.below h
  have HB : Hid (∀ w1, Below w.heap.size w w1 → DepsAt w1 vb B) := fun w1 h => hb.below h
  obtain ⟨aa, ca, rfl⟩ := ha.sl
  obtain ⟨ab, cb, rfl⟩ := hb.sl
  obtain ⟨z1, z2⟩ := hz
  clear ha hb
  go_enter Tryz.func86, Tryz.ntmps86
  go_wp2_with fail
  go_loopw [5] (fun i wr => ∃ k : Nat, k ≤ A.length ∧ i = .int .i64 k ∧ Below w.heap.size w wr ∧ apartB A B = apartB (A.drop k) B) (fun i _ => A.length - (intOf i).toNat)
  case atStart => exact ⟨0, Nat.zero_le _, rfl, Below.refl _ _, rfl⟩
  case round =>
    obtain ⟨k, hk, rfl, hbw, hap⟩ := hrel
    have HBW := hide3 hbw
    have HAP := hide3 hap
    clear hap
    by_cases hlt : k < A.length
    · have HAPK : Hid (apartB A B = ((B.all fun e => !(A[k].nm.toList == e.nm.toList)) && apartB (A.drop (k + 1)) B)) := by
        unfold Hid
        rw [HAP.out, List.drop_eq_getElem_cons hlt]
        rfl
      clear hbw HAP
      go_wp2_with fail
      go_loopw [6] (fun j wq => ∃ m : Nat, m ≤ B.length ∧ j = .int .i64 m ∧ Below w.heap.size w wq ∧ (B.all fun e => !(A[k].nm.toList == e.nm.toList)) = ((B.drop m).all fun e => !(A[k].nm.toList == e.nm.toList))) (fun j _ => B.length - (intOf j).toNat)
      case atStart => exact ⟨0, Nat.zero_le _, rfl, HBW.out, rfl⟩
      case round =>
        clear HBW
        obtain ⟨m, hm, rfl, hbw, hal⟩ := hrel
        have HAL := hide3 hal
        have HBW := hide3 hbw
        clear hal
        by_cases hml : m < B.length
        · obtain ⟨ad1, cap1, e1, _, h1⟩ := HA.out wr hbw
          cases e1
          obtain ⟨ad2, cap2, e2, _, h2⟩ := HB.out wr hbw
          cases e2
          obtain ⟨ga, oa, rfl, _, h1⟩ : ∃ g o, aa = some ⟨g, o, none⟩ ∧ g < wr.heap.size ∧ ∀ i (h : i < A.length), ∃ u, DpIn wr g (o + i * 2) A[i] u := by
            rcases h1 with h | h
            · rw [h] at hlt; simp at hlt
            · exact h
          obtain ⟨gb, ob, rfl, _, h2⟩ : ∃ g o, ab = some ⟨g, o, none⟩ ∧ g < wr.heap.size ∧ ∀ i (h : i < B.length), ∃ u, DpIn wr g (o + i * 2) B[i] u := by
            rcases h2 with h | h
            · rw [h] at hml; simp at hml
            · exact h
          obtain ⟨u, hu⟩ := h1 k hlt
          obtain ⟨v, hv⟩ := h2 m hml
          have HO : Hid (Below w.heap.size w wr ∧ DpIn wr ga (oa + k * 2) A[k] u ∧ DpIn wr gb (ob + m * 2) B[m] v) := ⟨hbw, hu, hv⟩
          have HK : Hid (KeepP fun w1 => Below w.heap.size w w1 ∧ DpIn w1 ga (oa + k * 2) A[k] u ∧ DpIn w1 gb (ob + m * 2) B[m] v) := (keepBelow w).and ((keepDp _ _ _ _).and (keepDp _ _ _ _))
          have HNO : Hid ((A[k].nm.toList == B[m].nm.toList) = true → apartB A B = false) := fun h => apart_no hlt hml h
          have HST : Hid ((A[k].nm.toList == B[m].nm.toList) = false → (B.all fun e => !(A[k].nm.toList == e.nm.toList)) = ((B.drop (m + 1)).all fun e => !(A[k].nm.toList == e.nm.toList))) := fun h => by
            rw [HAL.out, List.drop_eq_getElem_cons hml, List.all_cons, h]
            rfl
          clear h1 h2 hu hv hbw HAL
          cases hq : (A[k].nm.toList == B[m].nm.toList)
          · have HR := hide3 (HST.out hq)
            clear HST HNO HAPK
            generalize A[k] = d at *
            generalize B[m] = e at *
            go_wp2_with fail
            refine wp_region_keep HK.out (by kernel_rfl) (by kernel_rfl) (by first | exact HO.out | exact HK.out.drew HO.out) ?_
            intro C hin hout
            have HIN := hide3 hin
            have HOUT := hide3 hout
            clear hin hout HO
            repeat
              (with_reducible refine wpQuiet_step (fun K hK => ?_)
               go_simp
               first
                 | (refine hK _ ?_; clear hK K)
                 | (apply Exists.intro; refine ⟨fun w1 hC => ?_, hK _ ?_⟩; (focus ((first | (exact rfl) | (obtain ⟨hb1, ⟨p0, p1, ph, p3⟩, ⟨q0, q1, qh, q3⟩⟩ := HOUT.out w1 hC; clear hC; go_simp; first | done | exact rfl)); done)); clear hK K))
            refine wpQuiet_nil ?_
            intro wn hC
            have HO := hide3 (HOUT.out _ hC)
            clear hC HIN HOUT C
            obtain ⟨hb1, ⟨p0, p1, ph, p3⟩, ⟨q0, q1, qh, q3⟩⟩ := HO.out
            go_wp2
            exact ⟨⟨m + 1, by omega, by go_num, HO.out.1, HR.out⟩, by simp [intOf]; omega⟩
          · have HR := hide3 (HNO.out hq)
            clear HST HNO HAPK
            generalize A[k] = d at *
            generalize B[m] = e at *
            go_wp2_with fail
            refine wp_region_keep HK.out (by kernel_rfl) (by kernel_rfl) (by first | exact HO.out | exact HK.out.drew HO.out) ?_
            intro C hin hout
            have HIN := hide3 hin
            have HOUT := hide3 hout
            clear hin hout HO
            repeat
              (with_reducible refine wpQuiet_step (fun K hK => ?_)
               go_simp
               first
                 | (refine hK _ ?_; clear hK K)
                 | (apply Exists.intro; refine ⟨fun w1 hC => ?_, hK _ ?_⟩; (focus ((first | (exact rfl) | (obtain ⟨hb1, ⟨p0, p1, ph, p3⟩, ⟨q0, q1, qh, q3⟩⟩ := HOUT.out w1 hC; clear hC; go_simp; first | done | exact rfl)); done)); clear hK K))
            refine wpQuiet_nil ?_
            intro wn hC
            have HO := hide3 (HOUT.out _ hC)
            clear hC HIN HOUT C
            obtain ⟨hb1, ⟨p0, p1, ph, p3⟩, ⟨q0, q1, qh, q3⟩⟩ := HO.out
            go_wp2
            go_ret
            exact ⟨ret_bool HR.out.symm, HO.out.1⟩
        · have HN : Hid (apartB A B = apartB (A.drop (k + 1)) B) := by
            unfold Hid
            rw [HAPK.out, HAL.out, List.drop_of_length_le (by omega)]
            rfl
          clear hbw
          go_wp2
          exact ⟨⟨k + 1, by omega, by go_num, HBW.out, HN.out⟩, by simp [intOf]; omega⟩
    · have HR : Hid (apartB A B = true) := by unfold Hid; rw [HAP.out, List.drop_of_length_le (by omega)]; rfl
      clear hbw
      go_wp2
      go_ret
      exact ⟨ret_bool HR.out.symm, HBW.out⟩
end Go.Proofs.YtcclfaioicklaaaGreatDoor
namespace Go.Proofs.YtcclfaioicklaaaGreatDoor
open Go.RowKit
set_option maxRecDepth 100000

theorem alt_known : altR ⟨#[94, 49, 46, 50, 46, 51]⟩ = some [(1002003, 1999999)] := by decide +kernel
theorem pieces_known : piecesB ⟨#[94, 49, 46, 50, 46, 51]⟩ ⟨#[124, 124]⟩ = [⟨#[94, 49, 46, 50, 46, 51]⟩] := by decide +kernel
theorem pieces_known2 : piecesB ⟨#[94, 49, 46, 50, 46, 51]⟩ ⟨#[32]⟩ = [⟨#[94, 49, 46, 50, 46, 51]⟩] := by decide +kernel
theorem print_known : printR [(1002003, 1999999)] = ⟨#[62, 61, 49, 46, 50, 46, 51, 32, 60, 61, 49, 46, 57, 57, 57, 46, 57, 57, 57]⟩ := by decide +kernel
theorem rg_known : RangeR [(1002003, 1999999)] := ⟨by decide, by decide, by decide, trivial⟩
theorem in_known : inL (([(1002003, 1999999)] : Rg).map spR) 1 9 0 = true := by
  rw [in_rg rg_known (by decide)]
  exact ⟨by decide, Or.inl (by decide)⟩
theorem ascii_of {l : List UInt8} (h : (l.all fun b => decide (b.toNat < 128)) = true) : ∀ (j : Nat) b, l[j]? = some b → b.toNat < 128 := by
  intro j b hj
  have := List.all_eq_true.1 h b (List.mem_of_getElem? hj)
  simpa using this
theorem plain_known : PlainT ⟨#[94, 49, 46, 50, 46, 51]⟩ := by
  unfold PlainT
  rw [pieces_known]
  intro a ha
  rw [List.mem_singleton] at ha
  subst ha
  rw [pieces_known2]
  intro p hp _
  rw [List.mem_singleton] at hp
  subst hp
  exact Or.inr (ascii_of (by decide))

end Go.Proofs.YtcclfaioicklaaaGreatDoor
