/- Ct9, Pn0, Ent, Ct10, Ct11, Ct13, laid in one text. -/
import Derived.WideKeyEntry
import Derived.Maps.Views
import Derived.Test.YtjpmlagofcgheaaGreatDoorShelfG
import Derived.RangeFuncGives
import Derived.RangeFuncBox
import Derived.Sort.MapsRangeIn
import Derived.OwnWalkIn
import Derived.TacticsInMore
import Derived.RegionIn
import Derived.LoopNIn
import Derived.LoopIn
import Derived.Test.YtjpmlagofcgheaaGreatDoorMg10
namespace Go.Proofs.YtjpmlagofcgheaaGreatDoor
open Go.RowKit Go.Maps Go.WideMaps
set_option maxRecDepth 100000

/-- V has been met, U is left. -/
def Gone (L V U : List CV) (left : Lit → Bool) : Prop := (V ++ U).Perm L ∧ (∀ x ∈ U, left (keyC x) = true) ∧ ∀ kl, left kl = true → ∃ x ∈ U, kl = keyC x
theorem same_lit {x : CV} {kl : Lit} (h : (keyC x).sameKey kl = true) : kl = keyC x := by
  unfold keyC keyP at *
  cases kl <;> simp [Lit.sameKey] at h
  rw [h]
theorem same_self (x : CV) : (keyC x).sameKey (keyC x) = true := by simp [keyC, keyP, Lit.sameKey]
theorem Gone.start (L : List CV) : Gone L [] L (Maps.has (.map (L.map cvE))) := by
  refine ⟨List.Perm.refl _, fun x hx => ?_, fun kl h => ?_⟩
  · rw [Maps.has_eq, List.any_map, List.any_eq_true]
    exact ⟨x, hx, same_self x⟩
  · rw [Maps.has_eq, List.any_map, List.any_eq_true] at h
    obtain ⟨x, hx, hs⟩ := h
    exact ⟨x, hx, same_lit hs⟩
theorem Gone.step {L V U : List CV} {left : Lit → Bool} (h : Gone L V U left) (hL : L.Pairwise fun x y => keyC x ≠ keyC y) {x : CV} (hx : x ∈ U) : ∃ U', Gone L (V ++ [x]) U' (fun z => left z && !z.sameKey (keyC x)) := by
  obtain ⟨hp, h1, h2⟩ := h
  obtain ⟨U1, U2, rfl⟩ := List.append_of_mem hx
  refine ⟨U1 ++ U2, ?_, fun y hy => ?_, fun kl hk => ?_⟩
  · refine List.Perm.trans ?_ hp
    rw [List.append_assoc]
    refine List.Perm.append_left V ?_
    exact (List.perm_middle (a := x) (l₁ := U1) (l₂ := U2)).symm
  · have hpw : (V ++ (U1 ++ x :: U2)).Pairwise fun x y => keyC x ≠ keyC y := (hp.pairwise_iff (fun q e => q e.symm)).2 hL
    have hu := (List.pairwise_append.1 hpw).2.1
    have hu2 := (List.perm_middle.pairwise_iff (fun q e => q e.symm)).1 hu
    have hne : keyC x ≠ keyC y := (List.pairwise_cons.1 hu2).1 y hy
    have hy' : y ∈ U1 ++ x :: U2 := by
      rcases List.mem_append.1 hy with q | q
      · exact List.mem_append_left _ q
      · exact List.mem_append_right _ (List.mem_cons_of_mem _ q)
    show (left (keyC y) && !(keyC y).sameKey (keyC x)) = true
    rw [h1 y hy', Bool.true_and, Bool.not_eq_true']
    cases hs : (keyC y).sameKey (keyC x) with
    | false => rfl
    | true => exact absurd (same_lit hs) hne
  · rw [Bool.and_eq_true, Bool.not_eq_true'] at hk
    obtain ⟨y, hy, rfl⟩ := h2 kl hk.1
    rcases List.mem_append.1 hy with q | q
    · exact ⟨y, List.mem_append_left _ q, rfl⟩
    · rcases List.mem_cons.1 q with rfl | q
      · rw [same_self] at hk; exact absurd hk.2 (by decide)
      · exact ⟨y, List.mem_append_right _ q, rfl⟩
theorem Gone.done {L V U : List CV} {left : Lit → Bool} (h : Gone L V U left) (h0 : ∀ kl, left kl = false) : V.Perm L := by
  obtain ⟨hp, h1, _⟩ := h
  cases U with
  | nil => simpa using hp
  | cons x r => have := h1 x List.mem_cons_self; rw [h0] at this; cases this
def verC (x : CV) : Vn := ⟨x.pg.a, x.pg.b, x.pg.c⟩
def isNm (s : ByteArray) (x : CV) : Bool := decide (x.pg.nm = s)
/-- The versions of a name, in the order of the list. -/
def verL (s : ByteArray) (V : List CV) : List Vn := (V.filter (isNm s)).map verC
theorem verL_yes {s : ByteArray} (V : List CV) {x : CV} (h : x.pg.nm = s) : verL s (V ++ [x]) = verL s V ++ [verC x] := by
  unfold verL
  rw [List.filter_append, List.map_append]
  simp [isNm, h]
theorem verL_no {s : ByteArray} (V : List CV) {x : CV} (h : ¬ x.pg.nm = s) : verL s (V ++ [x]) = verL s V := by
  unfold verL
  rw [List.filter_append, List.map_append]
  simp [isNm, h]
theorem verL_perm {s : ByteArray} {V L : List CV} (h : V.Perm L) : (verL s V).Perm (verL s L) := (h.filter _).map _
theorem verL_len (s : ByteArray) (V : List CV) : (verL s V).length ≤ V.length := by
  unfold verL
  rw [List.length_map]
  exact List.length_filter_le _ _
/-- Versions of one name differ. -/
theorem verL_nodup {s : ByteArray} {L : List CV} (hL : L.Pairwise fun x y => keyC x ≠ keyC y) : (verL s L).Pairwise fun x y => x ≠ y := by
  unfold verL
  rw [List.pairwise_map, List.pairwise_filter]
  refine hL.imp fun {x y} h hx hy e => h ?_
  have e1 : x.pg.nm = s := of_decide_eq_true hx
  have e2 : y.pg.nm = s := of_decide_eq_true hy
  unfold verC at e
  injection e with ea eb ec
  unfold keyC
  rw [e1, e2, ea, eb, ec]
/-- Told: the versions of a name, the greatest first. -/
def Told (L : List CV) (s : ByteArray) (ts : List Vn) : Prop := ts.Perm (verL s L) ∧ ts.Pairwise fun x y => gtV x y = true
theorem Told.of {L : List CV} {s : ByteArray} {ts : List Vn} (hL : L.Pairwise fun x y => keyC x ≠ keyC y) (hp : ts.Perm (verL s L)) (hs : ts.Pairwise fun x y => gtV y x = false) : Told L s ts := by
  refine ⟨hp, ?_⟩
  have hn : ts.Pairwise fun x y => x ≠ y := (hp.pairwise_iff (fun q e => q e.symm)).2 (verL_nodup hL)
  refine (hs.and hn).imp fun {x y} h => ?_
  cases hg : gtV x y with
  | true => rfl
  | false => exact absurd (gtV_total hg h.1) h.2
theorem gtV_asymm {x y : Vn} (h : gtV x y = true) : gtV y x = false := by
  rw [gtV_iff] at h
  rw [gtV_no]
  omega
theorem Told.uniq {L : List CV} {s : ByteArray} {ts us : List Vn} (h : Told L s ts) (h' : Told L s us) : ts = us := by
  refine List.Perm.eq_of_pairwise (le := fun x y => gtV x y = true) (fun a b _ _ h1 h2 => ?_) h.2 h'.2 (h.1.trans h'.1.symm)
  rw [gtV_asymm h1] at h2
  cases h2

theorem infoV : (Tryz.prog.info? 31).map (fun i => (i.zero, i.size, i.bytes)) = some (some (.agg #[.int .i64 0, .int .i64 0, .int .i64 0]), 3, 24) := by kernel_rfl
/-- Versions in a row of one's own. -/
def OwnV (w : World) (B : Nat) (v : Value) (ts : List Vn) : Prop := w.ownsRow B 31 3 v ts.length (ts.flatMap encV)
theorem OwnV.nil (w : World) (B : Nat) : OwnV w B (.slice none 0 0) [] := ⟨rfl, Or.inl ⟨rfl, rfl⟩⟩
theorem OwnV.len {w : World} {B : Nat} {v : Value} {ts : List Vn} (h : OwnV w B v ts) : ∃ ad cap, v = .slice ad ts.length cap := by
  rcases h.2 with ⟨rfl, hn⟩ | ⟨g, cap, cur, rfl, _⟩
  · exact ⟨none, 0, by rw [hn]⟩
  · exact ⟨_, _, rfl⟩
theorem key_at_pin {L : List CV} (hL : ∀ x ∈ L, KeyOk x.pg.nm x.pg.a x.pg.b x.pg.c) {key : Value} {x : CV} (hx : x ∈ L) (h : keyOf Tryz.prog 58 key = some (keyC x)) : key = .agg #[.string x.pg.nm, .int .i64 x.pg.a, .int .i64 x.pg.b, .int .i64 x.pg.c] :=
  keyedPin.inj h (keyOf_pin (hL x hx).1 (hL x hx).2.1 (hL x hx).2.2.1 (hL x hx).2.2.2)

set_option maxHeartbeats 6400000 in
theorem versions_any {w : World} {B C M : Nat} {L : List CV} (h : CatAt w B C M L) (hlen : L.length ≤ 1000000) (s : ByteArray) : Calls Tryz.prog 17 #[.pointer (some ⟨C, 0, none⟩), .string s] w fun e w' => ∃ v ts, e = .returned v ∧ Told L s ts ∧ OwnV w' w.heap.size v ts ∧ Below w.heap.size w w' := by
  have kc := h.1.1
  have HC := hide3 h
  have HKS := hide3 h.keys
  have HOM := hide3 h.2.1
  have hML := h.2.1.lt
  have HPW := hide3 h.2.2.2
  clear h
  go_enter Tryz.func17, Tryz.ntmps17
  go_wp2_with (at_range; refine wpList_range_own _ rfl _ 72 rfl 58 34 keyedPin Tryz.underlying72 _ M L.length _ rfl HOM.out ?_; intro w0 hrg0 hg0 hs0; have HS0 : Hid (w0.heap.size = w.heap.size + 1) := hs0; clear hs0)
  go_frame
  go_loopw [5] (fun vo wr => ∃ (left : Lit → Bool) (cnt : Nat) (V U : List CV), wr.ranges Tryz.prog 58 heldR M w.heap.size L.length (.map (L.map cvE)) left cnt ∧ Gone L V U left ∧ OwnV wr (w.heap.size + 1) vo (verL s V) ∧ Below w.heap.size w wr)
    (fun _ wr => wr.rangeLeft M w.heap.size)
  case atStart =>
    exact ⟨_, _, [], L, hrg0, Gone.start L, OwnV.nil _ _, (Below.refl _ _).grown hg0 (Nat.le_refl _) (fun j hj => by cases hj)⟩
  case round =>
    obtain ⟨left, cnt, V, U, hrg, hgn, hov, hb⟩ := hrel
    have HR := hide3 hrg
    have HG := hide3 hgn
    have HV := hide3 hov
    have HB := hide3 hb
    obtain ⟨ao, co, rfl⟩ := hov.len
    have hvl : (verL s V).length ≤ 1000000 := by
      have h1 := verL_len s V
      have h2 := hgn.1.length_eq
      rw [List.length_append] at h2
      omega
    clear hrg hgn hov hb
    go_wp2_with (at_next; refine wpList_next_ranges _ rfl _ rfl 58 keyedPin heldR (α := Value) (β := Value) id id (fun key kl hk => ⟨key, rfl⟩) (fun v y hv => ⟨v, rfl⟩) M w.heap.size L.length _ _ _ rfl HR.out ?_ ?_)
    · intro hc0 hl0
      have HD : Hid (V.Perm L) := HG.out.done hl0
      have HST : Hid (Calls Tryz.prog 39 #[.slice ao (verL s V).length co, .func (.func 40) #[] #[]] wr fun e w' => e = .returned (.tuple #[]) ∧ ∃ ts : List Vn, ts.Perm (verL s V) ∧ (ts.Pairwise fun x y => gtV y x = false) ∧ w'.ownsRow (w.heap.size + 1) 31 3 (.slice ao (verL s V).length co) ts.length (ts.flatMap encV) ∧ wr.grownBy w' (Value.slice ao (verL s V).length co).ownBlock) := sortV_any HV.out (by omega)
      clear hc0 hl0
      go_wp2_with (go_at_call 39; refine HST.out.mono ?_; rintro e w3 ⟨rfl, ts, hp, hs, ho, hg⟩)
      go_ret
      exact ⟨_, ts, rfl, Told.of HPW.out (hp.trans (verL_perm HD.out)) hs, own_base ho (by omega), HB.out.grown hg HB.out.size (fun k hk => by have := (World.ownsRow.lt HV.out k hk).1; omega)⟩
    · intro key val kl yd yp w2 cnt2 hkey hlk hv hat hrg2 hlt hg2 hs2 hen
      obtain ⟨x, hxU, rfl⟩ := HG.out.2.2 kl hlk
      have hxL : x ∈ L := HG.out.1.mem_iff.1 (List.mem_append_right _ hxU)
      obtain rfl := key_at_pin HKS.out hxL hkey
      obtain ⟨U', hgn'⟩ := HG.out.step HPW.out hxU
      have HG' := hide3 hgn'
      have HR2 := hide3 hrg2
      have HB2 : Hid (Below w.heap.size w w2) := HB.out.grown hg2 HB.out.size (fun j hj => by cases hj; exact Nat.le_refl _)
      have HV2 : Hid (OwnV w2 (w.heap.size + 1) (.slice ao (verL s V).length co) (verL s V)) := own_of HV.out fun g hg => hg2.block g (World.ownsRow.lt HV.out g hg).2 (fun e => by have := (World.ownsRow.lt HV.out g hg).1; have := Option.some.inj e; omega)
      have HME : Hid (∀ w5 row, w2.grownBy w5 row → some M ≠ row → some w.heap.size ≠ row → w5.rangeLeft M w.heap.size < wr.rangeLeft M w.heap.size) := fun w5 row hg h1 h2 => by rw [(HR2.out.kept hg h1 h2).left_eq, HR.out.left_eq]; exact hlt
      have hle2 : w.heap.size + 1 ≤ w2.heap.size := by have := HR2.out.lt; omega
      clear hkey hlk hv hat hrg2 hlt hg2 hs2 hgn' hxU
      by_cases hnm : x.pg.nm = s
      · have HVL : Hid (verL s (V ++ [x]) = verL s V ++ [verC x]) := verL_yes V hnm
        rw [hnm] at hen
        have HV4 : Hid (((w2.alloc (.cells #[.string s, .int .i64 x.pg.a, .int .i64 x.pg.b, .int .i64 x.pg.c] 58)).alloc (.cells #[.int .i64 x.pg.a, .int .i64 x.pg.b, .int .i64 x.pg.c] 31)).ownsRow (w.heap.size + 1) 31 3 (.slice ao (verL s V).length co) (verL s V).length ((verL s V).flatMap encV)) := own_below HV2.out (boxB2 _ _ _)
        have HNW : Hid (∀ j u, (encV (verC x))[j]? = some u → ((w2.alloc (.cells #[.string s, .int .i64 x.pg.a, .int .i64 x.pg.b, .int .i64 x.pg.c] 58)).alloc (.cells #[.int .i64 x.pg.a, .int .i64 x.pg.b, .int .i64 x.pg.c] 31)).cell? ((⟨w2.heap.size + 1, 0, none⟩ : Addr).add j) = some u) := World.news_of_block (cs := #[.int .i64 x.pg.a, .int .i64 x.pg.b, .int .i64 x.pg.c]) (t := 31) (fr := (0, 0)) (by
          have e : (w2.alloc (.cells #[.string s, .int .i64 x.pg.a, .int .i64 x.pg.b, .int .i64 x.pg.c] 58)).heap.size = w2.heap.size + 1 := by simp
          rw [← e]
          show ((w2.alloc (.cells #[.string s, .int .i64 x.pg.a, .int .i64 x.pg.b, .int .i64 x.pg.c] 58)).heap.push _)[_]? = _
          rw [Array.getElem?_push, if_pos rfl])
        have HGB : Hid (∀ w5 row, ((w2.alloc (.cells #[.string s, .int .i64 x.pg.a, .int .i64 x.pg.b, .int .i64 x.pg.c] 58)).alloc (.cells #[.int .i64 x.pg.a, .int .i64 x.pg.b, .int .i64 x.pg.c] 31)).grownBy w5 row → w2.grownBy w5 row) := fun w5 row hg => grown_pre (boxB2 _ _ _) hg
        clear hnm
        go_wp2_with (at_builtin; refine wp_ownN (B := w.heap.size + 1) (wx := (w2.alloc (.cells #[.string s, .int .i64 x.pg.a, .int .i64 x.pg.b, .int .i64 x.pg.c] 58)).alloc (.cells #[.int .i64 x.pg.a, .int .i64 x.pg.b, .int .i64 x.pg.c] 31)) (v := .slice ao (verL s V).length co) (ad := ⟨w2.heap.size + 1, 0, none⟩) (news := encV (verC x)) infoV Tryz.underlying47 rfl (by decide) (by decide) rfl (.tmp 20) (.tmp 23) rfl rfl HV4.out (by simp; omega) rfl rfl HNW.out (by simp [encV, Value.oneCell']) (by omega) ?_; intro v1 w4 ho hgr hat; obtain ⟨g7, cap7, rfl, _⟩ := ho.form (by omega); have HO4 := hide3 ho; have HG4 := hide3 (HGB.out _ _ hgr); clear ho hgr hat)
        have hr1 : some M ≠ (Value.slice ao (verL s V).length co).ownBlock := fun e => by have := (World.ownsRow.lt HV.out M e.symm).1; omega
        have hr2 : some w.heap.size ≠ (Value.slice ao (verL s V).length co).ownBlock := fun e => by have := (World.ownsRow.lt HV.out w.heap.size e.symm).1; omega
        refine ⟨⟨_, cnt2, V ++ [x], U', HR2.out.kept HG4.out hr1 hr2, HG'.out, ?_, HB2.out.grown HG4.out HB2.out.size (fun k hk => by have := (World.ownsRow.lt HV.out k hk).1; omega)⟩, HME.out _ _ HG4.out hr1 hr2⟩
        unfold OwnV
        rw [HVL.out, List.length_append, List.flatMap_append]
        simpa using HO4.out
      · have HVL : Hid (verL s (V ++ [x]) = verL s V) := verL_no V hnm
        have hne : (x.pg.nm.toList == s.toList) = false := by
          rw [beq_eq_false_iff_ne]
          exact fun e => hnm (bytes_same e)
        clear hnm
        generalize x.pg.nm = n at *
        go_wp2_with fail
        have hgb : w2.grownBy (w2.alloc (.cells #[.string n, .int .i64 x.pg.a, .int .i64 x.pg.b, .int .i64 x.pg.c] 58)) none := World.grownBy_alloc _ _ _
        refine ⟨⟨_, cnt2, V ++ [x], U', HR2.out.kept hgb (by simp) (by simp), HG'.out, ?_, below_then HB2.out (boxB _ _)⟩, HME.out _ _ hgb (by simp) (by simp)⟩
        rw [HVL.out]
        exact own_below HV2.out (boxB _ _)
end Go.Proofs.YtjpmlagofcgheaaGreatDoor
namespace Go.Proofs.YtjpmlagofcgheaaGreatDoor
open Go.RowKit
set_option maxRecDepth 100000

/-- A pin. -/
structure Pn where
  nm : ByteArray
  a : Int
  b : Int
  c : Int
/-- A pin at a place; pins. -/
def PnIn (w : World) (g o : Nat) (p : Pn) : Prop := (w.cell? ⟨g, o, none⟩ = some (.string p.nm) ∧ w.cell? ⟨g, o + 1, none⟩ = some (.int .i64 p.a) ∧ w.cell? ⟨g, o + 2, none⟩ = some (.int .i64 p.b) ∧ w.cell? ⟨g, o + 3, none⟩ = some (.int .i64 p.c)) ∧ g < w.heap.size
def PinsAt (w : World) (v : Value) (L : List Pn) : Prop := ∃ ad cap, v = .slice ad L.length cap ∧ L.length ≤ cap ∧ (L = [] ∨ ∃ g o, ad = some ⟨g, o, none⟩ ∧ g < w.heap.size ∧ ∀ i (h : i < L.length), PnIn w g (o + i * 4) L[i])
theorem PnIn.below {w w' : World} {g o : Nat} {p : Pn} (h : PnIn w g o p) (hb : Below w.heap.size w w') : PnIn w' g o p := by
  obtain ⟨⟨h0, h1, h2, h3⟩, hg⟩ := h
  have q : ∀ i, w'.cell? ⟨g, i, none⟩ = w.cell? ⟨g, i, none⟩ := fun i => hb.cell (p := ⟨g, i, none⟩) hg
  exact ⟨⟨by rw [q]; exact h0, by rw [q]; exact h1, by rw [q]; exact h2, by rw [q]; exact h3⟩, Nat.lt_of_lt_of_le hg hb.size⟩
theorem PinsAt.below {w w' : World} {v : Value} {L : List Pn} (h : PinsAt w v L) (hb : Below w.heap.size w w') : PinsAt w' v L := by
  obtain ⟨ad, cap, hv, hc, hl⟩ := h
  refine ⟨ad, cap, hv, hc, hl.imp id ?_⟩
  rintro ⟨g, o, ha, hg, hs⟩
  exact ⟨g, o, ha, Nat.lt_of_lt_of_le hg hb.size, fun i hi => (hs i hi).below hb⟩
theorem PinsAt.sl {w : World} {v : Value} {L : List Pn} (h : PinsAt w v L) : ∃ ad cap, v = .slice ad L.length cap := by
  obtain ⟨ad, cap, hv, _⟩ := h
  exact ⟨ad, cap, hv⟩
end Go.Proofs.YtjpmlagofcgheaaGreatDoor
namespace Go.Proofs.YtjpmlagofcgheaaGreatDoor
open Go.RowKit Go.Maps Go.WideMaps Go.ChangeShapes Go.WideShapes Go.MapKept Go.ChangeMaps Go.WideElems
set_option maxRecDepth 100000

theorem setBlock_self {w : World} {b : Nat} {o : Obj} (h : w.heap[b]? = some o) : setBlock w b o = w := by
  unfold setBlock
  have e : w.heap.setIfInBounds b o = w.heap := by
    apply Array.ext_getElem?
    intro i
    rw [Array.getElem?_setIfInBounds]
    by_cases hi : b = i
    · subst hi
      have hb := (Array.getElem?_eq_some_iff.1 h).1
      rw [if_pos rfl, if_pos hb, h]
    · rw [if_neg hi]
  rw [e]
theorem entry_look {P : Program} {w : World} {t k e : TypeId} {R : Value → Option (DataW Value × List MemPlace)} {b n : Nat} {D : DataW Value} (h : w.ownsMap P k R b n D) (K : KeyLaw P k) (ht : P.underlying t = some (.map k e)) {z : Value} (hz : ∀ u : World, (zeroValue e).run P u = .ok z u) (hn : n < maxLen)
    {key v : Value} {kl : Lit} (hkey : keyOf P k key = some kl) (hl : (Instr.lookup t (.map (some b)) key false).run P w = .ok v w) :
    ∃ (v0 : Value) (st : Nat) (w1 : World), (Instr.mapEntry t (.map (some b)) key).run P w = .ok (.tuple #[v0, goInt st]) w1 ∧ (Instr.lookup t (.map (some b)) key false).run P w1 = .ok v w1 ∧ w.grownBy w1 (some b) ∧
      ∀ (val : Value) (d : DataW Value) (ps : List MemPlace), R val = some (d, ps) → ∃ w2, (Instr.entryStore t (.map (some b)) (goInt st) val).run P w1 = .ok () w2 ∧ w2.ownsMap P k R b (n + 1) (D.put kl d) ∧ w1.grownBy w2 (some b) := by
  have hO := h
  obtain ⟨es, clock, hb, F, hs, hD⟩ := h
  obtain ⟨v0, st, es1, clock1, hr, _, hst⟩ := entry_then_store (R := R) K ht hz hb F hkey
  have hg1 : ∀ (u : World) (xs : Array MapEntry) (cl : Nat) (o' : Obj), u.heap[b]? = some (.map xs cl) → u.grownBy (setBlock u b o') (some b) := fun u xs cl o' hu => ⟨rfl, rfl, rfl, by simp [setBlock], fun i _ hi => heap_setBlock_other hu _ (fun e => hi (by rw [e]))⟩
  refine ⟨v0, st, setBlock w b (.map es1 clock1), hr, ?_, hg1 _ _ _ _ hb, fun val d ps hv => ?_⟩
  · rcases K.find w hkey es.toList F.keys with ⟨h1, h2⟩ | ⟨j, e0, h1, h2, h3⟩
    · have hr' : (Instr.mapEntry t (.map (some b)) key).run P w = .ok (.tuple #[z, goInt clock]) (setBlock w b (.map (es.push ⟨key, z, clock⟩) (clock + 1))) := by
        simp [Instr.mapEntry, run_underlying ht, MapKept.run_getObj_map hb, K.check w false hkey, h1, hz, MapKept.run_setObj_map _ hb, Result.andThen, setBlock]
      have hvz : v = z := by
        have e : (Instr.lookup t (.map (some b)) key false).run P w = .ok z w := by
          simp [Instr.lookup, run_underlying ht, MapKept.run_getObj_map hb, K.check w _ hkey, h1, hz, Result.andThen]
        exact ((Result.ok.inj (e.symm.trans hl)).1).symm
      have hw := (Result.ok.inj (hr'.symm.trans hr)).2
      rw [← hw]
      have hb1 : (setBlock w b (.map (es.push ⟨key, z, clock⟩) (clock + 1))).heap[b]? = some (.map (es.push ⟨key, z, clock⟩) (clock + 1)) := heap_setBlock_same hb _
      generalize setBlock w b (.map (es.push ⟨key, z, clock⟩) (clock + 1)) = w1 at *
      have hks : ∀ x ∈ (es.push ⟨key, z, clock⟩).toList, ∃ l, keyOf P k x.key = some l := fun x hx => by
        rw [Array.toList_push] at hx
        rcases List.mem_append.1 hx with hx | hx
        · exact F.keys x hx
        · obtain rfl := List.mem_singleton.1 hx
          exact ⟨kl, hkey⟩
      rcases K.find w1 hkey _ hks with ⟨q1, q2⟩ | ⟨j, e0, q1, q2, q3⟩
      · exact absurd rfl (q2 ⟨key, z, clock⟩ (by rw [Array.toList_push]; simp))
      · have hm := List.mem_of_getElem? q2
        rw [Array.toList_push] at hm
        have hv0 : e0.val = z := by
          rcases List.mem_append.1 hm with hm | hm
          · exact absurd q3 (h2 e0 hm)
          · obtain rfl := List.mem_singleton.1 hm
            rfl
        rw [hvz, ← hv0]
        simp only [Array.toList_push] at q1
        simp [Instr.lookup, run_underlying ht, MapKept.run_getObj_map hb1, K.check w1 _ hkey, q1, Result.andThen]
    · have hj : es[j]? = some e0 := by simpa using h2
      have hsame : es.modify j (fun e => { e with key := key }) = es := by
        apply Array.ext'
        rw [Array.toList_modify, modify_eq_set _ _ _ _ h2]
        have e : ({ e0 with key := key } : MapEntry) = e0 := by rw [← h3]
        rw [e]
        exact set_self _ _ _ h2
      have hr' : (Instr.mapEntry t (.map (some b)) key).run P w = .ok (.tuple #[e0.val, goInt e0.born]) (setBlock w b (.map es clock)) := by
        simp [Instr.mapEntry, run_underlying ht, MapKept.run_getObj_map hb, K.check w false hkey, h1, hj, h3, K.stays w hkey, hsame, MapKept.run_setObj_map _ hb, Result.andThen, setBlock]
      have hw := (Result.ok.inj (hr'.symm.trans hr)).2
      rw [← hw, setBlock_self hb]
      exact hl
  · have hb1 : (setBlock w b (.map es1 clock1)).heap[b]? = some (.map es1 clock1) := heap_setBlock_same hb _
    obtain ⟨es', clock', h1, h2⟩ := hst (setBlock w b (.map es1 clock1)) val hb1
    refine ⟨_, h1, ?_, hg1 _ _ _ _ hb1⟩
    obtain ⟨w', h3, h4, _⟩ := hO.update (Keyed.of_law K) ht hn hkey hv
    have hw := (Result.ok.inj (h2.symm.trans h3)).2
    obtain ⟨es2, cl2, h5, h6⟩ := h4
    refine ⟨es2, cl2, ?_, h6⟩
    rw [← hw, heap_setBlock_same hb] at h5
    rw [heap_setBlock_same hb1, h5]
end Go.Proofs.YtjpmlagofcgheaaGreatDoor
namespace Go.Proofs.YtjpmlagofcgheaaGreatDoor
open Go.RowKit Go.Maps Go.WideMaps
set_option maxRecDepth 100000

theorem lawV : KeyLaw Tryz.prog 31 := deep_law_laid (m := 5) (by kernel_rfl) (by decide) (of_decide_eq_true (by kernel_rfl)) (by kernel_rfl) (by kernel_rfl)
theorem zeroI (w : World) : (zeroValue 3).run Tryz.prog w = .ok (.int .i64 0) w := by kernel_rfl
/-- How often a version stands there with a name. -/
def isPn (s : ByteArray) (x : Vn) (p : Pn) : Bool := decide (p.nm = s ∧ p.a = x.a ∧ p.b = x.b ∧ p.c = x.c)
def cntP (s : ByteArray) (L : List Pn) (x : Vn) : Nat := L.countP (isPn s x)
theorem cntP_le (s : ByteArray) (L : List Pn) (x : Vn) : cntP s L x ≤ L.length := List.countP_le_length
theorem cntP_snoc (s : ByteArray) (L : List Pn) (p : Pn) (x : Vn) : cntP s (L ++ [p]) x = cntP s L x + (if isPn s x p = true then 1 else 0) := by
  unfold cntP
  rw [List.countP_append, List.countP_singleton]
/-- The counts lie there. -/
def CntAt (w : World) (M n : Nat) (s : ByteArray) (L : List Pn) : Prop := ∃ D : DataW Value, w.ownsMap Tryz.prog 31 heldR M n D ∧ ∀ x : Vn, I64 x.a → I64 x.b → I64 x.c → D.atKey (keyV x.a x.b x.c) (.held (.int .i64 0)) = .held (.int .i64 (cntP s L x))
theorem CntAt.look {w : World} {M n : Nat} {s : ByteArray} {L : List Pn} (h : CntAt w M n s L) {x : Vn} (ha : I64 x.a) (hb : I64 x.b) (hc : I64 x.c) : (Instr.lookup 84 (.map (some M)) (.agg #[.int .i64 x.a, .int .i64 x.b, .int .i64 x.c]) false).run Tryz.prog w = .ok (.int .i64 (cntP s L x)) w := by
  obtain ⟨D, h1, h2⟩ := h
  obtain ⟨v, ps, hr, hv⟩ := h1.lookup keyedV Tryz.underlying84 (zeroI w) (zd := .held (.int .i64 0)) (zp := []) rfl (keyOf_V ha hb hc)
  rw [h2 x ha hb hc] at hv
  rw [hr, heldR_inv hv]
theorem CntAt.kept {w w' : World} {M n : Nat} {s : ByteArray} {L : List Pn} (h : CntAt w M n s L) {row : Option Nat} (hg : w.grownBy w' row) (hr : some M ≠ row) : CntAt w' M n s L := by
  obtain ⟨D, h1, h2⟩ := h
  exact ⟨D, h1.kept hg hr, h2⟩

set_option maxHeartbeats 6400000 in
theorem pinned_any {w : World} {L : List Pn} {v : Value} (h : PinsAt w v L) (hlen : L.length ≤ 9223372036854775807) (hi : ∀ p ∈ L, I64 p.a ∧ I64 p.b ∧ I64 p.c) (s : ByteArray) : Calls Tryz.prog 41 #[.string s, v] w fun e w' => e = .returned (.map (some w.heap.size)) ∧ (∃ n, CntAt w' w.heap.size n s L) ∧ Below w.heap.size w w' := by
  have hmm := @run_makeMap Tryz.prog
  obtain ⟨ad, cap, rfl, hcap, hc⟩ := h
  have HEL : Hid (∀ i (h : i < L.length), ∃ g o, ad = some ⟨g, o, none⟩ ∧ PnIn w g (o + i * 4) L[i]) := fun i hi => by
    rcases hc with e | ⟨g, o, e, hg, hu⟩
    · rw [e] at hi; cases hi
    · exact ⟨g, o, e, hu i hi⟩
  have HIL := hide3 hi
  clear hc hi hcap
  go_enter Tryz.func41, Tryz.ntmps41
  go_wp2_with fail
  go_loopw [11] (fun vi wr => ∃ k : Nat, k ≤ L.length ∧ vi = .int .i64 k ∧ CntAt wr w.heap.size k s (L.take k) ∧ Below w.heap.size w wr) (fun vi _ => L.length - (intOf vi).toNat)
  case atStart => exact ⟨0, Nat.zero_le _, rfl, ⟨.map [], World.ownsMap_made (H := Value) w Tryz.prog 31 heldR, fun x _ _ _ => rfl⟩, boxB _ _⟩
  case round =>
    obtain ⟨k, hk, rfl, hcn, hb⟩ := hrel
    have HCN := hide3 hcn
    have HB := hide3 hb
    clear hcn hb
    by_cases hlt : k < L.length
    · have hki : (k : Int) < (L.length : Int) := by omega
      obtain ⟨g, o, rfl, ⟨c0, c1, c2, c3⟩, hg⟩ := HEL.out k hlt
      obtain ⟨i1, i2, i3⟩ := HIL.out _ (List.getElem_mem hlt)
      have HTK : Hid (L.take (k + 1) = L.take k ++ [L[k]]) := List.take_succ_eq_append_getElem hlt
      obtain ⟨p, hp⟩ : ∃ p, p = L[k] := ⟨_, rfl⟩
      rw [← hp] at c0 c1 c2 c3 i1 i2 i3 HTK
      have d0 := (HB.out.cell (p := ⟨g, o + k * 4, none⟩) hg).trans c0
      have d1 := (HB.out.cell (p := ⟨g, o + k * 4 + 1, none⟩) hg).trans c1
      have d2 := (HB.out.cell (p := ⟨g, o + k * 4 + 2, none⟩) hg).trans c2
      have d3 := (HB.out.cell (p := ⟨g, o + k * 4 + 3, none⟩) hg).trans c3
      clear hp c0 c1 c2 c3
      by_cases hnm : p.nm = s
      · rw [hnm] at d0
        have HIP : Hid (∀ x : Vn, cntP s (L.take (k + 1)) x = cntP s (L.take k) x + (if x = ⟨p.a, p.b, p.c⟩ then 1 else 0)) := fun x => by
          rw [HTK.out, cntP_snoc]
          congr 1
          have e : isPn s x p = decide (x = ⟨p.a, p.b, p.c⟩) := by
            unfold isPn
            rw [decide_eq_decide]
            exact ⟨fun q => by obtain ⟨_, q1, q2, q3⟩ := q; cases x; simp_all, fun q => by rw [q]; exact ⟨hnm, rfl, rfl, rfl⟩⟩
          rw [e]
          by_cases hx : x = ⟨p.a, p.b, p.c⟩ <;> simp [hx]
        have HCW : Hid (CntAt (wr.alloc (.cells #[.string s, .int .i64 p.a, .int .i64 p.b, .int .i64 p.c] 58)).drew w.heap.size k s (L.take k)) := (HCN.out.kept (World.grownBy_alloc _ _ none) (by simp)).kept (row := none) ⟨rfl, rfl, rfl, Nat.le_refl _, fun _ _ _ => rfl⟩ (by simp)
        have HBW : Hid (Below w.heap.size w (wr.alloc (.cells #[.string s, .int .i64 p.a, .int .i64 p.b, .int .i64 p.c] 58)).drew) := (below_then HB.out (boxB _ _)).drew
        have hl := HCW.out.look (x := ⟨p.a, p.b, p.c⟩) i1 i2 i3
        obtain ⟨D, hD, hA⟩ := HCW.out
        obtain ⟨v0, st, w1, hme, hl1, hg1, hes⟩ := entry_look hD lawV Tryz.underlying84 zeroI (by unfold maxLen; omega) (keyOf_V i1 i2 i3) hl
        obtain ⟨w2, he2, hm2, hg2⟩ := hes (.int .i64 ((cntP s (L.take k) ⟨p.a, p.b, p.c⟩ : Nat) + 1 : Int)) _ [] rfl
        have hcl : cntP s (L.take k) ⟨p.a, p.b, p.c⟩ ≤ 9223372036854775806 := Nat.le_trans (cntP_le _ _ _) (by rw [List.length_take]; omega)
        have HM2 := hide3 hm2
        have HA := hide3 hA
        have HG12 := hide3 (And.intro hg1 hg2)
        have HDM : Hid (IsMap D) := by
          obtain ⟨es, cl, _, _, _, e⟩ := hD
          exact ⟨_, e⟩
        clear hes hm2 hA hg1 hg2 hD
        have HFN : Hid (CntAt w2 w.heap.size (k + 1) s (L.take (k + 1)) ∧ Below w.heap.size w w2) := by
          refine ⟨⟨_, HM2.out, fun x h1 h2 h3 => ?_⟩, (HBW.out.grown HG12.out.1 HBW.out.size (fun j hj => by cases hj; exact Nat.le_refl _)).grown HG12.out.2 (Nat.le_trans HBW.out.size HG12.out.1.size) (fun j hj => by cases hj; exact Nat.le_refl _)⟩
          rw [HIP.out x]
          by_cases hx : x = ⟨p.a, p.b, p.c⟩
          · subst hx
            rw [atKey_put_same HDM.out (keyedV.key (keyOf_V i1 i2 i3)), if_pos rfl]
            rfl
          · rw [atKey_put_other (fun q => hx (by
              have e := keyedV.inj (keyOf_V h1 h2 h3) (q ▸ keyOf_V i1 i2 i3)
              cases x
              simp at e
              simp [e])), HA.out x h1 h2 h3, if_neg hx, Nat.add_zero]
        clear HM2 HA HG12 HDM HIP HTK hnm
        generalize cntP s (L.take k) ⟨p.a, p.b, p.c⟩ = cn at *
        simp only [goInt] at hme he2
        go_wp2_with fail
        have q1 : (wr.alloc (.cells #[.string s, .int .i64 p.a, .int .i64 p.b, .int .i64 p.c] 58)).cell? ⟨wr.heap.size, 1, none⟩ = some (.int .i64 p.a) := by simp
        have q2 : (wr.alloc (.cells #[.string s, .int .i64 p.a, .int .i64 p.b, .int .i64 p.c] 58)).cell? ⟨wr.heap.size, 2, none⟩ = some (.int .i64 p.b) := by simp
        have q3 : (wr.alloc (.cells #[.string s, .int .i64 p.a, .int .i64 p.b, .int .i64 p.c] 58)).cell? ⟨wr.heap.size, 3, none⟩ = some (.int .i64 p.c) := by simp
        generalize (wr.alloc (.cells #[.string s, .int .i64 p.a, .int .i64 p.b, .int .i64 p.c] 58)) = W at *
        go_region
        all_goals go_wp2_with fail
        all_goals exact ⟨⟨k + 1, by omega, by go_num, HFN.out.1, HFN.out.2⟩, by simp [intOf]; omega⟩
      · have hne : (p.nm.toList == s.toList) = false := by
          rw [beq_eq_false_iff_ne]
          exact fun e => hnm (bytes_same e)
        have HCE : Hid (∀ x, cntP s (L.take (k + 1)) x = cntP s (L.take k) x) := fun x => by
          rw [HTK.out, cntP_snoc, if_neg, Nat.add_zero]
          unfold isPn
          rw [decide_eq_true_eq]
          exact fun q => hnm q.1
        clear hnm
        go_wp2_with fail
        refine ⟨⟨k + 1, by omega, by go_num, ?_, below_then HB.out (boxB _ _)⟩, by simp [intOf]; omega⟩
        obtain ⟨D, hD, hA⟩ := HCN.out.kept (World.grownBy_alloc wr (.cells #[.string p.nm, .int .i64 p.a, .int .i64 p.b, .int .i64 p.c] 58) none) (by simp)
        exact ⟨D, hD.mono (Nat.le_succ _), fun x h1 h2 h3 => by rw [hA x h1 h2 h3, HCE.out x]⟩
    · obtain rfl : k = L.length := by omega
      have HCL : Hid (CntAt wr w.heap.size L.length s L) := by
        have e := HCN.out
        rw [List.take_length] at e
        exact e
      have hki : ¬ ((L.length : Int) < (L.length : Int)) := by omega
      clear HCN
      go_wp2
      go_ret
      exact ⟨rfl, ⟨_, HCL.out⟩, HB.out⟩
end Go.Proofs.YtjpmlagofcgheaaGreatDoor
namespace Go.Proofs.YtjpmlagofcgheaaGreatDoor
open Go.RowKit
set_option maxRecDepth 100000

theorem row_news {w : World} {e : TypeId} {z : Nat} {g n : Nat} {cur : Array Value} {xs : List Value} (hg : w.heap[g]? = some (.cells cur e (0, 0))) (ht : cur.toList.take (n * z) = xs) : ∀ j u, xs[j]? = some u → w.cell? ((⟨g, 0, none⟩ : Addr).add j) = some u := fun j u hj => by
  refine World.news_of_block hg j u ?_
  rw [← ht] at hj
  by_cases h : j < n * z
  · rw [List.getElem?_take_of_lt h] at hj
    exact hj
  · rw [List.getElem?_take_eq_none (by omega)] at hj
    cases hj
/-- A row of one's own, put behind another one, in a region that keeps its order. -/
theorem wp_ownR {B B' : Nat} {wx : World} {elt slt : TypeId} {z : Value} {sz bs n m : Nat} {v x : Value} {xs news : List Value} {ops : Array Oper} {rest : List Oper} {o : Oper} {f : Act} {Q : Exit → Act → World → Prop}
    (hinfo : (Tryz.prog.info? elt).map (fun i => (i.zero, i.size, i.bytes)) = some (some z, sz, bs)) (hund : Tryz.prog.underlying slt = some (.slice elt)) (hzc : z.cells.size = sz) (hsz : 0 < sz) (hbs : bs ≤ 1000)
    (hgd : o.guard = none) (s t : Operand) (ho : o.op = .call { callee := .builtin .append, args := #[s, t], argTypes := #[slt, slt] }) (hs : f.eval s = v)
    (hown : wx.ownsRow B elt sz v n xs) (hB : B ≤ wx.heap.size) (hx : f.eval t = x) (hxo : wx.ownsRow B' elt sz x m news) (hone : ∀ u ∈ news, u.oneCell' = true) (hlen : n + m ≤ 1000000000)
    (h : ∀ v1 w1, w1.ownsRow B elt sz v1 (n + m) (xs ++ news) → wx.grownBy w1 v.ownBlock → (v1.ownBlock = v.ownBlock ∨ v1.ownBlock = some wx.heap.size) → wpList Tryz.prog ops Q rest (f.put o.dst v1) w1) :
    wpList Tryz.prog ops Q (o :: rest) f wx := by
  rcases hxo.2 with ⟨rfl, rfl⟩ | ⟨g, cap, cur, rfl, _, hgg, _, _, _, ht⟩
  · obtain rfl : news = [] := List.length_eq_zero_iff.1 (by rw [hxo.1, Nat.zero_mul])
    obtain ⟨i0, hi, _⟩ := Sc.info_parts hinfo
    have h1 := h v wx (by rw [Nat.add_zero, List.append_nil]; exact hown) ⟨rfl, rfl, rfl, Nat.le_refl _, fun _ _ _ => rfl⟩ (Or.inl rfl)
    refine wpList_plain hgd fun K hK => ?_
    obtain ⟨base, cap, hv, hnc⟩ : ∃ base cap, v = .slice base n cap ∧ n ≤ cap := by
      rcases hown.2 with ⟨rfl, rfl⟩ | ⟨g, cap, cur, rfl, _, _, hc, _⟩
      · exact ⟨none, 0, rfl, Nat.le_refl _⟩
      · exact ⟨_, cap, rfl, hc⟩
    subst hv
    have hr : (Builtin.append_ #[slt, slt] o.type #[.slice base n cap, .slice none 0 0]).run Tryz.prog wx = .ok (.slice base n cap) wx := by
      cases base <;> simp [Builtin.append_, run_underlying hund, sizeOf, typeInfo, hi, Builtin.lenOf, hnc, Builtin.firstCells, loadCells, storeCells]
    unfold Oper.wp execOp
    simp only [ho, resolve, invoke, builtin, Sem.run_bind, Sem.run_pure, Result.andThen_ok, List.map_toArray, List.map_cons, List.map_nil, hs, hx, hr]
    exact hK _ _ h1
  · exact wp_ownN hinfo hund hzc hsz hbs hgd s t ho hs hown hB hx hxo.1 (row_news hgg ht) hone hlen h

theorem encV_one (l : List Vn) : ∀ u ∈ l.flatMap encV, u.oneCell' = true := fun u hu => by
  obtain ⟨x, _, hx⟩ := List.mem_flatMap.1 hu
  simp [encV] at hx
  rcases hx with rfl | rfl | rfl <;> rfl

theorem row_made (w : World) (cs : Array Value) (cap : Nat) (hc : cap ≤ maxLen) (hs : cs.size = cap * 3) : (w.drew.alloc (.cells cs 31)).ownsRow w.heap.size 31 3 (.slice (some ⟨w.heap.size, 0, none⟩) 0 cap) 0 [] :=
  ⟨rfl, Or.inr ⟨w.heap.size, cap, cs, rfl, Nat.le_refl _, by show (w.drew.heap.push _)[w.drew.heap.size]? = _; rw [Array.getElem?_push, if_pos rfl], Nat.zero_le _, hc, hs, by simp⟩⟩
theorem grow_nil (n : Nat) (hn : n ≤ 1000000000) (w : World) : Calls Tryz.prog 80 #[.slice none 0 0, .int .i64 n] w fun e w' => ∃ v, e = .returned v ∧ OwnV w' w.heap.size v [] ∧ Below w.heap.size w w' := by
  by_cases h0 : n = 0
  · subst h0
    refine (Any8.slices_Grow_room Tryz.growV none 0 0 0 w (Nat.le_refl _) (by omega) (by omega) (Nat.le_refl _)).mono ?_
    rintro e w' ⟨rfl, rfl⟩
    exact ⟨_, rfl, OwnV.nil _ _, Below.refl _ _⟩
  · obtain ⟨i0, hi, hz0, hz1, hz2⟩ := Sc.info_parts infoV
    refine (Any8.slices_Grow_grow Tryz.growV i0 _ hi hz0 (by rw [hz1]; decide) none 0 0 n [] w (Nat.le_refl _) (by omega) (by rw [hz2]; omega) (by omega) (by simp) (fun _ => rfl) (fun a ha => by cases ha)).mono ?_
    rintro e w' ⟨rfl, rfl⟩
    have hge := grownCap_ge w (0 + n) 0 31
    refine ⟨_, rfl, row_made w _ _ (grownCap_le_maxLen _ _ _ _ (by unfold maxLen; omega)) ?_, (Below.refl _ _).drew.alloc (Nat.le_refl _) _⟩
    rw [Array.size_append, Array.size_append, size_zeroCells, size_zeroCells]
    show 0 + (0 + n - 0) * 3 + (grownCap w (0 + n) 0 31 - (0 + n)) * 3 = grownCap w (0 + n) 0 31 * 3
    omega

set_option maxHeartbeats 3200000 in
theorem concat_two {w : World} {B B' g : Nat} {v1 v2 : Value} {xs ys : List Vn} (h1 : OwnV w B v1 xs) (h2 : OwnV w B' v2 ys) (c0 : w.cell? ⟨g, 0, none⟩ = some v1) (c1 : w.cell? ⟨g, 1, none⟩ = some v2) (hx : xs.length ≤ 100000000) (hy : ys.length ≤ 100000000) : Calls Tryz.prog 43 #[.slice (some ⟨g, 0, none⟩) 2 2] w fun e w' => ∃ v, e = .returned v ∧ OwnV w' w.heap.size v (xs ++ ys) ∧ Below w.heap.size w w' := by
  have hgl : g < w.heap.size := World.block_lt_of_cell? w ⟨g, 0, none⟩ c0
  have HX := hide3 h1
  have HY := hide3 h2
  obtain ⟨a1, k1, rfl⟩ := h1.len
  obtain ⟨a2, k2, rfl⟩ := h2.len
  have HGR : Hid (Calls Tryz.prog 80 #[.slice none 0 0, .int .i64 ((xs.length : Int) + (ys.length : Int))] w fun e w' => ∃ v, e = .returned v ∧ OwnV w' w.heap.size v [] ∧ Below w.heap.size w w') := by
    have e := grow_nil (xs.length + ys.length) (by omega) w
    rw [Int.natCast_add] at e
    exact e
  obtain ⟨n1, hn1⟩ : ∃ n, n = xs.length := ⟨_, rfl⟩
  obtain ⟨n2, hn2⟩ : ∃ n, n = ys.length := ⟨_, rfl⟩
  have HN1 := hide3 hn1
  have HN2 := hide3 hn2
  rw [← hn1] at hx c0 HGR
  rw [← hn2] at hy c1 HGR
  clear h1 h2 hn1 hn2
  have q1 : ¬ (n1 : Int) < 0 := by omega
  have q2 : ¬ ((n1 : Int) + (n2 : Int)) < 0 := by omega
  go_enter Tryz.func43, Tryz.ntmps43
  go_wp2_with fail
  go_loopw [3, 11] (fun vs vi wr => wr = w ∧ ((vi = .int .i64 0 ∧ vs = .int .i64 0) ∨ (vi = .int .i64 1 ∧ vs = .int .i64 n1) ∨ (vi = .int .i64 2 ∧ vs = .int .i64 (n1 + n2 : Int)))) (fun _ vi _ => 2 - (intOf vi).toNat)
  case atStart => exact ⟨rfl, Or.inl ⟨rfl, rfl⟩⟩
  case round =>
    obtain ⟨hww, ⟨rfl, rfl⟩ | ⟨rfl, rfl⟩ | ⟨rfl, rfl⟩⟩ := hrel
    · obtain rfl : w = wr := hww.symm
      go_wp2_with fail
      exact ⟨by simp, by decide⟩
    · obtain rfl : w = wr := hww.symm
      go_wp2_with fail
      exact ⟨by simp, by decide⟩
    · obtain rfl : w = wr := hww.symm
      go_wp2_with (go_at_call 80; refine HGR.out.mono ?_; rintro e w2 ⟨vr, rfl, hov, hb⟩; have HV0 := hide3 hov; have HB0 := hide3 hb; obtain ⟨ar0, cr0, rfl⟩ := hov.len; clear hov hb HGR)
      go_loopw [6, 27] (fun vr vi wr => ((vi = .int .i64 0 ∧ OwnV wr w.heap.size vr []) ∨ (vi = .int .i64 1 ∧ OwnV wr w.heap.size vr xs) ∨ (vi = .int .i64 2 ∧ OwnV wr w.heap.size vr (xs ++ ys))) ∧ Below w.heap.size w wr) (fun _ vi _ => 2 - (intOf vi).toNat)
      case atStart => exact ⟨Or.inl ⟨rfl, HV0.out⟩, HB0.out⟩
      case round =>
        obtain ⟨⟨rfl, hov⟩ | ⟨rfl, hov⟩ | ⟨rfl, hov⟩, hb⟩ := hrel
        · have HB := hide3 hb
          have HR : Hid (wr.ownsRow w.heap.size 31 3 _ 0 []) := hov
          obtain ⟨ar, cr, rfl⟩ := hov.len
          have d0 := (HB.out.cell (p := ⟨g, 0, none⟩) hgl).trans c0
          have HS : Hid (wr.ownsRow B 31 3 (.slice a1 n1 k1) n1 (xs.flatMap encV)) := by
            have e := own_below HX.out HB.out
            rw [← HN1.out] at e
            exact e
          clear hov hb
          go_wp2_with (at_builtin; refine wp_ownR (B := w.heap.size) (wx := wr) (v := .slice ar ([] : List Vn).length cr) (x := .slice a1 n1 k1) infoV Tryz.underlying47 rfl (by decide) (by decide) rfl (.tmp 31) (.tmp 32) rfl rfl HR.out HB.out.size rfl HS.out (encV_one _) (by omega) ?_; intro u1 w4 ho hgr hat; have HO4 : Hid (OwnV w4 w.heap.size u1 xs) := (by unfold Hid OwnV; rw [← HN1.out]; simpa using ho); obtain ⟨g7, cap7, hu⟩ := HO4.out.len; subst hu; have HB4 : Hid (Below w.heap.size w w4) := HB.out.grown hgr HB.out.size (fun k hk => (World.ownsRow.lt HR.out k hk).1); clear ho hgr hat)
          exact ⟨⟨Or.inr (Or.inl ⟨rfl, HO4.out⟩), HB4.out⟩, by decide⟩
        · have HB := hide3 hb
          obtain ⟨ar, cr, rfl⟩ := hov.len
          have HR : Hid (wr.ownsRow w.heap.size 31 3 (.slice ar xs.length cr) xs.length (xs.flatMap encV)) := hov
          have d1 := (HB.out.cell (p := ⟨g, 1, none⟩) hgl).trans c1
          have HS : Hid (wr.ownsRow B' 31 3 (.slice a2 n2 k2) n2 (ys.flatMap encV)) := by
            have e := own_below HY.out HB.out
            rw [← HN2.out] at e
            exact e
          have hxl : xs.length ≤ 100000000 := HN1.out ▸ hx
          clear hov hb
          go_wp2_with (at_builtin; refine wp_ownR (B := w.heap.size) (wx := wr) (v := .slice ar xs.length cr) (x := .slice a2 n2 k2) infoV Tryz.underlying47 rfl (by decide) (by decide) rfl (.tmp 31) (.tmp 32) rfl rfl HR.out HB.out.size rfl HS.out (encV_one _) (by omega) ?_; intro u1 w4 ho hgr hat; have HO4 : Hid (OwnV w4 w.heap.size u1 (xs ++ ys)) := (by unfold Hid OwnV; rw [List.length_append, List.flatMap_append, ← HN2.out]; exact ho); obtain ⟨g7, cap7, hu⟩ := HO4.out.len; subst hu; have HB4 : Hid (Below w.heap.size w w4) := HB.out.grown hgr HB.out.size (fun k hk => (World.ownsRow.lt HR.out k hk).1); clear ho hgr hat)
          exact ⟨⟨Or.inr (Or.inr ⟨rfl, by have e := HO4.out; rw [List.length_append] at e; exact e⟩), HB4.out⟩, by decide⟩
        · have HB := hide3 hb
          have HR := hide3 hov
          obtain ⟨ar, cr, rfl⟩ := hov.len
          clear hov hb
          go_wp2
          go_ret
          exact ⟨_, rfl, HR.out, HB.out⟩
end Go.Proofs.YtjpmlagofcgheaaGreatDoor
namespace Go.Proofs.YtjpmlagofcgheaaGreatDoor
open Go.RowKit Go.Maps Go.WideMaps
set_option maxRecDepth 100000

/-- A package's name and version. -/
def pinC (x : CV) : Value := .agg #[.string x.pg.nm, .int .i64 x.pg.a, .int .i64 x.pg.b, .int .i64 x.pg.c]

set_option maxHeartbeats 2000000 in
theorem keysP_in (n : Nat) (hn : 1 ≤ n) (l Bm b nn : Nat) {L : List CV} (hK : ∀ x ∈ L, KeyOk x.pg.nm x.pg.a x.pg.b x.pg.c) (hP : L.Pairwise fun x y => keyC x ≠ keyC y) (J : List CV → World → Prop)
    (hY : ∀ pre x W, J pre W → pre.length < L.length → YieldAt Fence.wide (n - 1) Tryz.prog l #[pinC x] W fun e W' => e = .returned (.bool true) ∧ J (pre ++ [x]) W' ∧ KeepsWalks W W')
    (W : World) (hJ : AbidesFrom W.heap.size J) (hm : W.cell? ⟨Bm, 0, none⟩ = some (.map (some b))) (hown : W.ownsMap Tryz.prog 58 heldR b nn (.map (L.map cvE))) (h0 : J [] W) :
    CallsIn Fence.wide n Tryz.prog 82 #[.func (.yield l) #[] #[], .pointer (some ⟨Bm, 0, none⟩)] W fun e W' => (∃ v, e = .returned v) ∧ ∃ V : List CV, V.Perm L ∧ J V W' := by
  refine callsIn_of_wp Tryz.func82 rfl trivial ?_ rfl
  simp only [Tryz.ntmps82, List.size_toArray, List.length_cons, List.length_nil, Nat.reduceAdd, Nat.reduceSub, Array.replicate_succ, Array.replicate_zero, List.push_toArray, List.append_toArray, List.nil_append, List.cons_append]
  gi_wp2_with (first
    | (gi_at_range; refine wpListIn_range_own _ rfl _ 72 rfl 58 34 keyedPin Tryz.underlying72 _ b nn _ rfl hown ?_; intro w0 hrg0 hg0 hs0)
    | gi_in)
  go_frame
  gi_loopw [3] (fun _ wr => ∃ (left : Lit → Bool) (cnt : Nat) (V U : List CV), wr.ranges Tryz.prog 58 heldR b W.heap.size nn (.map (L.map cvE)) left cnt ∧ Gone L V U left ∧ J V wr)
    (fun _ wr => wr.rangeLeft b W.heap.size)
  case atStart =>
    exact ⟨_, _, [], L, hrg0, Gone.start L, hJ [] W w0 none h0 hg0 (fun r e => by cases e)⟩
  case round =>
    obtain ⟨left, cnt, V, U, hrg, hC, hJs⟩ := hrel
    gi_wp2_with (first
      | (gi_at_next; refine wpListIn_next_ranges _ rfl _ rfl 58 keyedPin heldR (α := Value) (β := Value) id id (fun key kl hk => ⟨key, rfl⟩) (fun v _ _ => ⟨v, rfl⟩) b W.heap.size nn _ _ _ rfl hrg ?_ ?_)
      | gi_in)
    · intro hc0 hl0
      gi_wp2
      go_end0
      exact ⟨⟨_, rfl⟩, V, hC.done hl0, hJs⟩
    · intro key c kl yd yp w2 cnt2 hkey hlk hv hat hrg2 hlt hg2 hs2 hen
      obtain ⟨x, hxU, rfl⟩ := hC.2.2 kl hlk
      have hxL : x ∈ L := hC.1.mem_iff.1 (List.mem_append_right _ hxU)
      obtain rfl := key_at_pin hK hxL hkey
      obtain ⟨U', hC'⟩ := hC.step hP hxU
      have hlen : V.length < L.length := by
        have e := hC.1.length_eq
        rw [List.length_append] at e
        have := List.length_pos_of_mem hxU
        omega
      have hJ2 : J V w2 := hJ V wr w2 (some W.heap.size) hJs hg2 (fun r e => by cases e; exact ⟨Nat.le_refl _, hrg.iter_walk⟩)
      have hJ3 : J V (w2.alloc (.cells #[.string x.pg.nm, .int .i64 x.pg.a, .int .i64 x.pg.b, .int .i64 x.pg.c] 58)) := hJ V w2 _ none hJ2 (World.grownBy_alloc _ _ _) (fun r e => by cases e)
      obtain ⟨fn, tmps, assign, body, hy, hR⟩ := hY V x _ hJ3 hlen
      unfold pinC at hy
      clear hs2
      gi_wp2
      refine hR.mono ?_
      rintro e W3 ⟨rfl, hJ4, hk3⟩
      gi_wp2
      have hrg3 := (hrg2.alloc (.cells #[.string x.pg.nm, .int .i64 x.pg.a, .int .i64 x.pg.b, .int .i64 x.pg.c] 58)).of_walks hk3
      go_roundw
      case rel => exact ⟨_, cnt2, V ++ [x], U', hrg3, hC', hJ4⟩
      case measure => rw [hrg3.left_eq, hrg.left_eq]; exact hlt
end Go.Proofs.YtjpmlagofcgheaaGreatDoor
