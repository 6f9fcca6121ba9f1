/- The walk of All: of a disk in memory it answers the files and directories of the map, each once, their paths rising, in memory of the call's own, in whatever order the map is gone through. -/
import Derived.Test.YtpkllhgohkgcmaaGreatDoorDisk13
import Derived.Maps.Ext
namespace Go.Proofs.YtpkllhgohkgcmaaGreatDoor
open Go.RowKit Go.Maps Go.WideMaps Go.WideElems Go.Sort Go.Shelf
set_option maxRecDepth 100000

/-- The files and directories of a map, by their paths. -/
def filesD : DataW Unit → List Fl
  | .map es => es.map fun p => (litB p.1, itDir p.2, ⟨(itData p.2).toArray⟩)
  | _ => []

theorem own_entries {w : World} {mb n : Nat} {D : DataW Unit} (h : w.ownsMap Tryz.prog 9 itemR mb n D) : ∃ es, D = .map es ∧ es.Pairwise (fun p q => p.1.before q.1 = true) ∧ es.length ≤ n ∧ ∀ p ∈ es, ∃ s c t, p = (keyD s, itemD c t) := by
  obtain ⟨es0, h0, hr, _⟩ := h.canon keyed
  obtain ⟨es, clock, _, F, hn, hD⟩ := h
  have e : es0 = (es.toList.map (rg Tryz.prog 9 itemR)).foldr DataW.insert [] := by rw [h0] at hD; simpa using hD
  refine ⟨es0, h0, hr, ?_, fun p hp => ?_⟩
  · rw [e, length_sorted]; simpa using hn
  · rw [e] at hp
    obtain ⟨x, hx, rfl⟩ := List.mem_map.1 (mem_sorted.1 hp)
    obtain ⟨y, hy⟩ := F.reads x hx
    rw [rg_of hy]
    unfold Go.WideElems.rd at hy
    simp only [Option.bind_eq_some_iff, Option.map_eq_some_iff] at hy
    obtain ⟨key, h1, d, h2, rfl⟩ := hy
    obtain ⟨s, _, hk, _⟩ := keyOf_inv h1
    obtain ⟨c, t, _, hd, _⟩ := itemR_inv h2
    exact ⟨s, c, t, by rw [hk, hd]⟩

theorem file_of (s : ByteArray) (c : Bool) (t : ByteArray) : (litB (keyD s), itDir (itemD c t), (⟨(itData (itemD c t)).toArray⟩ : ByteArray)) = (s, c, t) := by
  rw [litB_key, itDir_mk, itData_mk, bytes_mk]

theorem files_facts {w : World} {mb n : Nat} {D : DataW Unit} (h : w.ownsMap Tryz.prog 9 itemR mb n D) :
    Rising (filesD D) ∧ (filesD D).length ≤ n ∧ ∀ f : Fl, f ∈ filesD D ↔ Maps.has D (keyD f.1) = true ∧ D.atKey (keyD f.1) zeroD = itemD f.2.1 f.2.2 := by
  obtain ⟨es, rfl, hr, hn, hf⟩ := own_entries h
  refine ⟨?_, by simpa [filesD] using hn, fun f => ?_⟩
  · unfold Rising filesD
    rw [List.pairwise_map]
    refine hr.imp_of_mem fun {p q} hp hq hb => ?_
    obtain ⟨s, c, t, rfl⟩ := hf p hp
    obtain ⟨s', c', t', rfl⟩ := hf q hq
    simp only [litB_key]
    exact hb
  · have hap := apart_of_rising hr
    unfold filesD
    rw [List.mem_map]
    constructor
    · rintro ⟨p, hp, rfl⟩
      obtain ⟨s, c, t, rfl⟩ := hf p hp
      simp only [litB_key, itDir_mk, itData_mk, bytes_mk]
      refine ⟨?_, WideAt.atKey_mem _ (isKey s) hap hp⟩
      rw [has_eq, List.any_eq_true]
      exact ⟨_, hp, WideAt.sameKey_self (isKey s)⟩
    · rintro ⟨h1, h2⟩
      rw [has_eq, List.any_eq_true] at h1
      obtain ⟨p, hp, hk⟩ := h1
      obtain ⟨s, c, t, rfl⟩ := hf p hp
      have es' : s = f.1 := (sameKey_keyD _ _).1 hk
      subst es'
      have := WideAt.atKey_mem zeroD (isKey f.1) hap hp
      rw [h2] at this
      refine ⟨_, hp, ?_⟩
      rw [← this, file_of]

theorem distinct {l : List Fl} (h : Rising l) : l.Nodup := h.imp fun {x y} h e => by rw [e, WideAt.bytes_irrefl] at h; cases h

/-- What has been collected: each file that is no longer to come, once. -/
def CollF (D : DataW Unit) (left : Lit → Bool) (fs : List Fl) : Prop := fs.Nodup ∧ ∀ f : Fl, f ∈ fs ↔ (f ∈ filesD D ∧ left (keyD f.1) = false)

theorem CollF.start {D : DataW Unit} (hm : ∀ f : Fl, f ∈ filesD D → Maps.has D (keyD f.1) = true) : CollF D (Maps.has D) [] :=
  ⟨List.nodup_nil, fun f => ⟨fun h => (by cases h), fun ⟨h1, h2⟩ => (by rw [hm f h1] at h2; cases h2)⟩⟩

theorem CollF.step {D : DataW Unit} {left : Lit → Bool} {fs : List Fl} (h : CollF D left fs) {f : Fl} (hf : f ∈ filesD D) (hl : left (keyD f.1) = true) (hu : ∀ g ∈ filesD D, g.1 = f.1 → g = f) : CollF D (fun z => left z && !z.sameKey (keyD f.1)) (fs ++ [f]) := by
  have hnew : f ∉ fs := fun hx => by have := ((h.2 f).1 hx).2; rw [hl] at this; cases this
  refine ⟨List.nodup_append.2 ⟨h.1, by simp, fun a ha b hb => by simp only [List.mem_singleton] at hb; subst hb; exact fun e => hnew (e ▸ ha)⟩, fun g => ?_⟩
  rw [List.mem_append, List.mem_singleton, h.2 g]
  by_cases e : g.1 = f.1
  · constructor
    · rintro (⟨h1, h2⟩ | rfl)
      · exact ⟨h1, by simp [h2]⟩
      · exact ⟨hf, by simp [(sameKey_keyD _ _).2 rfl]⟩
    · rintro ⟨h1, _⟩
      exact Or.inr (hu g h1 e)
  · have : (keyD g.1).sameKey (keyD f.1) = false := by rw [Bool.eq_false_iff]; intro h; exact e ((sameKey_keyD _ _).1 h)
    simp only [this, Bool.not_false, Bool.and_true]
    constructor
    · rintro (h1 | rfl)
      · exact h1
      · exact absurd rfl e
    · exact Or.inl

theorem CollF.perm {D : DataW Unit} {left : Lit → Bool} {fs : List Fl} (h : CollF D left fs) (hd : (filesD D).Nodup) (hl : ∀ kl, left kl = false) : fs.Perm (filesD D) :=
  (List.perm_ext_iff_of_nodup h.1 hd).2 fun f => by rw [h.2 f, hl]; simp

theorem infoFile : (Tryz.prog.info? 49).map (fun i => (i.zero, i.size, i.bytes)) = some (some (.agg #[.string ByteArray.empty, .bool false, .string ByteArray.empty]), 3, 40) := by kernel_rfl

theorem fileCells_snoc (fs : List Fl) (f : Fl) : fileCells (fs ++ [f]) = fileCells fs ++ [.string f.1, .bool f.2.1, .string f.2.2] := by simp [fileCells]

theorem sort_none (ao : Option Addr) (cap : Nat) (w : World) : Calls Tryz.prog 36 #[.slice ao 0 cap, .func (.func 37) #[] #[]] w fun e w' => e = .returned (.tuple #[]) ∧ w' = w :=
  AnyF.slices_SortFunc_none Tryz.sortFile ao cap (.func (.func 37) #[] #[]) w

theorem sort_some {w : World} {base g cap : Nat} {cur : Array Value} {fs l : List Fl} (hbase : base ≤ g) (hb : w.heap[g]? = some (.cells cur 49 (0, 0))) (h1 : fs.length ≤ cap) (h2 : cap ≤ maxLen) (h3 : cur.size = cap * 3) (h4 : cur.toList.take (fs.length * 3) = fileCells fs)
    (hl : Rising l) (hp : fs.Perm l) (hsz : fs.length < 4611686018427387904) :
    Calls Tryz.prog 36 #[.slice (some ⟨g, 0, none⟩) fs.length cap, .func (.func 37) #[] #[]] w fun e w' => e = .returned (.tuple #[]) ∧
      w'.ownsRow base 49 3 (.slice (some ⟨g, 0, none⟩) fs.length cap) fs.length (fileCells l) ∧ w.grownBy w' (some g) := by
  have eg : ∀ args w, (callFunc 37 args).run Tryz.prog w = .ok (.enter 37 args) w := enters_of Tryz.func37 (by kernel_rfl) rfl
  have hcon := AnyQ.slices_SortFunc Tryz.sortFile 3 Tryz.isAgg49 Tryz.sizeOf49 encF (fun _ => rfl) (fun x v hv => by simp [encF] at hv; rcases hv with rfl | rfl | rfl <;> rfl) cmpF swoF 37 #[] g 0 cap fs.toArray w eg (cmpLaysF g 0 fs.toArray.size w) (holdsF hb h4)
    (Array.getElem?_eq_some_iff.1 hb).1 (by simpa using hsz)
  change Calls Tryz.prog 36 #[.slice (some ⟨g, 0, none⟩) fs.toArray.size cap, .func (.func 37) #[] #[]] _ _ at hcon
  rw [List.size_toArray] at hcon
  refine hcon.mono ?_
  rintro e w' ⟨rfl, d', n, os, hP, hS, rfl⟩
  have hd : d'.toList = l := sorted_is (d := fs.toArray) hl (by simpa using hp) (by simpa using hP) (by simpa using hS)
  have hd' : d' = l.toArray := by rw [← hd]
  refine ⟨rfl, ?_, grownF d'⟩
  rw [hd']
  exact ownsF hp.length_eq.symm hbase hb h1 h2 h3

theorem grown_none_drew (w : World) : w.grownBy w.drew none := ⟨rfl, rfl, rfl, Nat.le_refl _, fun _ _ _ => rfl⟩

set_option maxHeartbeats 2000000 in
theorem All_any {B : Nat} {w : World} {d mb n : Nat} {rv : Value} {x : Ab} (h : IsDisk B w d mb n rv x) (hn : n ≤ 2199023255552) :
    Calls Tryz.prog 16 #[.pointer (some ⟨d, 0, none⟩)] w fun e w' => ∃ ao cap, e = .returned (.slice ao (filesD x.D).length cap) ∧ w'.ownsRow w.heap.size 49 3 (.slice ao (filesD x.D).length cap) (filesD x.D).length (fileCells (filesD x.D)) ∧ Below w.heap.size w w' := by
  obtain ⟨i0, hi, hz0, hz1, hz2⟩ := info_parts infoFile
  have c0 := h.c0
  have HO : Hid (w.ownsMap Tryz.prog 9 itemR mb n x.D) := h.own
  obtain ⟨q1, q2, q3⟩ := files_facts h.own
  have HQ1 : Hid (Rising (filesD x.D)) := q1
  have HQ2 : Hid ((filesD x.D).length ≤ n) := q2
  have HQ3 : Hid (∀ f : Fl, f ∈ filesD x.D ↔ Maps.has x.D (keyD f.1) = true ∧ x.D.atKey (keyD f.1) zeroD = itemD f.2.1 f.2.2) := q3
  have hml := h.own.lt
  clear h q1 q2 q3
  go_enter Tryz.func16, Tryz.ntmps16
  go_wp2_with (at_range; refine wpList_range_own _ rfl _ 57 rfl 9 66 keyed Tryz.underlying57 _ mb n _ rfl HO.out ?_; intro w0 hrg0 hg0 hs0; have HS0 : Hid (w0.heap.size = w.heap.size + 1) := hs0; clear hs0)
  go_frame
  go_loopw [3] (fun v wr => ∃ (left : Lit → Bool) (cnt : Nat) (fs : List Fl), wr.ranges Tryz.prog 9 itemR mb w.heap.size n x.D left cnt ∧ wr.ownsRow (w.heap.size + 1) 49 3 v fs.length (fileCells fs) ∧ (v = .slice none 0 0 → fs.length = 0) ∧
      CollF x.D left fs ∧ (∀ kl, left kl = true → Maps.has x.D kl = true) ∧ Below w.heap.size w wr ∧ w.heap.size + 1 ≤ wr.heap.size ∧ fs.length + cnt ≤ n)
    (fun _ wr => wr.rangeLeft mb w.heap.size)
  case atStart =>
    exact ⟨_, _, [], hrg0, ⟨rfl, Or.inl ⟨rfl, rfl⟩⟩, fun _ => rfl, CollF.start (fun f hf => ((HQ3.out f).1 hf).1), fun kl hk => hk, (Below.refl _ _).grown hg0 (Nat.le_refl _) (fun j hj => by cases hj), Nat.le_of_eq HS0.out.symm, by simp only [List.length_nil, Nat.zero_add]; exact HO.out.size_le⟩
  case round =>
    obtain ⟨left, cnt, fs, hrg, hrow, hnil, hC, hlh, hb, hsz, hcn⟩ := hrel
    have HC : Hid (CollF x.D left fs) := hC
    have HL : Hid (∀ kl, left kl = true → Maps.has x.D kl = true) := hlh
    have HR : Hid (wr.ranges Tryz.prog 9 itemR mb w.heap.size n x.D left cnt) := hrg
    clear hC hlh hrg
    go_wp2_with (at_next; refine wpList_next_ranges _ rfl _ rfl 9 keyed itemR Value.string mkItem (fun key kl hk => by obtain ⟨x, hx, _⟩ := keyOf_inv hk; exact ⟨x, hx⟩) (fun v y hv => by obtain ⟨c, t, rfl, _⟩ := itemR_inv hv; exact ⟨⟨c, t⟩, rfl⟩) mb w.heap.size n _ _ _ rfl HR.out ?_ ?_)
    · intro hc0 hl0
      have hp : fs.Perm (filesD x.D) := HC.out.perm (distinct HQ1.out) hl0
      have hlen := hp.length_eq
      have hle := HQ2.out
      rcases hrow.2 with ⟨rfl, h0⟩ | ⟨g, cap, cur, rfl, hbase, hbk, h1, h2, h3, h4⟩
      · have hF : filesD x.D = [] := List.eq_nil_of_length_eq_zero (by omega)
        have hc := sort_none none 0 wr
        clear hl0 hrow hlen hle hp
        go_wp2_with (go_at_call 36; refine hc.mono ?_; rintro e w1 ⟨rfl, rfl⟩)
        go_ret
        rw [hF]
        exact ⟨none, 0, rfl, ⟨rfl, Or.inl ⟨rfl, rfl⟩⟩, hb⟩
      · have hc := sort_some hbase hbk h1 h2 h3 h4 HQ1.out hp (by omega)
        have HLN : Hid (fs.length = (filesD x.D).length) := hlen
        clear hl0 hrow hlen hle hp hbk h1 h2 h3 h4 hnil
        go_wp2_with (go_at_call 36; refine hc.mono ?_; rintro e w1 ⟨rfl, hr, hg⟩)
        go_ret
        refine ⟨some ⟨g, 0, none⟩, cap, by rw [← HLN.out]; rfl, ?_, hb.grown hg hb.size (fun j hj => by cases hj; omega)⟩
        rw [← HLN.out]
        rcases hr.2 with ⟨hv, _⟩ | ⟨g', cap', cur', hv, hb', r⟩
        · cases hv
        · exact ⟨hr.1, Or.inr ⟨g', cap', cur', hv, Nat.le_trans (Nat.le_succ _) hb', r⟩⟩
    · intro q c kl yd yp w2 cnt2 hkey hlk hv hat hrg2 hlt hg2 hs2 hen
      obtain ⟨dr, dt⟩ := c
      simp only [mkItem] at hv hen ⊢
      obtain ⟨q', eq, rfl, _⟩ := keyOf_inv hkey
      obtain rfl : q = q' := by simpa using eq
      obtain ⟨dr', dt', ev, ey, hdt⟩ := itemR_inv hv
      obtain ⟨rfl, rfl⟩ : dr = dr' ∧ dt = dt' := by simpa using ev
      have hyd : yd = itemD dr dt := congrArg Prod.fst ey
      have hin : ((q, dr, dt) : Fl) ∈ filesD x.D := (HQ3.out _).2 ⟨HL.out _ hlk, by rw [hat, hyd]⟩
      have hC2 := HC.out.step hin hlk (fun g hg e => uniq_key (HQ1.out.imp fun {x y} h e => by rw [e, WideAt.bytes_irrefl] at h; cases h) hg hin e)
      have HC2 : Hid (CollF x.D (fun z => left z && !z.sameKey (keyD q)) (fs ++ [(q, dr, dt)])) := hC2
      have HR2 : Hid (w2.ranges Tryz.prog 9 itemR mb w.heap.size n x.D (fun z => left z && !z.sameKey (keyD q)) cnt2) := hrg2
      have hb2 : Below w.heap.size w w2 := hb.grown hg2 hb.size (fun j hj => by cases hj; exact Nat.le_refl _)
      have hrow2 : w2.ownsRow (w.heap.size + 1) 49 3 u3 fs.length (fileCells fs) := ownsRow_upd hrow (Upd.of_grown hg2) (fun k hk e => by have := (row_lt hrow hk).2; cases e; omega)
      have HW : Hid (w.heap.size + 1 ≤ w2.heap.size) := Nat.le_trans hsz hg2.size
      have HRW : Hid (w2.ownsRow (w.heap.size + 1) 49 3 u3 fs.length (fileCells fs)) := hrow2
      have HN : Hid (∀ j u, [Value.string q, .bool dr, .string dt][j]? = some u → ((w2.alloc (.cells #[.bool dr, .string dt] 66)).alloc (.cells #[.string q, .bool dr, .string dt] 49)).cell? ((⟨w2.heap.size + 1, 0, none⟩ : Addr).add j) = some u) :=
        World.news_of_block (cs := #[.string q, .bool dr, .string dt]) (t := 49) (fr := (0, 0)) (by
          show ((w2.heap.push _).push _)[w2.heap.size + 1]? = _
          rw [Array.getElem?_push, if_pos (by simp)])
      clear hs2 hkey hlk hv hat hrg2 eq ev ey hyd hin hC2 hg2 hrow hrow2 hb hsz hdt
      go_wp2_with (first
        | (at_builtin; refine wpList_append_own _ rfl _ _ 33 rfl (w.heap.size + 1) 49 i0 (.agg #[.string ByteArray.empty, .bool false, .string ByteArray.empty]) 3 40 Tryz.underlying33 hi hz0 hz1 hz2 rfl (by decide) _ _ _ rfl ((HRW.out.alloc _).alloc _) ⟨w2.heap.size + 1, 0, none⟩ 1 1 [.string q, .bool dr, .string dt] rfl rfl HN.out (by simp [Value.oneCell']) (by unfold maxLen; omega) (by omega) (by have := HW.out; simp; omega) ?_; intro v' w3 hown' hg3 hnil3; go_frame)
        | fail)
      have hb4 : Below w2.heap.size w2 ((w2.alloc (.cells #[.bool dr, .string dt] 66)).alloc (.cells #[.string q, .bool dr, .string dt] 49)) := ((Below.refl _ _).alloc (Nat.le_refl _) _).alloc (by simp) _
      have hrg3 := ((HR2.out.alloc (.cells #[.bool dr, .string dt] 66)).alloc (.cells #[.string q, .bool dr, .string dt] 49)).kept hg3 (fun e => by have := (row_lt HRW.out e.symm).2; omega) (fun e => by have := (row_lt HRW.out e.symm).2; omega)
      refine ⟨⟨_, cnt2, fs ++ [(q, dr, dt)], hrg3, ?_, fun hv' => ?_, HC2.out, fun kl hl => ?_, ?_, ?_, ?_⟩, ?_⟩
      · rw [fileCells_snoc, List.length_append]; exact hown'
      · have := (hnil3.1 hv').2; omega
      · simp only [Bool.and_eq_true] at hl; exact HL.out kl hl.1
      · exact (hb2.trans (hb4.mono hb2.size)).grown hg3 (by have := HW.out; simp; omega) (fun j hj => by have := (row_lt HRW.out hj).2; omega)
      · have := HW.out; have := hg3.size; have := hb4.size; omega
      · simp only [List.length_append, List.length_cons, List.length_nil]; omega
      · rw [hrg3.left_eq, HR.out.left_eq]; exact hlt

end Go.Proofs.YtpkllhgohkgcmaaGreatDoor
