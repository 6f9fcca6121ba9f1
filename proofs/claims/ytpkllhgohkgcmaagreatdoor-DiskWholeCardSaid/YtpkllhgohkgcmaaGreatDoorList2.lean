/- The walk of List: of a disk in memory it answers the names in a directory, rising, in memory of the call's own, in whatever order the map is gone through. -/
import Derived.Test.YtpkllhgohkgcmaaGreatDoorList1
import Derived.Test.YtpkllhgohkgcmaaGreatDoorShelfSort
namespace Go.Proofs.YtpkllhgohkgcmaaGreatDoor
open Go.RowKit Go.Maps Go.WideMaps Go.WideElems Go.Sort Go.Shelf
set_option maxRecDepth 100000

theorem infoStr : (Tryz.prog.info? 9).map (fun i => (i.zero, i.size, i.bytes)) = some (some (.string ByteArray.empty), 1, 16) := by kernel_rfl

/-- A list of texts in memory. -/
def nmCells (fs : List Fl) : List Value := fs.map fun f => Value.string (nameOf f.1)
theorem nmCells_enc (fs : List Fl) : nmCells fs = (fs.map fun f => (nameOf f.1).data.toList).map encStr := by
  unfold nmCells
  rw [List.map_map]
  apply List.map_congr_left
  intro f _
  simp only [Function.comp, encStr]
theorem nmCells_snoc (fs : List Fl) (f : Fl) : nmCells (fs ++ [f]) = nmCells fs ++ [.string (nameOf f.1)] := by simp [nmCells]

theorem sortS_some {w : World} {base g cap : Nat} {cur : Array Value} {ss ts : List (List UInt8)} (hbase : base ≤ g) (hb : w.heap[g]? = some (.cells cur 9 (0, 0))) (h1 : ss.length ≤ cap) (h2 : cap ≤ maxLen) (h3 : cur.size = cap * 1) (h4 : cur.toList.take ss.length = ss.map encStr)
    (hts : (ss.mergeSort fun x y => decide (x ≤ y)) = ts) (hsz : ss.length < 4611686018427387904) :
    Calls Tryz.prog 54 #[.slice (some ⟨g, 0, none⟩) ss.length cap] w fun e w' => e = .returned (.tuple #[]) ∧
      w'.ownsRow base 9 1 (.slice (some ⟨g, 0, none⟩) ss.length cap) ss.length (ts.map encStr) ∧ w.grownBy w' (some g) := by
  have hcon := Tryz.slices_Sort_string g 0 cap ss w (holds_of_block hb h4) (Array.getElem?_eq_some_iff.1 hb).1 hsz
  refine hcon.mono ?_
  rintro e w' ⟨rfl, n, os, rfl⟩
  rw [hts]
  exact ⟨rfl, ownsRow_sorted (by rw [← hts]; simp) hbase hb h1 h2 h3, grownBy_sorted _⟩

theorem ret_list {v : Value} {a b : Int} (k : a = b) : Ending.returned (.tuple #[v, .int .i64 a]) = .returned (.tuple #[v, .int .i64 b]) := by rw [k]

set_option maxHeartbeats 2000000 in
theorem List_any {B : Nat} {w : World} {d mb n : Nat} {rv : Value} {x : Ab} (h : IsDisk B w d mb n rv x) (s : ByteArray) (m : Int) (hm : w.cell? ⟨0, 0, none⟩ = some (.int .i64 m)) (hs : s.size ≤ maxLen) (hn : n ≤ 2199023255552) :
    Calls Tryz.prog 24 #[.pointer (some ⟨d, 0, none⟩), .string s] w fun e w' => ∃ ao cap, e = .returned (.tuple #[.slice ao (listT x.D s).length cap, .int .i64 (listE x.D s)]) ∧
      w'.ownsRow w.heap.size 9 1 (.slice ao (listT x.D s).length cap) (listT x.D s).length ((listT x.D s).map encStr) ∧ Below w.heap.size w w' := by
  obtain ⟨i0, hi, hz0, hz1, hz2⟩ := info_parts infoStr
  have hp := isPath_any s m w hm
  have HK : Hid (∀ w1, Below w.heap.size w w1 → Calls Tryz.prog 20 #[.pointer (some ⟨d, 0, none⟩), .string s] w1 fun e w' => e = .returned (.int .i64 (kindD x.D s)) ∧ Below w1.heap.size w1 w') :=
    fun w1 hb => Kind_any (h.below hb) s hs
  have HD : Hid (IsDisk B w d mb n rv x) := h
  have hP := h.plain
  have HP : Hid (Plain x.D) := hP
  clear h hs hm hP
  by_cases h0 : pathB s = false
  · have HE : Hid (listE x.D s = 10) := by unfold Hid listE; rw [if_neg (by rw [h0]; decide)]
    have HT : Hid (listT x.D s = []) := by unfold Hid listT; rw [HE.out]; rfl
    go_enter Tryz.func24, Tryz.ntmps24
    go_wp2_with (go_at_call 52; refine hp.mono ?_; rintro e w1 ⟨rfl, hb⟩)
    go_ret2
    rw [HE.out, HT.out]
    exact ⟨none, 0, rfl, ⟨rfl, Or.inl ⟨rfl, rfl⟩⟩, hb⟩
  rw [Bool.not_eq_false] at h0
  have he : listE x.D s = if (kindD x.D s == 0) = true then 12 else if (kindD x.D s == 1) = true then 13 else 0 := by unfold listE; rw [if_pos h0]
  rcases kindD_cases x.D s with k0 | k0 | k0
  · have HE : Hid (listE x.D s = 12) := by unfold Hid; rw [he, k0]; rfl
    have HT : Hid (listT x.D s = []) := by unfold Hid listT; rw [HE.out]; rfl
    rw [k0] at HK
    clear he
    go_enter Tryz.func24, Tryz.ntmps24
    go_wp2_with (first
      | (go_at_call 52; refine hp.mono ?_; rintro e w1 ⟨rfl, hb⟩)
      | (go_at_call 20; refine (HK.out _ hb).mono ?_; rintro e w' ⟨rfl, hb2⟩))
    go_ret2
    rw [HE.out, HT.out]
    exact ⟨none, 0, rfl, ⟨rfl, Or.inl ⟨rfl, rfl⟩⟩, hb.trans (hb2.mono hb.size)⟩
  · have HE : Hid (listE x.D s = 13) := by unfold Hid; rw [he, k0]; rfl
    have HT : Hid (listT x.D s = []) := by unfold Hid listT; rw [HE.out]; rfl
    rw [k0] at HK
    clear he
    go_enter Tryz.func24, Tryz.ntmps24
    go_wp2_with (first
      | (go_at_call 52; refine hp.mono ?_; rintro e w1 ⟨rfl, hb⟩)
      | (go_at_call 20; refine (HK.out _ hb).mono ?_; rintro e w' ⟨rfl, hb2⟩))
    go_ret2
    rw [HE.out, HT.out]
    exact ⟨none, 0, rfl, ⟨rfl, Or.inl ⟨rfl, rfl⟩⟩, hb.trans (hb2.mono hb.size)⟩
  have HE : Hid (listE x.D s = 0) := by unfold Hid; rw [he, k0]; rfl
  have HT : Hid (listT x.D s = namesD x.D s) := by unfold Hid listT; rw [HE.out]; rfl
  rw [k0] at HK
  clear he
  go_enter Tryz.func24, Tryz.ntmps24
  go_wp2_with (first
    | (go_at_call 52; refine hp.mono ?_; rintro e w1 ⟨rfl, hb⟩)
    | (go_at_call 20; refine (HK.out _ hb).mono ?_; rintro e wk ⟨rfl, hb2⟩; have HBK : Hid (Below w.heap.size w wk) := hb.trans (hb2.mono hb.size); have c0 := (HD.out.below HBK.out).c0; have HO : Hid (wk.ownsMap Tryz.prog 9 itemR mb n x.D) := (HD.out.below HBK.out).own)
    | (at_range; refine wpList_range_own _ rfl _ 57 rfl 9 66 keyed Tryz.underlying57 _ mb n _ rfl HO.out ?_; intro w0 hrg0 hg0 hs0; have HS0 : Hid (w0.heap.size = wk.heap.size + 1) := hs0; clear hs0))
  go_frame
  have hml := HO.out.lt
  have hwk := HBK.out.size
  have HNR : Hid ((filesD x.D).length ≤ n) := (files_facts HO.out).2.1
  clear hb hb2 c0
  go_loopw [6] (fun v wr => ∃ (left : Lit → Bool) (cnt : Nat) (fs : List Fl), wr.ranges Tryz.prog 9 itemR mb wk.heap.size n x.D left cnt ∧ wr.ownsRow (wk.heap.size + 1) 9 1 v fs.length (nmCells fs) ∧ (v = .slice none 0 0 → fs.length = 0) ∧
      CollL (kidsD x.D s) left fs ∧ (∀ kl, left kl = true → Maps.has x.D kl = true) ∧ Below wk.heap.size wk wr ∧ wk.heap.size + 1 ≤ wr.heap.size ∧ fs.length + cnt ≤ n)
    (fun _ wr => wr.rangeLeft mb wk.heap.size)
  case atStart =>
    exact ⟨_, _, [], hrg0, ⟨rfl, Or.inl ⟨rfl, rfl⟩⟩, fun _ => rfl, CollL.start (fun f hf => ((HP.out.good.mem f).1 (mem_kids.1 hf).1).1), fun kl hk => hk, (Below.refl _ _).grown hg0 (Nat.le_refl _) (fun j hj => by cases hj), Nat.le_of_eq HS0.out.symm, by simp only [List.length_nil, Nat.zero_add]; exact HO.out.size_le⟩
  case round =>
    obtain ⟨left, cnt, fs, hrg, hrow, hnil, hC, hlh, hb, hsz, hcn⟩ := hrel
    have HC : Hid (CollL (kidsD x.D s) left fs) := hC
    have HL : Hid (∀ kl, left kl = true → Maps.has x.D kl = true) := hlh
    have HR : Hid (wr.ranges Tryz.prog 9 itemR mb wk.heap.size n x.D left cnt) := hrg
    clear hC hlh hrg
    go_wp2_with (at_next; refine wpList_next_ranges _ rfl _ rfl 9 keyed itemR Value.string mkItem (fun key kl hk => by obtain ⟨x, hx, _⟩ := keyOf_inv hk; exact ⟨x, hx⟩) (fun v y hv => by obtain ⟨c, t, rfl, _⟩ := itemR_inv hv; exact ⟨⟨c, t⟩, rfl⟩) mb wk.heap.size n _ _ _ rfl HR.out ?_ ?_)
    · intro hc0 hl0
      have hp' : fs.Perm (kidsD x.D s) := HC.out.perm (List.Pairwise.filter _ (distinct HP.out.good.rise)) hl0
      have hlen : (namesD x.D s).length = fs.length := by unfold namesD; rw [List.length_map]; exact hp'.length_eq.symm
      rcases hrow.2 with ⟨rfl, h0'⟩ | ⟨g, cap, cur, rfl, hbase, hbk, h1, h2, h3, h4⟩
      · have hF : namesD x.D s = [] := List.eq_nil_of_length_eq_zero (by omega)
        have HF : Hid (listT x.D s = []) := by unfold Hid; rw [HT.out, hF]
        have hc := Tryz.slices_Sort_string_none none 0 wr
        clear hl0 hrow hlen hp' hF
        go_wp2_with (go_at_call 54; refine hc.mono ?_; rintro e w1 ⟨rfl, rfl⟩)
        go_ret2
        rw [HE.out, HF.out]
        exact ⟨none, 0, rfl, ⟨rfl, Or.inl ⟨rfl, rfl⟩⟩, HBK.out.trans (hb.mono hwk)⟩
      · have hss : (fs.map fun f => (nameOf f.1).data.toList).length = fs.length := List.length_map _
        have hts : ((fs.map fun f => (nameOf f.1).data.toList).mergeSort fun x y => decide (x ≤ y)) = namesD x.D s := names_sorted HP.out s (by unfold namesD; exact hp'.map _)
        have h4' : cur.toList.take (fs.map fun f => (nameOf f.1).data.toList).length = (fs.map fun f => (nameOf f.1).data.toList).map encStr := by
          rw [hss, ← nmCells_enc, ← h4, Nat.mul_one]
        have h1' : (fs.map fun f => (nameOf f.1).data.toList).length ≤ cap := by rw [hss]; exact h1
        have hz' : (fs.map fun f => (nameOf f.1).data.toList).length < 4611686018427387904 := by rw [hss]; omega
        have hc := sortS_some hbase hbk h1' h2 h3 h4' hts hz'
        rw [hss] at hc
        clear h4' h1' hz'
        have HLN : Hid ((listT x.D s).length = fs.length) := by unfold Hid; rw [HT.out]; exact hlen
        clear hl0 hrow hlen hp' hbk h1 h2 h3 h4 hnil hts hss
        go_wp2_with (go_at_call 54; refine hc.mono ?_; rintro e w1 ⟨rfl, hr, hg⟩)
        go_ret2
        rw [HE.out, HLN.out]
        refine ⟨some ⟨g, 0, none⟩, cap, rfl, ?_, HBK.out.trans ((hb.grown hg hb.size (fun j hj => by cases hj; omega)).mono hwk)⟩
        rw [HT.out]
        rcases hr.2 with ⟨hv, _⟩ | ⟨g', cap', cur', hv, hb', r⟩
        · cases hv
        · exact ⟨hr.1, Or.inr ⟨g', cap', cur', hv, by omega, r⟩⟩
    · intro q c kl yd yp w2 cnt2 hkey hlk hv hat hrg2 hlt hg2 hs2 hen
      obtain ⟨dr, dt⟩ := c
      simp only [mkItem] at hv hen ⊢
      obtain ⟨q', eq, rfl, _⟩ := keyOf_inv hkey
      obtain rfl : q = q' := by simpa using eq
      obtain ⟨dr', dt', ev, ey, hdt⟩ := itemR_inv hv
      obtain ⟨rfl, rfl⟩ : dr = dr' ∧ dt = dt' := by simpa using ev
      have hyd : yd = itemD dr dt := congrArg Prod.fst ey
      have hin : ((q, dr, dt) : Fl) ∈ filesD x.D := (HP.out.good.mem _).2 ⟨HL.out _ hlk, by rw [hat, hyd]⟩
      have hok := HP.out.ok hin
      have hun : ∀ g ∈ filesD x.D, g.1 = q → g = (q, dr, dt) := fun g hg e => uniq_key (HP.out.good.rise.imp fun {x y} h e => by rw [e, WideAt.bytes_irrefl] at h; cases h) hg hin e
      obtain ⟨p1, p2⟩ := okPath_parts hok
      have HR2 : Hid (w2.ranges Tryz.prog 9 itemR mb wk.heap.size n x.D (fun z => left z && !z.sameKey (keyD q)) cnt2) := hrg2
      have hb2 : Below wk.heap.size wk w2 := hb.grown hg2 hb.size (fun j hj => by cases hj; exact Nat.le_refl _)
      have hrow2 : w2.ownsRow (wk.heap.size + 1) 9 1 u6 fs.length (nmCells fs) := ownsRow_upd hrow (Upd.of_grown hg2) (fun k hk e => by have := (row_lt hrow hk).2; cases e; omega)
      have HW : Hid (wk.heap.size + 1 ≤ w2.heap.size) := Nat.le_trans hsz hg2.size
      have HRW : Hid (w2.drew.ownsRow (wk.heap.size + 1) 9 1 u6 fs.length (nmCells fs)) := ownsRow_upd hrow2 (Upd.refl (fun _ => False) w2).drew (fun _ _ f => f)
      have hsp := split_any q w2 p1 p2
      by_cases hu : ((parentOf q).toList == s.toList) = true
      · have hkid : ((q, dr, dt) : Fl) ∈ kidsD x.D s := mem_kids.2 ⟨hin, beq_bytes.1 hu⟩
        have HC2 : Hid (CollL (kidsD x.D s) (fun z => left z && !z.sameKey (keyD q)) (fs ++ [(q, dr, dt)])) := HC.out.step hkid hlk (fun g hg e => hun g (mem_kids.1 hg).1 e)
        have HNM : Hid (nmCells (fs ++ [(q, dr, dt)]) = nmCells fs ++ [.string (nameOf q)]) := nmCells_snoc fs (q, dr, dt)
        obtain ⟨pq, hpq⟩ : ∃ pq, pq = parentOf q := ⟨_, rfl⟩
        obtain ⟨nq, hnq⟩ : ∃ nq, nq = nameOf q := ⟨_, rfl⟩
        rw [← hpq, ← hnq] at hsp
        rw [← hpq] at hu
        rw [← hnq] at HNM
        have HN : Hid (∀ j u, [Value.string nq][j]? = some u → (w2.drew.alloc (.cells #[.string nq] 9)).cell? ((⟨w2.heap.size, 0, none⟩ : Addr).add j) = some u) :=
          World.news_of_block (cs := #[.string nq]) (t := 9) (fr := (0, 0)) (by
            show (w2.heap.push _)[w2.heap.size]? = _
            rw [Array.getElem?_push, if_pos rfl])
        clear hs2 hkey hlk hv hat hrg2 eq ev ey hyd hin hok hun hg2 hrow hrow2 hb hsz hdt hkid hpq hnq p1 p2
        go_wp2_with (first
          | (go_at_call 53; refine hsp.mono ?_; rintro e w3 ⟨rfl, rfl⟩)
          | (at_builtin; refine wpList_append_own _ rfl _ _ 52 rfl (wk.heap.size + 1) 9 i0 (.string ByteArray.empty) 1 16 Tryz.underlying52 hi hz0 hz1 hz2 rfl (by decide) _ _ _ rfl (HRW.out.alloc _) ⟨w2.heap.size, 0, none⟩ 1 1 [.string nq] rfl rfl HN.out (by simp [Value.oneCell']) (by unfold maxLen; omega) (by omega) (by have := HW.out; simp; omega) ?_; intro v' w3 hown' hg3 hnil3; go_frame)
          | fail)
        have hb4 : Below w2.heap.size w2 (w2.alloc (.cells #[.string nq] 9)).drew := ((Below.refl _ _).alloc (Nat.le_refl _) _).drew
        have hrg3 := ((HR2.out.kept (w' := w2.drew) (row := none) ⟨rfl, rfl, rfl, Nat.le_refl _, fun _ _ _ => rfl⟩ (by simp) (by simp)).alloc (.cells #[.string nq] 9)).kept hg3 (fun e => by have := (row_lt HRW.out e.symm).2; omega) (fun e => by have := (row_lt HRW.out e.symm).2; omega)
        refine ⟨⟨_, cnt2, fs ++ [(q, dr, dt)], hrg3, ?_, fun hv' => ?_, HC2.out, fun kl hl => ?_, ?_, ?_, ?_⟩, ?_⟩
        · rw [HNM.out, List.length_append]; exact hown'
        · have := (hnil3.1 hv').2; omega
        · simp only [Bool.and_eq_true] at hl; exact HL.out kl hl.1
        · exact (hb2.trans (hb4.mono hb2.size)).grown hg3 (by have := HW.out; simp; omega) (fun j hj => by have := (row_lt HRW.out hj).2; omega)
        · have := HW.out; have := hg3.size; have := hb4.size; omega
        · simp only [List.length_append, List.length_cons, List.length_nil]; omega
        · rw [hrg3.left_eq, HR.out.left_eq]; exact hlt
      · rw [Bool.not_eq_true] at hu
        have HC2 : Hid (CollL (kidsD x.D s) (fun z => left z && !z.sameKey (keyD q)) fs) := HC.out.skip fun g hg e => by
          have := (mem_kids.1 hg).2
          rw [e] at this
          rw [this] at hu
          simp at hu
        obtain ⟨pq, hpq⟩ : ∃ pq, pq = parentOf q := ⟨_, rfl⟩
        rw [← hpq] at hsp hu
        clear hs2 hkey hlk hv hat hrg2 eq ev ey hyd hin hok hun hg2 hrow hrow2 hb hsz hdt hpq p1 p2
        go_wp2_with (go_at_call 53; refine hsp.mono ?_; rintro e w3 ⟨rfl, rfl⟩)
        have hrg3 := HR2.out.kept (w' := w2.drew) (row := none) ⟨rfl, rfl, rfl, Nat.le_refl _, fun _ _ _ => rfl⟩ (by simp) (by simp)
        refine ⟨⟨_, cnt2, fs, hrg3, HRW.out, hnil, HC2.out, fun kl hl => ?_, hb2.drew, HW.out, ?_⟩, ?_⟩
        · simp only [Bool.and_eq_true] at hl; exact HL.out kl hl.1
        · omega
        · rw [hrg3.left_eq, HR.out.left_eq]; exact hlt

end Go.Proofs.YtpkllhgohkgcmaaGreatDoor
