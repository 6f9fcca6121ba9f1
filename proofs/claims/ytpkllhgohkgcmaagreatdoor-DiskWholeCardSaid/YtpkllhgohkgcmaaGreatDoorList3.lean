/- The reference's List: of its disk in memory it answers the names in a directory, rising, in memory of the call's own. -/
import Derived.Test.YtpkllhgohkgcmaaGreatDoorList2
namespace Go.Proofs.YtpkllhgohkgcmaaGreatDoor
open Go.RowKit Go.Maps Go.WideMaps Go.WideElems Go.Sort Go.Shelf
set_option maxRecDepth 100000

/-- The children among the first files. -/
def doneD (fs : List Fl) (s : ByteArray) (k : Nat) : List Fl := (fs.take k).filter fun f => (parentOf f.1).toList == s.toList

theorem done_zero (fs : List Fl) (s : ByteArray) : doneD fs s 0 = [] := by unfold doneD; simp
theorem done_all (D : DataW Unit) (s : ByteArray) (k : Nat) (h : (filesD D).length ≤ k) : doneD (filesD D) s k = kidsD D s := by unfold doneD kidsD; rw [List.take_of_length_le h]
theorem done_in (fs : List Fl) (s : ByteArray) (k : Nat) (hk : k < fs.length) (h : ((parentOf fs[k].1).toList == s.toList) = true) : doneD fs s (k + 1) = doneD fs s k ++ [fs[k]] := by
  unfold doneD
  rw [List.take_succ_eq_append_getElem hk, List.filter_append]
  simp [h]
theorem done_out (fs : List Fl) (s : ByteArray) (k : Nat) (hk : k < fs.length) (h : ((parentOf fs[k].1).toList == s.toList) = false) : doneD fs s (k + 1) = doneD fs s k := by
  unfold doneD
  rw [List.take_succ_eq_append_getElem hk, List.filter_append]
  simp [h]
theorem done_le (fs : List Fl) (s : ByteArray) (k : Nat) : (doneD fs s k).length ≤ fs.length := by
  unfold doneD
  exact Nat.le_trans (List.length_filter_le _ _) (by rw [List.length_take]; exact Nat.min_le_right _ _)

theorem done_less {D : DataW Unit} (hP : Plain D) (s : ByteArray) (k : Nat) (hk : k < (filesD D).length) (h : ((parentOf (filesD D)[k].1).toList == s.toList) = true) (j : Nat) (hj : j < (doneD (filesD D) s k).length) :
    Op.bytesLess (nameOf (doneD (filesD D) s k)[j].1).toList (nameOf (filesD D)[k].1).toList = true := by
  have hr := names_rising hP s
  unfold namesD kidsD at hr
  rw [List.pairwise_map] at hr
  have hsplit : (filesD D).filter (fun f => (parentOf f.1).toList == s.toList) = doneD (filesD D) s k ++ ((filesD D).drop k).filter (fun f => (parentOf f.1).toList == s.toList) := by
    unfold doneD
    rw [← List.filter_append, List.take_append_drop]
  rw [hsplit, List.pairwise_append] at hr
  have h1 := hr.2.2 _ (List.getElem_mem hj) (filesD D)[k] (by
    rw [List.mem_filter]
    refine ⟨?_, h⟩
    rw [List.drop_eq_getElem_cons hk]
    exact List.mem_cons_self)
  rw [less_before, toList_data, toList_data]
  exact h1

theorem nm_get (fs : List Fl) (j : Nat) (hj : j < fs.length) : (nmCells fs)[j]? = some (.string (nameOf fs[j].1)) := by
  unfold nmCells
  rw [List.getElem?_map, List.getElem?_eq_getElem hj]
  rfl
theorem nm_one (fs : List Fl) : ∀ u ∈ nmCells fs, u.oneCell' = true := by
  intro u hu
  unfold nmCells at hu
  obtain ⟨f, _, rfl⟩ := List.mem_map.1 hu
  rfl

theorem row_cap {w : World} {B t sz g n m cap : Nat} {xs : List Value} (h : w.ownsRow B t sz (.slice (some ⟨g, 0, none⟩) m cap) n xs) : m ≤ cap := by
  rcases h.2 with ⟨hv, _⟩ | ⟨g', cap', cur, hv, _, _, h1, _⟩
  · cases hv
  · cases hv; exact h1

theorem list_mid {w1 wo w4 : World} {g4 cap4 n q : Nat} {xs : List Value} (hb : Below w1.heap.size w1 wo) (hown : w4.ownsRow w1.heap.size 9 1 (.slice (some ⟨g4, 0, none⟩) (0 + n) cap4) (0 + n) ([] ++ xs)) (hgrow : (wo.drewN q).grownBy w4 (Value.slice none 0 0).ownBlock) (nm : ByteArray) :
    Hid (w4.ownsRow w1.heap.size 9 1 (.slice (some ⟨g4, 0, none⟩) n cap4) n xs) ∧ Hid (∀ j u, [Value.string nm][j]? = some u → (w4.alloc (.cells #[.string nm] 9)).cell? ((⟨w4.heap.size, 0, none⟩ : Addr).add j) = some u) ∧ Hid (Below w1.heap.size w1 w4) := by
  refine ⟨?_, ?_, ?_⟩
  · rw [Nat.zero_add, List.nil_append] at hown; exact hown
  · exact World.news_of_block (cs := #[.string nm]) (t := 9) (fr := (0, 0)) (by
      show (w4.heap.push _)[w4.heap.size]? = _
      rw [Array.getElem?_push, if_pos rfl])
  · exact (hb.trans ((⟨rfl, rfl, rfl, Nat.le_refl _, fun _ _ => rfl⟩ : Below wo.heap.size wo (wo.drewN q)).mono hb.size)).grown hgrow hb.size (fun j hj => by cases hj)

theorem root_size {s : ByteArray} (h : (s.toList == [47]) = true) : s.size ≤ 4096 := by
  have h1 := congrArg List.length (root_eq h)
  rw [Array.length_toList] at h1
  exact Nat.le_trans (Nat.le_of_eq h1) (by decide)

theorem drewN_eq (w : World) (q : Nat) : Below w.heap.size w (w.drewN q) := ⟨rfl, rfl, rfl, Nat.le_refl _, fun _ _ => rfl⟩

set_option maxHeartbeats 4000000 in
theorem rList_root {B : Nat} {w : World} {e : Nat} {lv rv : Value} {D : DataW Unit} {rs : List (Int × ByteArray × ByteArray)} {left : Int} (h : IsRef B w e lv rv (filesD D) rs left) (hP : Plain D) (s : ByteArray) (hs : s.size ≤ maxLen) (hlen : (filesD D).length < 2199023255552)
    (_hpb : pathB s = true) (hk2 : kindD D s = 2) (hroot : (s.toList == [47]) = true) :
    Calls Tryz.prog 28 #[.pointer (some ⟨e, 0, none⟩), .string s] w fun e' w' => ∃ ao cap, e' = .returned (.tuple #[.slice ao (namesD D s).length cap, .int .i64 0]) ∧
      w'.ownsRow w.heap.size 9 1 (.slice ao (namesD D s).length cap) (namesD D s).length ((namesD D s).map encStr) ∧ Below w.heap.size w w' := by
  obtain ⟨i0, hi, hz0, hz1, hz2⟩ := info_parts infoStr
  have hp := rPath_any s w hs
  rw [okPath_root s hroot] at hp
  have hk := rKind_any h hP.good s (Nat.le_of_lt hlen)
  rw [hk2] at hk
  have HNM : Hid (nmCells (kidsD D s) = (namesD D s).map encStr) := by unfold Hid; rw [nmCells_enc]; rfl
  have HNL : Hid ((namesD D s).length = (kidsD D s).length) := by unfold Hid namesD; rw [List.length_map]
  have hsz0 : s.size ≤ 4096 := by exact root_size hroot
  have c0 := h.c0
  rcases h.lrow.2 with ⟨rfl, h0⟩ | ⟨g, cap, cur, rfl, hgB, _, _, _, _, _⟩
  · have hF : filesD D = [] := List.eq_nil_of_length_eq_zero h0
    have HF : Hid (namesD D s = []) := by unfold Hid namesD kidsD; rw [hF]; rfl
    clear h hP hk2 _hpb hF
    go_enter Tryz.func28, Tryz.ntmps28
    go_wp2_with (first
      | (go_at_call 43; refine hp.mono ?_; rintro e w1 ⟨rfl, rfl⟩)
      | (go_at_call 27; refine hk.mono ?_; rintro e w1 ⟨rfl, rfl⟩))
    go_loop [8, 9] (fun v i => v = .slice none 0 0 ∧ i = .int .i64 0) (fun _ _ => 0)
    case atStart => exact ⟨rfl, rfl⟩
    case round =>
      obtain ⟨rfl, rfl⟩ := hrel
      go_wp2
      go_ret2
      rw [HF.out]
      exact ⟨none, 0, rfl, ⟨rfl, Or.inl ⟨rfl, rfl⟩⟩, Below.refl _ _⟩
  have HCL : Hid (∀ wr, Below w.heap.size w wr → wr.cell? ⟨e, 0, none⟩ = some (.slice (some ⟨g, 0, none⟩) (filesD D).length cap) ∧ ∀ k (hk : k < (filesD D).length), wr.cell? ⟨g, k * 3, none⟩ = some (.string (filesD D)[k].1)) := by
    intro wr hb
    exact ⟨cell_below c0 hb, fun k hk => cell_below (file_cells h.lrow k hk).1 hb⟩
  have HP : Hid (Plain D) := hP
  have HDL : Hid (∀ k (hk : k < (filesD D).length), ((parentOf (filesD D)[k].1).toList == s.toList) = true → ∀ j (hj : j < (doneD (filesD D) s k).length), Op.bytesLess (nameOf (doneD (filesD D) s k)[j].1).toList (nameOf (filesD D)[k].1).toList = true) := fun k hk' hc j hj => done_less hP s k hk' hc j hj
  have HFR : Hid (∀ k (hk : k < (filesD D).length), ((parentOf (filesD D)[k].1).toList == s.toList) = true → 1 ≤ (filesD D)[k].1.size ∧ nameOf (filesD D)[k].1 = (filesD D)[k].1.extract 1 (filesD D)[k].1.size) := by
    intro k hk' hc
    obtain ⟨i, h1, h2, h3, _⟩ := child_split (hP.ok (List.getElem_mem hk'))
    rw [beq_bytes.1 hc] at h2
    have : fromOf s = 1 := by unfold fromOf; rw [if_pos hroot]
    rw [this] at h2
    rw [h3, ← h2]
    exact ⟨by omega, rfl⟩
  have HPA : Hid (∀ k (hk : k < (filesD D).length) (wr : World), Calls Tryz.prog 21 #[.string (filesD D)[k].1] wr fun e w' => e = .returned (.string (parentOf (filesD D)[k].1)) ∧ w' = wr) := fun k hk' wr => by
    have hok := hP.ok (List.getElem_mem hk')
    exact rParent_any _ wr (okPath_size hok) (okPath_parts hok).2
  have HSZ : Hid (∀ k (hk : k < (filesD D).length), (filesD D)[k].1.size ≤ 4096) := fun k hk' => (okPath_parts (hP.ok (List.getElem_mem hk'))).1
  have hdl : ∀ k, (doneD (filesD D) s k).length ≤ (filesD D).length := done_le (filesD D) s
  have HALL : Hid (∀ k, (filesD D).length ≤ k → doneD (filesD D) s k = kidsD D s) := fun k hk' => done_all D s k hk'
  clear h hP hk2 _hpb c0
  generalize hfs : filesD D = fs at *
  clear hfs
  go_enter Tryz.func28, Tryz.ntmps28
  go_wp2_with (first
    | (go_at_call 43; refine hp.mono ?_; rintro e w1 ⟨rfl, rfl⟩)
    | (go_at_call 27; refine hk.mono ?_; rintro e w1 ⟨rfl, rfl⟩))
  go_loopw [8, 9] (fun v i wr => ∃ k : Nat, k ≤ fs.length ∧ i = .int .i64 k ∧ wr.ownsRow w1.heap.size 9 1 v (doneD fs s k).length (nmCells (doneD fs s k)) ∧ ((doneD fs s k).length = 0 → v = .slice none 0 0) ∧ Below w1.heap.size w1 wr) (fun _ i _ => fs.length - (intOf i).toNat)
  case atStart => exact ⟨0, Nat.zero_le _, rfl, ⟨by rw [done_zero]; rfl, Or.inl ⟨rfl, by rw [done_zero]; rfl⟩⟩, fun _ => rfl, Below.refl _ _⟩
  case round =>
    obtain ⟨k, hkl, rfl, hrow, hnil, hb⟩ := hrel
    obtain ⟨c0, hcells⟩ := HCL.out wr hb
    have HROW := hide3 hrow
    have HNIL := hide3 hnil
    clear hrow hnil
    by_cases hlt : k < fs.length
    · have a0 := hcells k hlt
      have hpa := HPA.out k hlt wr
      have HC2 := hide3 hcells
      clear hcells
      by_cases hc : ((parentOf fs[k].1).toList == s.toList) = true
      · obtain ⟨hfr, hnm⟩ := HFR.out k hlt hc
        have hfz := HSZ.out k hlt
        have HNX : Hid (doneD fs s (k + 1) = doneD fs s k ++ [fs[k]]) := done_in fs s k hlt hc
        have HLS : Hid (∀ j (hj : j < (doneD fs s k).length), Op.bytesLess (nameOf (doneD fs s k)[j].1).toList (fs[k].1.extract 1 fs[k].1.size).toList = true) := by
          intro j hj
          rw [← hnm]; exact HDL.out k hlt hc j hj
        have HNC : Hid (nmCells (doneD fs s k ++ [fs[k]]) = nmCells (doneD fs s k) ++ [.string (fs[k].1.extract 1 fs[k].1.size)]) := by unfold Hid; rw [nmCells_snoc, hnm]
        have hdk := hdl k
        have hcn : ((parentOf fs[k].1).toList != s.toList) = false := by simp [bne, hc]
        clear hnm
        obtain ⟨pq, hpq⟩ : ∃ pq, pq = parentOf fs[k].1 := ⟨_, rfl⟩
        rw [← hpq] at hpa hc hcn
        clear hpq
        obtain ⟨f, hf⟩ : ∃ f, f = fs[k] := ⟨_, rfl⟩
        rw [← hf] at HNC HNX hpa a0 hfr hfz HLS
        clear hf
        obtain ⟨dn, hdn⟩ : ∃ dn, dn = doneD fs s k := ⟨_, rfl⟩
        rw [← hdn] at HROW HNX HLS HNC hdk HNIL
        clear hdn
        rcases HROW.out.2 with ⟨rfl, hn0⟩ | ⟨g2, cap2, cur2, rfl, hg2, hbk, r1, r2, r3, r4⟩
        · have hdn0 : dn = [] := List.eq_nil_of_length_eq_zero hn0
          subst hdn0
          go_wp2_with (go_at_call 21; refine hpa.mono ?_; rintro e w2 ⟨rfl, rfl⟩)
          obtain ⟨wo, rfl⟩ : ∃ wo : World, wo = w2 := ⟨_, rfl⟩
          have hgd : decide ((0 : Int) < (0 : Int)) = false := by decide
          go_loopw [12] (fun at' wi => at' = .int .i64 0 ∧ ∃ q, wi = wo.drewN q) (fun _ _ => 0)
          case atStart => exact ⟨rfl, 0, rfl⟩
          case round =>
            obtain ⟨rfl, q, rfl⟩ := hrel
            go_wp2_with fail
            go_quiet (fail)
            have hbq : Below wo.heap.size wo (wo.drewN (q + nq)) := drewN_eq _ _
            have hwo := hb.size
            have HNW : Hid (∀ j u, [Value.string (f.1.extract 1 f.1.size)][j]? = some u → ((wo.drewN (q + nq)).alloc (.cells #[.string (f.1.extract 1 f.1.size)] 9)).cell? ((⟨wo.heap.size, 0, none⟩ : Addr).add j) = some u) :=
              World.news_of_block (cs := #[.string (f.1.extract 1 f.1.size)]) (t := 9) (fr := (0, 0)) (by
                show (wo.heap.push _)[wo.heap.size]? = _
                rw [Array.getElem?_push, if_pos rfl])
            go_wp2_with (first
              | (at_builtin; refine wpList_append_lies _ rfl _ _ 52 rfl w1.heap.size 9 i0 (.string ByteArray.empty) 1 16 Tryz.underlying52 hi hz0 hz1 hz2 rfl (by decide) (.slice none 0 0) 0 [] rfl ⟨rfl, Or.inl ⟨rfl, rfl⟩⟩ ⟨wo.heap.size, 0, none⟩ 1 1 [.string (f.1.extract 1 f.1.size)] rfl rfl HNW.out (by simp [Value.oneCell']) (by decide) (by decide) (by decide) (by simp; omega) (wo.heap.size + 1) (by simp) ?_; intro g3 cap3 w3 hown3 hgrow3 hat3 hlt3; have hc3 : 1 ≤ cap3 := row_cap hown3; have hc4 : ¬ cap3 < 1 := by omega)
              | fail)
            refine ⟨⟨k + 1, by omega, by go_num, ?_, ?_, ?_⟩, by simp [intOf]; omega⟩
            · rw [HNX.out, HNC.out]; exact hown3
            · rw [HNX.out]; simp
            · exact ((hb.trans (hbq.mono hb.size)).alloc (by simp; omega) _).grown hgrow3 (by simp; omega) (fun j hj => by cases hj)
        · have hpos : 0 < dn.length := by
            rcases Nat.eq_zero_or_pos dn.length with q | q
            · have := HNIL.out q; cases this
            · exact q
          have HCN : Hid (∀ j (hj : j < dn.length), wr.cell? ⟨g2, j, none⟩ = some (.string (nameOf dn[j].1))) := fun j hj => row_cells HROW.out j _ (nm_get dn j hj)
          clear hbk r3 r4
          go_wp2_with (go_at_call 21; refine hpa.mono ?_; rintro e w2 ⟨rfl, rfl⟩)
          obtain ⟨wo, rfl⟩ : ∃ wo : World, wo = w2 := ⟨_, rfl⟩
          go_loopw [12] (fun at' wi => ∃ j : Nat, j ≤ dn.length ∧ at' = .int .i64 j ∧ ∃ q, wi = wo.drewN q) (fun at' _ => dn.length - (intOf at').toNat)
          case atStart => exact ⟨0, Nat.zero_le _, rfl, 0, rfl⟩
          case round =>
            obtain ⟨j, hjl, rfl, q, rfl⟩ := hrel
            by_cases hj : j < dn.length
            · have b0 := HCN.out j hj
              have hl := HLS.out j hj
              generalize nameOf dn[j].1 = nj at *
              go_wp2_with fail
              go_quiet (fail)
              go_wp2
              exact ⟨⟨j + 1, by omega, by go_num, q + nq, rfl⟩, by simp [intOf]; omega⟩
            · obtain rfl : j = dn.length := by omega
              have hgd : decide ((dn.length : Int) < (dn.length : Int)) = false := by simp
              go_wp2_with fail
              go_quiet (fail)
              have hbq : Below wo.heap.size wo (wo.drewN (q + nq)) := drewN_eq _ _
              have hw2 := hb.size
              have HN1 : Hid (∀ j u, (nmCells dn)[j]? = some u → (wo.drewN (q + nq)).cell? ((⟨g2, 0, none⟩ : Addr).add j) = some u) := by
                intro j u hu
                exact HROW.out.cells rfl j u hu
              have hnl : (nmCells dn).length = dn.length * 1 := by unfold nmCells; simp
              have tokA : True := trivial
              go_wp2_with (first
                | (at_builtin; have _t := tokA; clear _t tokA; refine wpList_append_lies _ rfl _ _ 52 rfl w1.heap.size 9 i0 (.string ByteArray.empty) 1 16 Tryz.underlying52 hi hz0 hz1 hz2 rfl (by decide) (.slice none 0 0) 0 [] rfl ⟨rfl, Or.inl ⟨rfl, rfl⟩⟩ ⟨g2, 0, none⟩ dn.length cap2 (nmCells dn) rfl hnl HN1.out (nm_one dn) hpos (by unfold maxLen; omega) (by omega) (by simp; omega) wo.heap.size (by simp) ?_; intro g4 cap4 w4 hown4 hgrow4 hat4 hlt4; obtain ⟨HO4, HN2, HB4⟩ := list_mid hb hown4 hgrow4 (f.1.extract 1 f.1.size))
                | (at_builtin; refine wpList_append_lies _ rfl _ _ 52 rfl w1.heap.size 9 i0 (.string ByteArray.empty) 1 16 Tryz.underlying52 hi hz0 hz1 hz2 rfl (by decide) (.slice (some ⟨g4, 0, none⟩) dn.length cap4) dn.length (nmCells dn) rfl (HO4.out.alloc _) ⟨w4.heap.size, 0, none⟩ 1 1 [.string (f.1.extract 1 f.1.size)] rfl rfl HN2.out (by simp [Value.oneCell']) (by decide) (by unfold maxLen; omega) (by omega) (by have := HB4.out.size; simp; omega) (w4.heap.size + 1) (by simp) ?_; intro g5 cap5 w5 hown5 hgrow5 hat5 hlt5; have hc5 : dn.length + 1 ≤ cap5 := row_cap hown5; have hc6 : ¬ cap5 < dn.length + 1 := by omega)
                | fail)
              all_goals
                refine ⟨⟨k + 1, by omega, by go_num, ?_, ?_, ?_⟩, by simp [intOf]; omega⟩
                · rw [HNX.out, HNC.out, List.length_append]; exact hown5
                · rw [HNX.out]; simp
                · have hz4 := HB4.out.size
                  exact (HB4.out.alloc hz4 _).grown hgrow5 (by simp; omega) (fun j hj => (row_lt HO4.out hj).2)
      · rw [Bool.not_eq_true] at hc
        have hcn : ((parentOf fs[k].1).toList != s.toList) = true := by simp [bne, hc]
        have HNX : Hid (doneD fs s (k + 1) = doneD fs s k) := done_out fs s k hlt hc
        obtain ⟨pq, hpq⟩ : ∃ pq, pq = parentOf fs[k].1 := ⟨_, rfl⟩
        rw [← hpq] at hpa hc hcn
        clear hpq
        obtain ⟨f, hf⟩ : ∃ f, f = fs[k].1 := ⟨_, rfl⟩
        rw [← hf] at hpa a0
        clear hf
        go_wp2_with (go_at_call 21; refine hpa.mono ?_; rintro e w2 ⟨rfl, rfl⟩)
        refine ⟨⟨k + 1, by omega, by go_num, ?_, ?_, hb⟩, by simp [intOf]; omega⟩
        · rw [HNX.out]; exact HROW.out
        · rw [HNX.out]; exact HNIL.out
    · have hrow' : wr.ownsRow w1.heap.size 9 1 u8 (namesD D s).length ((namesD D s).map encStr) := by
        rw [← HNM.out, HNL.out, ← HALL.out k (by omega)]; exact HROW.out
      rcases hrow'.2 with ⟨rfl, hn0⟩ | ⟨g2, cap2, cur2, rfl, hg2, hbk, r1, r2, r3, r4⟩
      · have HRW := hide3 hrow'
        clear hrow'
        go_wp2
        go_ret2
        rw [hn0] at HRW
        exact ⟨none, 0, rfl, HRW.out, hb⟩
      · have HRW := hide3 hrow'
        clear hrow' hbk r1 r2 r3 r4
        go_wp2
        go_ret2
        exact ⟨some ⟨g2, 0, none⟩, cap2, rfl, HRW.out, hb⟩

set_option maxHeartbeats 4000000 in
theorem rList_deep {B : Nat} {w : World} {e : Nat} {lv rv : Value} {D : DataW Unit} {rs : List (Int × ByteArray × ByteArray)} {left : Int} (h : IsRef B w e lv rv (filesD D) rs left) (hP : Plain D) (s : ByteArray) (hs : s.size ≤ maxLen) (hlen : (filesD D).length < 2199023255552)
    (hpb : pathB s = true) (hk2 : kindD D s = 2) (hroot : (s.toList == [47]) = false) :
    Calls Tryz.prog 28 #[.pointer (some ⟨e, 0, none⟩), .string s] w fun e' w' => ∃ ao cap, e' = .returned (.tuple #[.slice ao (namesD D s).length cap, .int .i64 0]) ∧
      w'.ownsRow w.heap.size 9 1 (.slice ao (namesD D s).length cap) (namesD D s).length ((namesD D s).map encStr) ∧ Below w.heap.size w w' := by
  obtain ⟨i0, hi, hz0, hz1, hz2⟩ := info_parts infoStr
  have hp := rPath_any s w hs
  rw [okPath_not_root s hroot, hpb] at hp
  have hk := rKind_any h hP.good s (Nat.le_of_lt hlen)
  rw [hk2] at hk
  have HNM : Hid (nmCells (kidsD D s) = (namesD D s).map encStr) := by unfold Hid; rw [nmCells_enc]; rfl
  have HNL : Hid ((namesD D s).length = (kidsD D s).length) := by unfold Hid namesD; rw [List.length_map]
  have hsz0 : s.size ≤ 4096 := by exact (okPath_parts (by rw [okPath_not_root s hroot]; exact hpb)).1
  have c0 := h.c0
  rcases h.lrow.2 with ⟨rfl, h0⟩ | ⟨g, cap, cur, rfl, hgB, _, _, _, _, _⟩
  · have hF : filesD D = [] := List.eq_nil_of_length_eq_zero h0
    have HF : Hid (namesD D s = []) := by unfold Hid namesD kidsD; rw [hF]; rfl
    clear h hP hk2 hpb hF
    go_enter Tryz.func28, Tryz.ntmps28
    go_wp2_with (first
      | (go_at_call 43; refine hp.mono ?_; rintro e w1 ⟨rfl, rfl⟩)
      | (go_at_call 27; refine hk.mono ?_; rintro e w1 ⟨rfl, rfl⟩))
    go_loop [8, 9] (fun v i => v = .slice none 0 0 ∧ i = .int .i64 0) (fun _ _ => 0)
    case atStart => exact ⟨rfl, rfl⟩
    case round =>
      obtain ⟨rfl, rfl⟩ := hrel
      go_wp2
      go_ret2
      rw [HF.out]
      exact ⟨none, 0, rfl, ⟨rfl, Or.inl ⟨rfl, rfl⟩⟩, Below.refl _ _⟩
  have HCL : Hid (∀ wr, Below w.heap.size w wr → wr.cell? ⟨e, 0, none⟩ = some (.slice (some ⟨g, 0, none⟩) (filesD D).length cap) ∧ ∀ k (hk : k < (filesD D).length), wr.cell? ⟨g, k * 3, none⟩ = some (.string (filesD D)[k].1)) := by
    intro wr hb
    exact ⟨cell_below c0 hb, fun k hk => cell_below (file_cells h.lrow k hk).1 hb⟩
  have HP : Hid (Plain D) := hP
  have HDL : Hid (∀ k (hk : k < (filesD D).length), ((parentOf (filesD D)[k].1).toList == s.toList) = true → ∀ j (hj : j < (doneD (filesD D) s k).length), Op.bytesLess (nameOf (doneD (filesD D) s k)[j].1).toList (nameOf (filesD D)[k].1).toList = true) := fun k hk' hc j hj => done_less hP s k hk' hc j hj
  have HFR : Hid (∀ k (hk : k < (filesD D).length), ((parentOf (filesD D)[k].1).toList == s.toList) = true → (s.size + 1) ≤ (filesD D)[k].1.size ∧ nameOf (filesD D)[k].1 = (filesD D)[k].1.extract (s.size + 1) (filesD D)[k].1.size) := by
    intro k hk' hc
    obtain ⟨i, h1, h2, h3, _⟩ := child_split (hP.ok (List.getElem_mem hk'))
    rw [beq_bytes.1 hc] at h2
    have : fromOf s = (s.size + 1) := by unfold fromOf; rw [if_neg (by rw [hroot]; decide)]
    rw [this] at h2
    rw [h3, ← h2]
    exact ⟨by omega, rfl⟩
  have HPA : Hid (∀ k (hk : k < (filesD D).length) (wr : World), Calls Tryz.prog 21 #[.string (filesD D)[k].1] wr fun e w' => e = .returned (.string (parentOf (filesD D)[k].1)) ∧ w' = wr) := fun k hk' wr => by
    have hok := hP.ok (List.getElem_mem hk')
    exact rParent_any _ wr (okPath_size hok) (okPath_parts hok).2
  have HSZ : Hid (∀ k (hk : k < (filesD D).length), (filesD D)[k].1.size ≤ 4096) := fun k hk' => (okPath_parts (hP.ok (List.getElem_mem hk'))).1
  have hdl : ∀ k, (doneD (filesD D) s k).length ≤ (filesD D).length := done_le (filesD D) s
  have HALL : Hid (∀ k, (filesD D).length ≤ k → doneD (filesD D) s k = kidsD D s) := fun k hk' => done_all D s k hk'
  clear h hP hk2 hpb c0
  generalize hfs : filesD D = fs at *
  clear hfs
  go_enter Tryz.func28, Tryz.ntmps28
  go_wp2_with (first
    | (go_at_call 43; refine hp.mono ?_; rintro e w1 ⟨rfl, rfl⟩)
    | (go_at_call 27; refine hk.mono ?_; rintro e w1 ⟨rfl, rfl⟩))
  go_loopw [8, 9] (fun v i wr => ∃ k : Nat, k ≤ fs.length ∧ i = .int .i64 k ∧ wr.ownsRow w1.heap.size 9 1 v (doneD fs s k).length (nmCells (doneD fs s k)) ∧ ((doneD fs s k).length = 0 → v = .slice none 0 0) ∧ Below w1.heap.size w1 wr) (fun _ i _ => fs.length - (intOf i).toNat)
  case atStart => exact ⟨0, Nat.zero_le _, rfl, ⟨by rw [done_zero]; rfl, Or.inl ⟨rfl, by rw [done_zero]; rfl⟩⟩, fun _ => rfl, Below.refl _ _⟩
  case round =>
    obtain ⟨k, hkl, rfl, hrow, hnil, hb⟩ := hrel
    obtain ⟨c0, hcells⟩ := HCL.out wr hb
    have HROW := hide3 hrow
    have HNIL := hide3 hnil
    clear hrow hnil
    by_cases hlt : k < fs.length
    · have a0 := hcells k hlt
      have hpa := HPA.out k hlt wr
      have HC2 := hide3 hcells
      clear hcells
      by_cases hc : ((parentOf fs[k].1).toList == s.toList) = true
      · obtain ⟨hfr, hnm⟩ := HFR.out k hlt hc
        have hfz := HSZ.out k hlt
        have HNX : Hid (doneD fs s (k + 1) = doneD fs s k ++ [fs[k]]) := done_in fs s k hlt hc
        have HLS : Hid (∀ j (hj : j < (doneD fs s k).length), Op.bytesLess (nameOf (doneD fs s k)[j].1).toList (fs[k].1.extract (s.size + 1) fs[k].1.size).toList = true) := by
          intro j hj
          rw [← hnm]; exact HDL.out k hlt hc j hj
        have HNC : Hid (nmCells (doneD fs s k ++ [fs[k]]) = nmCells (doneD fs s k) ++ [.string (fs[k].1.extract (s.size + 1) fs[k].1.size)]) := by unfold Hid; rw [nmCells_snoc, hnm]
        have hdk := hdl k
        have hcn : ((parentOf fs[k].1).toList != s.toList) = false := by simp [bne, hc]
        clear hnm
        obtain ⟨pq, hpq⟩ : ∃ pq, pq = parentOf fs[k].1 := ⟨_, rfl⟩
        rw [← hpq] at hpa hc hcn
        clear hpq
        obtain ⟨f, hf⟩ : ∃ f, f = fs[k] := ⟨_, rfl⟩
        rw [← hf] at HNC HNX hpa a0 hfr hfz HLS
        clear hf
        obtain ⟨dn, hdn⟩ : ∃ dn, dn = doneD fs s k := ⟨_, rfl⟩
        rw [← hdn] at HROW HNX HLS HNC hdk HNIL
        clear hdn
        rcases HROW.out.2 with ⟨rfl, hn0⟩ | ⟨g2, cap2, cur2, rfl, hg2, hbk, r1, r2, r3, r4⟩
        · have hdn0 : dn = [] := List.eq_nil_of_length_eq_zero hn0
          subst hdn0
          go_wp2_with (go_at_call 21; refine hpa.mono ?_; rintro e w2 ⟨rfl, rfl⟩)
          obtain ⟨wo, rfl⟩ : ∃ wo : World, wo = w2 := ⟨_, rfl⟩
          have hgd : decide ((0 : Int) < (0 : Int)) = false := by decide
          go_loopw [12] (fun at' wi => at' = .int .i64 0 ∧ ∃ q, wi = wo.drewN q) (fun _ _ => 0)
          case atStart => exact ⟨rfl, 0, rfl⟩
          case round =>
            obtain ⟨rfl, q, rfl⟩ := hrel
            go_wp2_with fail
            go_quiet (fail)
            have hbq : Below wo.heap.size wo (wo.drewN (q + nq)) := drewN_eq _ _
            have hwo := hb.size
            have HNW : Hid (∀ j u, [Value.string (f.1.extract (s.size + 1) f.1.size)][j]? = some u → ((wo.drewN (q + nq)).alloc (.cells #[.string (f.1.extract (s.size + 1) f.1.size)] 9)).cell? ((⟨wo.heap.size, 0, none⟩ : Addr).add j) = some u) :=
              World.news_of_block (cs := #[.string (f.1.extract (s.size + 1) f.1.size)]) (t := 9) (fr := (0, 0)) (by
                show (wo.heap.push _)[wo.heap.size]? = _
                rw [Array.getElem?_push, if_pos rfl])
            go_wp2_with (first
              | (at_builtin; refine wpList_append_lies _ rfl _ _ 52 rfl w1.heap.size 9 i0 (.string ByteArray.empty) 1 16 Tryz.underlying52 hi hz0 hz1 hz2 rfl (by decide) (.slice none 0 0) 0 [] rfl ⟨rfl, Or.inl ⟨rfl, rfl⟩⟩ ⟨wo.heap.size, 0, none⟩ 1 1 [.string (f.1.extract (s.size + 1) f.1.size)] rfl rfl HNW.out (by simp [Value.oneCell']) (by decide) (by decide) (by decide) (by simp; omega) (wo.heap.size + 1) (by simp) ?_; intro g3 cap3 w3 hown3 hgrow3 hat3 hlt3; have hc3 : 1 ≤ cap3 := row_cap hown3; have hc4 : ¬ cap3 < 1 := by omega)
              | fail)
            refine ⟨⟨k + 1, by omega, by go_num, ?_, ?_, ?_⟩, by simp [intOf]; omega⟩
            · rw [HNX.out, HNC.out]; exact hown3
            · rw [HNX.out]; simp
            · exact ((hb.trans (hbq.mono hb.size)).alloc (by simp; omega) _).grown hgrow3 (by simp; omega) (fun j hj => by cases hj)
        · have hpos : 0 < dn.length := by
            rcases Nat.eq_zero_or_pos dn.length with q | q
            · have := HNIL.out q; cases this
            · exact q
          have HCN : Hid (∀ j (hj : j < dn.length), wr.cell? ⟨g2, j, none⟩ = some (.string (nameOf dn[j].1))) := fun j hj => row_cells HROW.out j _ (nm_get dn j hj)
          clear hbk r3 r4
          go_wp2_with (go_at_call 21; refine hpa.mono ?_; rintro e w2 ⟨rfl, rfl⟩)
          obtain ⟨wo, rfl⟩ : ∃ wo : World, wo = w2 := ⟨_, rfl⟩
          go_loopw [12] (fun at' wi => ∃ j : Nat, j ≤ dn.length ∧ at' = .int .i64 j ∧ ∃ q, wi = wo.drewN q) (fun at' _ => dn.length - (intOf at').toNat)
          case atStart => exact ⟨0, Nat.zero_le _, rfl, 0, rfl⟩
          case round =>
            obtain ⟨j, hjl, rfl, q, rfl⟩ := hrel
            by_cases hj : j < dn.length
            · have b0 := HCN.out j hj
              have hl := HLS.out j hj
              generalize nameOf dn[j].1 = nj at *
              go_wp2_with fail
              go_quiet (fail)
              go_wp2
              exact ⟨⟨j + 1, by omega, by go_num, q + nq, rfl⟩, by simp [intOf]; omega⟩
            · obtain rfl : j = dn.length := by omega
              have hgd : decide ((dn.length : Int) < (dn.length : Int)) = false := by simp
              go_wp2_with fail
              go_quiet (fail)
              have hbq : Below wo.heap.size wo (wo.drewN (q + nq)) := drewN_eq _ _
              have hw2 := hb.size
              have HN1 : Hid (∀ j u, (nmCells dn)[j]? = some u → (wo.drewN (q + nq)).cell? ((⟨g2, 0, none⟩ : Addr).add j) = some u) := by
                intro j u hu
                exact HROW.out.cells rfl j u hu
              have hnl : (nmCells dn).length = dn.length * 1 := by unfold nmCells; simp
              have tokA : True := trivial
              go_wp2_with (first
                | (at_builtin; have _t := tokA; clear _t tokA; refine wpList_append_lies _ rfl _ _ 52 rfl w1.heap.size 9 i0 (.string ByteArray.empty) 1 16 Tryz.underlying52 hi hz0 hz1 hz2 rfl (by decide) (.slice none 0 0) 0 [] rfl ⟨rfl, Or.inl ⟨rfl, rfl⟩⟩ ⟨g2, 0, none⟩ dn.length cap2 (nmCells dn) rfl hnl HN1.out (nm_one dn) hpos (by unfold maxLen; omega) (by omega) (by simp; omega) wo.heap.size (by simp) ?_; intro g4 cap4 w4 hown4 hgrow4 hat4 hlt4; obtain ⟨HO4, HN2, HB4⟩ := list_mid hb hown4 hgrow4 (f.1.extract (s.size + 1) f.1.size))
                | (at_builtin; refine wpList_append_lies _ rfl _ _ 52 rfl w1.heap.size 9 i0 (.string ByteArray.empty) 1 16 Tryz.underlying52 hi hz0 hz1 hz2 rfl (by decide) (.slice (some ⟨g4, 0, none⟩) dn.length cap4) dn.length (nmCells dn) rfl (HO4.out.alloc _) ⟨w4.heap.size, 0, none⟩ 1 1 [.string (f.1.extract (s.size + 1) f.1.size)] rfl rfl HN2.out (by simp [Value.oneCell']) (by decide) (by unfold maxLen; omega) (by omega) (by have := HB4.out.size; simp; omega) (w4.heap.size + 1) (by simp) ?_; intro g5 cap5 w5 hown5 hgrow5 hat5 hlt5; have hc5 : dn.length + 1 ≤ cap5 := row_cap hown5; have hc6 : ¬ cap5 < dn.length + 1 := by omega)
                | fail)
              all_goals
                refine ⟨⟨k + 1, by omega, by go_num, ?_, ?_, ?_⟩, by simp [intOf]; omega⟩
                · rw [HNX.out, HNC.out, List.length_append]; exact hown5
                · rw [HNX.out]; simp
                · have hz4 := HB4.out.size
                  exact (HB4.out.alloc hz4 _).grown hgrow5 (by simp; omega) (fun j hj => (row_lt HO4.out hj).2)
      · rw [Bool.not_eq_true] at hc
        have hcn : ((parentOf fs[k].1).toList != s.toList) = true := by simp [bne, hc]
        have HNX : Hid (doneD fs s (k + 1) = doneD fs s k) := done_out fs s k hlt hc
        obtain ⟨pq, hpq⟩ : ∃ pq, pq = parentOf fs[k].1 := ⟨_, rfl⟩
        rw [← hpq] at hpa hc hcn
        clear hpq
        obtain ⟨f, hf⟩ : ∃ f, f = fs[k].1 := ⟨_, rfl⟩
        rw [← hf] at hpa a0
        clear hf
        go_wp2_with (go_at_call 21; refine hpa.mono ?_; rintro e w2 ⟨rfl, rfl⟩)
        refine ⟨⟨k + 1, by omega, by go_num, ?_, ?_, hb⟩, by simp [intOf]; omega⟩
        · rw [HNX.out]; exact HROW.out
        · rw [HNX.out]; exact HNIL.out
    · have hrow' : wr.ownsRow w1.heap.size 9 1 u8 (namesD D s).length ((namesD D s).map encStr) := by
        rw [← HNM.out, HNL.out, ← HALL.out k (by omega)]; exact HROW.out
      rcases hrow'.2 with ⟨rfl, hn0⟩ | ⟨g2, cap2, cur2, rfl, hg2, hbk, r1, r2, r3, r4⟩
      · have HRW := hide3 hrow'
        clear hrow'
        go_wp2
        go_ret2
        rw [hn0] at HRW
        exact ⟨none, 0, rfl, HRW.out, hb⟩
      · have HRW := hide3 hrow'
        clear hrow' hbk r1 r2 r3 r4
        go_wp2
        go_ret2
        exact ⟨some ⟨g2, 0, none⟩, cap2, rfl, HRW.out, hb⟩

end Go.Proofs.YtpkllhgohkgcmaaGreatDoor
