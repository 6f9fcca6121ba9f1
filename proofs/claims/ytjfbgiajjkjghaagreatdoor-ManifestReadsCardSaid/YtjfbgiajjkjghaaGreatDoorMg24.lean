/- Rk11, Mr4, laid in one text. -/
import Derived.Deep.CutRange
import Derived.BigRegion
import Derived.Test.YtjfbgiajjkjghaaGreatDoorMg23
namespace Go.Proofs.YtjfbgiajjkjghaaGreatDoor
open Go.RowKit
set_option maxRecDepth 100000

theorem idxW_get : ∀ {X : List Sc.Bs} {s : Sc.Bs} {k : Nat}, idxW X s = (k : Int) → X[k]? = some s
  | [], s, k, h => by unfold idxW at h; omega
  | x :: X, s, k, h => by
    unfold idxW at h
    split at h
    · rename_i e
      obtain rfl : k = 0 := by omega
      rw [e]
      rfl
    · split at h
      · omega
      · have hl := (idxW_lt X s).2
        obtain ⟨j, rfl⟩ : ∃ j, k = j + 1 := ⟨k - 1, by omega⟩
        have := idxW_get (X := X) (s := s) (k := j) (by omega)
        simpa using this
theorem idxW_of : ∀ {X : List Sc.Bs} {s : Sc.Bs} {k : Nat}, X.Nodup → X[k]? = some s → idxW X s = (k : Int)
  | [], s, k, _, h => by simp at h
  | x :: X, s, 0, _, h => by
    have e : s = x := by simpa using h.symm
    unfold idxW
    rw [if_pos e]
    rfl
  | x :: X, s, j + 1, hn, h => by
    rw [List.nodup_cons] at hn
    have h' : X[j]? = some s := by simpa using h
    have := idxW_of hn.2 h'
    have hx : s ≠ x := fun e => hn.1 (by rw [← e]; exact List.mem_of_getElem? h')
    unfold idxW
    rw [if_neg hx, this, if_neg (by omega)]
    omega
/-- The word stands nowhere from a on. -/
theorem idxW_not {X : List Sc.Bs} {s : Sc.Bs} {a : Nat} (h : ∀ j (hj : j < X.length), a ≤ j → X[j] ≠ s) : idxW X s < (a : Int) := by
  by_cases hc : idxW X s < (a : Int)
  · exact hc
  · obtain ⟨k, hk⟩ : ∃ k : Nat, idxW X s = (k : Int) := ⟨(idxW X s).toNat, by omega⟩
    have h1 := idxW_get hk
    obtain ⟨hl, he⟩ := List.getElem?_eq_some_iff.1 h1
    exact absurd he (h k hl (by omega))
theorem depE_name {q : Option ByteArray} {n : ByteArray} {ws : List Sc.Bs} (h : depE q n ws = 0) : n.size ≠ 0 ∧ n.size ≤ 16 := by
  unfold depE at h
  split at h
  · rename_i hf
    unfold followB at hf
    rw [Bool.and_eq_true] at hf
    have hn := hf.1
    unfold Sc.nameA at hn
    rw [Bool.and_eq_true, Bool.and_eq_true, decide_eq_true_eq, list_size] at hn
    refine ⟨fun e => ?_, hn.2⟩
    have : n.data.toList = [] := List.eq_nil_of_length_eq_zero (by rw [list_size]; exact e)
    rw [this] at hn
    exact absurd hn.1.1 (by simp [Sc.headB])
  · cases h
theorem OwnD.last {w : World} {B : Nat} {v : Value} {ps : List (Dp × Value)} (h : OwnD w B v ps) {m : Nat} (hm : ps.length = m + 1) :
    ∃ g cap p, v = .slice (some ⟨g, 0, none⟩) (m + 1) cap ∧ m + 1 ≤ cap ∧ p ∈ ps ∧ w.cell? ⟨g, m * 2, none⟩ = some (.string p.1.nm) ∧ g < w.heap.size ∧ lastN (ps.map (·.1)) = some p.1.nm := by
  have h0 := h.1
  obtain ⟨h1, _⟩ := dpCells_at ps m (by omega)
  have hlt := h0.1
  rcases h0.2 with ⟨_, hn⟩ | ⟨g, cap, cur, rfl, hB, hg, hc, _⟩
  · omega
  · refine ⟨g, cap, ps[m], by rw [hm], by omega, List.getElem_mem _, ?_, (Array.getElem?_eq_some_iff.1 hg).1, ?_⟩
    · rw [h0.cellAt (m * 2) (by omega)]; exact h1
    · unfold lastN
      rw [List.getLast?_map, List.getLast?_eq_getElem?]
      have e : ps.length - 1 = m := by omega
      rw [e, List.getElem?_eq_getElem (show m < ps.length by omega)]
      rfl

theorem rd_err {X : List Sc.Bs} {a kk : Nat} {acc : List (List Dp)} {ln : List Sc.Bs} {r : List (List Sc.Bs)} (h2 : idxW X (ln.getD 0 []) = (kk : Int)) (h3 : a ≤ kk) {er : Int} (h4 : rdepE (lastN (acc.getD kk [])) ln = er) (h0 : er ≠ 0) : (readF X a acc (ln :: r)).1 = er := by
  unfold rdepE at h4
  split at h4
  · rename_i h
    rw [readF_short h]
    exact h4
  · rename_i h
    exact readF_err h h2 h3 h4 h0
theorem rd_step {X : List Sc.Bs} {a kk : Nat} {acc : List (List Dp)} {ln : List Sc.Bs} {r : List (List Sc.Bs)} (h2 : idxW X (ln.getD 0 []) = (kk : Int)) (h3 : a ≤ kk) (h4 : rdepE (lastN (acc.getD kk [])) ln = 0) : readF X a acc (ln :: r) = readF X kk (acc.set kk (acc.getD kk [] ++ [lineDp ln])) r := by
  unfold rdepE at h4
  split at h4
  · cases h4
  · rename_i h
    exact readF_step h h2 h3 h4
theorem rd_name {q : Option ByteArray} {ln : List Sc.Bs} (h : rdepE q ln = 0) : (lineDp ln).nm.size ≠ 0 ∧ (lineDp ln).nm.size ≤ 16 := by
  unfold rdepE at h
  split at h
  · cases h
  · exact depE_name h

set_option maxHeartbeats 12800000 in
theorem rLists_any {X : List Sc.Bs} {Lns : List (List Sc.Bs)} {vl vx : Value} {w : World} (hl : Sc.LinesAt w vl Lns) (hx : Sc.WordsAt w vx X) (hX : X.length ≤ 16) (hXn : X.Nodup) (hn : Lns.length ≤ 5000) (hne : ∀ ln ∈ Lns, ln ≠ []) (hs : ∀ ln ∈ Lns, ShortLn ln) (hz : ∀ ln ∈ Lns, ∀ x ∈ ln, x.length ≤ 5000) :
    Calls Tryz.prog 28 #[vl, vx] w (ReadQ w (readF X 0 (List.replicate X.length []) Lns)) := by
  have HRD : Hid (∀ w1 (ln : List Sc.Bs) vw (q : Option ByteArray) (last : ByteArray), Sc.WordsAt w1 vw ln → ln ∈ Lns → last = q.getD ⟨#[]⟩ → (∀ s, q = some s → s.size ≠ 0) → last.size ≤ 1000000 → Calls Tryz.prog 46 #[vw, .string last] w1 (DepQ w1 (Sc.ba (ln.getD 1 [])) (ln.drop 2) (rdepE q ln))) := fun w1 ln vw q last h1 hm h2 h3 h4 => rDep_any h1 (hs ln hm) (hz ln hm) h2 h3 h4
  have HLN : Hid (∀ w1, Below w.heap.size w w1 → Sc.LinesAt w1 vl Lns) := fun w1 hb => hl.below hb
  have HXA : Hid (∀ w1, Below w.heap.size w w1 → Sc.WordsAt w1 vx X) := fun w1 hb => hx.below hb
  have HER : Hid (∀ er w', (readF X 0 (List.replicate X.length []) Lns).1 = er → er ≠ 0 → Below w.heap.size w w' → ReadQ w (readF X 0 (List.replicate X.length []) Lns) (.returned (.tuple #[.slice none 0 0, .int .i64 er])) w') := fun er w' h1 h2 h3 => ReadQ.err h1 h2 h3
  have HOK : Hid (∀ (rows : List (Value × List (Dp × Value))) w', rows.length = X.length → KX w w.heap.size rows w' → readF X 0 (List.replicate X.length []) Lns = (0, plainR rows) → ReadQ w (readF X 0 (List.replicate X.length []) Lns) (.returned (.tuple #[.slice (some ⟨w.heap.size, 0, none⟩) X.length X.length, .int .i64 0])) w') := fun rows w' h0 h1 h2 => by
    rw [h2]
    exact ⟨_, rfl, h1.1, fun _ => ⟨w.heap.size, rows, by rw [h0], h1.2, rfl⟩, fun h => absurd rfl h⟩
  have HNE := hide3 hne
  have HXN := hide3 hXn
  obtain ⟨adl, capl, rfl, hcl, _⟩ := hl
  obtain ⟨adx, capx, rfl, hcx, _⟩ := hx
  obtain ⟨i0, hi, hz0, hz1, hz2⟩ := Sc.info_parts infoDeps
  clear hs hz hne hXn
  have HRF : Hid (readF X 0 (List.replicate X.length []) Lns = readF X 0 (plainR (List.replicate X.length (.slice none 0 0, []))) (Lns.drop 0)) := by
    unfold Hid plainR
    rw [List.map_replicate, List.drop_zero]
    rfl
  generalize hFR : readF X 0 (List.replicate X.length []) Lns = FR at *
  clear hFR
  generalize hQ : ReadQ w FR = RQ at *
  clear hQ
  go_enter Tryz.func28, Tryz.ntmps28
  go_wp2_with (at_make; refine wpList_make_full _ rfl _ _ 57 rfl w.heap.size 22 i0 _ 1 Tryz.underlying57 hi hz0 hz1 .i64 .i64 _ _ X.length rfl rfl rfl rfl (by rw [hz2]; omega) (by unfold maxLen; omega) (Nat.le_refl _) ?_; intro w1 hown1 hg1; have HK1 : Hid (KX w w.heap.size (List.replicate X.length (.slice none 0 0, [])) w1) := ⟨(Below.refl _ _).grown hg1 (Nat.le_refl _) (fun q hq => by cases hq), RD.start (by rw [Nat.mul_one] at hown1; rw [show (Value.slice none 0 0).cells = #[Value.slice none 0 0] from rfl, toList_madeCells_one] at hown1; exact hown1)⟩; clear hown1 hg1)
  go_loopw [7, 8] (fun va vi wr => ∃ (k a : Nat) (rows : List (Value × List (Dp × Value))), k ≤ Lns.length ∧ vi = .int .i64 k ∧ va = .int .i64 a ∧ rows.length = X.length ∧ (∀ r ∈ rows, r.2.length ≤ k ∧ ∀ p ∈ r.2, p.1.nm.size ≠ 0 ∧ p.1.nm.size ≤ 16) ∧ KX w w.heap.size rows wr ∧ FR = readF X a (plainR rows) (Lns.drop k) ∧ a ≤ X.length) (fun _ i _ => Lns.length - (intOf i).toNat)
  case atStart => exact ⟨0, 0, _, Nat.zero_le _, rfl, rfl, List.length_replicate .., (fun r hr => by obtain ⟨_, rfl⟩ := List.mem_replicate.1 hr; exact ⟨Nat.le_refl _, fun p hp => by cases hp⟩), HK1.out, HRF.out, Nat.zero_le _⟩
  case round =>
    clear HK1 HRF
    obtain ⟨k, a, rows, hk, rfl, rfl, hrl, hrk, hkx, hrf, haX⟩ := hrel
    have HKX := hide3 hkx
    have HRK := hide3 hrk
    by_cases hlt : k < Lns.length
    · have hmem := List.getElem_mem hlt
      have HLM := hide3 hmem
      obtain ⟨p0, rest0, hln⟩ : ∃ p0 rest0, Lns[k] = p0 :: rest0 := by
        cases hq : Lns[k] with
        | nil => exact absurd hq (HNE.out _ hmem)
        | cons x y => exact ⟨x, y, rfl⟩
      obtain ⟨nl, hnl⟩ : ∃ n, Lns[k].length = n := ⟨_, rfl⟩
      have HLK : Hid (∀ w1, Below w.heap.size w w1 → ∃ gl ol, adl = some ⟨gl, ol, none⟩ ∧ ∃ gw ow cw, w1.cell? ⟨gl, ol + k, none⟩ = some (.slice (some ⟨gw, ow, none⟩) nl cw) ∧ w1.cell? ⟨gw, ow, none⟩ = some (.string (Sc.ba p0)) ∧ Sc.WordsAt w1 (.slice (some ⟨gw, ow, none⟩) nl cw) Lns[k]) := fun w1 hb => by
        obtain ⟨ad2, cap2, e2, _, hcs⟩ := HLN.out w1 hb
        cases e2
        rcases hcs with h | ⟨gl, ol, rfl, hgl, hcs⟩
        · rw [h] at hlt; simp at hlt
        · obtain ⟨u, cl, hwu⟩ := hcs k hlt
          have hwu2 := hwu
          obtain ⟨adu, capu, rfl, hcu, hwc⟩ := hwu
          rw [hnl] at cl hwu2
          rcases hwc with h | ⟨gw, ow, rfl, hgw, hwc⟩
          · rw [h] at hln; cases hln
          · refine ⟨gl, ol, rfl, gw, ow, capu, cl, ?_, hwu2⟩
            have := hwc 0 (by rw [hln]; simp)
            simp only [hln, List.getElem_cons_zero, Nat.add_zero] at this
            exact this
      have hpos : (0 : Int) < (nl : Int) := by rw [← hnl, hln]; simp
      have hposN : 0 < nl := by omega
      rw [List.drop_eq_getElem_cons hlt] at hrf
      have hp0 : Lns[k].getD 0 [] = p0 := by rw [hln]; rfl
      have hlti : (k : Int) < (Lns.length : Int) := by omega
      clear hmem hrk
      generalize hLK : Lns[k] = ln at *
      have HNL := hide3 hnl
      clear hln hLK hnl
      go_wp2_with fail
      go_loopw [9] (fun vk wq => ∃ kk : Nat, a ≤ kk ∧ kk ≤ X.length ∧ vk = .int .i64 kk ∧ (∀ j (hj : j < X.length), a ≤ j → j < kk → X[j] ≠ p0) ∧ KX w w.heap.size rows wq) (fun vk _ => X.length - (intOf vk).toNat)
      case atStart => exact ⟨a, Nat.le_refl _, haX, rfl, fun j _ h1 h2 => by omega, HKX.out⟩
      case round =>
        obtain ⟨kk, hak, hkX, rfl, hnot, hkq⟩ := hrel
        have HKQ := hide3 hkq
        have HNT := hide3 hnot
        obtain ⟨gl, ol, rfl, gw, ow, cw, cl, c0, hwa⟩ := HLK.out _ hkq.1
        clear hnot
        by_cases hkl : kk < X.length
        · obtain ⟨gx, ox, rfl, hgx, hxc⟩ : ∃ g o, adx = some ⟨g, o, none⟩ ∧ g < wr.heap.size ∧ ∀ i (h : i < X.length), wr.cell? ⟨g, o + i, none⟩ = some (.string (Sc.ba X[i])) := by
            obtain ⟨ad2, cap2, e2, _, hcs⟩ := HXA.out _ hkq.1
            cases e2
            rcases hcs with h | h
            · rw [h] at hkl; simp at hkl
            · exact h
          have cx := hxc kk hkl
          have HK : Hid (KeepP fun w1 => KX w w.heap.size rows w1 ∧ Sc.CellK w1 gl (ol + k) (.slice (some ⟨gw, ow, none⟩) nl cw) ∧ Sc.CellK w1 gw ow (.string (Sc.ba p0)) ∧ Sc.CellK w1 gx (ox + kk) (.string (Sc.ba X[kk])) ∧ Sc.WordsAt w1 (.slice (some ⟨gw, ow, none⟩) nl cw) ln) := (keepKX _ _ _).and ((Sc.keepCell _ _ _).and ((Sc.keepCell _ _ _).and ((Sc.keepCell _ _ _).and (fun _ _ h hb => h.below hb))))
          have HO : Hid (KX w w.heap.size rows wr ∧ Sc.CellK wr gl (ol + k) (.slice (some ⟨gw, ow, none⟩) nl cw) ∧ Sc.CellK wr gw ow (.string (Sc.ba p0)) ∧ Sc.CellK wr gx (ox + kk) (.string (Sc.ba X[kk])) ∧ Sc.WordsAt wr (.slice (some ⟨gw, ow, none⟩) nl cw) ln) := ⟨hkq, ⟨cl, cell_in cl⟩, ⟨c0, cell_in c0⟩, ⟨cx, cell_in cx⟩, hwa⟩
          have hkli : (kk : Int) < (X.length : Int) := by omega
          clear cl c0 hwa cx hxc hkq
          by_cases he : X[kk] = p0
          · have hq : ((Sc.ba X[kk]).toList == (Sc.ba p0).toList) = true := by rw [he]; simp
            have hix : idxW X (ln.getD 0 []) = (kk : Int) := by rw [hp0]; exact idxW_of HXN.out (by rw [List.getElem?_eq_getElem hkl, he])
            have hkr : kk < rows.length := by omega
            have hke : ((kk : Int) == (X.length : Int)) = false := by rw [beq_eq_false_iff_ne]; omega
            have HPG := hide3 (plainR_get hkr)
            have hrkk := HRK.out _ (List.getElem_mem hkr)
            have HLD : Hid ((lineDp ln).nm = Sc.ba (ln.getD 1 []) ∧ (lineDp ln).rg = (parL (parR (jnT (ln.drop 2)))).map spR) := ⟨rfl, rfl⟩
            have HDQ : Hid (∀ w1 er e w', DepQ w1 (Sc.ba (ln.getD 1 [])) (ln.drop 2) er e w' → ∃ nm ad len cap, e = .returned (.tuple #[.agg #[.string nm, .slice ad len cap], .int .i64 er]) ∧ Below w1.heap.size w1 w' ∧ (er = 0 → nm = Sc.ba (ln.getD 1 []) ∧ OwnS w' w1.heap.size (.slice ad len cap) (lineDp ln).rg)) := fun w1 er e w' h => by
              obtain ⟨nm, ad, len, cap, h1, h2, h3, _⟩ := h
              exact ⟨nm, ad, len, cap, h1, h2, h3⟩
            have HFE : Hid (rdepE (lastN (rows[kk].2.map (·.1))) ln ≠ 0 → FR.1 = rdepE (lastN (rows[kk].2.map (·.1))) ln) := fun her => by rw [hrf]; exact rd_err hix hak (by rw [HPG.out]) her
            have HFS : Hid (rdepE (lastN (rows[kk].2.map (·.1))) ln = 0 → ((lineDp ln).nm.size ≠ 0 ∧ (lineDp ln).nm.size ≤ 16) ∧ ∀ v u, FR = readF X kk (plainR (rows.set kk (v, rows[kk].2 ++ [(lineDp ln, u)]))) (Lns.drop (k + 1))) := fun her => ⟨rd_name her, fun v u => by rw [hrf, plainR_set hkr]; exact rd_step hix hak (by rw [HPG.out]; exact her)⟩
            have HNN := hide3 hrkk.2
            have hlen := hrkk.1
            have HRD2 : Hid (∀ w1 (q : Option ByteArray) (last : ByteArray), Sc.WordsAt w1 (.slice (some ⟨gw, ow, none⟩) nl cw) ln → last = q.getD ⟨#[]⟩ → (∀ s, q = some s → s.size ≠ 0) → last.size ≤ 1000000 → Calls Tryz.prog 46 #[.slice (some ⟨gw, ow, none⟩) nl cw, .string last] w1 (DepQ w1 (Sc.ba (ln.getD 1 [])) (ln.drop 2) (rdepE q ln))) := fun w1 q last h1 => HRD.out w1 ln _ q last h1 HLM.out
            clear hrf HPG hrkk
            generalize Sc.ba (ln.getD 1 []) = n1 at *
            go_wp2_with fail
            refine wp_region_keep HK.out (by kernel_rfl) (by kernel_rfl) (by first | exact HO.out | exact HK.out.drew HO.out) ?_
            intro C hin hout
            have HIN := hide3 hin
            have HOUT := hide3 hout
            clear hin hout HO
            repeat
              (with_reducible refine wpQuiet_step (fun K hK => ?_)
               go_simp
               first
                 | (refine hK _ ?_; clear hK K)
                 | (apply Exists.intro; refine ⟨fun w1 hC => ?_, hK _ ?_⟩; (focus ((first | (exact rfl) | (obtain ⟨hkn, ⟨cl, cl2⟩, ⟨c0, c02⟩, ⟨cx, cx2⟩, hwa⟩ := HOUT.out w1 hC; clear hC; go_simp; first | done | exact rfl)); done)); clear hK K))
            refine wpQuiet_nil ?_
            intro wn hC
            have HO := hide3 (HOUT.out _ hC)
            clear hC HIN HOUT C
            obtain ⟨hkn, ⟨cl, cl2⟩, ⟨c0, c02⟩, ⟨cx, cx2⟩, hwa⟩ := HO.out
            have cN := hkn.2.cell kk hkr
            obtain ⟨adk, capk, hvk⟩ := (hkn.2.2.1 _ (List.getElem_mem hkr)).len
            have HVK := hide3 hvk
            have HRO := hide3 (hkn.2.2.1 _ (List.getElem_mem hkr))
            rw [hvk] at cN
            by_cases hn0 : rows[kk].2.length = 0
            · have hnil : rows[kk].2 = [] := List.eq_nil_of_length_eq_zero hn0
              have HD2 := hide3 (HRD2.out wn none ⟨#[]⟩ hwa rfl (fun s h => by cases h) (by decide))
              rw [show lastN (rows[kk].2.map (·.1)) = none by rw [hnil]; rfl] at HFE HFS
              have HN0 := hide3 hn0
              rw [hn0] at cN
              have HLL : Hid (rows[kk].2.length ≤ 5001) := by unfold Hid; omega
              clear hnil hn0 hvk hlen
              generalize rdepE none ln = de at *
              by_cases her : de = 0
              · subst her
                have HS2 := hide3 (HFS.out rfl)
                have HNM2 := hide3 HS2.out.1
                go_upto_region 18 with (go_at_call 46; refine HD2.out.mono ?_; rintro e w5 hdq; obtain ⟨nm5, ad5, len5, cap5, rfl, hb5, ho5⟩ := HDQ.out _ _ _ _ hdq; obtain ⟨hnm5, hou5⟩ := ho5 rfl; subst nm5; have HKC : Hid (KX w w.heap.size rows (w5.alloc (.cells #[.string (n1), .slice ad5 len5 cap5] 36))) := keepKX _ _ _ _ _ (keepKX _ _ _ _ _ HO.out.1 hb5) (boxB _ _); have HOU : Hid (OwnS (w5.alloc (.cells #[.string (n1), .slice ad5 len5 cap5] 36)) w.heap.size (.slice ad5 len5 cap5) (lineDp ln).rg) := (hou5.base (HO.out.1.1.size)).below (boxB _ _); have HBX : Hid (BxD (w5.alloc (.cells #[.string (n1), .slice ad5 len5 cap5] 36)) w5.heap.size (n1) (.slice ad5 len5 cap5)) := BxD.new rfl _ _; clear hb5 hdq ho5 hou5)
                generalize w5.alloc (.cells #[.string (n1), .slice ad5 len5 cap5] 36) = wc at *
                generalize w5.heap.size = M at *
                have erk : rows[kk]! = rows[kk] := getElem!_pos rows kk hkr
                have hNk : wc.cell? ⟨w.heap.size, kk, none⟩ = some (.slice adk 0 capk) := by rw [HKC.out.2.cell kk hkr, HVK.out, HN0.out]
                obtain ⟨m0, m1, m2⟩ := HBX.out
                have hNk' : (wc.alloc (.cells #[.string (n1), .slice ad5 len5 cap5] 36)).cell? ⟨w.heap.size, kk, none⟩ = some (.slice adk 0 capk) := ((boxB wc _).cell (p := ⟨w.heap.size, kk, none⟩) (HKC.out.2.size).2).trans hNk
                generalize lineDp ln = LD at *
                go_region_law (refine step_appD (w := w) (wx := wc.drew) (N := w.heap.size) (rows := rows) (k := kk) (d := LD) (u := .slice ad5 len5 cap5) rfl (.tmp 83) (.tmp 85) rfl (vk := .slice adk 0 capk) rfl hkr (by rw [erk, HVK.out, HN0.out]) ((keepKX _ _ _).drew HKC.out) (HOU.out.below (Below.refl _ _).drew) HLD.out.1 rfl rfl (by rw [erk]; have := HLL.out; have := HN0.out; omega) ?_; intro v6 w6 hak6; obtain ⟨hk6, n0, n1, ad6, len6, cap6, rfl⟩ := hak6; rw [erk] at hk6 n0; rw [HVK.out, HN0.out] at n0; have HK6 := hide3 hk6; clear hk6)
                all_goals go_wp2
                all_goals exact ⟨⟨k + 1, kk, _, by omega, by go_num, rfl, (List.length_set ..).trans hrl, (fun r hr => by
                  rcases List.mem_or_eq_of_mem_set hr with h | rfl
                  · exact ⟨Nat.le_succ_of_le (HRK.out r h).1, (HRK.out r h).2⟩
                  · refine ⟨?_, fun p hp => ?_⟩
                    · simp only [List.length_append, List.length_cons, List.length_nil]
                      exact Nat.succ_le_succ (HRK.out _ (List.getElem_mem hkr)).1
                    · rcases List.mem_append.1 hp with hp | hp
                      · exact HNN.out p hp
                      · obtain rfl := List.mem_singleton.1 hp
                        exact HNM2.out), HK6.out, HS2.out.2 _ _, by omega⟩, by simp [intOf]; omega⟩
              · have HR := hide3 (HFE.out her)
                have hde : (de == 0) = false := by simpa using her
                go_wp2_with (go_at_call 46; refine HD2.out.mono ?_; rintro e w5 hdq; obtain ⟨nm5, ad5, len5, cap5, rfl, hb5, ho5⟩ := HDQ.out _ _ _ _ hdq; have HKC : Hid (Below w.heap.size w (w5.alloc (.cells #[.string nm5, .slice ad5 len5 cap5] 36))) := below_then (below_then HO.out.1.1 hb5) (boxB _ _); clear hb5 hdq ho5)
                exact HER.out de _ HR.out her HKC.out
            · obtain ⟨m, hm⟩ : ∃ m, rows[kk].2.length = m + 1 := ⟨rows[kk].2.length - 1, by omega⟩
              obtain ⟨gD, capD, p, hve, hcD, hpm, cD, hgD, hlast⟩ := HRO.out.last hm
              have hve2 := hve
              rw [hvk, hm] at hve2
              simp only [Value.slice.injEq, true_and] at hve2
              obtain ⟨rfl, rfl⟩ := hve2
              have HLS := hide3 (HNN.out p hpm)
              rw [hlast] at HFE HFS
              rw [hm] at cN
              have hm5 : m ≤ 5000 := by omega
              have HN0 : Hid (rows[kk].2.length = m + 1) := hm
              clear hm hlen hve hvk hn0
              generalize hLL : m + 1 = LL at *
              have w1m : IntKind.i64.wrap ((LL : Int) - 1) = (m : Int) := by rw [IntKind.wrap_i64]; omega
              have hmi : (m : Int) < (LL : Int) := by omega
              have hmN : m < LL := by omega
              have hpos1 : (0 : Int) < (LL : Int) := by omega
              have hpos2 : 0 < LL := by omega
              have HLL : Hid (LL ≤ 5001) := by unfold Hid; omega
              clear hLL hm5
              have HK2 : Hid (KeepP fun w1 => KX w w.heap.size rows w1 ∧ Sc.CellK w1 gl (ol + k) (.slice (some ⟨gw, ow, none⟩) nl cw) ∧ Sc.CellK w1 w.heap.size kk (.slice (some ⟨gD, 0, none⟩) LL capk) ∧ Sc.CellK w1 gD (m * 2) (.string p.1.nm) ∧ Sc.WordsAt w1 (.slice (some ⟨gw, ow, none⟩) nl cw) ln) := (keepKX _ _ _).and ((Sc.keepCell _ _ _).and ((Sc.keepCell _ _ _).and ((Sc.keepCell _ _ _).and (fun _ _ h hb => h.below hb))))
              have HO2 : Hid (KX w w.heap.size rows wn ∧ Sc.CellK wn gl (ol + k) (.slice (some ⟨gw, ow, none⟩) nl cw) ∧ Sc.CellK wn w.heap.size kk (.slice (some ⟨gD, 0, none⟩) LL capk) ∧ Sc.CellK wn gD (m * 2) (.string p.1.nm) ∧ Sc.WordsAt wn (.slice (some ⟨gw, ow, none⟩) nl cw) ln) := ⟨hkn, ⟨cl, cl2⟩, ⟨cN, hkn.2.size.2⟩, ⟨cD, hgD⟩, hwa⟩
              clear HK HO
              have HK := hide3 HK2.out
              have HO := hide3 HO2.out
              clear HK2 HO2 hwa c0 c02 cx cx2 hgD cD
              go_upto_region 14 with fail
              clear hkn cl cl2 cN
              refine wp_region_keep HK.out (by kernel_rfl) (by kernel_rfl) (by first | exact HO.out | exact HK.out.drew HO.out) ?_
              intro C hin hout
              have HIN := hide3 hin
              have HOUT := hide3 hout
              clear hin hout HO
              repeat
                (with_reducible refine wpQuiet_step (fun K hK => ?_)
                 go_simp
                 first
                   | (refine hK _ ?_; clear hK K)
                   | (apply Exists.intro; refine ⟨fun w1 hC => ?_, hK _ ?_⟩; (focus ((first | (exact rfl) | (obtain ⟨hkn, ⟨cl, cl2⟩, ⟨cN, cN2⟩, ⟨cD, hgD⟩, hwa⟩ := HOUT.out w1 hC; clear hC; go_simp; first | done | exact rfl)); done)); clear hK K))
              refine wpQuiet_nil ?_
              intro wm hC
              have HO := hide3 (HOUT.out _ hC)
              clear hC HIN HOUT C
              obtain ⟨hkn, ⟨cl, cl2⟩, ⟨cN, cN2⟩, ⟨cD, hgD⟩, hwa⟩ := HO.out
              have HD2 := hide3 (HRD2.out wm (some p.1.nm) p.1.nm hwa rfl (fun s h => by cases h; exact HLS.out.1) (by have := HLS.out.2; omega))
              generalize rdepE (some p.1.nm) ln = de at *
              by_cases her : de = 0
              · subst her
                have HS2 := hide3 (HFS.out rfl)
                have HNM2 := hide3 HS2.out.1
                go_upto_region 18 with (go_at_call 46; refine HD2.out.mono ?_; rintro e w5 hdq; obtain ⟨nm5, ad5, len5, cap5, rfl, hb5, ho5⟩ := HDQ.out _ _ _ _ hdq; obtain ⟨hnm5, hou5⟩ := ho5 rfl; subst nm5; have HKC : Hid (KX w w.heap.size rows (w5.alloc (.cells #[.string (n1), .slice ad5 len5 cap5] 36))) := keepKX _ _ _ _ _ (keepKX _ _ _ _ _ HO.out.1 hb5) (boxB _ _); have HOU : Hid (OwnS (w5.alloc (.cells #[.string (n1), .slice ad5 len5 cap5] 36)) w.heap.size (.slice ad5 len5 cap5) (lineDp ln).rg) := (hou5.base (HO.out.1.1.size)).below (boxB _ _); have HBX : Hid (BxD (w5.alloc (.cells #[.string (n1), .slice ad5 len5 cap5] 36)) w5.heap.size (n1) (.slice ad5 len5 cap5)) := BxD.new rfl _ _; clear hb5 hdq ho5 hou5)
                generalize w5.alloc (.cells #[.string (n1), .slice ad5 len5 cap5] 36) = wc at *
                generalize w5.heap.size = M at *
                have erk : rows[kk]! = rows[kk] := getElem!_pos rows kk hkr
                have hNk : wc.cell? ⟨w.heap.size, kk, none⟩ = some (.slice (some ⟨gD, 0, none⟩) LL capk) := by rw [HKC.out.2.cell kk hkr, HVK.out, HN0.out]
                obtain ⟨m0, m1, m2⟩ := HBX.out
                have hNk' : (wc.alloc (.cells #[.string (n1), .slice ad5 len5 cap5] 36)).cell? ⟨w.heap.size, kk, none⟩ = some (.slice (some ⟨gD, 0, none⟩) LL capk) := ((boxB wc _).cell (p := ⟨w.heap.size, kk, none⟩) (HKC.out.2.size).2).trans hNk
                generalize lineDp ln = LD at *
                go_region_law (refine step_appD (w := w) (wx := wc.drew) (N := w.heap.size) (rows := rows) (k := kk) (d := LD) (u := .slice ad5 len5 cap5) rfl (.tmp 83) (.tmp 85) rfl (vk := .slice (some ⟨gD, 0, none⟩) LL capk) rfl hkr (by rw [erk, HVK.out, HN0.out]) ((keepKX _ _ _).drew HKC.out) (HOU.out.below (Below.refl _ _).drew) HLD.out.1 rfl rfl (by rw [erk]; have := HLL.out; have := HN0.out; omega) ?_; intro v6 w6 hak6; obtain ⟨hk6, n0, n1, ad6, len6, cap6, rfl⟩ := hak6; rw [erk] at hk6 n0; rw [HVK.out, HN0.out] at n0; have HK6 := hide3 hk6; clear hk6)
                all_goals go_wp2
                all_goals exact ⟨⟨k + 1, kk, _, by omega, by go_num, rfl, (List.length_set ..).trans hrl, (fun r hr => by
                  rcases List.mem_or_eq_of_mem_set hr with h | rfl
                  · exact ⟨Nat.le_succ_of_le (HRK.out r h).1, (HRK.out r h).2⟩
                  · refine ⟨?_, fun p hp => ?_⟩
                    · simp only [List.length_append, List.length_cons, List.length_nil]
                      exact Nat.succ_le_succ (HRK.out _ (List.getElem_mem hkr)).1
                    · rcases List.mem_append.1 hp with hp | hp
                      · exact HNN.out p hp
                      · obtain rfl := List.mem_singleton.1 hp
                        exact HNM2.out), HK6.out, HS2.out.2 _ _, by omega⟩, by simp [intOf]; omega⟩
              · have HR := hide3 (HFE.out her)
                have hde : (de == 0) = false := by simpa using her
                go_wp2_with (go_at_call 46; refine HD2.out.mono ?_; rintro e w5 hdq; obtain ⟨nm5, ad5, len5, cap5, rfl, hb5, ho5⟩ := HDQ.out _ _ _ _ hdq; have HKC : Hid (Below w.heap.size w (w5.alloc (.cells #[.string nm5, .slice ad5 len5 cap5] 36))) := below_then (below_then HO.out.1.1 hb5) (boxB _ _); clear hb5 hdq ho5)
                exact HER.out de _ HR.out her HKC.out
          · have hq : ((Sc.ba X[kk]).toList == (Sc.ba p0).toList) = false := by rw [ba_toList, ba_toList, beq_eq_false_iff_ne]; exact he
            have HN2 : Hid (∀ j (hj : j < X.length), a ≤ j → j < kk + 1 → X[j] ≠ p0) := fun j hj h1 h2 => by
              by_cases hjk : j = kk
              · subst hjk; exact he
              · exact HNT.out j hj h1 (by omega)
            clear hrf
            go_wp2_with fail
            refine wp_region_keep HK.out (by kernel_rfl) (by kernel_rfl) (by first | exact HO.out | exact HK.out.drew HO.out) ?_
            intro C hin hout
            have HIN := hide3 hin
            have HOUT := hide3 hout
            clear hin hout HO
            repeat
              (with_reducible refine wpQuiet_step (fun K hK => ?_)
               go_simp
               first
                 | (refine hK _ ?_; clear hK K)
                 | (apply Exists.intro; refine ⟨fun w1 hC => ?_, hK _ ?_⟩; (focus ((first | (exact rfl) | (obtain ⟨hkn, ⟨cl, cl2⟩, ⟨c0, c02⟩, ⟨cx, cx2⟩, hwa⟩ := HOUT.out w1 hC; clear hC; go_simp; first | done | exact rfl)); done)); clear hK K))
            refine wpQuiet_nil ?_
            intro wn hC
            have HO := hide3 (HOUT.out _ hC)
            clear hC HIN HOUT C
            obtain ⟨hkn, ⟨cl, cl2⟩, ⟨c0, c02⟩, ⟨cx, cx2⟩, hwa⟩ := HO.out
            go_wp2
            exact ⟨⟨kk + 1, by omega, by omega, by go_num, HN2.out, HO.out.1⟩, by simp [intOf]; omega⟩
        · obtain rfl : kk = X.length := by omega
          have HR : Hid (FR.1 = 22) := by
            unfold Hid
            rw [hrf]
            by_cases h3 : ln.length < 3
            · exact readF_short h3
            · exact readF_word h3 (by rw [hp0]; exact idxW_not fun j hj h1 => HNT.out j hj h1 hj)
          have HK : Hid (KeepP fun w1 => KX w w.heap.size rows w1) := keepKX _ _ _
          have HO : Hid (KX w w.heap.size rows wr) := hkq
          have hkli : ¬ ((X.length : Int) < (X.length : Int)) := by omega
          clear cl c0 hwa hkq hrf
          go_wp2_with fail
          refine wp_region_keep HK.out (by kernel_rfl) (by kernel_rfl) (by first | exact HO.out | exact HK.out.drew HO.out) ?_
          intro C hin hout
          have HIN := hide3 hin
          have HOUT := hide3 hout
          clear hin hout HO
          repeat
            (with_reducible refine wpQuiet_step (fun K hK => ?_)
             go_simp
             first
               | (refine hK _ ?_; clear hK K)
               | (apply Exists.intro; refine ⟨fun w1 hC => ?_, hK _ ?_⟩; (focus ((first | (exact rfl) | (obtain hkn := HOUT.out w1 hC; clear hC; go_simp; first | done | exact rfl)); done)); clear hK K))
          refine wpQuiet_nil ?_
          intro wn hC
          have HO := hide3 (HOUT.out _ hC)
          clear hC HIN HOUT C
          obtain hkn := HO.out
          go_wp2
          exact HER.out 22 _ HR.out (by decide) HO.out.1
    · have hke : k = Lns.length := by omega
      subst hke
      rw [List.drop_length] at hrf
      have HR : Hid (FR = (0, plainR rows)) := by unfold Hid; rw [hrf]; rfl
      clear hrf hrk hkx
      go_wp2
      exact HOK.out rows _ hrl HKX.out HR.out
end Go.Proofs.YtjfbgiajjkjghaaGreatDoor
namespace Go.Proofs.YtjfbgiajjkjghaaGreatDoor
open Go.RowKit
set_option maxRecDepth 100000

/-- Lists whose names are short, and which are not too long. -/
def OkL (n : Nat) (L : List Dp) : Prop := L.length ≤ n ∧ ∀ d ∈ L, d.nm.size ≤ 16
theorem readF_ok {X : List Sc.Bs} : ∀ (Lns : List (List Sc.Bs)) (a n : Nat) (acc : List (List Dp)), (∀ L ∈ acc, OkL n L) → (readF X a acc Lns).1 = 0 → ∀ L ∈ (readF X a acc Lns).2, OkL (n + Lns.length) L
  | [], _, _, _, h, _ => h
  | ln :: r, a, n, acc, h, h0 => by
    unfold readF at h0 ⊢
    split at h0
    · cases h0
    · split at h0
      · cases h0
      · split at h0
        · rename_i h1 h2 h3
          rw [if_neg h1, if_neg h2, if_pos h3]
          have hq : ∀ L ∈ acc.set (idxW X (ln.getD 0 [])).toNat (acc.getD (idxW X (ln.getD 0 [])).toNat [] ++ [lineDp ln]), OkL (n + 1) L := fun L hL => by
            rcases List.mem_or_eq_of_mem_set hL with hm | rfl
            · exact ⟨Nat.le_succ_of_le (h L hm).1, (h L hm).2⟩
            · have hg : OkL n (acc.getD (idxW X (ln.getD 0 [])).toNat []) := by
                rw [List.getD_eq_getElem?_getD]
                cases hg : acc[(idxW X (ln.getD 0 [])).toNat]? with
                | none => exact ⟨Nat.zero_le _, fun d hd => by cases hd⟩
                | some L => exact h L (List.mem_of_getElem? hg)
              refine ⟨?_, fun d hd => ?_⟩
              · rw [List.length_append]
                exact Nat.succ_le_succ hg.1
              · rcases List.mem_append.1 hd with hd | hd
                · exact hg.2 d hd
                · obtain rfl := List.mem_singleton.1 hd
                  exact (depE_name h3).2
          have := readF_ok r _ (n + 1) _ hq h0
          intro L hL
          have h5 := this L hL
          refine ⟨?_, h5.2⟩
          have := h5.1
          rw [List.length_cons]
          omega
        · rename_i h1 h2 h3
          exact absurd h0 h3
theorem OkL.getD {n : Nat} {R : List (List Dp)} (h : ∀ L ∈ R, OkL n L) (i : Nat) : OkL n (R.getD i []) := by
  rw [List.getD_eq_getElem?_getD]
  cases hg : R[i]? with
  | none => exact ⟨Nat.zero_le _, fun d hd => by cases hd⟩
  | some L => exact h L (List.mem_of_getElem? hg)
theorem words4_new (w : World) : Sc.WordsAt (w.alloc (.cells #[.string ⟨#[110, 101, 101, 100, 115]⟩, .string ⟨#[100, 101, 118]⟩, .string ⟨#[108, 105, 107, 101, 115]⟩, .string ⟨#[112, 105, 110, 115]⟩] 9)) (.slice (some ⟨w.heap.size, 0, none⟩) 4 4) mfW := by
  refine ⟨_, 4, rfl, by decide, Or.inr ⟨w.heap.size, 0, rfl, by simp, fun i hi => ?_⟩⟩
  match i, hi with
  | 0, _ => simp; rfl
  | 1, _ => simp; rfl
  | 2, _ => simp; rfl
  | 3, _ => simp; rfl
theorem parME_lines {t : ByteArray} (h : Sc.ansE t 4096 = 0) {hd : List Sc.Bs} {r : List (List Sc.Bs)} (hL : Sc.ansL t 4096 = hd :: r) (hh : hd ≠ [[112, 114, 111, 106, 101, 99, 116]]) : parME t = 22 := by
  unfold parME
  have e : linesME (hd :: r) = 22 := by
    show (if hd = [[112, 114, 111, 106, 101, 99, 116]] then (readF mfW 0 [[], [], [], []] r).1 else 22) = 22
    rw [if_neg hh]
  rw [if_pos h, hL, e, if_neg (by decide)]
theorem parME_head {t : ByteArray} (h : Sc.ansE t 4096 = 0) {r : List (List Sc.Bs)} (hL : Sc.ansL t 4096 = [[112, 114, 111, 106, 101, 99, 116]] :: r) : parMP t = ⟨(readF mfW 0 [[], [], [], []] r).2.getD 0 [], (readF mfW 0 [[], [], [], []] r).2.getD 1 [], (readF mfW 0 [[], [], [], []] r).2.getD 2 [], (readF mfW 0 [[], [], [], []] r).2.getD 3 []⟩ ∧ parME t = if (readF mfW 0 [[], [], [], []] r).1 = 0 then (if writtenMB ⟨(readF mfW 0 [[], [], [], []] r).2.getD 0 [], (readF mfW 0 [[], [], [], []] r).2.getD 1 [], (readF mfW 0 [[], [], [], []] r).2.getD 2 [], (readF mfW 0 [[], [], [], []] r).2.getD 3 []⟩ = true then 0 else 25) else (readF mfW 0 [[], [], [], []] r).1 := by
  unfold parME parMP
  rw [if_pos h, hL]
  have e : linesME ([[112, 114, 111, 106, 101, 99, 116]] :: r) = (readF mfW 0 [[], [], [], []] r).1 := by
    show (if [[112, 114, 111, 106, 101, 99, 116]] = [[112, 114, 111, 106, 101, 99, 116]] then (readF mfW 0 [[], [], [], []] r).1 else 22) = _
    rw [if_pos rfl]
  rw [e]
  exact ⟨rfl, rfl⟩

set_option maxHeartbeats 12800000 in
theorem rParseM_any (t : ByteArray) (w : World) : Calls Tryz.prog 16 #[.string t] w (MkQ w (parME t) (parMP t)) := by
  have HLI : Hid (∀ w1, Calls Tryz.prog 27 #[.string t, .int .i64 4096] w1 fun e w' => ∃ v n, e = .returned (.tuple #[v, .int .i64 (Sc.ansE t 4096), .int .i64 n]) ∧ Sc.LinesAt w' v (Sc.ansL t 4096) ∧ Below w1.heap.size w1 w') := fun w1 => by
    have : Calls Tryz.prog 27 #[.string t, .int .i64 4096] w1 (Sc.LinesQ w1 (Sc.ansE t 4096) (Sc.ansN t 4096) (Sc.ansL t 4096)) := by
      by_cases h : (4096 : Int) < (t.size : Int)
      · have := Sc.rLines_far t 4096 h w1
        unfold Sc.ansE Sc.ansN Sc.ansL
        rw [if_pos h, if_pos h, if_pos h]
        exact this
      · exact Sc.rLines_all t (by omega) 4096 w1
    exact this.mono fun e w' ⟨v, h1, h2, h3⟩ => ⟨v, _, h1, by obtain ⟨ps, hp, hl⟩ := h2; rw [← hp]; exact hl.at, h3⟩
  have HSM : Hid (Sc.ansE t 4096 = 0 → SmallL (Sc.ansL t 4096)) := fun h => small_of h
  have HEL : Hid (Sc.ansE t 4096 = 0 → ∀ hd r, Sc.ansL t 4096 = hd :: r → hd ≠ [[112, 114, 111, 106, 101, 99, 116]] → parME t = 22) := fun h hd r h1 h2 => parME_lines h h1 h2
  have HEN : Hid (Sc.ansE t 4096 = 0 → Sc.ansL t 4096 = [] → parME t = 22) := fun h h1 => by unfold parME; rw [if_pos h, h1]; rfl
  have HEE : Hid (Sc.ansE t 4096 ≠ 0 → parME t = Sc.ansE t 4096) := fun h => by unfold parME; rw [if_neg h]
  have HEH : Hid (Sc.ansE t 4096 = 0 → ∀ r, Sc.ansL t 4096 = [[112, 114, 111, 106, 101, 99, 116]] :: r → parMP t = ⟨(readF mfW 0 [[], [], [], []] r).2.getD 0 [], (readF mfW 0 [[], [], [], []] r).2.getD 1 [], (readF mfW 0 [[], [], [], []] r).2.getD 2 [], (readF mfW 0 [[], [], [], []] r).2.getD 3 []⟩ ∧ parME t = if (readF mfW 0 [[], [], [], []] r).1 = 0 then (if writtenMB ⟨(readF mfW 0 [[], [], [], []] r).2.getD 0 [], (readF mfW 0 [[], [], [], []] r).2.getD 1 [], (readF mfW 0 [[], [], [], []] r).2.getD 2 [], (readF mfW 0 [[], [], [], []] r).2.getD 3 []⟩ = true then 0 else 25) else (readF mfW 0 [[], [], [], []] r).1) := fun h r h1 => parME_head h h1
  have HER : Hid (∀ er w', parME t = er → er ≠ 0 → Below w.heap.size w w' → MkQ w (parME t) (parMP t) (.returned (.tuple #[.agg #[.slice none 0 0, .slice none 0 0, .slice none 0 0, .slice none 0 0], .int .i64 er])) w') := fun er w' h1 h2 hb => MkQ.err h1 h2 hb
  have HOK : Hid (∀ v1 v2 v3 v4 w', parME t = 0 → Below w.heap.size w w' → OwnM w' w.heap.size (parMP t) v1 v2 v3 v4 → MkQ w (parME t) (parMP t) (.returned (.tuple #[.agg #[v1, v2, v3, v4], .int .i64 0])) w') := fun v1 v2 v3 v4 w' h0 hb ho => by
    rw [h0]
    exact ⟨v1, v2, v3, v4, rfl, hb, fun _ => ho, fun hx => absurd rfl hx⟩
  generalize hHQ : MkQ w (parME t) (parMP t) = HQ at *
  clear hHQ
  generalize parME t = PE at *
  generalize parMP t = PM at *
  generalize Sc.ansE t 4096 = AE at *
  generalize Sc.ansL t 4096 = AL at *
  have HB0 : Hid (BxMF (w.alloc (.cells #[.slice none 0 0, .slice none 0 0, .slice none 0 0, .slice none 0 0] 24)) w.heap.size (.slice none 0 0) (.slice none 0 0) (.slice none 0 0) (.slice none 0 0)) := BxMF.new rfl _ _ _ _
  have HKB : Hid (KeepP fun w1 => Below w.heap.size w w1 ∧ BxMF w1 w.heap.size (.slice none 0 0) (.slice none 0 0) (.slice none 0 0) (.slice none 0 0)) := (keepBelow w).and (keepBxMF _ _ _ _ _)
  go_enter Tryz.func16, Tryz.ntmps16
  go_upto_region 2 with (go_at_call 27; refine (HLI.out _).mono ?_; rintro e w1 ⟨v, n, rfl, hla, hb1⟩; have HB1 : Hid (Below w.heap.size w w1 ∧ BxMF w1 w.heap.size (.slice none 0 0) (.slice none 0 0) (.slice none 0 0) (.slice none 0 0)) := HKB.out _ _ ⟨boxB _ _, HB0.out⟩ hb1; have HLA := hide3 hla; clear hb1 hla)
  obtain ⟨adv, capv, rfl, hc, hcs⟩ := HLA.out
  clear HLI HB0
  by_cases ha : AE = 0
  · subst ha
    cases AL with
    | nil =>
      have hL := HEN.out rfl rfl
      clear hcs HLA
      obtain ⟨⟨b0, b1, b2, b3, b4⟩, hfz⟩ := HB1.out.2
      have f0 := hfz 0 (by decide)
      have f1 := hfz 1 (by decide)
      have f2 := hfz 2 (by decide)
      have f3 := hfz 3 (by decide)
      clear hfz
      have s4 := fun u0 u1 u2 u3 => set4 b0 b1 b2 b3 u0 u1 u2 u3
      rw [List.length_nil]
      go_wp2
      try simp only [Exit.inBlock, Exit.then]
      refine bodyPost_ret (by simp [results, Tryz.results16, s4, go_sem]; try rfl) rfl ?_
      exact HER.out _ _ hL (by decide) (below_set4 (Nat.le_refl _) HB1.out.1)
    | cons h r =>
      obtain ⟨g, o, rfl, hg, hcs⟩ : ∃ g o, adv = some ⟨g, o, none⟩ ∧ g < w1.heap.size ∧ ∀ i (hi : i < (h :: r).length), ∃ u, w1.cell? ⟨g, o + i, none⟩ = some u ∧ Sc.WordsAt w1 u (h :: r)[i] := by
        rcases hcs with h | h
        · cases h
        · exact h
      obtain ⟨u, c0, hu⟩ := hcs 0 (by simp)
      have hr : ∀ i (hi : i < r.length), ∃ u, w1.cell? ⟨g, o + 1 + i, none⟩ = some u ∧ Sc.WordsAt w1 u r[i] := fun i hi => by
        have := hcs (i + 1) (by simpa using hi)
        simpa [Nat.add_assoc, Nat.add_comm 1 i] using this
      have hc' : r.length + 1 ≤ capv := hc
      have c0' : w1.cell? ⟨g, o, none⟩ = some u := c0
      have hu' : Sc.WordsAt w1 u h := hu
      obtain ⟨au, cu, rfl, _, hx⟩ := hu'
      rw [List.length_cons]
      have hb0 : (0 : Int) < (r.length : Int) + 1 := by omega
      have hb1 : (1 : Int) ≤ (r.length : Int) + 1 := by omega
      have hb2 : (r.length : Int) + 1 ≤ (capv : Int) := by omega
      have hb3 : ((r.length : Int) + 1 == 0) = false := by rw [beq_eq_false_iff_ne]; omega
      clear c0 hu hcs HLA
      by_cases h1 : h.length = 1
      · obtain ⟨x, rfl⟩ : ∃ x, h = [x] := by
          match h, h1 with
          | [x], _ => exact ⟨x, rfl⟩
        obtain ⟨gu, ou, rfl, hgu, hx⟩ : ∃ g o, au = some ⟨g, o, none⟩ ∧ g < w1.heap.size ∧ ∀ i (hi : i < [x].length), w1.cell? ⟨g, o + i, none⟩ = some (.string (Sc.ba [x][i])) := by
          rcases hx with h | h
          · cases h
          · exact h
        have cx : w1.cell? ⟨gu, ou, none⟩ = some (.string (Sc.ba x)) := hx 0 (by simp)
        have c0 : w1.cell? ⟨g, o, none⟩ = some (.slice (some ⟨gu, ou, none⟩) 1 cu) := c0'
        clear c0' hx
        by_cases hx1 : x = [112, 114, 111, 106, 101, 99, 116]
        · subst hx1
          have hq : ((Sc.ba [112, 114, 111, 106, 101, 99, 116]).toList == [112, 114, 111, 106, 101, 99, 116]) = true := by rw [ba_toList]; rfl
          obtain ⟨hPM, hPE⟩ := HEH.out rfl r rfl
          obtain ⟨sm1, sm2, sm3, sm4⟩ := HSM.out rfl
          have HLS : Hid (∀ w2 vx va, Below w1.heap.size w1 w2 → Sc.WordsAt w2 vx mfW → Sc.LinesAt w1 va r → Calls Tryz.prog 28 #[va, vx] w2 (ReadQ w2 (readF mfW 0 [[], [], [], []] r))) := fun w2 vx va hb hx hl => rLists_any (X := mfW) (Lns := r) (hl.below hb) hx (by decide) (by decide) (by simp at sm1; omega) (fun ln hm => sm2 ln (List.mem_cons_of_mem _ hm)) (fun ln hm => sm3 ln (List.mem_cons_of_mem _ hm)) (fun ln hm => sm4 ln (List.mem_cons_of_mem _ hm))
          have HRL := hide3 (readF_lenM (X := mfW) r 0 [[], [], [], []])
          have HKO : Hid ((readF mfW 0 [[], [], [], []] r).1 = 0 → ∀ i, OkL (0 + r.length) ((readF mfW 0 [[], [], [], []] r).2.getD i [])) := fun h0 i => OkL.getD (readF_ok r 0 0 _ (fun L hL => by simp at hL; subst hL; exact ⟨Nat.zero_le _, fun d hd => by cases hd⟩) h0) i
          have hr5 : r.length ≤ 5000 := by simp at sm1; omega
          generalize readF mfW 0 [[], [], [], []] r = RF at *
          generalize Sc.ba [112, 114, 111, 106, 101, 99, 116] = s0 at *
          clear HEH HEN HEL HEE HSM sm1 sm2 sm3 sm4
          by_cases hcap : capv = 1
          · subst hcap
            obtain rfl : r = [] := List.eq_nil_of_length_eq_zero (by omega)
            have HL2 : Hid (∀ w2 vx, Below w1.heap.size w1 w2 → Sc.WordsAt w2 vx mfW → Calls Tryz.prog 28 #[.slice (some ⟨g, o, none⟩) 0 0, vx] w2 (ReadQ w2 RF)) := fun w2 vx hb hx => HLS.out w2 vx _ hb hx ⟨_, 0, rfl, Nat.le_refl _, Or.inl rfl⟩
            clear hr HLS hb0 hb1 hb2 hb3
            rw [List.length_nil]
            have HWA := hide3 (words4_new w1)
            have HKA : Hid (Below w.heap.size w (w1.alloc (.cells #[.string ⟨#[110, 101, 101, 100, 115]⟩, .string ⟨#[100, 101, 118]⟩, .string ⟨#[108, 105, 107, 101, 115]⟩, .string ⟨#[112, 105, 110, 115]⟩] 9)) ∧ BxMF (w1.alloc (.cells #[.string ⟨#[110, 101, 101, 100, 115]⟩, .string ⟨#[100, 101, 118]⟩, .string ⟨#[108, 105, 107, 101, 115]⟩, .string ⟨#[112, 105, 110, 115]⟩] 9)) w.heap.size (.slice none 0 0) (.slice none 0 0) (.slice none 0 0) (.slice none 0 0)) := HKB.out _ _ HB1.out (boxB _ _)
            by_cases hr0 : RF.1 = 0
            · have hKO := HKO.out hr0
              have HPO : Hid (PM = ⟨RF.2.getD 0 [], RF.2.getD 1 [], RF.2.getD 2 [], RF.2.getD 3 []⟩) := hPM
              go_upto_region 9 with (go_at_call 28; refine (HL2.out _ _ (boxB _ _) HWA.out).mono ?_; rintro e w6 ⟨vr, rfl, hb6, hok6, _⟩; obtain ⟨N, rows, hvr, hRD, hpl⟩ := hok6 hr0; subst hvr; have HX6 := hide3 (HKB.out _ _ HKA.out hb6); have HRD := hide3 hRD; have HPL := hide3 hpl; rw [hr0]; clear hb6 hok6 hRD hpl)
              have hrl : rows.length = 4 := by have := HRL.out hr0; rw [← HPL.out] at this; unfold plainR at this; simpa using this
              obtain ⟨a1, k1, c1, a2, k2, c2, a3, k3, c3, a4, k4, c4, ⟨n0, n1, n2, n3⟩, hop⟩ := rows4 HPL.out hrl HRD.out
              have HOP : Hid (OwnM w6 w1.heap.size PM (.slice a1 k1 c1) (.slice a2 k2 c2) (.slice a3 k3 c3) (.slice a4 k4 c4)) := by rw [HPO.out]; exact hop.base (by simp)
              have hw1 : w.heap.size < w1.heap.size := HB1.out.2.1.2.2.2.2
              rw [hrl]
              clear hop
              have hN6 : N < w6.heap.size := HRD.out.size.2
              have m0 := ((boxB w6 (.cells #[.slice none 0 0, .slice none 0 0, .slice none 0 0, .slice none 0 0] 24)).cell (p := ⟨N, 0, none⟩) hN6).trans n0
              have m1 := ((boxB w6 (.cells #[.slice none 0 0, .slice none 0 0, .slice none 0 0, .slice none 0 0] 24)).cell (p := ⟨N, 1, none⟩) hN6).trans n1
              have m2 := ((boxB w6 (.cells #[.slice none 0 0, .slice none 0 0, .slice none 0 0, .slice none 0 0] 24)).cell (p := ⟨N, 2, none⟩) hN6).trans n2
              have m3 := ((boxB w6 (.cells #[.slice none 0 0, .slice none 0 0, .slice none 0 0, .slice none 0 0] 24)).cell (p := ⟨N, 3, none⟩) hN6).trans n3
              have HM1 : Hid (w1.heap.size ≤ w6.heap.size) := by have := HRD.out.size; unfold Hid; simp at this; omega
              go_cut [8] from 9 (fun s8 wx => ∃ M, s8 = .pointer (some ⟨M, 0, none⟩) ∧ w1.heap.size ≤ M ∧ (Below w.heap.size w wx ∧ BxMF wx w.heap.size (.slice none 0 0) (.slice none 0 0) (.slice none 0 0) (.slice none 0 0)) ∧ BxM wx M (.slice a1 k1 c1) (.slice a2 k2 c2) (.slice a3 k3 c3) (.slice a4 k4 c4) ∧ OwnM wx w1.heap.size PM (.slice a1 k1 c1) (.slice a2 k2 c2) (.slice a3 k3 c3) (.slice a4 k4 c4))
              case first =>
                go_region_held3 (fun w' => w'.cell? ⟨N, 0, none⟩ = some (.slice a1 k1 c1) ∧ w'.cell? ⟨N, 1, none⟩ = some (.slice a2 k2 c2) ∧ w'.cell? ⟨N, 2, none⟩ = some (.slice a3 k3 c3) ∧ w'.cell? ⟨N, 3, none⟩ = some (.slice a4 k4 c4)) (go_keep) (fail)
                all_goals go_wp2_with fail
                all_goals go_meet
                all_goals first
                  | exact ⟨_, rfl, HM1.out, HKB.out.drew (HKB.out _ _ HX6.out (boxB _ _)), (keepBxM _ _ _ _ _).drew (BxM.new rfl _ _ _ _), (keepOwnM _ _ _ _ _ _).drew (HOP.out.below (boxB _ _))⟩
                  | (trace_state; sorry)
              case rest =>
                obtain ⟨M, rfl, hM1, hbd, hyd, hod⟩ := hcut
                have HBD := hide3 hbd
                have HOD := hide3 hod
                have HYD := hide3 hyd
                have HMA : Hid (Calls Tryz.prog 9 #[.agg #[.slice a1 k1 c1, .slice a2 k2 c2, .slice a3 k3 c3, .slice a4 k4 c4]] wc fun e w' => e = .returned (.bool (writtenMB PM)) ∧ Below wc.heap.size wc w') := by
                  rw [HPO.out] at *
                  exact rMayM_any HOD.out.at ⟨Nat.le_trans (hKO 0).1 (by omega), Nat.le_trans (hKO 1).1 (by omega), Nat.le_trans (hKO 2).1 (by omega), Nat.le_trans (hKO 3).1 (by omega)⟩ ⟨fun d hd => Nat.le_trans ((hKO 0).2 d hd) (by omega), fun d hd => Nat.le_trans ((hKO 1).2 d hd) (by omega), fun d hd => Nat.le_trans ((hKO 2).2 d hd) (by omega), fun d hd => Nat.le_trans ((hKO 3).2 d hd) (by omega)⟩
                clear hbd hod n0 n1 n2 n3 m0 m1 m2 m3
                obtain ⟨y0, y1, y2, y3, y4⟩ := hyd
                rw [if_pos hr0, ← HPO.out] at hPE
                cases hwb : writtenMB PM
                · rw [hwb] at HMA hPE
                  go_wp2_with (go_at_call 9; refine HMA.out.mono ?_; rintro e w7 ⟨rfl, ok⟩; have HH := hide3 (HKB.out _ _ HBD.out ok); obtain ⟨⟨b0, b1, b2, b3, b4⟩, hfz⟩ := HH.out.2; have f0 := hfz 0 (by decide); have f1 := hfz 1 (by decide); have f2 := hfz 2 (by decide); have f3 := hfz 3 (by decide); clear hfz; have s4 := fun u0 u1 u2 u3 => set4 b0 b1 b2 b3 u0 u1 u2 u3; clear ok)
                  try simp only [Exit.inBlock, Exit.then]
                  refine bodyPost_ret (by simp [results, Tryz.results16, s4, go_sem]; try rfl) rfl ?_
                  exact HER.out _ _ hPE (by decide) (below_set4 (Nat.le_refl _) HH.out.1)
                · rw [hwb] at HMA hPE
                  go_wp2_with (go_at_call 9; refine HMA.out.mono ?_; rintro e w7 ⟨rfl, ok⟩; have HH := hide3 (HKB.out _ _ HBD.out ok); have HP7 := hide3 (HOD.out.below ok); have HY7 := hide3 (keepBxM _ _ _ _ _ _ _ HYD.out ok); clear y0 y1 y2 y3 y4; obtain ⟨y0, y1, y2, y3, y4⟩ := HY7.out; obtain ⟨⟨b0, b1, b2, b3, b4⟩, hfz⟩ := HH.out.2; have f0 := hfz 0 (by decide); have f1 := hfz 1 (by decide); have f2 := hfz 2 (by decide); have f3 := hfz 3 (by decide); clear hfz; have s4 := fun u0 u1 u2 u3 => set4 b0 b1 b2 b3 u0 u1 u2 u3; clear ok)
                  try simp only [Exit.inBlock, Exit.then]
                  refine bodyPost_ret (by simp [results, Tryz.results16, s4, go_sem]; try rfl) rfl ?_
                  refine HOK.out _ _ _ _ _ hPE (below_set4 (Nat.le_refl _) HH.out.1) ?_
                  exact (HP7.out.of fun g hg => heap4 (by omega)).base (by omega)
            · rw [if_neg hr0] at hPE
              have hre : (RF.1 == 0) = false := by simpa using hr0
              go_wp2_with (go_at_call 28; refine (HL2.out _ _ (boxB _ _) HWA.out).mono ?_; rintro e w6 ⟨vr, rfl, hb6, _, herr6⟩; obtain rfl := herr6 hr0; have HH := hide3 (HKB.out _ _ HKA.out hb6); obtain ⟨⟨b0, b1, b2, b3, b4⟩, hfz⟩ := HH.out.2; have f0 := hfz 0 (by decide); have f1 := hfz 1 (by decide); have f2 := hfz 2 (by decide); have f3 := hfz 3 (by decide); clear hfz; have s4 := fun u0 u1 u2 u3 => set4 b0 b1 b2 b3 u0 u1 u2 u3; clear hb6)
              try simp only [Exit.inBlock, Exit.then]
              refine bodyPost_ret (by simp [results, Tryz.results16, s4, go_sem]; try rfl) rfl ?_
              exact HER.out _ _ hPE hr0 (below_set4 (Nat.le_refl _) HH.out.1)
          · have HL2 : Hid (∀ w2 vx, Below w1.heap.size w1 w2 → Sc.WordsAt w2 vx mfW → Calls Tryz.prog 28 #[.slice (some ⟨g, o + 1, none⟩) r.length (capv - 1), vx] w2 (ReadQ w2 RF)) := fun w2 vx hb hx => HLS.out w2 vx _ hb hx ⟨_, _, rfl, by omega, Or.inr ⟨g, o + 1, rfl, hg, hr⟩⟩
            clear hr HLS
            have HWA := hide3 (words4_new w1)
            have HKA : Hid (Below w.heap.size w (w1.alloc (.cells #[.string ⟨#[110, 101, 101, 100, 115]⟩, .string ⟨#[100, 101, 118]⟩, .string ⟨#[108, 105, 107, 101, 115]⟩, .string ⟨#[112, 105, 110, 115]⟩] 9)) ∧ BxMF (w1.alloc (.cells #[.string ⟨#[110, 101, 101, 100, 115]⟩, .string ⟨#[100, 101, 118]⟩, .string ⟨#[108, 105, 107, 101, 115]⟩, .string ⟨#[112, 105, 110, 115]⟩] 9)) w.heap.size (.slice none 0 0) (.slice none 0 0) (.slice none 0 0) (.slice none 0 0)) := HKB.out _ _ HB1.out (boxB _ _)
            by_cases hr0 : RF.1 = 0
            · have hKO := HKO.out hr0
              have HPO : Hid (PM = ⟨RF.2.getD 0 [], RF.2.getD 1 [], RF.2.getD 2 [], RF.2.getD 3 []⟩) := hPM
              go_upto_region 9 with (go_at_call 28; refine (HL2.out _ _ (boxB _ _) HWA.out).mono ?_; rintro e w6 ⟨vr, rfl, hb6, hok6, _⟩; obtain ⟨N, rows, hvr, hRD, hpl⟩ := hok6 hr0; subst hvr; have HX6 := hide3 (HKB.out _ _ HKA.out hb6); have HRD := hide3 hRD; have HPL := hide3 hpl; rw [hr0]; clear hb6 hok6 hRD hpl)
              have hrl : rows.length = 4 := by have := HRL.out hr0; rw [← HPL.out] at this; unfold plainR at this; simpa using this
              obtain ⟨a1, k1, c1, a2, k2, c2, a3, k3, c3, a4, k4, c4, ⟨n0, n1, n2, n3⟩, hop⟩ := rows4 HPL.out hrl HRD.out
              have HOP : Hid (OwnM w6 w1.heap.size PM (.slice a1 k1 c1) (.slice a2 k2 c2) (.slice a3 k3 c3) (.slice a4 k4 c4)) := by rw [HPO.out]; exact hop.base (by simp)
              have hw1 : w.heap.size < w1.heap.size := HB1.out.2.1.2.2.2.2
              rw [hrl]
              clear hop
              have hN6 : N < w6.heap.size := HRD.out.size.2
              have m0 := ((boxB w6 (.cells #[.slice none 0 0, .slice none 0 0, .slice none 0 0, .slice none 0 0] 24)).cell (p := ⟨N, 0, none⟩) hN6).trans n0
              have m1 := ((boxB w6 (.cells #[.slice none 0 0, .slice none 0 0, .slice none 0 0, .slice none 0 0] 24)).cell (p := ⟨N, 1, none⟩) hN6).trans n1
              have m2 := ((boxB w6 (.cells #[.slice none 0 0, .slice none 0 0, .slice none 0 0, .slice none 0 0] 24)).cell (p := ⟨N, 2, none⟩) hN6).trans n2
              have m3 := ((boxB w6 (.cells #[.slice none 0 0, .slice none 0 0, .slice none 0 0, .slice none 0 0] 24)).cell (p := ⟨N, 3, none⟩) hN6).trans n3
              have HM1 : Hid (w1.heap.size ≤ w6.heap.size) := by have := HRD.out.size; unfold Hid; simp at this; omega
              go_cut [8] from 9 (fun s8 wx => ∃ M, s8 = .pointer (some ⟨M, 0, none⟩) ∧ w1.heap.size ≤ M ∧ (Below w.heap.size w wx ∧ BxMF wx w.heap.size (.slice none 0 0) (.slice none 0 0) (.slice none 0 0) (.slice none 0 0)) ∧ BxM wx M (.slice a1 k1 c1) (.slice a2 k2 c2) (.slice a3 k3 c3) (.slice a4 k4 c4) ∧ OwnM wx w1.heap.size PM (.slice a1 k1 c1) (.slice a2 k2 c2) (.slice a3 k3 c3) (.slice a4 k4 c4))
              case first =>
                go_region_held3 (fun w' => w'.cell? ⟨N, 0, none⟩ = some (.slice a1 k1 c1) ∧ w'.cell? ⟨N, 1, none⟩ = some (.slice a2 k2 c2) ∧ w'.cell? ⟨N, 2, none⟩ = some (.slice a3 k3 c3) ∧ w'.cell? ⟨N, 3, none⟩ = some (.slice a4 k4 c4)) (go_keep) (fail)
                all_goals go_wp2_with fail
                all_goals go_meet
                all_goals first
                  | exact ⟨_, rfl, HM1.out, HKB.out.drew (HKB.out _ _ HX6.out (boxB _ _)), (keepBxM _ _ _ _ _).drew (BxM.new rfl _ _ _ _), (keepOwnM _ _ _ _ _ _).drew (HOP.out.below (boxB _ _))⟩
                  | (trace_state; sorry)
              case rest =>
                obtain ⟨M, rfl, hM1, hbd, hyd, hod⟩ := hcut
                have HBD := hide3 hbd
                have HOD := hide3 hod
                have HYD := hide3 hyd
                have HMA : Hid (Calls Tryz.prog 9 #[.agg #[.slice a1 k1 c1, .slice a2 k2 c2, .slice a3 k3 c3, .slice a4 k4 c4]] wc fun e w' => e = .returned (.bool (writtenMB PM)) ∧ Below wc.heap.size wc w') := by
                  rw [HPO.out] at *
                  exact rMayM_any HOD.out.at ⟨Nat.le_trans (hKO 0).1 (by omega), Nat.le_trans (hKO 1).1 (by omega), Nat.le_trans (hKO 2).1 (by omega), Nat.le_trans (hKO 3).1 (by omega)⟩ ⟨fun d hd => Nat.le_trans ((hKO 0).2 d hd) (by omega), fun d hd => Nat.le_trans ((hKO 1).2 d hd) (by omega), fun d hd => Nat.le_trans ((hKO 2).2 d hd) (by omega), fun d hd => Nat.le_trans ((hKO 3).2 d hd) (by omega)⟩
                clear hbd hod n0 n1 n2 n3 m0 m1 m2 m3
                obtain ⟨y0, y1, y2, y3, y4⟩ := hyd
                rw [if_pos hr0, ← HPO.out] at hPE
                cases hwb : writtenMB PM
                · rw [hwb] at HMA hPE
                  go_wp2_with (go_at_call 9; refine HMA.out.mono ?_; rintro e w7 ⟨rfl, ok⟩; have HH := hide3 (HKB.out _ _ HBD.out ok); obtain ⟨⟨b0, b1, b2, b3, b4⟩, hfz⟩ := HH.out.2; have f0 := hfz 0 (by decide); have f1 := hfz 1 (by decide); have f2 := hfz 2 (by decide); have f3 := hfz 3 (by decide); clear hfz; have s4 := fun u0 u1 u2 u3 => set4 b0 b1 b2 b3 u0 u1 u2 u3; clear ok)
                  try simp only [Exit.inBlock, Exit.then]
                  refine bodyPost_ret (by simp [results, Tryz.results16, s4, go_sem]; try rfl) rfl ?_
                  exact HER.out _ _ hPE (by decide) (below_set4 (Nat.le_refl _) HH.out.1)
                · rw [hwb] at HMA hPE
                  go_wp2_with (go_at_call 9; refine HMA.out.mono ?_; rintro e w7 ⟨rfl, ok⟩; have HH := hide3 (HKB.out _ _ HBD.out ok); have HP7 := hide3 (HOD.out.below ok); have HY7 := hide3 (keepBxM _ _ _ _ _ _ _ HYD.out ok); clear y0 y1 y2 y3 y4; obtain ⟨y0, y1, y2, y3, y4⟩ := HY7.out; obtain ⟨⟨b0, b1, b2, b3, b4⟩, hfz⟩ := HH.out.2; have f0 := hfz 0 (by decide); have f1 := hfz 1 (by decide); have f2 := hfz 2 (by decide); have f3 := hfz 3 (by decide); clear hfz; have s4 := fun u0 u1 u2 u3 => set4 b0 b1 b2 b3 u0 u1 u2 u3; clear ok)
                  try simp only [Exit.inBlock, Exit.then]
                  refine bodyPost_ret (by simp [results, Tryz.results16, s4, go_sem]; try rfl) rfl ?_
                  refine HOK.out _ _ _ _ _ hPE (below_set4 (Nat.le_refl _) HH.out.1) ?_
                  exact (HP7.out.of fun g hg => heap4 (by omega)).base (by omega)
            · rw [if_neg hr0] at hPE
              have hre : (RF.1 == 0) = false := by simpa using hr0
              go_wp2_with (go_at_call 28; refine (HL2.out _ _ (boxB _ _) HWA.out).mono ?_; rintro e w6 ⟨vr, rfl, hb6, _, herr6⟩; obtain rfl := herr6 hr0; have HH := hide3 (HKB.out _ _ HKA.out hb6); obtain ⟨⟨b0, b1, b2, b3, b4⟩, hfz⟩ := HH.out.2; have f0 := hfz 0 (by decide); have f1 := hfz 1 (by decide); have f2 := hfz 2 (by decide); have f3 := hfz 3 (by decide); clear hfz; have s4 := fun u0 u1 u2 u3 => set4 b0 b1 b2 b3 u0 u1 u2 u3; clear hb6)
              try simp only [Exit.inBlock, Exit.then]
              refine bodyPost_ret (by simp [results, Tryz.results16, s4, go_sem]; try rfl) rfl ?_
              exact HER.out _ _ hPE hr0 (below_set4 (Nat.le_refl _) HH.out.1)
        · have hL := HEL.out rfl _ _ rfl (by simpa using hx1)
          have hq : ((Sc.ba x).toList == [112, 114, 111, 106, 101, 99, 116]) = false := by rw [ba_toList, beq_eq_false_iff_ne]; exact hx1
          generalize Sc.ba x = s0 at *
          obtain ⟨⟨b0, b1, b2, b3, b4⟩, hfz⟩ := HB1.out.2
          have f0 := hfz 0 (by decide)
          have f1 := hfz 1 (by decide)
          have f2 := hfz 2 (by decide)
          have f3 := hfz 3 (by decide)
          clear hfz
          have s4 := fun u0 u1 u2 u3 => set4 b0 b1 b2 b3 u0 u1 u2 u3
          go_wp2
          try simp only [Exit.inBlock, Exit.then]
          refine bodyPost_ret (by simp [results, Tryz.results16, s4, go_sem]; try rfl) rfl ?_
          exact HER.out _ _ hL (by decide) (below_set4 (Nat.le_refl _) HB1.out.1)
      · have hL := HEL.out rfl _ _ rfl (fun e => h1 (by rw [e]; rfl))
        have hb4 : ((h.length : Int) == 1) = false := by rw [beq_eq_false_iff_ne]; omega
        obtain ⟨⟨b0, b1, b2, b3, b4⟩, hfz⟩ := HB1.out.2
        have f0 := hfz 0 (by decide)
        have f1 := hfz 1 (by decide)
        have f2 := hfz 2 (by decide)
        have f3 := hfz 3 (by decide)
        clear hfz
        have s4 := fun u0 u1 u2 u3 => set4 b0 b1 b2 b3 u0 u1 u2 u3
        go_wp2
        try simp only [Exit.inBlock, Exit.then]
        refine bodyPost_ret (by simp [results, Tryz.results16, s4, go_sem]; try rfl) rfl ?_
        exact HER.out _ _ hL (by decide) (below_set4 (Nat.le_refl _) HB1.out.1)
  · have hL := HEE.out ha
    have hre : (AE == 0) = false := by simpa using ha
    clear hcs HLA
    obtain ⟨⟨b0, b1, b2, b3, b4⟩, hfz⟩ := HB1.out.2
    have f0 := hfz 0 (by decide)
    have f1 := hfz 1 (by decide)
    have f2 := hfz 2 (by decide)
    have f3 := hfz 3 (by decide)
    clear hfz
    have s4 := fun u0 u1 u2 u3 => set4 b0 b1 b2 b3 u0 u1 u2 u3
    go_wp2
    try simp only [Exit.inBlock, Exit.then]
    refine bodyPost_ret (by simp [results, Tryz.results16, s4, go_sem]; try rfl) rfl ?_
    exact HER.out _ _ hL ha (below_set4 (Nat.le_refl _) HB1.out.1)
end Go.Proofs.YtjfbgiajjkjghaaGreatDoor
