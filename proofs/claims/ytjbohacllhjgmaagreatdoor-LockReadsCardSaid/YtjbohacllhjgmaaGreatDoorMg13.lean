/- Lk34, laid in one text. -/
import Derived.OneCell
import Derived.Deep.CutRange
import Derived.BigRegion
import Derived.Test.YtjbohacllhjgmaaGreatDoorMg12
namespace Go.Proofs.YtjbohacllhjgmaaGreatDoor
open Go.RowKit
open Sc (KeepP hide3 keepBelow Bs ba WordsAt LinesAt isL isW textT lineT)
set_option maxRecDepth 100000

/-- Names that are not too great. -/
def Nz (st : List Nd) : Prop := ∀ n ∈ st, n.nm.size ≤ 1048576 ∧ (∀ d ∈ n.cx, d.nm.size ≤ 1048576) ∧ ∀ d ∈ n.ed, d.lb.size ≤ 1048576
theorem nz_snoc {st : List Nd} (h : Nz st) {n : Nd} (hn : n.nm.size ≤ 1048576) (h1 : n.cx = []) (h2 : n.ed = []) : Nz (st ++ [n]) := fun x hx => by
  rcases List.mem_append.1 hx with hx | hx
  · exact h x hx
  · obtain rfl := List.mem_singleton.1 hx
    exact ⟨hn, fun d hd => (by rw [h1] at hd; cases hd), fun d hd => (by rw [h2] at hd; cases hd)⟩
theorem nz_pin {st : List Nd} (h : Nz st) {p : Pn} (hp : p.nm.size ≤ 1048576) : Nz (modLast (addP p) st) := fun n hn => by
  rcases mem_mod hn with hn | ⟨l, hl, rfl⟩
  · exact h n hn
  · obtain ⟨a, b, c⟩ := h l hl
    refine ⟨a, fun d hd => ?_, c⟩
    rcases List.mem_append.1 (show d ∈ l.cx ++ [p] from hd) with hd | hd
    · exact b d hd
    · rw [List.mem_singleton.1 hd]; exact hp
theorem nz_edge {st : List Nd} (h : Nz st) {p : Eg} (hp : p.lb.size ≤ 1048576) : Nz (modLast (addE p) st) := fun n hn => by
  rcases mem_mod hn with hn | ⟨l, hl, rfl⟩
  · exact h n hn
  · obtain ⟨a, b, c⟩ := h l hl
    refine ⟨a, b, fun d hd => ?_⟩
    rcases List.mem_append.1 (show d ∈ l.ed ++ [p] from hd) with hd | hd
    · exact c d hd
    · rw [List.mem_singleton.1 hd]; exact hp
theorem nz_z {m : Nat} {st : List Nd} (h : Nz st) (hb : Bd m st) (hm : m ≤ 2000000) : ∀ n ∈ st, NdZ n := fun n hn => by
  obtain ⟨a, b, c⟩ := h n hn
  obtain ⟨d, e⟩ := hb.2 n hn
  exact ⟨by omega, ⟨by omega, fun x hx => by have := b x hx; omega⟩, by omega, fun x hx => by have := c x hx; omega⟩
theorem len_nz {st st' : List Nd} {l : List Bs} (h : Nz st) (hz : ∀ x ∈ l, x.length ≤ 1048576) (hl : lenS st l = some st') : Nz st' := by
  unfold lenS at hl
  split at hl
  · cases hl
  · rename_i x r
    split at hl
    · cases hl; exact nz_snoc h (by decide) rfl rfl
    · split at hl
      · rename_i a b
        have ha : (ba a).size ≤ 1048576 := by rw [Sc.ba_size]; exact hz a (by simp)
        split at hl
        · cases hl; exact nz_snoc h ha rfl rfl
        · split at hl
          · cases hl; exact h
          · split at hl
            · cases hl; exact nz_pin h ha
            · cases hl; exact nz_edge h ha
      · cases hl
theorem len_step {L : List (List Bs)} {st st' : List Nd} {k : Nat} (hlt : k < L.length) (hs : lenS st L[k] = some st') : lenF st (L.drop k) = lenF st' (L.drop (k + 1)) := by
  rw [List.drop_eq_getElem_cons hlt]
  show (match lenS st L[k] with
    | some st' => lenF st' (L.drop (k + 1))
    | none => none) = _
  rw [hs]
theorem len_stop {L : List (List Bs)} {st : List Nd} {k : Nat} (hlt : k < L.length) (hs : lenS st L[k] = none) : lenF st (L.drop k) = none := by
  rw [List.drop_eq_getElem_cons hlt]
  show (match lenS st L[k] with
    | some st' => lenF st' (L.drop (k + 1))
    | none => none) = _
  rw [hs]

set_option maxHeartbeats 51200000 in
theorem rParseG_any (t : ByteArray) (w : World) : Calls Tryz.prog 5 #[.string t] w (RpQ w t) := by
  have HLI := hide3 (rlines_any t)
  have HNO : Hid (∀ w' er, docG t = none → er = parGE t → Below w.heap.size w w' → RpQ w t (.returned (.tuple #[.agg #[.slice none 0 0], .int .i64 er])) w') := fun w' er e e2 hb => by rw [e2]; exact ⟨hb, Or.inr ⟨e, rfl⟩⟩
  have HYE : Hid (∀ w' ad n cap G, docG t = some G → Below w.heap.size w w' → NodesAt w' (.slice ad n cap) G → RpQ w t (.returned (.tuple #[.agg #[.slice ad n cap], .int .i64 0])) w') := fun w' ad n cap G e hb hr => ⟨hb, Or.inl ⟨ad, n, cap, G, e, rfl, hr⟩⟩
  have HB0 : Hid (Below w.heap.size w (w.alloc (.cells #[.slice none 0 0] 24)) ∧ BxGF (w.alloc (.cells #[.slice none 0 0] 24)) w.heap.size (.slice none 0 0)) := ⟨boxB _ _, BxGF.new rfl _⟩
  have HKB : Hid (KeepP fun W => Below w.heap.size w W ∧ BxGF W w.heap.size (.slice none 0 0)) := (keepBelow w).and (keepBxGF _ _)
  have HDP := hide3 (doc_par t)
  by_cases hE : Sc.ansE t 1048576 = 0
  · obtain ⟨f1, f2, f3⟩ := lines_facts hE
    have hlz : (textT (Sc.ansL t 1048576)).length ≤ 1048576 := by rw [f2, Sc.list_size]; exact f3
    have HDO : Hid (docG t = match lenF [] ((Sc.ansL t 1048576).drop 1) with
      | some st => if mayG st = true ∧ textG st = t then some st else none
      | none => none) := by unfold Hid docG; rw [if_pos hE]; rfl
    have HN : Hid (∀ w', docG t = none → Below w.heap.size w w' → RpQ w t (.returned (.tuple #[.agg #[.slice none 0 0], .int .i64 22])) w') := fun w' hd hb => HNO.out w' 22 hd (by unfold parGE; rw [if_pos hE, ← HDP.out, hd]; rfl) hb
    have HZ : Hid (∀ l ∈ Sc.ansL t 1048576, isL l = true ∧ ∀ x ∈ l, x.length ≤ 1048576) := fun l hl => ⟨List.all_eq_true.1 f1 l hl, fun x hx => Nat.le_trans (word_le hl hx) hlz⟩
    have hLL : (Sc.ansL t 1048576).length ≤ 1000000 := by have := lines_two f1; omega
    rw [hE] at HLI
    have HV : Hid (∀ (b : Bs) (W : World), b.length ≤ 1048576 → Calls Tryz.prog 12 #[.string (ba b)] W fun e w' => e = .returned (.tuple #[.agg #[.int .i64 (resA (ba b)), .int .i64 (resB (ba b)), .int .i64 (resC (ba b))], .bool (okP (ba b))]) ∧ Below W.heap.size W w') := fun b W hb => rParse_walk _ (by rw [Sc.ba_size]; exact hb) W
    have HNU : Hid (∀ (b : Bs) (W : World), b.length ≤ 1048576 → Calls Tryz.prog 13 #[.string (ba b), .int .i64 128] W fun e w' => e = .returned (.tuple #[.int .i64 (Sc.ansI b 128), .bool (Sc.ansB b 128)]) ∧ Below W.heap.size W w') := fun b W hb => by
      have := Sc.rNumber_any (ba b) (by rw [Sc.ba_size]; omega) 128 W
      unfold Sc.NumP at this
      rw [Sc.ba_list] at this
      exact this
    have HMY : Hid (∀ W v (st : List Nd) m, NodesAt W v st → Nz st → Bd m st → m ≤ 2000000 → Calls Tryz.prog 14 #[.agg #[v]] W fun e w' => e = .returned (.bool (mayG st)) ∧ Below W.heap.size W w') := fun W v st m hn hz hb hm => rMayG_any hn (nz_z hz hb hm)
    have HTX : Hid (∀ W ad cap (all : List NV), NodesAt W (.slice ad all.length cap) (all.map NV.nd) → mayG (all.map NV.nd) = true → Calls Tryz.prog 15 #[.agg #[.slice ad all.length cap]] W fun e w' => e = .returned (.string (textG (all.map NV.nd))) ∧ Below W.heap.size W w') := fun W ad cap all hn hm => by
      have e : (all.map NV.nd).length = all.length := List.length_map ..
      rw [← e] at hn ⊢
      exact rTextG_walk hn hm
    clear f1 f2 f3 hlz hE HNO HDP
    generalize Sc.ansL t 1048576 = L at *
    generalize hQQ : RpQ w t = QQ at *
    generalize docG t = DG at *
    clear hQQ
    go_enter Tryz.func5, Tryz.ntmps5
    go_wp2_with (go_at_call 11; refine (HLI.out _).mono ?_; rintro e w1 ⟨v, n, rfl, hla, hb1⟩; have HB1 := hide3 (HKB.out _ _ HB0.out hb1); have HLA := hide3 hla; clear hb1 hla)
    obtain ⟨adv, capv, rfl, hcv, hcs⟩ := HLA.out
    have HLC : Hid (∀ k (h : k < L.length), ∃ g o u, adv = some ⟨g, o, none⟩ ∧ g < w1.heap.size ∧ w1.cell? ⟨g, o + k, none⟩ = some u ∧ WordsAt w1 u L[k]) := fun k h => by
      rcases hcs with e | ⟨g, o, e, hg, hu⟩
      · rw [e] at h; cases h
      · obtain ⟨u, h1, h2⟩ := hu k h
        exact ⟨g, o, u, e, hg, h1, h2⟩
    clear HLA HLI HB0 hcs hcv
    have hwS : w.heap.size < w1.heap.size := HB1.out.2.1.2
    go_loopw [7, 8] (fun vl vi wr => ∃ (k : Nat) (all : List NV) (ad : Option Addr) (cap : Nat), (1 ≤ k ∧ (k ≤ L.length ∨ k = 1)) ∧ vl = .slice ad all.length cap ∧ vi = .int .i64 k ∧ Below w1.heap.size w1 wr ∧ RL wr w1.heap.size (.slice ad all.length cap) all ∧ Bd k (all.map NV.nd) ∧ Nz (all.map NV.nd) ∧ lenF [] (L.drop 1) = lenF (all.map NV.nd) (L.drop k)) (fun _ vi _ => L.length - (intOf vi).toNat)
    case atStart => exact ⟨1, [], none, 0, ⟨Nat.le_refl _, Or.inr rfl⟩, rfl, rfl, Below.refl _ _, ⟨⟨⟨rfl, Or.inl ⟨rfl, rfl⟩⟩, fun x hx => by cases hx⟩, Or.inl rfl⟩, ⟨Nat.zero_le _, fun n hn => by cases hn⟩, fun n hn => (by cases hn), rfl⟩
    case round =>
      obtain ⟨k, all, ad, cap, ⟨hk1, hk2⟩, rfl, rfl, hb, hrl, hbd, hnz, hlf⟩ := hrel
      have HBR := hide3 hb
      have HRL := hide3 hrl
      have HBD := hide3 hbd
      have HNZ := hide3 hnz
      have HLF := hide3 hlf
      have HBW : Hid (Below w.heap.size w wr) := HB1.out.1.trans (hb.mono (Nat.le_of_lt hwS))
      have HGF : Hid (BxGF wr w.heap.size (.slice none 0 0)) := HB1.out.2.of hb hwS
      have hal : all.length ≤ k := by have := hbd.1; rwa [List.length_map] at this
      have HWL : Hid (w1.heap.size ≤ wr.heap.size) := hb.size
      clear hrl hb hbd hnz hlf
      by_cases hlt : k < L.length
      · have hki : (k : Int) < (L.length : Int) := by omega
        obtain ⟨g, o, u, rfl, hg, cu, hwu⟩ := HLC.out k hlt
        have HIL := hide3 (HZ.out _ (List.getElem_mem hlt))
        obtain ⟨l, hl⟩ : ∃ l, l = L[k] := ⟨_, rfl⟩
        rw [← hl] at hwu HIL
        have HSTEP : Hid (∀ st', lenS (all.map NV.nd) l = some st' → lenF [] (L.drop 1) = lenF st' (L.drop (k + 1)) ∧ Bd (k + 1) st' ∧ Nz st') := fun st' hs => ⟨HLF.out.trans (len_step hlt (by rw [← hl]; exact hs)), len_bd HBD.out hs, len_nz HNZ.out HIL.out.2 hs⟩
        have HSTOP : Hid (lenS (all.map NV.nd) l = none → DG = none) := fun hs => by rw [HDO.out, HLF.out, len_stop hlt (by rw [← hl]; exact hs)]
        have HND : Hid (∀ st' all' ad' cap' W, lenS (all.map NV.nd) l = some st' → all'.map NV.nd = st' → Below w1.heap.size w1 W → RL W w1.heap.size (.slice ad' all'.length cap') all' → ∃ (k2 : Nat) (all : List NV) (ad : Option Addr) (cap : Nat), (1 ≤ k2 ∧ (k2 ≤ L.length ∨ k2 = 1)) ∧ (Value.slice ad' all'.length cap') = .slice ad all.length cap ∧ (Value.int .i64 ((k : Int) + 1)) = .int .i64 k2 ∧ Below w1.heap.size w1 W ∧ RL W w1.heap.size (.slice ad all.length cap) all ∧ Bd k2 (all.map NV.nd) ∧ Nz (all.map NV.nd) ∧ lenF [] (L.drop 1) = lenF (all.map NV.nd) (L.drop k2)) := fun st' all' ad' cap' W hs hm hb hr => by
          obtain ⟨e1, e2, e3⟩ := HSTEP.out st' hs
          exact ⟨k + 1, all', ad', cap', ⟨by omega, Or.inl (by omega)⟩, rfl, rfl, hb, hr, by rw [hm]; exact e2, by rw [hm]; exact e3, by rw [hm]; exact e1⟩
        clear hl HSTEP HZ HLC HMY HTX HYE HDO HLF HNZ
        cases l with
        | nil => exact absurd HIL.out.1 (by decide)
        | cons x ws =>
        obtain ⟨au, cu2, rfl, hcu2, hx⟩ := hwu
        obtain ⟨gu, ou, rfl, hgu, hx⟩ : ∃ g o, au = some ⟨g, o, none⟩ ∧ g < w1.heap.size ∧ ∀ i (hi : i < (x :: ws).length), w1.cell? ⟨g, o + i, none⟩ = some (.string (ba (x :: ws)[i])) := by
          rcases hx with q | q
          · cases q
          · exact q
        have cx : w1.cell? ⟨gu, ou, none⟩ = some (.string (ba x)) := hx 0 (by simp)
        have d1 := (HBR.out.cell (p := ⟨g, o + k, none⟩) hg).trans cu
        have d2 := (HBR.out.cell (p := ⟨gu, ou, none⟩) hgu).trans cx
        rw [List.length_cons] at d1
        have hv3 : (0 : Int) < (ws.length : Int) + 1 := by omega
        have q1 := ba_is x [114, 111, 111, 116]
        by_cases hx1 : x = wRoot
        · rw [decide_eq_true (show x = [114, 111, 111, 116] from hx1)] at q1
          have HS : Hid (lenS (all.map NV.nd) (x :: ws) = some (all.map NV.nd ++ [nd0])) := by unfold Hid lenS; simp only; rw [if_pos hx1]
          have HRA := hide3 HRL.out.1
          have hWL := HWL.out
          have hown := HRL.out.1.1
          generalize ba x = sx at *
          clear hx1 hx HIL hcu2 cu cx
          go_wp2_with (at_builtin; refine wp_own (B := w1.heap.size) (M := wr.heap.size) (wx := wr) (v := .slice ad all.length cap) infoNode Tryz.underlying22 rfl (by decide) (by decide) rfl (.tmp 40) (.tmp 42) rfl rfl hown hWL #[.string ⟨#[]⟩, .int .i64 0, .int .i64 0, .int .i64 0, .slice none 0 0, .slice none 0 0] rfl (by simp [Value.oneCell']) rfl rfl (by omega) ?_; intro v1 w2 ho hgr hat; obtain ⟨g1, cap1, rfl, _⟩ := ho.form (by omega); have HBG := hide3 (RA.begun (nm := ⟨#[]⟩) (a := 0) (b := 0) (c := 0) HRA.out hWL ho (grown_pre (boxB _ _) hgr)); clear ho hgr hat)
          exact ⟨by
            have e := HND.out _ (all ++ [⟨nd0, .slice none 0 0, .slice none 0 0⟩]) (some ⟨g1, 0, none⟩) cap1 w2 HS.out (by simp) (HBR.out.trans HBG.out.2.2) ⟨by rw [List.length_append]; exact HBG.out.1, Or.inr ⟨all, _, rfl, HBG.out.2.1⟩⟩
            rw [List.length_append] at e
            exact e, by simp [intOf]; omega⟩
        · rw [decide_eq_false (show ¬ x = [114, 111, 111, 116] from hx1)] at q1
          by_cases hw2 : ws.length = 2
          · obtain ⟨a, b, rfl⟩ : ∃ a b, ws = [a, b] := by
              match ws, hw2 with
              | [a, b], _ => exact ⟨a, b, rfl⟩
            have ca : w1.cell? ⟨gu, ou + 1, none⟩ = some (.string (ba a)) := hx 1 (by simp)
            have cb : w1.cell? ⟨gu, ou + 2, none⟩ = some (.string (ba b)) := hx 2 (by simp)
            have d3 := (HBR.out.cell (p := ⟨gu, ou + 1, none⟩) hgu).trans ca
            have d4 := (HBR.out.cell (p := ⟨gu, ou + 2, none⟩) hgu).trans cb
            have hbz := HIL.out.2 b (by simp)
            have hgr : gu < wr.heap.size := Nat.lt_of_lt_of_le hgu HWL.out
            have HVB := hide3 (fun W => HV.out b W hbz)
            have HNB := hide3 (fun W => HNU.out b W hbz)
            have q2 := ba_is x [110, 111, 100, 101]
            have q3 := ba_is x [119, 105, 116, 104]
            have HLS : Hid (∀ st, lenS st [x, a, b] = if x = wNode then some (st ++ [⟨ba a, resA (ba b), resB (ba b), resC (ba b), [], []⟩]) else if st = [] then some st
      else if x = wWith then some (modLast (addP ⟨ba a, resA (ba b), resB (ba b), resC (ba b)⟩) st) else some (modLast (addE ⟨ba a, Sc.ansI b 128⟩) st)) := fun st => by unfold lenS; simp only; rw [if_neg hx1]
            have d1 : wr.cell? ⟨g, o + k, none⟩ = some (.slice (some ⟨gu, ou, none⟩) 3 cu2) := d1
            clear HV HNU hx hbz HIL hcu2 cu cx ca cb hw2 hv3
            generalize resA (ba b) = ra at *
            generalize resB (ba b) = rb at *
            generalize resC (ba b) = rc at *
            generalize okP (ba b) = vb at *
            generalize Sc.ansI b 128 = ni at *
            generalize Sc.ansB b 128 = nb at *
            generalize ba b = sb at *
            generalize ba a = sa at *
            generalize ba x = sx at *
            have HWV : Hid (∀ w2 w4 : World, Below wr.heap.size wr w2 → Below (w2.alloc (.cells #[.int .i64 ra, .int .i64 rb, .int .i64 rc] 39)).heap.size (w2.alloc (.cells #[.int .i64 ra, .int .i64 rb, .int .i64 rc] 39)) w4 → (w4.cell? ⟨gu, ou, none⟩ = some (.string sx) ∧ w4.cell? ⟨gu, ou + 1, none⟩ = some (.string sa)) ∧ (w4.cell? ⟨w2.heap.size, 0, none⟩ = some (.int .i64 ra) ∧ w4.cell? ⟨w2.heap.size, 1, none⟩ = some (.int .i64 rb) ∧ w4.cell? ⟨w2.heap.size, 2, none⟩ = some (.int .i64 rc)) ∧ Below wr.heap.size wr w4) := fun w2 w4 h2 h4 => by
              have hb4 : Below wr.heap.size wr w4 := below_then (below_then h2 (boxB _ _)) h4
              refine ⟨⟨(hb4.cell (p := ⟨gu, ou, none⟩) hgr).trans d2, (hb4.cell (p := ⟨gu, ou + 1, none⟩) hgr).trans d3⟩, ⟨?_, ?_, ?_⟩, hb4⟩
              · exact (h4.cell (p := ⟨w2.heap.size, 0, none⟩) (by simp)).trans (by simp)
              · exact (h4.cell (p := ⟨w2.heap.size, 1, none⟩) (by simp)).trans (by simp)
              · exact (h4.cell (p := ⟨w2.heap.size, 2, none⟩) (by simp)).trans (by simp)
            have HZ4 : Hid (∀ w2 : World, Below wr.heap.size wr w2 → (w2.cell? ⟨gu, ou + 2, none⟩ = some (.string sb) ∧ (w2.alloc (.cells #[.int .i64 ra, .int .i64 rb, .int .i64 rc] 39)).cell? ⟨gu, ou + 2, none⟩ = some (.string sb))) := fun w2 h2 => ⟨(h2.cell (p := ⟨gu, ou + 2, none⟩) hgr).trans d4, ((below_then h2 (boxB w2 (.cells #[.int .i64 ra, .int .i64 rb, .int .i64 rc] 39))).cell (p := ⟨gu, ou + 2, none⟩) hgr).trans d4⟩
            by_cases hx2 : x = wNode
            · rw [decide_eq_true (show x = [110, 111, 100, 101] from hx2)] at q2
              have HS : Hid (lenS (all.map NV.nd) [x, a, b] = some (all.map NV.nd ++ [⟨sa, ra, rb, rc, [], []⟩])) := by unfold Hid; rw [HLS.out, if_pos hx2]
              have HRA := hide3 HRL.out.1
              have HOW : Hid (∀ W, Below wr.heap.size wr W → W.ownsRow w1.heap.size 43 6 (.slice ad all.length cap) all.length (all.flatMap ndC) ∧ w1.heap.size ≤ W.heap.size) := fun W hb => ⟨(HRA.out.below hb).1, Nat.le_trans HWL.out hb.size⟩
              clear hx1 hx2 HLS q3
              go_upto_region 17 with (first
                | (go_at_call 12; refine (HVB.out _).mono ?_; rintro e w2 ⟨rfl, hb2⟩; obtain ⟨z2, z3⟩ := HZ4.out _ hb2; have HB2 := hide3 hb2; clear hb2)
                | (go_at_call 13; refine (HNB.out _).mono ?_; rintro e w4 ⟨rfl, hb4⟩; obtain ⟨⟨e2, e3⟩, ⟨v0, v1, v2⟩, hb5⟩ := HWV.out _ _ HB2.out hb4; have HB4 := hide3 hb5; clear hb4 hb5 z2 z3))
              obtain ⟨hOW, hsz⟩ := HOW.out _ HB4.out
              have HOW4 := hide3 hOW
              clear hOW
              go_region_law (refine step_own (B := w1.heap.size) (M := w4.heap.size) (wx := w4.drew) (v := .slice ad all.length cap) infoNode Tryz.underlying22 rfl (by decide) (by decide) rfl (.tmp 70) (.tmp 76) rfl rfl HOW4.out.drew hsz #[.string sa, .int .i64 ra, .int .i64 rb, .int .i64 rc, .slice none 0 0, .slice none 0 0] rfl (by simp [Value.oneCell']) (by simp) rfl (by omega) ?_; intro vn w6 ho hgr hat; obtain ⟨g6, cap6, rfl, _⟩ := ho.form (by omega); have HBG := hide3 (RA.begun (nm := sa) (a := ra) (b := rb) (c := rc) (HRA.out.below HB4.out) hsz ho (grown_pre (below_then (Below.refl _ _).drew (boxB _ _)) hgr)); clear ho hgr hat)
              all_goals go_wp2
              all_goals exact ⟨by
                have e := HND.out _ (all ++ [⟨⟨sa, ra, rb, rc, [], []⟩, .slice none 0 0, .slice none 0 0⟩]) (some ⟨g6, 0, none⟩) cap6 w6 HS.out (by simp) (HBR.out.trans ((HB4.out.mono HWL.out).trans HBG.out.2.2)) ⟨by rw [List.length_append]; exact HBG.out.1, Or.inr ⟨all, _, rfl, HBG.out.2.1⟩⟩
                rw [List.length_append] at e
                exact e, by simp [intOf]; omega⟩
            · rw [decide_eq_false (show ¬ x = [110, 111, 100, 101] from hx2)] at q2
              by_cases ha0 : all = []
              · subst ha0
                have HS : Hid (lenS (([] : List NV).map NV.nd) [x, a, b] = some []) := by unfold Hid; rw [HLS.out, if_neg hx2, List.map_nil, if_pos rfl]
                have HRX : Hid (∀ W, Below wr.heap.size wr W → RL W w1.heap.size (.slice ad ([] : List NV).length cap) []) := fun W hb => ⟨HRL.out.1.below hb, Or.inl rfl⟩
                rw [List.length_nil]
                clear hx1 hx2 HLS q3
                go_wp2_with (first
                  | (go_at_call 12; refine (HVB.out _).mono ?_; rintro e w2 ⟨rfl, hb2⟩; obtain ⟨z2, z3⟩ := HZ4.out _ hb2; have HB2 := hide3 hb2; clear hb2)
                  | (go_at_call 13; refine (HNB.out _).mono ?_; rintro e w4 ⟨rfl, hb4⟩; obtain ⟨⟨e2, e3⟩, ⟨v0, v1, v2⟩, hb5⟩ := HWV.out _ _ HB2.out hb4; have HB4 := hide3 hb5; clear hb4 hb5 z2 z3))
                exact ⟨HND.out _ [] ad cap _ HS.out rfl (HBR.out.trans (HB4.out.mono HWL.out)) (HRX.out _ HB4.out), by simp [intOf]; omega⟩
              · obtain ⟨dn, lt, rfl, hLA⟩ := HRL.out.2.resolve_left ha0
                obtain ⟨g4, cap4, hg4, _⟩ := HRL.out.1.1.form (by simp)
                injection hg4 with hg41 hg42 hg43
                subst hg41
                subst hg43
                have HLA := hide3 hLA
                have HLB : Hid (lt.nd.cx.length ≤ 1000000000 ∧ lt.nd.ed.length ≤ 1000000000) := by
                  have := HBD.out.2 lt.nd (by simp)
                  exact ⟨by omega, by omega⟩
                have HRA : Hid (RA wr w1.heap.size (.slice (some ⟨g4, 0, none⟩) (dn.length + 1) cap) (dn ++ [lt])) := by
                  have := HRL.out.1
                  rw [show (dn ++ [lt]).length = dn.length + 1 by simp] at this
                  exact this
                rw [show (dn ++ [lt]).length = dn.length + 1 by simp] at hal ⊢
                have hne : ¬ ((dn ++ [lt]).map NV.nd = []) := by simp
                clear hg42 ha0 HRL hLA
                by_cases hx3 : x = wWith
                · rw [decide_eq_true (show x = [119, 105, 116, 104] from hx3)] at q3
                  have HS : Hid (lenS ((dn ++ [lt]).map NV.nd) [x, a, b] = some (dn.map NV.nd ++ [addP ⟨sa, ra, rb, rc⟩ lt.nd])) := by
                    unfold Hid
                    rw [HLS.out, if_neg hx2, if_neg hne, if_pos hx3, List.map_append, List.map_cons, List.map_nil, modLast_snoc]
                  have HLZ : Hid (lt.nd.cx.length ≤ 1000000000) := HLB.out.1
                  clear hx1 hx2 hx3 HLS hne
                  have HXO : Hid (∀ W, Below wr.heap.size wr W → RA W w1.heap.size (.slice (some ⟨g4, 0, none⟩) (dn.length + 1) cap) (dn ++ [lt])) := fun W hb => HRA.out.below hb
                  have hvl : ∃ a c, lt.vc = .slice a lt.nd.cx.length c := by
                    rcases (HRA.out.2 lt (by simp)).1.2 with ⟨e, hn⟩ | ⟨gx, cx, _, e, _⟩
                    · exact ⟨none, 0, by rw [e, hn]⟩
                    · exact ⟨_, _, e⟩
                  obtain ⟨a5, c5, hv5⟩ := hvl
                  have HCE : Hid (∀ W, Below wr.heap.size wr W → W.cell? ⟨g4, dn.length * 6 + 4, none⟩ = some (.slice a5 lt.nd.cx.length c5) ∧ W.ownsRow w1.heap.size 49 4 (.slice a5 lt.nd.cx.length c5) lt.nd.cx.length (lt.nd.cx.flatMap pnC) ∧ w1.heap.size ≤ W.heap.size) := fun W hb => by
                    have hr := HXO.out W hb
                    have hrow := hr.1
                    rw [show (dn ++ [lt]).length = dn.length + 1 by simp] at hrow
                    refine ⟨by rw [hrow.cellAt (dn.length * 6 + 4) (by omega), flat_get, ← hv5]; rfl, ?_, Nat.le_trans HWL.out hb.size⟩
                    have := (hr.2 lt (by simp)).1
                    rw [hv5] at this
                    exact this
                  have HPN : Hid (∀ W w6 v1, Below wr.heap.size wr W → w6.ownsRow w1.heap.size 49 4 v1 (lt.nd.cx.length + 1) (lt.nd.cx.flatMap pnC ++ pnC ⟨sa, ra, rb, rc⟩) → W.grownBy w6 (Value.slice a5 lt.nd.cx.length c5).ownBlock → (v1.ownBlock = (Value.slice a5 lt.nd.cx.length c5).ownBlock ∨ ∃ q, v1.ownBlock = some q ∧ W.heap.size ≤ q) → (w6.cell? ⟨g4, dn.length * 6 + 4, none⟩ = some (.slice a5 lt.nd.cx.length c5) ∧ w6.frozen? ⟨g4, dn.length * 6 + 4, none⟩ = false) ∧ RL (w6.setCell ⟨g4, dn.length * 6 + 4, none⟩ v1) w1.heap.size (.slice (some ⟨g4, 0, none⟩) (dn.length + 1) cap) (dn ++ [⟨addP ⟨sa, ra, rb, rc⟩ lt.nd, v1, lt.ve⟩]) ∧ Below w1.heap.size W (w6.setCell ⟨g4, dn.length * 6 + 4, none⟩ v1)) := fun W w6 v1 hb ho hgr hat => by
                    obtain ⟨p1, p2, p3, p4⟩ := RA.pinned (p := ⟨sa, ra, rb, rc⟩) (HXO.out W hb) HLA.out ho (by rw [hv5]; exact hgr) (by rw [hv5]; exact hat)
                    rw [hv5] at p1
                    exact ⟨p1, ⟨p2, Or.inr ⟨dn, _, rfl, p3⟩⟩, p4⟩
                  have hzl : lt.nd.cx.length ≤ 1000000000 := HLZ.out
                  have hn1 : ((dn.length : Int) + 1 - 1) = (dn.length : Int) := by omega
                  have hn2 : (0 : Int) ≤ (dn.length : Int) := by omega
                  have hn3 : (dn.length : Int) < (dn.length : Int) + 1 := by omega
                  go_upto_region 19 with (first
                    | (go_at_call 12; refine (HVB.out _).mono ?_; rintro e w2 ⟨rfl, hb2⟩; obtain ⟨z2, z3⟩ := HZ4.out _ hb2; have HB2 := hide3 hb2; clear hb2)
                    | (go_at_call 13; refine (HNB.out _).mono ?_; rintro e w4 ⟨rfl, hb4⟩; obtain ⟨⟨e2, e3⟩, ⟨v0, v1, v2⟩, hb5⟩ := HWV.out _ _ HB2.out hb4; have HB4 := hide3 hb5; clear hb4 hb5 z2 z3))
                  obtain ⟨x4, hOW, hsz⟩ := HCE.out _ HB4.out
                  have x4' := ((boxB w4 (.cells #[.string sa, .int .i64 ra, .int .i64 rb, .int .i64 rc] 49)).cell (p := ⟨g4, dn.length * 6 + 4, none⟩) (cell_in x4)).trans x4
                  have e3' := ((boxB w4 (.cells #[.string sa, .int .i64 ra, .int .i64 rb, .int .i64 rc] 49)).cell (p := ⟨gu, ou + 1, none⟩) (cell_in e3)).trans e3
                  have HOW := hide3 hOW
                  clear hOW d1 d2 d3 d4 q1 q2 q3 e2 hki
                  go_region_law (refine step_own (B := w1.heap.size) (M := w4.heap.size) (wx := w4.drew) (v := .slice a5 lt.nd.cx.length c5) infoPin Tryz.underlying40 rfl (by decide) (by decide) rfl (.tmp 93) (.tmp 99) rfl rfl HOW.out.drew hsz #[.string sa, .int .i64 ra, .int .i64 rb, .int .i64 rc] rfl (by simp [Value.oneCell']) (by simp) rfl hzl ?_; intro vn w6 ho hgr hat; obtain ⟨g6, cap6, rfl, _⟩ := ho.form (by omega); have HP2 := hide3 (HPN.out _ w6 _ HB4.out ho (grown_pre (below_then (Below.refl _ _).drew (boxB _ _)) hgr) (hat.imp id fun e => ⟨_, e, by simp⟩)); obtain ⟨⟨m4, mf⟩, _, _⟩ := HP2.out; clear ho hgr hat)
                  all_goals go_wp2
                  all_goals exact ⟨by
                    have e := HND.out _ (dn ++ [⟨addP ⟨sa, ra, rb, rc⟩ lt.nd, .slice (some ⟨g6, 0, none⟩) (lt.nd.cx.length + 1) cap6, lt.ve⟩]) (some ⟨g4, 0, none⟩) cap _ HS.out (by simp) (HBR.out.trans ((HB4.out.mono HWL.out).trans HP2.out.2.2)) (by rw [List.length_append]; exact HP2.out.2.1)
                    rw [List.length_append] at e
                    exact e, by simp [intOf]; omega⟩
                · rw [decide_eq_false (show ¬ x = [119, 105, 116, 104] from hx3)] at q3
                  have HS : Hid (lenS ((dn ++ [lt]).map NV.nd) [x, a, b] = some (dn.map NV.nd ++ [addE ⟨sa, ni⟩ lt.nd])) := by
                    unfold Hid
                    rw [HLS.out, if_neg hx2, if_neg hne, if_neg hx3, List.map_append, List.map_cons, List.map_nil, modLast_snoc]
                  have HLZ : Hid (lt.nd.ed.length ≤ 1000000000) := HLB.out.2
                  clear hx1 hx2 hx3 HLS hne
                  have HXO : Hid (∀ W, Below wr.heap.size wr W → RA W w1.heap.size (.slice (some ⟨g4, 0, none⟩) (dn.length + 1) cap) (dn ++ [lt])) := fun W hb => HRA.out.below hb
                  have hvl : ∃ a c, lt.ve = .slice a lt.nd.ed.length c := by
                    rcases (HRA.out.2 lt (by simp)).2.2 with ⟨e, hn⟩ | ⟨gx, cx, _, e, _⟩
                    · exact ⟨none, 0, by rw [e, hn]⟩
                    · exact ⟨_, _, e⟩
                  obtain ⟨a5, c5, hv5⟩ := hvl
                  have HCE : Hid (∀ W, Below wr.heap.size wr W → W.cell? ⟨g4, dn.length * 6 + 5, none⟩ = some (.slice a5 lt.nd.ed.length c5) ∧ W.ownsRow w1.heap.size 51 2 (.slice a5 lt.nd.ed.length c5) lt.nd.ed.length (lt.nd.ed.flatMap egC) ∧ w1.heap.size ≤ W.heap.size) := fun W hb => by
                    have hr := HXO.out W hb
                    have hrow := hr.1
                    rw [show (dn ++ [lt]).length = dn.length + 1 by simp] at hrow
                    refine ⟨by rw [hrow.cellAt (dn.length * 6 + 5) (by omega), flat_get, ← hv5]; rfl, ?_, Nat.le_trans HWL.out hb.size⟩
                    have := (hr.2 lt (by simp)).2
                    rw [hv5] at this
                    exact this
                  have HPN : Hid (∀ W w6 v1, Below wr.heap.size wr W → w6.ownsRow w1.heap.size 51 2 v1 (lt.nd.ed.length + 1) (lt.nd.ed.flatMap egC ++ egC ⟨sa, ni⟩) → W.grownBy w6 (Value.slice a5 lt.nd.ed.length c5).ownBlock → (v1.ownBlock = (Value.slice a5 lt.nd.ed.length c5).ownBlock ∨ ∃ q, v1.ownBlock = some q ∧ W.heap.size ≤ q) → (w6.cell? ⟨g4, dn.length * 6 + 5, none⟩ = some (.slice a5 lt.nd.ed.length c5) ∧ w6.frozen? ⟨g4, dn.length * 6 + 5, none⟩ = false) ∧ RL (w6.setCell ⟨g4, dn.length * 6 + 5, none⟩ v1) w1.heap.size (.slice (some ⟨g4, 0, none⟩) (dn.length + 1) cap) (dn ++ [⟨addE ⟨sa, ni⟩ lt.nd, lt.vc, v1⟩]) ∧ Below w1.heap.size W (w6.setCell ⟨g4, dn.length * 6 + 5, none⟩ v1)) := fun W w6 v1 hb ho hgr hat => by
                    obtain ⟨p1, p2, p3, p4⟩ := RA.edged (p := ⟨sa, ni⟩) (HXO.out W hb) HLA.out ho (by rw [hv5]; exact hgr) (by rw [hv5]; exact hat)
                    rw [hv5] at p1
                    exact ⟨p1, ⟨p2, Or.inr ⟨dn, _, rfl, p3⟩⟩, p4⟩
                  have hzl : lt.nd.ed.length ≤ 1000000000 := HLZ.out
                  have hn1 : ((dn.length : Int) + 1 - 1) = (dn.length : Int) := by omega
                  have hn2 : (0 : Int) ≤ (dn.length : Int) := by omega
                  have hn3 : (dn.length : Int) < (dn.length : Int) + 1 := by omega
                  go_upto_region 21 with (first
                    | (go_at_call 12; refine (HVB.out _).mono ?_; rintro e w2 ⟨rfl, hb2⟩; obtain ⟨z2, z3⟩ := HZ4.out _ hb2; have HB2 := hide3 hb2; clear hb2)
                    | (go_at_call 13; refine (HNB.out _).mono ?_; rintro e w4 ⟨rfl, hb4⟩; obtain ⟨⟨e2, e3⟩, ⟨v0, v1, v2⟩, hb5⟩ := HWV.out _ _ HB2.out hb4; have HB4 := hide3 hb5; clear hb4 hb5 z2 z3))
                  obtain ⟨x4, hOW, hsz⟩ := HCE.out _ HB4.out
                  have x4' := ((boxB w4 (.cells #[.string sa, .int .i64 ni] 51)).cell (p := ⟨g4, dn.length * 6 + 5, none⟩) (cell_in x4)).trans x4
                  have e3' := ((boxB w4 (.cells #[.string sa, .int .i64 ni] 51)).cell (p := ⟨gu, ou + 1, none⟩) (cell_in e3)).trans e3
                  have HOW := hide3 hOW
                  clear hOW d1 d2 d3 d4 q1 q2 q3 e2 hki
                  go_region_law (refine step_own (B := w1.heap.size) (M := w4.heap.size) (wx := w4.drew) (v := .slice a5 lt.nd.ed.length c5) infoEdge Tryz.underlying41 rfl (by decide) (by decide) rfl (.tmp 112) (.tmp 118) rfl rfl HOW.out.drew hsz #[.string sa, .int .i64 ni] rfl (by simp [Value.oneCell']) (by simp) rfl hzl ?_; intro vn w6 ho hgr hat; obtain ⟨g6, cap6, rfl, _⟩ := ho.form (by omega); have HP2 := hide3 (HPN.out _ w6 _ HB4.out ho (grown_pre (below_then (Below.refl _ _).drew (boxB _ _)) hgr) (hat.imp id fun e => ⟨_, e, by simp⟩)); obtain ⟨⟨m4, mf⟩, _, _⟩ := HP2.out; clear ho hgr hat)
                  all_goals go_wp2
                  all_goals exact ⟨by
                    have e := HND.out _ (dn ++ [⟨addE ⟨sa, ni⟩ lt.nd, lt.vc, .slice (some ⟨g6, 0, none⟩) (lt.nd.ed.length + 1) cap6⟩]) (some ⟨g4, 0, none⟩) cap _ HS.out (by simp) (HBR.out.trans ((HB4.out.mono HWL.out).trans HP2.out.2.2)) (by rw [List.length_append]; exact HP2.out.2.1)
                    rw [List.length_append] at e
                    exact e, by simp [intOf]; omega⟩
          · have hd := HSTOP.out (by
              unfold lenS
              simp only
              rw [if_neg hx1]
              match ws, hw2 with
              | [], _ => rfl
              | [_], _ => rfl
              | [_, _], h => exact absurd rfl h
              | _ :: _ :: _ :: _, _ => rfl)
            have hb3 : ((ws.length : Int) + 1 == 3) = false := by rw [beq_eq_false_iff_ne]; omega
            obtain ⟨⟨n0, n1⟩, n2⟩ := HGF.out
            have s1 := fun u => World.cell?_setCell_same wr ⟨w.heap.size, 0, none⟩ u n0
            generalize ba x = sx at *
            clear hx1 hx HIL hcu2 cu cx hw2
            go_wp2
            try simp only [Exit.inBlock, Exit.then]
            refine bodyPost_ret (by simp [results, Tryz.results5, s1, go_sem]; try rfl) rfl ?_
            exact HN.out _ hd (HBW.out.setCell (p := ⟨w.heap.size, 0, none⟩) (Nat.le_refl _) _)
      · have hki : ¬ ((k : Int) < (L.length : Int)) := by omega
        have HRA := hide3 HRL.out.1
        have hDG := HDO.out
        rw [HLF.out, List.drop_eq_nil_of_le (by omega : L.length ≤ k)] at hDG
        have hDG2 : DG = if mayG (all.map NV.nd) = true ∧ textG (all.map NV.nd) = t then some (all.map NV.nd) else none := hDG
        have HMB : Hid (∀ W v, NodesAt W v (all.map NV.nd) → Calls Tryz.prog 14 #[.agg #[v]] W fun e w' => e = .returned (.bool (mayG (all.map NV.nd))) ∧ Below W.heap.size W w') := fun W v hn => HMY.out W v _ k hn HNZ.out HBD.out (by omega)
        have HTB : Hid (∀ W, mayG (all.map NV.nd) = true → NodesAt W (.slice ad all.length cap) (all.map NV.nd) → Calls Tryz.prog 15 #[.agg #[.slice ad all.length cap]] W fun e w' => e = .returned (.string (textG (all.map NV.nd))) ∧ Below W.heap.size W w') := fun W hm hn => HTX.out W ad cap all hn hm
        have HYB : Hid (∀ w', DG = some (all.map NV.nd) → Below w.heap.size w w' → NodesAt w' (.slice ad all.length cap) (all.map NV.nd) → QQ (.returned (.tuple #[.agg #[.slice ad all.length cap], .int .i64 0])) w') := fun w' h1 h2 h3 => HYE.out w' ad all.length cap _ h1 h2 h3
        have HNA : Hid (∀ W, Below wr.heap.size wr W → NodesAt W (.slice ad all.length cap) (all.map NV.nd)) := fun W hb => (HRA.out.below hb).at
        have HNS : Hid (∀ W u, Below wr.heap.size wr W → NodesAt (W.setCell ⟨w.heap.size, 0, none⟩ u) (.slice ad all.length cap) (all.map NV.nd)) := fun W u hb => ((HRA.out.below hb).of fun q hq _ => Below.heap_setCell _ _ _ _ (by simp only; omega)).at
        have HGK : Hid (∀ W, Below wr.heap.size wr W → Below w.heap.size w W ∧ BxGF W w.heap.size (.slice none 0 0)) := fun W hb => HKB.out _ _ ⟨HBW.out, HGF.out⟩ hb
        clear hDG HMY HTX HYE HDO HLF HBD HNZ HRL hk2
        generalize all.map NV.nd = st at *
        cases hmg : mayG st
        · rw [hmg] at HMB
          have hd : DG = none := by rw [hDG2, if_neg (fun e => by rw [hmg] at e; cases e.1)]
          clear hDG2 hmg HTB
          go_wp2_with (go_at_call 14; refine (HMB.out _ _ (HNA.out _ (boxB _ _))).mono ?_; rintro e w5 ⟨rfl, hb5⟩; have HB5 := hide3 (below_then (boxB wr (.cells #[.slice ad all.length cap] 24)) hb5); obtain ⟨⟨n0, n1⟩, n2⟩ := (HGK.out _ HB5.out).2; have s1 := fun u => World.cell?_setCell_same w5 ⟨w.heap.size, 0, none⟩ u n0; clear hb5)
          try simp only [Exit.inBlock, Exit.then]
          refine bodyPost_ret (by simp [results, Tryz.results5, s1, go_sem]; try rfl) rfl ?_
          exact HN.out _ hd ((HGK.out _ HB5.out).1.setCell (p := ⟨w.heap.size, 0, none⟩) (Nat.le_refl _) _)
        · rw [hmg] at HMB
          have HTB2 := hide3 (fun W => HTB.out W hmg)
          have HG0 : Hid (∀ W W', Below (wr.alloc (.cells #[.slice ad all.length cap] 24)).heap.size (wr.alloc (.cells #[.slice ad all.length cap] 24)) W → W = W' → W'.cell? ⟨wr.heap.size, 0, none⟩ = some (.slice ad all.length cap)) := fun W W' hb e => by rw [← e]; exact (hb.cell (p := ⟨wr.heap.size, 0, none⟩) (by simp)).trans (by simp)
          by_cases htx : textG st = t
          · have hd : DG = some st := by rw [hDG2, if_pos ⟨hmg, htx⟩]
            rw [htx] at HTB2
            have hqt : (t.toList == t.toList) = true := by simp
            clear hDG2 hmg HTB htx
            go_wp2_with (first
              | (go_at_call 14; refine (HMB.out _ _ (HNA.out _ (boxB _ _))).mono ?_; rintro e w5 ⟨rfl, hb5⟩; have HB5 := hide3 (below_then (boxB wr (.cells #[.slice ad all.length cap] 24)) hb5); have g5 := HG0.out _ _ hb5 rfl; have HX5 := hide3 hb5; clear hb5)
              | (go_at_call 15; refine (HTB2.out _ (HNA.out _ HB5.out)).mono ?_; rintro e w6 ⟨rfl, hb6⟩; have HB6 := hide3 (below_then HB5.out hb6); have g6 := HG0.out _ _ (below_then HX5.out hb6) rfl; obtain ⟨⟨n0, n1⟩, n2⟩ := (HGK.out _ HB6.out).2; have s1 := fun u => World.cell?_setCell_same w6 ⟨w.heap.size, 0, none⟩ u n0; clear hb6))
            try simp only [Exit.inBlock, Exit.then]
            refine bodyPost_ret (by simp [results, Tryz.results5, s1, go_sem]; try rfl) rfl ?_
            exact HYB.out _ hd ((HGK.out _ HB6.out).1.setCell (p := ⟨w.heap.size, 0, none⟩) (Nat.le_refl _) _) (HNS.out _ _ HB6.out)
          · have hd : DG = none := by rw [hDG2, if_neg (fun e => htx e.2)]
            have hqt : ((textG st).toList == t.toList) = false := by
              rw [beq_eq_false_iff_ne]
              exact fun e => htx (by
                rw [ByteArray.toList_eq, ByteArray.toList_eq] at e
                exact ByteArray.ext (Array.toList_inj.1 e))
            clear hDG2 hmg HTB htx
            generalize textG st = tg at *
            go_wp2_with (first
              | (go_at_call 14; refine (HMB.out _ _ (HNA.out _ (boxB _ _))).mono ?_; rintro e w5 ⟨rfl, hb5⟩; have HB5 := hide3 (below_then (boxB wr (.cells #[.slice ad all.length cap] 24)) hb5); have g5 := HG0.out _ _ hb5 rfl; have HX5 := hide3 hb5; clear hb5)
              | (go_at_call 15; refine (HTB2.out _ (HNA.out _ HB5.out)).mono ?_; rintro e w6 ⟨rfl, hb6⟩; have HB6 := hide3 (below_then HB5.out hb6); obtain ⟨⟨n0, n1⟩, n2⟩ := (HGK.out _ HB6.out).2; have s1 := fun u => World.cell?_setCell_same w6 ⟨w.heap.size, 0, none⟩ u n0; clear hb6))
            try simp only [Exit.inBlock, Exit.then]
            refine bodyPost_ret (by simp [results, Tryz.results5, s1, go_sem]; try rfl) rfl ?_
            exact HN.out _ hd ((HGK.out _ HB6.out).1.setCell (p := ⟨w.heap.size, 0, none⟩) (Nat.le_refl _) _)
  · have hN : docG t = none := by unfold docG; rw [if_neg hE]
    have hPE : Sc.ansE t 1048576 = parGE t := by unfold parGE; rw [if_neg hE]
    have HN := hide3 (fun w' hb => HNO.out w' _ hN hPE hb)
    have hre : (Sc.ansE t 1048576 == 0) = false := by simpa using hE
    clear hN hPE hE HNO HYE HDP
    generalize RpQ w t = QQ at *
    generalize Sc.ansE t 1048576 = AE at *
    go_enter Tryz.func5, Tryz.ntmps5
    go_wp2_with (go_at_call 11; refine (HLI.out _).mono ?_; rintro e w1 ⟨v, n, rfl, hla, hb1⟩; have HB1 := hide3 (HKB.out _ _ HB0.out hb1); obtain ⟨⟨n0, n1⟩, n2⟩ := HB1.out.2; have s1 := fun u => World.cell?_setCell_same w1 ⟨w.heap.size, 0, none⟩ u n0; clear hb1)
    try simp only [Exit.inBlock, Exit.then]
    refine bodyPost_ret (by simp [results, Tryz.results5, s1, go_sem]; try rfl) rfl ?_
    exact HN.out _ (HB1.out.1.setCell (p := ⟨w.heap.size, 0, none⟩) (Nat.le_refl _) _)
end Go.Proofs.YtjbohacllhjgmaaGreatDoor
