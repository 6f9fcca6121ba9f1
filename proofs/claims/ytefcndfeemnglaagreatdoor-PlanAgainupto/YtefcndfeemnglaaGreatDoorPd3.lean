/- Print of package plan: a plan's text. Conditions: sizes. -/
import Derived.Test.YtefcndfeemnglaaGreatDoorPd2
namespace Go.Proofs.YtefcndfeemnglaaGreatDoor
open Go.RowKit Go.Maps Go.WideMaps Go.WideElems Dk
set_option maxRecDepth 100000

theorem ownW_base {w : World} {B C : Nat} {v : Value} {ws : List Sc.Bs} (h : Sc.OwnW w B v ws) (hb : C ≤ B) : Sc.OwnW w C v ws := by
  obtain ⟨h1, h2⟩ := h
  refine ⟨h1, ?_⟩
  rcases h2 with h2 | ⟨g', cap', cur', hv, hb', r⟩
  · exact Or.inl h2
  · exact Or.inr ⟨g', cap', cur', hv, Nat.le_trans hb hb', r⟩
theorem ownW_form {w : World} {B : Nat} {v : Value} {ws : List Sc.Bs} (h : Sc.OwnW w B v ws) (hne : ws ≠ []) : ∃ g cap, v = .slice (some ⟨g, 0, none⟩) ws.length cap := by
  rcases h.2 with ⟨_, hn⟩ | ⟨g, cap, cur, rfl, _⟩
  · exact absurd (List.eq_nil_of_length_eq_zero hn) hne
  · exact ⟨g, cap, rfl⟩
/-- A line that is new beside those that are there. -/
theorem st_with {w0 wx w2 : World} {vl v : Value} {ps : List (Value × List Sc.Bs)} {ws : List Sc.Bs} (h : Sc.St w0 vl (.slice none 0 0) ps [] wx) (hb : Below wx.heap.size wx w2) (ho : Sc.OwnW w2 wx.heap.size v ws) : Sc.St w0 vl v ps ws w2 := by
  have hs := h.2.2.2.2.size
  refine ⟨h.1.below hb, ownW_base ho hs, fun p hp e => ?_, ?_, h.2.2.2.2.trans (hb.mono hs)⟩
  · have hx := h.1.2.1 p hp
    obtain ⟨g, hg⟩ := hx.1.block hx.2
    have h1 := (World.ownsRow.lt hx.1 g hg).2
    rw [hg] at e
    have h2 := (World.ownsRow.lt ho g e).1
    omega
  · cases hv : v.ownBlock with
    | none => exact Or.inl rfl
    | some g =>
      refine Or.inr fun e => ?_
      have h1 := (World.ownsRow.lt h.1.1 g e.symm).2
      have h2 := (World.ownsRow.lt ho g hv).1
      omega
theorem st_plan (w w1 : World) (hb : Below w.heap.size w w1) : Sc.St w (.slice (some ⟨w1.heap.size + 1, 0, none⟩) 1 1) (.slice none 0 0) [(.slice (some ⟨w1.heap.size, 0, none⟩) 1 1, [bsP])] [] ((w1.alloc (.cells #[.string ⟨#[112, 108, 97, 110]⟩] 9)).alloc (.cells #[.slice (some ⟨w1.heap.size, 0, none⟩) 1 1] 58)) := by
  have hs := hb.size
  have hb2 : Below w1.heap.size w1 (w1.alloc (.cells #[.string ⟨#[112, 108, 97, 110]⟩] 9)) := Sc.boxB _ _
  have hb3 : Below (w1.alloc (.cells #[.string ⟨#[112, 108, 97, 110]⟩] 9)).heap.size (w1.alloc (.cells #[.string ⟨#[112, 108, 97, 110]⟩] 9)) ((w1.alloc (.cells #[.string ⟨#[112, 108, 97, 110]⟩] 9)).alloc (.cells #[.slice (some ⟨w1.heap.size, 0, none⟩) 1 1] 58)) := Sc.boxB _ _
  have hsz : (w1.alloc (.cells #[.string ⟨#[112, 108, 97, 110]⟩] 9)).heap.size = w1.heap.size + 1 := by simp
  have how := (ownW_new (w := w1) [bsP] #[.string ⟨#[112, 108, 97, 110]⟩] (by simp [Sc.strs, Sc.ba, bsP]) hs (by unfold maxLen; simp)).below hb3
  have hblk : ((w1.alloc (.cells #[.string ⟨#[112, 108, 97, 110]⟩] 9)).alloc (.cells #[.slice (some ⟨w1.heap.size, 0, none⟩) 1 1] 58)).heap[w1.heap.size + 1]? = some (.cells #[.slice (some ⟨w1.heap.size, 0, none⟩) 1 1] 58 (0, 0)) := by
    show ((w1.alloc (.cells #[.string ⟨#[112, 108, 97, 110]⟩] 9)).heap.push _)[w1.heap.size + 1]? = _
    rw [Array.getElem?_push, if_pos hsz.symm]
  refine ⟨⟨⟨by simp, Or.inr ⟨w1.heap.size + 1, 1, _, rfl, by omega, hblk, Nat.le_refl _, by unfold maxLen; omega, by simp, by simp⟩⟩, fun p hp => ?_, by simp, fun p hp => ?_, fun e => by cases e⟩, Sc.OwnW.nil _ _, fun p hp => ?_, Or.inl rfl, hb.trans ((hb2.trans (hb3.mono hb2.size)).mono hs)⟩
  · rw [List.mem_singleton.1 hp]
    exact ⟨how, by simp⟩
  · rw [List.mem_singleton.1 hp]
    simp [Value.ownBlock]
  · rw [List.mem_singleton.1 hp]
    simp [Value.ownBlock]

open Classical in
/-- What Print answers. -/
noncomputable def prnT (l : List De) : ByteArray := if Plan l then textD l else ⟨#[]⟩
open Classical in
noncomputable def prnE (l : List De) : Int := if Plan l then 0 else 44
theorem prn_yes {l : List De} (h : Plan l) : prnT l = textD l ∧ prnE l = 0 := by unfold prnT prnE; rw [if_pos h, if_pos h]; exact ⟨rfl, rfl⟩
theorem prn_no {l : List De} (h : ¬ Plan l) : prnT l = ⟨#[]⟩ ∧ prnE l = 44 := by unfold prnT prnE; rw [if_neg h, if_neg h]; exact ⟨rfl, rfl⟩
theorem Check_is (l : List De) (a : Option Addr) (cap : Nat) (m : Int) (w : World) (hm : w.cell? ⟨0, 0, none⟩ = some (.int .i64 m)) (hlen : l.length ≤ 8388608) (hc : IsDes w a l) (hz : ∀ d ∈ l, d.pa.size ≤ maxLen) :
    Calls Tryz.prog 6 #[.slice a l.length cap] w fun e w' => e = .returned (.int .i64 (prnE l)) ∧ Below w.heap.size w w' := by
  refine (Check_any l a cap m w hm hlen hc hz).mono ?_
  rintro e w' ⟨⟨r, rfl, h | h⟩, hb⟩
  · exact ⟨by rw [(prn_yes h.1).2, h.2], hb⟩
  · exact ⟨by rw [(prn_no h.1).2, h.2], hb⟩

set_option maxHeartbeats 8000000 in
theorem Print_any (l : List De) (a : Option Addr) (cap : Nat) (m : Int) (w : World) (hm : w.cell? ⟨0, 0, none⟩ = some (.int .i64 m)) (hlen : l.length ≤ 8388608) (hc : IsDes w a l) (hz : ∀ d ∈ l, d.pa.size ≤ maxLen ∧ d.da.size ≤ 100000000) (hsz : (textD l).size ≤ 4194304) :
    Calls Tryz.prog 12 #[.slice a l.length cap] w fun e w' => e = .returned (.tuple #[.string (prnT l), .int .i64 (prnE l)]) ∧ Below w.heap.size w w' := by
  have HCH := hide3 (Check_is l a cap m w hm hlen hc fun d hd => (hz d hd).1)
  by_cases hp : Plan l
  · obtain ⟨e1, e2⟩ := prn_yes hp
    rw [e2] at HCH
    rw [e1, e2]
    have HP := hide3 hp.parts
    have HC := hide3 hc
    have HZ := hide3 hz
    have HJ : Hid (∀ w1 v, Sc.LinesAt w1 v (linesP l) → Calls Tryz.prog 29 #[v] w1 fun e w' => e = .returned (.tuple #[.string (textD l), .int .i64 0]) ∧ Below w1.heap.size w1 w') := fun w1 v hv => by
      have := Sc.Join_any (by rw [← textD_list]; show (textD l).size ≤ _; exact hsz) hv
      obtain ⟨j1, j2⟩ := Sc.joi_yes hp.lines
      rw [j1, j2, textD_ba] at this
      exact this
    clear hc hz hp e1 e2 hm hsz
    go_enter Tryz.func12, Tryz.ntmps12
    go_wp2_with (go_at_call 6; refine HCH.out.mono ?_; rintro e w1 ⟨rfl, hb1⟩; have HST := hide3 (st_plan w w1 hb1); clear hb1)
    obtain ⟨W1, hW1⟩ : ∃ W1, W1 = ((w1.alloc (.cells #[.string ⟨#[112, 108, 97, 110]⟩] 9)).alloc (.cells #[.slice (some ⟨w1.heap.size, 0, none⟩) 1 1] 58)) := ⟨_, rfl⟩
    rw [← hW1] at HST
    rw [← hW1]
    clear hW1 HCH
    go_loopw [5, 17] (fun v5 i wr => ∃ (k : Nat) (ps : List (Value × List Sc.Bs)), k ≤ l.length ∧ i = .int .i64 k ∧ Sc.St w v5 (.slice none 0 0) ps [] wr ∧ ps.map (·.2) = linesP (l.take k)) (fun _ i _ => l.length - (intOf i).toNat)
    case atStart => exact ⟨0, _, Nat.zero_le _, rfl, HST.out, rfl⟩
    case round =>
      obtain ⟨k, ps, hk, rfl, hst, hps⟩ := hrel
      have HS := hide3 hst
      have HPS := hide3 hps
      have HPL : Hid (ps.length = k + 1) := by
        have h1 := congrArg List.length hps
        have h2 : (linesP (l.take k)).length = k + 1 := by unfold linesP; rw [List.length_cons, List.length_map, List.length_take]; omega
        rw [List.length_map, h2] at h1
        exact h1
      clear hst hps HST
      obtain ⟨ad5, cap5, rfl⟩ := HS.out.1.len
      by_cases hlt : k < l.length
      · obtain ⟨g, off, rfl, hg, hcs⟩ : ∃ g off, a = some ⟨g, off, none⟩ ∧ g < w.heap.size ∧ DesIn w g off l := by
          rcases HC.out with h | h
          · rw [h] at hlt; exact absurd hlt (Nat.not_lt_zero _)
          · exact h
        have HB : Hid (Below w.heap.size w wr) := HS.out.2.2.2.2
        obtain ⟨b0, b1, b2⟩ : wr.cell? ⟨g, off + k * 3, none⟩ = some (.int .i64 l[k].kd) ∧ wr.cell? ⟨g, off + k * 3 + 1, none⟩ = some (.string l[k].pa) ∧ wr.cell? ⟨g, off + k * 3 + 1 + 1, none⟩ = some (.string l[k].da) := by
          obtain ⟨a0, a1, a2⟩ := hcs k hlt
          exact ⟨(HB.out.cell (p := ⟨g, off + k * 3, none⟩) hg).trans a0, (HB.out.cell (p := ⟨g, off + k * 3 + 1, none⟩) hg).trans a1, (HB.out.cell (p := ⟨g, off + k * 3 + 1 + 1, none⟩) hg).trans a2⟩
        have hki : (k : Int) < (l.length : Int) := by omega
        have hk0 : (0 : Int) ≤ (k : Int) := by omega
        have HPK := hide3 (HP.out l[k] (List.getElem_mem hlt))
        have HLN : Hid (∀ w1, Calls Tryz.prog 28 #[.agg #[.int .i64 l[k].kd, .string l[k].pa, .string l[k].da]] w1 fun e w' => ∃ v, e = .returned v ∧ Sc.OwnW w' w1.heap.size v (lineW l[k]) ∧ Below w1.heap.size w1 w') := fun w1 => lineOf_any l[k] HPK.out.1 HPK.out.2.1 (HZ.out l[k] (List.getElem_mem hlt)).2 w1
        have HNE : Hid (lineW l[k] ≠ []) := by unfold Hid lineW; simp
        have HTK : Hid (∀ v : Value, (ps ++ [(v, lineW l[k])]).map (·.2) = linesP (l.take (k + 1))) := fun v => by
          rw [List.map_append, HPS.out, List.take_succ_eq_append_getElem hlt]
          unfold linesP
          rw [List.map_append]
          rfl
        generalize lineW l[k] = L at *
        generalize l[k].kd = kd at *
        generalize l[k].pa = p at *
        generalize l[k].da = t at *
        have HSB : Hid (Sc.St w (.slice ad5 ps.length cap5) (.slice none 0 0) ps [] (wr.alloc (.cells #[.int .i64 kd, .string p, .string t] 32))) := HS.out.below (Sc.boxB _ _)
        clear hcs HS HB HPK HP HZ HC
        go_wp2_with (first
          | (go_at_call 28; refine (HLN.out _).mono ?_; rintro e w2 ⟨v2, rfl, ho2, hb2⟩; have HS2 := hide3 (st_with HSB.out hb2 ho2); obtain ⟨g2, c2, rfl⟩ := ownW_form ho2 HNE.out; clear hb2 ho2)
          | (at_builtin; refine wp_line (w0 := w) (wx := w2) (vl := .slice ad5 ps.length cap5) (vw := .slice (some ⟨g2, 0, none⟩) L.length c2) (ps := ps) (ws := L) rfl (.tmp 21) (.tmp 24) rfl rfl HS2.out HNE.out rfl rfl (by have := HPL.out; omega) ?_; intro v3 w3 hs3; have HS3 := hide3 hs3; clear hs3))
        exact ⟨⟨k + 1, _, by omega, by go_num, HS3.out, HTK.out _⟩, by simp [intOf]; omega⟩
      · have hki : ¬ ((k : Int) < (l.length : Int)) := by omega
        have HLA : Hid (Sc.LinesAt wr (.slice ad5 ps.length cap5) (linesP l)) := by
          have := HS.out.1.at
          rw [HPS.out, List.take_of_length_le (by omega)] at this
          exact this
        have HB : Hid (Below w.heap.size w wr) := HS.out.2.2.2.2
        go_wp2_with (go_at_call 29; refine (HJ.out _ _ HLA.out).mono ?_; rintro e w2 ⟨rfl, hb2⟩; have HB2 : Hid (Below w.heap.size w w2) := HB.out.trans (hb2.mono HB.out.size); clear hb2)
        go_ret2
        exact ⟨rfl, HB2.out⟩
  · obtain ⟨e1, e2⟩ := prn_no hp
    rw [e2] at HCH
    rw [e1, e2]
    clear hp e1 e2
    go_enter Tryz.func12, Tryz.ntmps12
    go_wp2_with (go_at_call 6; refine HCH.out.mono ?_; rintro e w1 ⟨rfl, hb1⟩; have HB1 := hide3 hb1; clear hb1)
    go_ret2
    exact ⟨rfl, HB1.out⟩
end Go.Proofs.YtefcndfeemnglaaGreatDoor
