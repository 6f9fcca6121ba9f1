/- ScJo2, Lk5, Lk6, Boxes2, Parse2, Parse3, laid in one text. -/
import Derived.Deep.RegionHeld3
import Derived.Test.YtjbohacllhjgmaaGreatDoorMg03
namespace Go.Proofs.YtjbohacllhjgmaaGreatDoor.Sc
open Go.RowKit
set_option maxRecDepth 100000

theorem lineT_len : ∀ (ws : List Bs), 1 ≤ (lineT ws).length ∧ ws.length ≤ (lineT ws).length ∧ ∀ x ∈ ws, x.length ≤ (lineT ws).length
  | [] => ⟨by simp [lineT], by simp, fun x hx => by cases hx⟩
  | [w] => ⟨by simp [lineT], by simp [lineT], fun x hx => by rw [List.mem_singleton.1 hx]; simp [lineT]⟩
  | w :: q :: r => by
    obtain ⟨h1, h2, h3⟩ := lineT_len (q :: r)
    have e : lineT (w :: q :: r) = w ++ [32] ++ lineT (q :: r) := rfl
    rw [e]
    simp only [List.length_append, List.length_cons, List.length_nil] at *
    refine ⟨by omega, by omega, fun x hx => ?_⟩
    rcases List.mem_cons.1 hx with rfl | hx
    · omega
    · have := h3 x hx; omega
theorem textT_cons (l : List Bs) (L : List (List Bs)) : textT (l :: L) = lineT l ++ textT L := by simp [textT]
theorem textT_len : ∀ (L : List (List Bs)), L.length ≤ (textT L).length ∧ ∀ l ∈ L, (lineT l).length ≤ (textT L).length
  | [] => ⟨by simp, fun l hl => by cases hl⟩
  | l :: L => by
    obtain ⟨h1, h2⟩ := textT_len L
    have := (lineT_len l).1
    rw [textT_cons]
    simp only [List.length_append, List.length_cons]
    refine ⟨by omega, fun x hx => ?_⟩
    rcases List.mem_cons.1 hx with rfl | hx
    · omega
    · have := h2 x hx; omega
theorem textT_take (L : List (List Bs)) (k : Nat) : (textT (L.take k)).length ≤ (textT L).length := by
  have : textT L = textT (L.take k) ++ textT (L.drop k) := by
    unfold textT
    rw [← List.flatMap_append, List.take_append_drop]
  rw [this, List.length_append]; omega
theorem textT_more {L : List (List Bs)} {k : Nat} (h : k < L.length) : textT (L.take (k + 1)) = textT (L.take k) ++ lineT L[k] := by
  rw [List.take_succ_eq_append_getElem h, textT_snoc]

/-- What Join answers with. -/
def joiT (L : List (List Bs)) : ByteArray := if L.all isL = true then ba (textT L) else ⟨#[]⟩
def joiE (L : List (List Bs)) : Int := if L.all isL = true then 0 else 22
theorem joi_yes {L : List (List Bs)} (h : L.all isL = true) : joiT L = ba (textT L) ∧ joiE L = 0 := by unfold joiT joiE; rw [if_pos h, if_pos h]; exact ⟨rfl, rfl⟩
theorem joi_no {L : List (List Bs)} {l : List Bs} (hm : l ∈ L) (h : isL l = false) : joiT L = ⟨#[]⟩ ∧ joiE L = 22 := by
  have : L.all isL = false := by
    rw [Bool.eq_false_iff]
    intro ha
    rw [List.all_eq_true] at ha
    have := ha l hm
    rw [h] at this; cases this
  unfold joiT joiE
  rw [this]
  exact ⟨rfl, rfl⟩
theorem ret_join {a b : ByteArray} {x y : Int} (h1 : a = b) (h2 : x = y) : Ending.returned (.tuple #[.string a, .int .i64 x]) = .returned (.tuple #[.string b, .int .i64 y]) := by rw [h1, h2]

theorem Bld.new (w : World) : Bld w.heap.size w.heap.size [] (w.alloc (.cells #[.pointer none, .slice none 0 0] 80)) :=
  Or.inl ⟨Nat.le_refl _, .slice none 0 0, heap_alloc_new w _, ⟨rfl, Or.inl ⟨rfl, rfl⟩⟩, by simp [Value.ownBlock]⟩
theorem Bld.below {B b : Nat} {l : Bs} {w w' : World} (h : Bld B b l w) (hb : Below w.heap.size w w') : Bld B b l w' := by
  have key : ∀ {p : Value}, Lib.BuilderAt 80 5 B b p (Lib.byteCells l) w → Lib.BuilderAt 80 5 B b p (Lib.byteCells l) w' := by
    rintro p ⟨h1, v, h2, h3, h4⟩
    refine ⟨h1, v, (hb.block b (Array.getElem?_eq_some_iff.1 h2).1).trans h2, ⟨h3.1, ?_⟩, h4⟩
    rcases h3.2 with hn | ⟨g, cap, cur, hv, hB, hg, r⟩
    · exact Or.inl hn
    · exact Or.inr ⟨g, cap, cur, hv, hB, (hb.block g (Array.getElem?_eq_some_iff.1 hg).1).trans hg, r⟩
  exact h.imp key key

set_option maxHeartbeats 3200000 in
theorem Join_any {L : List (List Bs)} (hT : (textT L).length ≤ 4194304) {v : Value} {w : World} (hv : LinesAt w v L) :
    Calls Tryz.prog 33 #[v] w fun e w' => e = .returned (.tuple #[.string (joiT L), .int .i64 (joiE L)]) ∧ Below w.heap.size w w' := by
  have hLl := (textT_len L).1
  have HV := hide3 hv
  obtain ⟨ad, cap, rfl, hcap, _⟩ := hv
  have HN := hide3 (Bld.new w)
  go_enter Tryz.func33, Tryz.ntmps33
  go_wp2
  go_loopw [9] (fun i wr => ∃ k : Nat, k ≤ L.length ∧ i = .int .i64 k ∧ (L.take k).all isL = true ∧ Bld w.heap.size w.heap.size (textT (L.take k)) wr ∧ Below w.heap.size w wr) (fun i _ => L.length - (intOf i).toNat)
  case atStart => exact ⟨0, Nat.zero_le _, rfl, rfl, HN.out, boxB _ _⟩
  case round =>
    obtain ⟨k, hk, rfl, hal, hbd, hbe⟩ := hrel
    have HA := hide3 hal
    have HB := hide3 hbd
    have HE := hide3 hbe
    clear hal hbd hbe HN
    have hze := HE.out.size
    by_cases hlt : k < L.length
    · obtain ⟨u, g, o, had, hg, hcell, hwu⟩ : ∃ u g o, ad = some ⟨g, o, none⟩ ∧ g < wr.heap.size ∧ wr.cell? ⟨g, o + k, none⟩ = some u ∧ WordsAt wr u L[k] := by
        obtain ⟨ad', cap', hq, _, hl⟩ := HV.out.below HE.out
        cases hq
        rcases hl with rfl | ⟨g, o, h1, h2, h3⟩
        · simp at hlt
        · obtain ⟨u, h4, h5⟩ := h3 k hlt
          exact ⟨u, g, o, h1, h2, h4, h5⟩
      subst had
      have hll := lineT_len L[k]
      have hlm := (textT_len L).2 _ (List.getElem_mem hlt)
      have hmore := textT_more hlt
      have hml := textT_take L (k + 1)
      have HWU := hide3 hwu
      have HML := hide3 (mayLine_any (w := wr) ⟨by omega, fun x hx => by have := hll.2.2 x hx; omega⟩ hwu)
      have htk : L.take (k + 1) = L.take k ++ [L[k]] := List.take_succ_eq_append_getElem hlt
      obtain ⟨bd, cap2, rfl, _, _⟩ := hwu
      cases hw : isL L[k]
      · have HR := hide3 (joi_no (List.getElem_mem hlt) hw)
        rw [hw] at HML
        clear hw htk hmore hml hll hlm HWU
        go_wp2_with (go_at_call 47; refine HML.out.mono ?_; rintro e w1 ⟨rfl, hw1⟩; subst hw1)
        go_ret2
        exact ⟨ret_join HR.out.1.symm HR.out.2.symm, HE.out⟩
      · have hne : L[k] ≠ [] := by intro e; rw [e] at hw; cases hw
        have HA2 : Hid ((L.take (k + 1)).all isL = true) := by unfold Hid; rw [htk, List.all_append, HA.out]; simp [hw]
        have hjl := join_line hne
        have hjn : (Lib.join L[k] [32]).length + 1 = (lineT L[k]).length := by rw [← hjl]; simp
        have hml2 : (textT (L.take k)).length + (lineT L[k]).length ≤ 4194304 := by rw [hmore, List.length_append] at hml; omega
        have HT : Hid (textT (L.take (k + 1)) = textT (L.take k) ++ Lib.join L[k] [32] ++ [10]) := by unfold Hid; rw [hmore, ← hjl]; simp
        have HJ := hide3 (wJoin_any hne (by omega) (by omega) HWU.out)
        have HX : Hid (∀ w1 : World, Bld w.heap.size w.heap.size (textT (L.take k)) w1 → w.heap.size ≤ w1.heap.size → Calls Tryz.prog 48 #[.pointer (some ⟨w.heap.size, 0, none⟩), .string (ba (Lib.join L[k] [32]))] w1 fun e w' => ∃ n, e = .returned (.tuple #[.int .i64 n, .nilIface]) ∧ Bld w.heap.size w.heap.size (textT (L.take k) ++ Lib.join L[k] [32]) w' ∧ Below w.heap.size w1 w') := by
          intro w1 h1 h2
          refine (putText (ba (Lib.join L[k] [32])) h1 (by rw [ba_size]; omega) h2).mono ?_
          rintro e w' ⟨rfl, h3, h4⟩
          rw [ba_list] at h3
          exact ⟨_, rfl, h3, h4⟩
        have HY : Hid (∀ w1 : World, Bld w.heap.size w.heap.size (textT (L.take k) ++ Lib.join L[k] [32]) w1 → w.heap.size ≤ w1.heap.size → Calls Tryz.prog 50 #[.pointer (some ⟨w.heap.size, 0, none⟩), .int .u8 10] w1 fun e w' => e = .returned .nilIface ∧ Bld w.heap.size w.heap.size (textT (L.take k) ++ Lib.join L[k] [32] ++ [10]) w' ∧ Below w.heap.size w1 w') := by
          intro w1 h1 h2
          exact putByte 10 h1 (by rw [List.length_append]; omega) h2
        rw [hw] at HML
        clear hw htk hmore hml hll hlm HWU hjl hjn hml2 hne
        generalize ba (Lib.join L[k] [32]) = tx at *
        go_wp2_with (first
          | (go_at_call 47; refine HML.out.mono ?_; rintro e w1 ⟨rfl, hw1⟩; subst hw1)
          | (go_at_call 49; refine HJ.out.mono ?_; rintro e w3 ⟨rfl, hb3⟩; have HB3 := hide3 (HB.out.below hb3); have HE3 : Hid (Below w.heap.size w w3) := below_then HE.out hb3; clear hb3)
          | (go_at_call 48; refine (HX.out _ HB3.out HE3.out.size).mono ?_; rintro e w4 ⟨n4, rfl, hb4, he4⟩; have HB4 := hide3 hb4; have HE4 : Hid (Below w.heap.size w w4) := HE3.out.trans he4; clear hb4 he4)
          | (go_at_call 50; refine (HY.out _ HB4.out HE4.out.size).mono ?_; rintro e w5 ⟨rfl, hb5, he5⟩; have HB5 := hide3 hb5; have HE5 : Hid (Below w.heap.size w w5) := HE4.out.trans he5; clear hb5 he5))
        exact ⟨⟨k + 1, by omega, by go_num, HA2.out, by rw [HT.out]; exact HB5.out, HE5.out⟩, by simp [intOf]; omega⟩
    · have hke : k = L.length := by omega
      subst hke
      have HR : Hid (joiT L = ba (textT L) ∧ joiE L = 0) := joi_yes (by have := HA.out; rw [List.take_length] at this; exact this)
      have HS : Hid (Calls Tryz.prog 51 #[.pointer (some ⟨w.heap.size, 0, none⟩)] wr fun e w' => e = .returned (.string (ba (textT L))) ∧ Below w.heap.size wr w') := by
        have := HB.out
        rw [List.take_length] at this
        exact Tryz.Builder_String_any w.heap.size w.heap.size (textT L) wr this hze
      go_wp2_with (go_at_call 51; refine HS.out.mono ?_; rintro e w3 ⟨rfl, hb3⟩; have HE3 : Hid (Below w.heap.size w w3) := HE.out.trans hb3; clear hb3)
      go_ret2
      exact ⟨ret_join HR.out.1.symm HR.out.2.symm, HE3.out⟩
end Go.Proofs.YtjbohacllhjgmaaGreatDoor.Sc
namespace Go.Proofs.YtjbohacllhjgmaaGreatDoor
open Go.RowKit
open Sc (KeepP hide3 keepBelow Bs ba LL OwnW strs)
set_option maxRecDepth 100000

/-- The lines of a pin, of an edge, of a node's lists. -/
def bsV (a b c : Int) : Bs := (textV a b c).data.toList
def pinL (p : Pn) : List Bs := [[119, 105, 116, 104], p.nm.data.toList, bsV p.a p.b p.c]
def edgL (e : Eg) : List Bs := [[116, 111], e.lb.data.toList, Lib.itoa e.to]
def listL (n : Nd) : List (List Bs) := n.cx.map pinL ++ n.ed.map edgL

/-- Lines under way: those that were there in w1 (at vl) have grown; nothing else that was there has turned. -/
def LU (w0 w1 : World) (vl v : Value) (ps : List (Value × List Bs)) (w : World) : Prop :=
  LL w w0.heap.size v ps ∧ Below w0.heap.size w0 w ∧ w1.grownBy w vl.ownBlock ∧ (v.ownBlock = vl.ownBlock ∨ ∃ k, v.ownBlock = some k ∧ w1.heap.size ≤ k)
theorem grown_below {w1 w w' : World} {row : Option Nat} (h : w1.grownBy w row) (hb : Below w.heap.size w w') : w1.grownBy w' row :=
  ⟨hb.os.trans h.os, hb.tape.trans h.tape, hb.output.trans h.output, Nat.le_trans h.size hb.size, fun k hk hn => (hb.block k (Nat.lt_of_lt_of_le hk h.size)).trans (h.block k hk hn)⟩
theorem LU.below {w0 w1 : World} {vl v : Value} {ps : List (Value × List Bs)} {w w' : World} (h : LU w0 w1 vl v ps w) (hb : Below w.heap.size w w') : LU w0 w1 vl v ps w' :=
  ⟨h.1.below hb, below_then h.2.1 hb, grown_below h.2.2.1 hb, h.2.2.2⟩
theorem keepLU (w0 w1 : World) (vl v : Value) (ps : List (Value × List Bs)) : KeepP (LU w0 w1 vl v ps) := fun _ _ h hb => h.below hb
theorem LU.start {w0 w1 : World} {vl : Value} {ps : List (Value × List Bs)} (h : LL w1 w0.heap.size vl ps) (hb : Below w0.heap.size w0 w1) : LU w0 w1 vl vl ps w1 :=
  ⟨h, hb, ⟨rfl, rfl, rfl, Nat.le_refl _, fun _ _ _ => rfl⟩, Or.inl rfl⟩
/-- Other memory stays. -/
theorem LU.cell {w0 w1 : World} {vl v : Value} {ps : List (Value × List Bs)} {w : World} (h : LU w0 w1 vl v ps w) {N : Nat} (hN : N < w1.heap.size) (hv : vl.ownBlock ≠ some N) (i : Nat) : w.cell? ⟨N, i, none⟩ = w1.cell? ⟨N, i, none⟩ :=
  World.cell?_of_block (h.2.2.1.block N hN (fun e => hv e.symm))

/-- A line is put behind them, in a region that draws its order. -/
theorem step_line {w0 w1 wx : World} {vl v : Value} {ps : List (Value × List Bs)} {ops : Array Oper} {o : Oper} {f : Act} {K : Act → World → Prop} {Q : Exit → Act → World → Prop} {E : Prop} (hgd : o.guard = none) (s t : Operand)
    (ho : o.op = .call { callee := .builtin .append, args := #[s, t], argTypes := #[31, 31] }) (hs : f.eval s = v) (hU : LU w0 w1 vl v ps wx) (ws : List Bs) (hws : ws.length = 3) (cs : Array Value) (hcs : cs.toList = strs ws)
    {M M1 : Nat} (hM : wx.heap.size = M) (hM1 : M1 = M + 1) (hx : f.eval t = .slice (some ⟨M1, 0, none⟩) 1 1) (hlen : ps.length ≤ 1000000)
    (h : ∀ v' w', LU w0 w1 vl v' (ps ++ [(.slice (some ⟨M, 0, none⟩) 3 3, ws)]) w' → (∀ N i, N < wx.heap.size → v.ownBlock ≠ some N → w'.cell? ⟨N, i, none⟩ = wx.cell? ⟨N, i, none⟩) → K (f.put o.dst v') w') :
    if Region.wanted o (yielded ops f.tmps) = true then Oper.wp Tryz.prog o f ((wx.alloc (.cells cs 9)).alloc (.cells #[.slice (some ⟨M, 0, none⟩) 3 3] 37)) K Q else E := by
  have hw : Region.wanted o (yielded ops f.tmps) = true := by simp [Region.wanted, hgd]
  rw [if_pos hw]
  subst hM hM1
  obtain ⟨i0, hi, hz0, hz1, hz2⟩ := Sc.info_parts Sc.infoStrs
  have hb1 := Sc.boxB wx (.cells cs 9)
  have hb2 := Sc.boxB (wx.alloc (.cells cs 9)) (.cells #[.slice (some ⟨wx.heap.size, 0, none⟩) 3 3] 37)
  have hsz1 : (wx.alloc (.cells cs 9)).heap.size = wx.heap.size + 1 := by simp
  have hUx := hU.below (Sc.below_then hb1 hb2)
  have hblk : ((wx.alloc (.cells cs 9)).alloc (.cells #[.slice (some ⟨wx.heap.size, 0, none⟩) 3 3] 37)).heap[wx.heap.size]? = some (.cells cs 9 (0, 0)) := by
    rw [hb2.block wx.heap.size (by simp)]
    show (wx.heap.push _)[wx.heap.size]? = _
    rw [Array.getElem?_push, if_pos rfl]
  have hcl : cs.size = 3 := by
    have := congrArg List.length hcs
    rw [Sc.strs_length, hws] at this
    simpa using this
  have hww := hU.2.1.size
  have hown : OwnW ((wx.alloc (.cells cs 9)).alloc (.cells #[.slice (some ⟨wx.heap.size, 0, none⟩) 3 3] 37)) w0.heap.size (.slice (some ⟨wx.heap.size, 0, none⟩) 3 3) ws := by
    refine ⟨by rw [Sc.strs_length]; simp, Or.inr ⟨wx.heap.size, 3, cs, by rw [hws], hww, hblk, by rw [hws]; decide, ?_⟩⟩
    exact ⟨by decide, by rw [hcl], by rw [hcs, List.take_of_length_le (by rw [Sc.strs_length]; omega)]⟩
  have hst : Sc.St w0 v (.slice (some ⟨wx.heap.size, 0, none⟩) 3 3) ps ws ((wx.alloc (.cells cs 9)).alloc (.cells #[.slice (some ⟨wx.heap.size, 0, none⟩) 3 3] 37)) := by
    refine ⟨hUx.1, hown, fun p hp e => ?_, Or.inr fun e => ?_, hUx.2.1⟩
    · have := (World.ownsRow.lt (hU.1.2.1 p hp).1 _ e.symm).2
      simp only at this
      omega
    · have := (World.ownsRow.lt hU.1.1 _ e.symm).2
      simp only at this
      omega
  obtain ⟨v1, w', hr, hown1, hg1, _, hat⟩ := run_append_own_at (P := Tryz.prog) ((wx.alloc (.cells cs 9)).alloc (.cells #[.slice (some ⟨wx.heap.size, 0, none⟩) 3 3] 37)) w0.heap.size 31 o.type 37 i0 _ 1 24 Tryz.underlying31 hi hz0 hz1 hz2 rfl (by decide) v _ _ hUx.1.1 ⟨wx.heap.size + 1, 0, none⟩ 1 1 [.slice (some ⟨wx.heap.size, 0, none⟩) 3 3] rfl
    (World.news_of_block (cs := #[.slice (some ⟨wx.heap.size, 0, none⟩) 3 3]) (t := 37) (fr := (0, 0)) (by show ((wx.alloc (.cells cs 9)).heap.push _)[wx.heap.size + 1]? = _; rw [Array.getElem?_push, if_pos (by simp)])) (by simp [Value.oneCell']) (by unfold maxLen; omega) (by omega) (by simp; omega)
  have hnew := hst.line (by intro e; rw [e] at hws; cases hws) hown1 hg1 hat
  unfold Oper.wp execOp
  simp only [ho, resolve, invoke, builtin, Sem.run_bind, Sem.run_pure, Result.andThen_ok, List.map_toArray, List.map_cons, List.map_nil, hs, hx, hr]
  refine h v1 w' ⟨hnew.1, hnew.2.2.2.2, ?_, ?_⟩ fun N i hN hne => (World.cell?_of_block (hg1.block N (by simp; omega) (fun e => hne e.symm))).trans ((Sc.below_then hb1 hb2).cell (p := ⟨N, i, none⟩) hN)
  · have hg0 := hUx.2.2.1
    refine ⟨hg1.os.trans hg0.os, hg1.tape.trans hg0.tape, hg1.output.trans hg0.output, Nat.le_trans hg0.size hg1.size, fun k hk hn => ?_⟩
    refine (hg1.block k (Nat.lt_of_lt_of_le hk hg0.size) fun e => ?_).trans (hg0.block k hk hn)
    rcases hU.2.2.2 with e2 | ⟨j, e2, hj⟩
    · exact hn (by rw [← e2]; exact e)
    · rw [e2] at e
      have := Option.some.inj e
      omega
  · rcases hat with e | e
    · rw [e]; exact hU.2.2.2
    · have := hU.2.2.1.size
      exact Or.inr ⟨_, e, by simp; omega⟩

theorem pin_cells (p : Pn) : (#[.string ⟨#[119, 105, 116, 104]⟩, .string p.nm, .string (textV p.a p.b p.c)] : Array Value).toList = strs (pinL p) := by
  simp only [strs, pinL, bsV, List.map_cons, List.map_nil, Sc.ba_of]
  rfl
theorem edg_cells (e : Eg) : (#[.string ⟨#[116, 111]⟩, .string e.lb, .string ⟨(Lib.itoa e.to).toArray⟩] : Array Value).toList = strs (edgL e) := by
  simp only [strs, edgL, List.map_cons, List.map_nil, Sc.ba_of]
  rfl
/-- Numbers are spelled, in w0 and behind it. -/
def SpellAll (w0 : World) : Prop := ∀ W, Below w0.heap.size w0 W → ∀ n : Int, 0 ≤ n → n ≤ 999 → Spells W n ⟨(Lib.itoa n).toArray⟩
theorem SpellAll.print {w0 : World} (h : SpellAll w0) {a b c : Int} (hv : mayV a b c = true) (W : World) (hb : Below w0.heap.size w0 W) : Calls Tryz.prog 31 #[.agg #[.int .i64 a, .int .i64 b, .int .i64 c]] W fun e w' => e = .returned (.string (textV a b c)) ∧ Below W.heap.size W w' := by
  obtain ⟨a0, a1, b0, b1, c0, c1⟩ := may_all hv
  exact Print_any a b c W (fun _ => h W hb a (by omega) (by omega)) (fun _ => h W hb b (by omega) (by omega)) (fun _ => h W hb c (by omega) (by omega))
end Go.Proofs.YtjbohacllhjgmaaGreatDoor
namespace Go.Proofs.YtjbohacllhjgmaaGreatDoor
open Go.RowKit
open Sc (KeepP hide3 keepBelow Bs ba LL OwnW strs)
set_option maxRecDepth 100000

set_option maxHeartbeats 6400000 in
theorem appendLists_any {w0 w : World} {vl : Value} {ps : List (Value × List Bs)} {n : Nd} {vc ve : Value} (hb0 : Below w0.heap.size w0 w) (hll : LL w w0.heap.size vl ps) (hc : PinsAt w0 vc n.cx) (he : EdgesAt w0 ve n.ed) (hs : SpellAll w0)
    (hpv : ∀ p ∈ n.cx, mayV p.a p.b p.c = true) (hev : ∀ e ∈ n.ed, 0 ≤ e.to ∧ e.to ≤ 999) (hlp : ps.length ≤ 500000) (hlc : n.cx.length ≤ 1000) (hle : n.ed.length ≤ 1000) :
    Calls Tryz.prog 32 #[vl, .agg #[.string n.nm, .int .i64 n.a, .int .i64 n.b, .int .i64 n.c, vc, ve]] w fun e w' => ∃ v qs, e = .returned v ∧ LU w0 w vl v (ps ++ qs) w' ∧ qs.map (·.2) = listL n := by
  have HPR : Hid (∀ p ∈ n.cx, ∀ W, Below w0.heap.size w0 W → Calls Tryz.prog 31 #[.agg #[.int .i64 p.a, .int .i64 p.b, .int .i64 p.c]] W fun e w' => e = .returned (.string (textV p.a p.b p.c)) ∧ Below W.heap.size W w') := fun p hp W hb => hs.print (hpv p hp) W hb
  have HIT : Hid (∀ e ∈ n.ed, ∀ W, Below w0.heap.size w0 W → Calls Tryz.prog 46 #[.int .i64 e.to] W fun e' w' => e' = .returned (.string ⟨(Lib.itoa e.to).toArray⟩) ∧ Below W.heap.size W w') := fun e he W hb => hs W hb e.to (hev e he).1 (hev e he).2 W (Below.refl _ _)
  have HCX : Hid (∀ W, Below w0.heap.size w0 W → PinsAt W vc n.cx) := fun W hb => hc.below hb
  have HED : Hid (∀ W, Below w0.heap.size w0 W → EdgesAt W ve n.ed) := fun W hb => he.below hb
  obtain ⟨ac, cc, rfl⟩ := hc.sl
  obtain ⟨ae, ce, rfl⟩ := he.sl
  have hvl : vl.ownBlock ≠ some w.heap.size := fun e => by have := (World.ownsRow.lt hll.1 _ e).2; omega
  have HNB : Hid (BxNd (w.alloc (.cells #[.string n.nm, .int .i64 n.a, .int .i64 n.b, .int .i64 n.c, .slice ac n.cx.length cc, .slice ae n.ed.length ce] 43)) w.heap.size n (.slice ac n.cx.length cc) (.slice ae n.ed.length ce)) := BxNd.new rfl _ _ _
  have HFR : Hid (∀ v rs W, LU w0 (w.alloc (.cells #[.string n.nm, .int .i64 n.a, .int .i64 n.b, .int .i64 n.c, .slice ac n.cx.length cc, .slice ae n.ed.length ce] 43)) vl v rs W → LU w0 w vl v rs W) := fun v rs W h => ⟨h.1, h.2.1, ⟨h.2.2.1.os, h.2.2.1.tape, h.2.2.1.output, by have := h.2.2.1.size; simp at this; omega, fun k hk hn => (h.2.2.1.block k (by simp; omega) hn).trans ((boxB w (.cells #[.string n.nm, .int .i64 n.a, .int .i64 n.b, .int .i64 n.c, .slice ac n.cx.length cc, .slice ae n.ed.length ce] 43)).block k hk)⟩, h.2.2.2.imp id fun ⟨k, h1, h2⟩ => ⟨k, h1, by simp at h2; omega⟩⟩
  have HKN : Hid (∀ v rs W, LU w0 (w.alloc (.cells #[.string n.nm, .int .i64 n.a, .int .i64 n.b, .int .i64 n.c, .slice ac n.cx.length cc, .slice ae n.ed.length ce] 43)) vl v rs W → BxNd W w.heap.size n (.slice ac n.cx.length cc) (.slice ae n.ed.length ce)) := fun v rs W h => by
    obtain ⟨⟨h0, h1, h2, h3, h4, h5⟩, hg⟩ := HNB.out
    have q := fun i => h.cell (N := w.heap.size) (by simp) hvl i
    exact ⟨⟨by rw [q]; exact h0, by rw [q]; exact h1, by rw [q]; exact h2, by rw [q]; exact h3, by rw [q]; exact h4, by rw [q]; exact h5⟩, by have := h.2.2.1.size; simp at this; omega⟩
  have HSA : Hid (LU w0 (w.alloc (.cells #[.string n.nm, .int .i64 n.a, .int .i64 n.b, .int .i64 n.c, .slice ac n.cx.length cc, .slice ae n.ed.length ce] 43)) vl vl ps (w.alloc (.cells #[.string n.nm, .int .i64 n.a, .int .i64 n.b, .int .i64 n.c, .slice ac n.cx.length cc, .slice ae n.ed.length ce] 43))) := LU.start (hll.below (boxB _ _)) (below_then hb0 (boxB _ _))
  clear hb0 hll hc he hs hpv hev
  obtain ⟨W1, hW1⟩ : ∃ W1, W1 = w.alloc (.cells #[.string n.nm, .int .i64 n.a, .int .i64 n.b, .int .i64 n.c, .slice ac n.cx.length cc, .slice ae n.ed.length ce] 43) := ⟨_, rfl⟩
  have HSB : Hid (LU w0 W1 vl vl ps (w.alloc (.cells #[.string n.nm, .int .i64 n.a, .int .i64 n.b, .int .i64 n.c, .slice ac n.cx.length cc, .slice ae n.ed.length ce] 43))) := by unfold Hid; rw [hW1]; exact HSA.out
  rw [← hW1] at HFR HKN
  clear HSA hW1
  obtain ⟨⟨y0, y1, y2, y3, y4, y5⟩, y6⟩ := HNB.out
  go_enter Tryz.func32, Tryz.ntmps32
  go_wp2_with fail
  go_loopw [0, 12] (fun u i wr => ∃ (k : Nat) (qs : List (Value × List Bs)), k ≤ n.cx.length ∧ i = .int .i64 k ∧ qs.length = k ∧ LU w0 W1 vl u (ps ++ qs) wr ∧ qs.map (·.2) = (n.cx.take k).map pinL) (fun _ i _ => n.cx.length - (intOf i).toNat)
  case atStart => exact ⟨0, [], Nat.zero_le _, rfl, rfl, by rw [List.append_nil]; exact HSB.out, rfl⟩
  case round =>
    obtain ⟨k, qs, hk, rfl, hql, hlu, hqs⟩ := hrel
    have HLU := hide3 hlu
    have HQS := hide3 hqs
    have HLN : Hid ((ps ++ qs).length ≤ 1000000) := by unfold Hid; rw [List.length_append]; omega
    have HQL := hide3 hql
    clear hlu hqs hql
    by_cases hlt : k < n.cx.length
    · have hki : (k : Int) < (n.cx.length : Int) := by omega
      obtain ⟨ad, cap, hsl, _, hcs⟩ := HCX.out _ HLU.out.2.1
      simp only [Value.slice.injEq, true_and] at hsl
      obtain ⟨hsl, hcc⟩ := hsl
      rw [← hsl] at hcs
      clear hsl hcc
      obtain ⟨g, o, rfl, hg, hcs⟩ : ∃ g o, ac = some ⟨g, o, none⟩ ∧ g < wr.heap.size ∧ ∀ i (h : i < n.cx.length), PnIn wr g (o + i * 4) n.cx[i] := by
        rcases hcs with h | h
        · rw [h] at hlt; exact absurd hlt (Nat.not_lt_zero _)
        · exact h
      obtain ⟨⟨d0, d1, d2, d3⟩, _⟩ := hcs k hlt
      have HP1 := hide3 (HPR.out _ (List.getElem_mem hlt))
      have HTK : Hid ((n.cx.take (k + 1)).map pinL = (n.cx.take k).map pinL ++ [pinL n.cx[k]]) := by unfold Hid; rw [List.take_succ_eq_append_getElem hlt, List.map_append]; rfl
      generalize n.cx[k] = p at *
      have HLB : Hid (LU w0 W1 vl u0 (ps ++ qs) (wr.alloc (.cells #[.string p.nm, .int .i64 p.a, .int .i64 p.b, .int .i64 p.c] 49)).drew) := (HLU.out.below (boxB _ _)).below (Below.refl _ _).drew
      have HBP : Hid (BxPn (wr.alloc (.cells #[.string p.nm, .int .i64 p.a, .int .i64 p.b, .int .i64 p.c] 49)).drew wr.heap.size p) := (keepBxPn _ _).drew (BxPn.new rfl _)
      have hne : u0.ownBlock ≠ some wr.heap.size := fun e => by have := (World.ownsRow.lt HLU.out.1.1 _ e).2; omega
      have HNE := hide3 hne
      clear hcs hne
      go_wp2_with fail
      go_region_held3 (fun w' => w'.cell? ⟨wr.heap.size, 0, none⟩ = some (.string p.nm) ∧ w'.cell? ⟨wr.heap.size, 1, none⟩ = some (.int .i64 p.a) ∧ w'.cell? ⟨wr.heap.size, 2, none⟩ = some (.int .i64 p.b) ∧ w'.cell? ⟨wr.heap.size, 3, none⟩ = some (.int .i64 p.c)) (go_keep)
        (first
          | (go_at_call 31; refine (HP1.out _ HLB.out.2.1).mono ?_; rintro e w3 ⟨rfl, ok⟩; have HL3 := hide3 (HLB.out.below ok); obtain ⟨⟨q0, q1, q2, q3⟩, q4⟩ := keepBxPn _ _ _ _ HBP.out ok; clear ok)
          | (refine step_line (w0 := w0) (w1 := W1) (vl := vl) (v := u0) (ps := ps ++ qs) rfl (.tmp 16) (.tmp 23) rfl rfl HL3.out (pinL p) rfl _ (pin_cells p) rfl rfl rfl HLN.out ?_; intro v4 w4 hu4 hfr; have HU4 := hide3 hu4; have r0 := (hfr _ 0 q4 HNE.out).trans q0; have r1 := (hfr _ 1 q4 HNE.out).trans q1; have r2 := (hfr _ 2 q4 HNE.out).trans q2; have r3 := (hfr _ 3 q4 HNE.out).trans q3; clear hu4 hfr q0 q1 q2 q3))
      all_goals go_wp2
      all_goals exact ⟨⟨k + 1, qs ++ [(_, pinL p)], by omega, by go_num, by simp; exact HQL.out, by rw [← List.append_assoc]; exact HU4.out, by rw [List.map_append, HTK.out, HQS.out]; rfl⟩, by simp [intOf]; omega⟩
    · obtain rfl : k = n.cx.length := by omega
      rw [List.take_length] at HQS
      obtain ⟨⟨z0, z1, z2, z3, z4, z5⟩, z6⟩ := HKN.out _ _ _ HLU.out
      clear y0 y1 y2 y3 y4 y5
      go_wp2_with fail
      go_loopw [0, 29] (fun u i wr => ∃ (j : Nat) (rs : List (Value × List Bs)), j ≤ n.ed.length ∧ i = .int .i64 j ∧ rs.length = j ∧ LU w0 W1 vl u (ps ++ qs ++ rs) wr ∧ rs.map (·.2) = (n.ed.take j).map edgL) (fun _ i _ => n.ed.length - (intOf i).toNat)
      case atStart => exact ⟨0, [], Nat.zero_le _, rfl, rfl, by rw [List.append_nil]; exact HLU.out, rfl⟩
      case round =>
        obtain ⟨j, rs, hk, rfl, hql, hlu, hqs⟩ := hrel
        have HMU := hide3 hlu
        have HRS := hide3 hqs
        have HMN : Hid ((ps ++ qs ++ rs).length ≤ 1000000) := by unfold Hid; have := HQL.out; rw [List.length_append, List.length_append]; omega
        have HRL := hide3 hql
        clear hlu hqs hql
        by_cases hlt : j < n.ed.length
        · have hki : (j : Int) < (n.ed.length : Int) := by omega
          obtain ⟨ad, cap, hsl, _, hcs⟩ := HED.out _ HMU.out.2.1
          simp only [Value.slice.injEq, true_and] at hsl
          obtain ⟨hsl, hcc⟩ := hsl
          rw [← hsl] at hcs
          clear hsl hcc
          obtain ⟨g, o, rfl, hg, hcs⟩ : ∃ g o, ae = some ⟨g, o, none⟩ ∧ g < wr.heap.size ∧ ∀ i (h : i < n.ed.length), EgIn wr g (o + i * 2) n.ed[i] := by
            rcases hcs with h | h
            · rw [h] at hlt; exact absurd hlt (Nat.not_lt_zero _)
            · exact h
          obtain ⟨⟨d0, d1⟩, _⟩ := hcs j hlt
          have HP1 := hide3 (HIT.out _ (List.getElem_mem hlt))
          have HTK : Hid ((n.ed.take (j + 1)).map edgL = (n.ed.take j).map edgL ++ [edgL n.ed[j]]) := by unfold Hid; rw [List.take_succ_eq_append_getElem hlt, List.map_append]; rfl
          generalize n.ed[j] = p at *
          have HMB : Hid (LU w0 W1 vl u0 (ps ++ qs ++ rs) (wr.alloc (.cells #[.string p.lb, .int .i64 p.to] 51)).drew) := (HMU.out.below (boxB _ _)).below (Below.refl _ _).drew
          have HBP : Hid (BxEg (wr.alloc (.cells #[.string p.lb, .int .i64 p.to] 51)).drew wr.heap.size p) := (keepBxEg _ _).drew (BxEg.new rfl _)
          have hne : u0.ownBlock ≠ some wr.heap.size := fun e => by have := (World.ownsRow.lt HMU.out.1.1 _ e).2; omega
          have HNE := hide3 hne
          clear hcs hne
          go_wp2_with fail
          go_region_held3 (fun w' => w'.cell? ⟨wr.heap.size, 0, none⟩ = some (.string p.lb) ∧ w'.cell? ⟨wr.heap.size, 1, none⟩ = some (.int .i64 p.to)) (go_keep)
            (first
              | (go_at_call 46; refine (HP1.out _ HMB.out.2.1).mono ?_; rintro e w3 ⟨rfl, ok⟩; have HL3 := hide3 (HMB.out.below ok); obtain ⟨⟨q0, q1⟩, q4⟩ := keepBxEg _ _ _ _ HBP.out ok; clear ok)
              | (refine step_line (w0 := w0) (w1 := W1) (vl := vl) (v := u0) (ps := ps ++ qs ++ rs) rfl (.tmp 33) (.tmp 40) rfl rfl HL3.out (edgL p) rfl _ (edg_cells p) rfl rfl rfl HMN.out ?_; intro v4 w4 hu4 hfr; have HU4 := hide3 hu4; have r0 := (hfr _ 0 q4 HNE.out).trans q0; have r1 := (hfr _ 1 q4 HNE.out).trans q1; clear hu4 hfr q0 q1))
          all_goals go_wp2
          all_goals exact ⟨⟨j + 1, rs ++ [(_, edgL p)], by omega, by go_num, by simp; exact HRL.out, by rw [← List.append_assoc]; exact HU4.out, by rw [List.map_append, HTK.out, HRS.out]; rfl⟩, by simp [intOf]; omega⟩
        · obtain rfl : j = n.ed.length := by omega
          rw [List.take_length] at HRS
          go_wp2
          go_ret
          exact ⟨_, qs ++ rs, rfl, HFR.out _ _ _ (by rw [← List.append_assoc]; exact HMU.out), by rw [List.map_append, HQS.out, HRS.out]; rfl⟩
end Go.Proofs.YtjbohacllhjgmaaGreatDoor
namespace Go.Proofs.YtjbohacllhjgmaaGreatDoor
open Go.RowKit
set_option maxRecDepth 100000

def OKr (w : World) (N : Nat) (bs : List Bx) (w1 : World) : Prop := OKs w bs w1 ∧ w1.frozen? ⟨N, 0, none⟩ = false ∧ w1.frozen? ⟨N, 1, none⟩ = false ∧ w1.frozen? ⟨N, 2, none⟩ = false ∧ N < w1.heap.size

theorem OKr.below {w : World} {N : Nat} {bs : List Bx} {w1 w' : World} (h : OKr w N bs w1) (hb : Below w1.heap.size w1 w') : OKr w N bs w' :=
  ⟨h.1.below hb, (hb.frozen (p := ⟨N, 0, none⟩) h.2.2.2.2).trans h.2.1, (hb.frozen (p := ⟨N, 1, none⟩) h.2.2.2.2).trans h.2.2.1, (hb.frozen (p := ⟨N, 2, none⟩) h.2.2.2.2).trans h.2.2.2.1, Nat.lt_of_lt_of_le h.2.2.2.2 hb.size⟩
theorem OKr.drew {w : World} {N : Nat} {bs : List Bx} {w1 : World} (h : OKr w N bs w1) : OKr w N bs w1.drew := ⟨h.1.drew, h.2⟩
theorem OKr.box {w : World} {N : Nat} {bs : List Bx} {w1 : World} (h : OKr w N bs w1) {M : Nat} (hM : w1.heap.size = M) (x y z : Value) : OKr w N (⟨M, x, y, z⟩ :: bs) (w1.alloc (.cells #[x, y, z] 39)) := by
  have := h.below (boxB w1 (.cells #[x, y, z] 39))
  exact ⟨h.1.box hM x y z, this.2⟩
theorem OKr.start {w : World} {bs : List Bx} {w1 : World} (h : OKs w bs w1) {M : Nat} (hM : w1.heap.size = M) (x y z : Value) : OKr w M (⟨M, x, y, z⟩ :: bs) (w1.alloc (.cells #[x, y, z] 39)) := by
  refine ⟨h.box hM x y z, ?_⟩
  subst hM
  refine ⟨?_, ?_, ?_, ?_⟩
  · simp
  · simp
  · simp
  · show w1.heap.size < (w1.alloc _).heap.size
    simp

theorem liftr {P : Program} {f : Nat} {args : Array Value} {R : Ending} {w : World} (h : ∀ w1, Below w.heap.size w w1 → Calls P f args w1 fun e w' => e = R ∧ Below w1.heap.size w1 w') {N : Nat} {bs : List Bx} (w1 : World) (ok : OKr w N bs w1) :
    Calls P f args w1 fun e w' => e = R ∧ OKr w N bs w' := by
  refine (h w1 ok.1.1).mono ?_
  rintro e w' ⟨rfl, hb⟩
  exact ⟨rfl, ok.below hb⟩
end Go.Proofs.YtjbohacllhjgmaaGreatDoor
namespace Go.Proofs.YtjbohacllhjgmaaGreatDoor
open Go.RowKit
set_option maxRecDepth 100000

set_option maxHeartbeats 4000000 in
theorem Parse_ok (s A R B C : ByteArray) (b1 b2 : Bool) (x y z : Int) (w : World)
    (HC : Hid (∀ w1, Below w.heap.size w w1 → Calls Tryz.prog 68 #[.string s, .string ⟨#[46]⟩] w1 fun e w' => e = .returned (.tuple #[.string A, .string R, .bool b1]) ∧ Below w1.heap.size w1 w'))
    (HD : Hid (∀ w1, Below w.heap.size w w1 → Calls Tryz.prog 68 #[.string R, .string ⟨#[46]⟩] w1 fun e w' => e = .returned (.tuple #[.string B, .string C, .bool b2]) ∧ Below w1.heap.size w1 w'))
    (HX : Hid (∀ w1, Below w.heap.size w w1 → Calls Tryz.prog 69 #[.string A] w1 fun e w' => e = .returned (.int .i64 x) ∧ Below w1.heap.size w1 w'))
    (HY : Hid (∀ w1, Below w.heap.size w w1 → Calls Tryz.prog 69 #[.string B] w1 fun e w' => e = .returned (.int .i64 y) ∧ Below w1.heap.size w1 w'))
    (HZ : Hid (∀ w1, Below w.heap.size w w1 → Calls Tryz.prog 69 #[.string C] w1 fun e w' => e = .returned (.int .i64 z) ∧ Below w1.heap.size w1 w'))
    (HM : Hid (∀ w1, Below w.heap.size w w1 → Calls Tryz.prog 40 #[.agg #[.int .i64 x, .int .i64 y, .int .i64 z]] w1 fun e w' => e = .returned (.bool true) ∧ Below w1.heap.size w1 w'))
    (HP : Hid (∀ w1, Below w.heap.size w w1 → Calls Tryz.prog 31 #[.agg #[.int .i64 x, .int .i64 y, .int .i64 z]] w1 fun e w' => e = .returned (.string s) ∧ Below w1.heap.size w1 w')) :
    Calls Tryz.prog 63 #[.string s] w fun e w' => e = .returned (.tuple #[.agg #[.int .i64 x, .int .i64 y, .int .i64 z], .bool true]) ∧ Below w.heap.size w w' := by
  have t1 : True := trivial
  have t2 : True := trivial
  have t3 : True := trivial
  have t4 : True := trivial
  have t5 : True := trivial
  have HO : Hid (OKr w w.heap.size [⟨w.heap.size, .int .i64 0, .int .i64 0, .int .i64 0⟩] (w.alloc (.cells #[.int .i64 0, .int .i64 0, .int .i64 0] 39))) := OKr.start (OKs.nil w) rfl _ _ _
  go_enter Tryz.func63, Tryz.ntmps63
  go_wp2_with (first
    | (go_at_call 68; clear t1; refine (liftr HC.out (N := w.heap.size) (bs := [⟨w.heap.size, .int .i64 0, .int .i64 0, .int .i64 0⟩]) _ ?_).mono ?_; exact HO.out; clear HO; rintro e w1 ⟨rfl, ok⟩; have HO : Hid (OKr w w.heap.size [⟨w.heap.size, .int .i64 0, .int .i64 0, .int .i64 0⟩] w1) := ok; clear ok; obtain ⟨_, f0, f1, f2, f3⟩ := HO.out; obtain ⟨x0, y0, z0, s0⟩ := HO.out.1.one)
    | (go_at_call 68; clear t2; refine (liftr HD.out (N := w.heap.size) (bs := [⟨w.heap.size, .int .i64 0, .int .i64 0, .int .i64 0⟩]) _ ?_).mono ?_; exact HO.out; clear HO; rintro e w2 ⟨rfl, ok⟩; have HO : Hid (OKr w w.heap.size [⟨w.heap.size, .int .i64 0, .int .i64 0, .int .i64 0⟩] w2) := ok; clear ok; obtain ⟨_, f0, f1, f2, f3⟩ := HO.out; obtain ⟨x0, y0, z0, s0⟩ := HO.out.1.one)
    | (go_at_call 69; clear t3; refine (liftr HX.out (N := w.heap.size) (bs := [⟨w.heap.size, .int .i64 0, .int .i64 0, .int .i64 0⟩]) _ ?_).mono ?_; exact HO.out; clear HO; rintro e w3 ⟨rfl, ok⟩; have HO : Hid (OKr w w.heap.size [⟨w.heap.size, .int .i64 0, .int .i64 0, .int .i64 0⟩] w3) := ok; clear ok; obtain ⟨_, f0, f1, f2, f3⟩ := HO.out; obtain ⟨x0, y0, z0, s0⟩ := HO.out.1.one)
    | (go_at_call 69; clear t4; refine (liftr HY.out (N := w.heap.size) (bs := [⟨w.heap.size, .int .i64 0, .int .i64 0, .int .i64 0⟩]) _ ?_).mono ?_; exact HO.out; clear HO; rintro e w4 ⟨rfl, ok⟩; have HO : Hid (OKr w w.heap.size [⟨w.heap.size, .int .i64 0, .int .i64 0, .int .i64 0⟩] w4) := ok; clear ok; obtain ⟨_, f0, f1, f2, f3⟩ := HO.out; obtain ⟨x0, y0, z0, s0⟩ := HO.out.1.one)
    | (go_at_call 69; clear t5; refine (liftr HZ.out (N := w.heap.size) (bs := [⟨w.heap.size, .int .i64 0, .int .i64 0, .int .i64 0⟩]) _ ?_).mono ?_; exact HO.out; clear HO; rintro e w5 ⟨rfl, ok⟩; have HO : Hid (OKr w w.heap.size [⟨w.heap.size, .int .i64 0, .int .i64 0, .int .i64 0⟩] w5) := ok; clear ok; obtain ⟨_, f0, f1, f2, f3⟩ := HO.out; obtain ⟨x0, y0, z0, s0⟩ := HO.out.1.one)
    | (go_at_call 40; refine (liftr HM.out (N := w.heap.size) (bs := [⟨w5.heap.size, .int .i64 x, .int .i64 y, .int .i64 z⟩, ⟨w.heap.size, .int .i64 0, .int .i64 0, .int .i64 0⟩]) _ ?_).mono ?_; exact HO.out.box rfl _ _ _; clear HO; rintro e w6 ⟨rfl, ok⟩; have HO : Hid (OKr w w.heap.size [⟨w5.heap.size, .int .i64 x, .int .i64 y, .int .i64 z⟩, ⟨w.heap.size, .int .i64 0, .int .i64 0, .int .i64 0⟩] w6) := ok; clear ok; obtain ⟨_, f0, f1, f2, f3⟩ := HO.out; obtain ⟨x0, y0, z0, s0⟩ := HO.out.1.one; obtain ⟨x1, y1, z1, s1⟩ := HO.out.1.two)
    | (go_at_call 31; refine (liftr HP.out (N := w.heap.size) (bs := [⟨w5.heap.size, .int .i64 x, .int .i64 y, .int .i64 z⟩, ⟨w.heap.size, .int .i64 0, .int .i64 0, .int .i64 0⟩]) _ ?_).mono ?_; exact HO.out; clear HO; rintro e w7 ⟨rfl, ok⟩; have HO : Hid (OKr w w.heap.size [⟨w5.heap.size, .int .i64 x, .int .i64 y, .int .i64 z⟩, ⟨w.heap.size, .int .i64 0, .int .i64 0, .int .i64 0⟩] w7) := ok; clear ok; obtain ⟨_, f0, f1, f2, f3⟩ := HO.out; obtain ⟨x0, y0, z0, s0⟩ := HO.out.1.one; obtain ⟨x1, y1, z1, s1⟩ := HO.out.1.two))
  obtain ⟨u0, u1, u2⟩ := setV x1 y1 z1
  try simp only [Exit.inBlock, Exit.then]
  refine bodyPost_ret (by simp [results, Tryz.results63, u0, u1, u2, go_sem]; try rfl) rfl ?_
  exact ⟨ret_ver rfl rfl rfl rfl, below_setV (Nat.le_refl _) HO.out.1.1⟩

set_option maxHeartbeats 4000000 in
theorem Parse_no (s A R B C : ByteArray) (b1 b2 : Bool) (x y z : Int) (w : World)
    (HC : Hid (∀ w1, Below w.heap.size w w1 → Calls Tryz.prog 68 #[.string s, .string ⟨#[46]⟩] w1 fun e w' => e = .returned (.tuple #[.string A, .string R, .bool b1]) ∧ Below w1.heap.size w1 w'))
    (HD : Hid (∀ w1, Below w.heap.size w w1 → Calls Tryz.prog 68 #[.string R, .string ⟨#[46]⟩] w1 fun e w' => e = .returned (.tuple #[.string B, .string C, .bool b2]) ∧ Below w1.heap.size w1 w'))
    (HX : Hid (∀ w1, Below w.heap.size w w1 → Calls Tryz.prog 69 #[.string A] w1 fun e w' => e = .returned (.int .i64 x) ∧ Below w1.heap.size w1 w'))
    (HY : Hid (∀ w1, Below w.heap.size w w1 → Calls Tryz.prog 69 #[.string B] w1 fun e w' => e = .returned (.int .i64 y) ∧ Below w1.heap.size w1 w'))
    (HZ : Hid (∀ w1, Below w.heap.size w w1 → Calls Tryz.prog 69 #[.string C] w1 fun e w' => e = .returned (.int .i64 z) ∧ Below w1.heap.size w1 w'))
    (HM : Hid (∀ w1, Below w.heap.size w w1 → Calls Tryz.prog 40 #[.agg #[.int .i64 x, .int .i64 y, .int .i64 z]] w1 fun e w' => e = .returned (.bool false) ∧ Below w1.heap.size w1 w')) :
    Calls Tryz.prog 63 #[.string s] w fun e w' => e = .returned (.tuple #[.agg #[.int .i64 0, .int .i64 0, .int .i64 0], .bool false]) ∧ Below w.heap.size w w' := by
  have t1 : True := trivial
  have t2 : True := trivial
  have t3 : True := trivial
  have t4 : True := trivial
  have t5 : True := trivial
  have HO : Hid (OKr w w.heap.size [⟨w.heap.size, .int .i64 0, .int .i64 0, .int .i64 0⟩] (w.alloc (.cells #[.int .i64 0, .int .i64 0, .int .i64 0] 39))) := OKr.start (OKs.nil w) rfl _ _ _
  go_enter Tryz.func63, Tryz.ntmps63
  go_wp2_with (first
    | (go_at_call 68; clear t1; refine (liftr HC.out (N := w.heap.size) (bs := [⟨w.heap.size, .int .i64 0, .int .i64 0, .int .i64 0⟩]) _ ?_).mono ?_; exact HO.out; clear HO; rintro e w1 ⟨rfl, ok⟩; have HO : Hid (OKr w w.heap.size [⟨w.heap.size, .int .i64 0, .int .i64 0, .int .i64 0⟩] w1) := ok; clear ok; obtain ⟨_, f0, f1, f2, f3⟩ := HO.out; obtain ⟨x0, y0, z0, s0⟩ := HO.out.1.one)
    | (go_at_call 68; clear t2; refine (liftr HD.out (N := w.heap.size) (bs := [⟨w.heap.size, .int .i64 0, .int .i64 0, .int .i64 0⟩]) _ ?_).mono ?_; exact HO.out; clear HO; rintro e w2 ⟨rfl, ok⟩; have HO : Hid (OKr w w.heap.size [⟨w.heap.size, .int .i64 0, .int .i64 0, .int .i64 0⟩] w2) := ok; clear ok; obtain ⟨_, f0, f1, f2, f3⟩ := HO.out; obtain ⟨x0, y0, z0, s0⟩ := HO.out.1.one)
    | (go_at_call 69; clear t3; refine (liftr HX.out (N := w.heap.size) (bs := [⟨w.heap.size, .int .i64 0, .int .i64 0, .int .i64 0⟩]) _ ?_).mono ?_; exact HO.out; clear HO; rintro e w3 ⟨rfl, ok⟩; have HO : Hid (OKr w w.heap.size [⟨w.heap.size, .int .i64 0, .int .i64 0, .int .i64 0⟩] w3) := ok; clear ok; obtain ⟨_, f0, f1, f2, f3⟩ := HO.out; obtain ⟨x0, y0, z0, s0⟩ := HO.out.1.one)
    | (go_at_call 69; clear t4; refine (liftr HY.out (N := w.heap.size) (bs := [⟨w.heap.size, .int .i64 0, .int .i64 0, .int .i64 0⟩]) _ ?_).mono ?_; exact HO.out; clear HO; rintro e w4 ⟨rfl, ok⟩; have HO : Hid (OKr w w.heap.size [⟨w.heap.size, .int .i64 0, .int .i64 0, .int .i64 0⟩] w4) := ok; clear ok; obtain ⟨_, f0, f1, f2, f3⟩ := HO.out; obtain ⟨x0, y0, z0, s0⟩ := HO.out.1.one)
    | (go_at_call 69; clear t5; refine (liftr HZ.out (N := w.heap.size) (bs := [⟨w.heap.size, .int .i64 0, .int .i64 0, .int .i64 0⟩]) _ ?_).mono ?_; exact HO.out; clear HO; rintro e w5 ⟨rfl, ok⟩; have HO : Hid (OKr w w.heap.size [⟨w.heap.size, .int .i64 0, .int .i64 0, .int .i64 0⟩] w5) := ok; clear ok; obtain ⟨_, f0, f1, f2, f3⟩ := HO.out; obtain ⟨x0, y0, z0, s0⟩ := HO.out.1.one)
    | (go_at_call 40; refine (liftr HM.out (N := w.heap.size) (bs := [⟨w5.heap.size, .int .i64 x, .int .i64 y, .int .i64 z⟩, ⟨w.heap.size, .int .i64 0, .int .i64 0, .int .i64 0⟩]) _ ?_).mono ?_; exact HO.out.box rfl _ _ _; clear HO; rintro e w6 ⟨rfl, ok⟩; have HO : Hid (OKr w w.heap.size [⟨w5.heap.size, .int .i64 x, .int .i64 y, .int .i64 z⟩, ⟨w.heap.size, .int .i64 0, .int .i64 0, .int .i64 0⟩] w6) := ok; clear ok; obtain ⟨_, f0, f1, f2, f3⟩ := HO.out; obtain ⟨x0, y0, z0, s0⟩ := HO.out.1.one; obtain ⟨x1, y1, z1, s1⟩ := HO.out.1.two))
  obtain ⟨u0, u1, u2⟩ := setV x1 y1 z1
  try simp only [Exit.inBlock, Exit.then]
  refine bodyPost_ret (by simp [results, Tryz.results63, u0, u1, u2, go_sem]; try rfl) rfl ?_
  exact ⟨ret_ver rfl rfl rfl rfl, below_setV (Nat.le_refl _) HO.out.1.1⟩

set_option maxHeartbeats 4000000 in
theorem Parse_other (s A R B C T : ByteArray) (b1 b2 : Bool) (x y z : Int) (w : World) (hT : T.toList ≠ s.toList)
    (HC : Hid (∀ w1, Below w.heap.size w w1 → Calls Tryz.prog 68 #[.string s, .string ⟨#[46]⟩] w1 fun e w' => e = .returned (.tuple #[.string A, .string R, .bool b1]) ∧ Below w1.heap.size w1 w'))
    (HD : Hid (∀ w1, Below w.heap.size w w1 → Calls Tryz.prog 68 #[.string R, .string ⟨#[46]⟩] w1 fun e w' => e = .returned (.tuple #[.string B, .string C, .bool b2]) ∧ Below w1.heap.size w1 w'))
    (HX : Hid (∀ w1, Below w.heap.size w w1 → Calls Tryz.prog 69 #[.string A] w1 fun e w' => e = .returned (.int .i64 x) ∧ Below w1.heap.size w1 w'))
    (HY : Hid (∀ w1, Below w.heap.size w w1 → Calls Tryz.prog 69 #[.string B] w1 fun e w' => e = .returned (.int .i64 y) ∧ Below w1.heap.size w1 w'))
    (HZ : Hid (∀ w1, Below w.heap.size w w1 → Calls Tryz.prog 69 #[.string C] w1 fun e w' => e = .returned (.int .i64 z) ∧ Below w1.heap.size w1 w'))
    (HM : Hid (∀ w1, Below w.heap.size w w1 → Calls Tryz.prog 40 #[.agg #[.int .i64 x, .int .i64 y, .int .i64 z]] w1 fun e w' => e = .returned (.bool true) ∧ Below w1.heap.size w1 w'))
    (HP : Hid (∀ w1, Below w.heap.size w w1 → Calls Tryz.prog 31 #[.agg #[.int .i64 x, .int .i64 y, .int .i64 z]] w1 fun e w' => e = .returned (.string T) ∧ Below w1.heap.size w1 w')) :
    Calls Tryz.prog 63 #[.string s] w fun e w' => e = .returned (.tuple #[.agg #[.int .i64 0, .int .i64 0, .int .i64 0], .bool false]) ∧ Below w.heap.size w w' := by
  have t1 : True := trivial
  have t2 : True := trivial
  have t3 : True := trivial
  have t4 : True := trivial
  have t5 : True := trivial
  have hs1 := beq_eq_false_iff_ne.2 hT
  clear hT
  have HO : Hid (OKr w w.heap.size [⟨w.heap.size, .int .i64 0, .int .i64 0, .int .i64 0⟩] (w.alloc (.cells #[.int .i64 0, .int .i64 0, .int .i64 0] 39))) := OKr.start (OKs.nil w) rfl _ _ _
  go_enter Tryz.func63, Tryz.ntmps63
  go_wp2_with (first
    | (go_at_call 68; clear t1; refine (liftr HC.out (N := w.heap.size) (bs := [⟨w.heap.size, .int .i64 0, .int .i64 0, .int .i64 0⟩]) _ ?_).mono ?_; exact HO.out; clear HO; rintro e w1 ⟨rfl, ok⟩; have HO : Hid (OKr w w.heap.size [⟨w.heap.size, .int .i64 0, .int .i64 0, .int .i64 0⟩] w1) := ok; clear ok; obtain ⟨_, f0, f1, f2, f3⟩ := HO.out; obtain ⟨x0, y0, z0, s0⟩ := HO.out.1.one)
    | (go_at_call 68; clear t2; refine (liftr HD.out (N := w.heap.size) (bs := [⟨w.heap.size, .int .i64 0, .int .i64 0, .int .i64 0⟩]) _ ?_).mono ?_; exact HO.out; clear HO; rintro e w2 ⟨rfl, ok⟩; have HO : Hid (OKr w w.heap.size [⟨w.heap.size, .int .i64 0, .int .i64 0, .int .i64 0⟩] w2) := ok; clear ok; obtain ⟨_, f0, f1, f2, f3⟩ := HO.out; obtain ⟨x0, y0, z0, s0⟩ := HO.out.1.one)
    | (go_at_call 69; clear t3; refine (liftr HX.out (N := w.heap.size) (bs := [⟨w.heap.size, .int .i64 0, .int .i64 0, .int .i64 0⟩]) _ ?_).mono ?_; exact HO.out; clear HO; rintro e w3 ⟨rfl, ok⟩; have HO : Hid (OKr w w.heap.size [⟨w.heap.size, .int .i64 0, .int .i64 0, .int .i64 0⟩] w3) := ok; clear ok; obtain ⟨_, f0, f1, f2, f3⟩ := HO.out; obtain ⟨x0, y0, z0, s0⟩ := HO.out.1.one)
    | (go_at_call 69; clear t4; refine (liftr HY.out (N := w.heap.size) (bs := [⟨w.heap.size, .int .i64 0, .int .i64 0, .int .i64 0⟩]) _ ?_).mono ?_; exact HO.out; clear HO; rintro e w4 ⟨rfl, ok⟩; have HO : Hid (OKr w w.heap.size [⟨w.heap.size, .int .i64 0, .int .i64 0, .int .i64 0⟩] w4) := ok; clear ok; obtain ⟨_, f0, f1, f2, f3⟩ := HO.out; obtain ⟨x0, y0, z0, s0⟩ := HO.out.1.one)
    | (go_at_call 69; clear t5; refine (liftr HZ.out (N := w.heap.size) (bs := [⟨w.heap.size, .int .i64 0, .int .i64 0, .int .i64 0⟩]) _ ?_).mono ?_; exact HO.out; clear HO; rintro e w5 ⟨rfl, ok⟩; have HO : Hid (OKr w w.heap.size [⟨w.heap.size, .int .i64 0, .int .i64 0, .int .i64 0⟩] w5) := ok; clear ok; obtain ⟨_, f0, f1, f2, f3⟩ := HO.out; obtain ⟨x0, y0, z0, s0⟩ := HO.out.1.one)
    | (go_at_call 40; refine (liftr HM.out (N := w.heap.size) (bs := [⟨w5.heap.size, .int .i64 x, .int .i64 y, .int .i64 z⟩, ⟨w.heap.size, .int .i64 0, .int .i64 0, .int .i64 0⟩]) _ ?_).mono ?_; exact HO.out.box rfl _ _ _; clear HO; rintro e w6 ⟨rfl, ok⟩; have HO : Hid (OKr w w.heap.size [⟨w5.heap.size, .int .i64 x, .int .i64 y, .int .i64 z⟩, ⟨w.heap.size, .int .i64 0, .int .i64 0, .int .i64 0⟩] w6) := ok; clear ok; obtain ⟨_, f0, f1, f2, f3⟩ := HO.out; obtain ⟨x0, y0, z0, s0⟩ := HO.out.1.one; obtain ⟨x1, y1, z1, s1⟩ := HO.out.1.two)
    | (go_at_call 31; refine (liftr HP.out (N := w.heap.size) (bs := [⟨w5.heap.size, .int .i64 x, .int .i64 y, .int .i64 z⟩, ⟨w.heap.size, .int .i64 0, .int .i64 0, .int .i64 0⟩]) _ ?_).mono ?_; exact HO.out; clear HO; rintro e w7 ⟨rfl, ok⟩; have HO : Hid (OKr w w.heap.size [⟨w5.heap.size, .int .i64 x, .int .i64 y, .int .i64 z⟩, ⟨w.heap.size, .int .i64 0, .int .i64 0, .int .i64 0⟩] w7) := ok; clear ok; obtain ⟨_, f0, f1, f2, f3⟩ := HO.out; obtain ⟨x0, y0, z0, s0⟩ := HO.out.1.one; obtain ⟨x1, y1, z1, s1⟩ := HO.out.1.two))
  obtain ⟨u0, u1, u2⟩ := setV x1 y1 z1
  try simp only [Exit.inBlock, Exit.then]
  refine bodyPost_ret (by simp [results, Tryz.results63, u0, u1, u2, go_sem]; try rfl) rfl ?_
  exact ⟨ret_ver rfl rfl rfl rfl, below_setV (Nat.le_refl _) HO.out.1.1⟩

end Go.Proofs.YtjbohacllhjgmaaGreatDoor
namespace Go.Proofs.YtjbohacllhjgmaaGreatDoor
open Go.RowKit
set_option maxRecDepth 100000

def pA (l : List UInt8) : Int := numV (Lib.cut l [46]).1
def pB (l : List UInt8) : Int := numV (Lib.cut (Lib.cut l [46]).2.1 [46]).1
def pC (l : List UInt8) : Int := numV (Lib.cut (Lib.cut l [46]).2.1 [46]).2.1
/-- Is a text a version's? -/
def okP (s : ByteArray) : Bool := mayV (pA s.data.toList) (pB s.data.toList) (pC s.data.toList) && decide (textV (pA s.data.toList) (pB s.data.toList) (pC s.data.toList) = s)
def resA (s : ByteArray) : Int := if okP s then pA s.data.toList else 0
def resB (s : ByteArray) : Int := if okP s then pB s.data.toList else 0
def resC (s : ByteArray) : Int := if okP s then pC s.data.toList else 0

theorem cut_le (l sep : List UInt8) : (Lib.cut l sep).1.length ≤ l.length ∧ (Lib.cut l sep).2.1.length ≤ l.length := by
  unfold Lib.cut
  split
  · simp; omega
  · simp

theorem bytes_list (l : List UInt8) : (⟨l.toArray⟩ : ByteArray).data.toList = l := by simp
theorem bytes_size (l : List UInt8) : (⟨l.toArray⟩ : ByteArray).size = l.length := by show l.toArray.size = _; simp
theorem list_size (s : ByteArray) : s.data.toList.length = s.size := rfl

theorem Cut_on {W : World} (he : Env W) (s : ByteArray) (hs : s.size < 4294967281) (w1 : World) (hb : Below W.heap.size W w1) :
    Calls Tryz.prog 68 #[.string s, .string ⟨#[46]⟩] w1 fun e w' => e = .returned (.tuple #[.string ⟨(Lib.cut s.data.toList [46]).1.toArray⟩, .string ⟨(Lib.cut s.data.toList [46]).2.1.toArray⟩, .bool (Lib.cut s.data.toList [46]).2.2]) ∧ Below w1.heap.size w1 w' := by
  obtain ⟨m, hm⟩ := (he.below hb).max
  refine (Tryz.strings_Cut s ⟨#[46]⟩ m w1 hs hm).mono ?_
  rintro e w' ⟨rfl, n, rfl⟩
  exact ⟨rfl, below_draws (Below.refl _ _) n⟩

theorem bytes_same {s t : ByteArray} (h : s.toList = t.toList) : s = t := by
  rw [ByteArray.toList_eq, ByteArray.toList_eq] at h
  cases s; cases t
  simp only [ByteArray.mk.injEq]
  exact Array.toList_inj.1 h

theorem Parse_any (s : ByteArray) (hs : s.size < 4294967281) (w : World) (he : Env w) :
    Calls Tryz.prog 63 #[.string s] w fun e w' => e = .returned (.tuple #[.agg #[.int .i64 (resA s), .int .i64 (resB s), .int .i64 (resC s)], .bool (okP s)]) ∧ Below w.heap.size w w' := by
  have hl := list_size s
  have l1 := cut_le s.data.toList [46]
  have l2 := cut_le (Lib.cut s.data.toList [46]).2.1 [46]
  have HC := Cut_on he s hs
  have HD := Cut_on he ⟨(Lib.cut s.data.toList [46]).2.1.toArray⟩ (by rw [bytes_size]; omega)
  have HX := fun w1 hb => number_any ⟨(Lib.cut s.data.toList [46]).1.toArray⟩ (by rw [bytes_size]; omega) w1 (he.below hb)
  have HY := fun w1 hb => number_any ⟨(Lib.cut (Lib.cut s.data.toList [46]).2.1 [46]).1.toArray⟩ (by rw [bytes_size]; omega) w1 (he.below hb)
  have HZ := fun w1 hb => number_any ⟨(Lib.cut (Lib.cut s.data.toList [46]).2.1 [46]).2.1.toArray⟩ (by rw [bytes_size]; omega) w1 (he.below hb)
  rw [bytes_list] at HD HX HY HZ
  have HM := fun w1 (_ : Below w.heap.size w w1) => May_any (pA s.data.toList) (pB s.data.toList) (pC s.data.toList) w1
  have HP := fun w1 hb => print_on he.tab (pA s.data.toList) (pB s.data.toList) (pC s.data.toList) w1 hb
  cases hm : mayV (pA s.data.toList) (pB s.data.toList) (pC s.data.toList)
  · have ho : okP s = false := by unfold okP; rw [hm]; rfl
    unfold resA resB resC
    rw [ho]
    rw [hm] at HM
    exact Parse_no s _ _ _ _ _ _ _ _ _ w HC HD HX HY HZ HM
  · rw [hm] at HM
    by_cases ht : textV (pA s.data.toList) (pB s.data.toList) (pC s.data.toList) = s
    · have ho : okP s = true := by unfold okP; rw [hm, decide_eq_true ht]; rfl
      unfold resA resB resC
      rw [ho]
      rw [ht] at HP
      exact Parse_ok s _ _ _ _ _ _ _ _ _ w HC HD HX HY HZ HM HP
    · have ho : okP s = false := by unfold okP; rw [hm, decide_eq_false ht]; rfl
      unfold resA resB resC
      rw [ho]
      exact Parse_other s _ _ _ _ _ _ _ _ _ _ w (fun e => ht (bytes_same e)) HC HD HX HY HZ HM HP

/-- What is told is a version's text. -/
theorem okP_text {s : ByteArray} (h : okP s = true) : mayV (resA s) (resB s) (resC s) = true ∧ s = textV (resA s) (resB s) (resC s) := by
  unfold resA resB resC
  rw [h]
  unfold okP at h
  simp only [Bool.and_eq_true, decide_eq_true_eq] at h
  exact ⟨h.1, h.2.symm⟩

theorem cut_dot (l r : List UInt8) (h : (46 : UInt8) ∉ l) : Lib.cut (l ++ 46 :: r) [46] = (l, r, true) := by
  have hi : Lib.index (l ++ 46 :: r) [46] = l.length := by
    refine Lib.index_first (by simp) (by simp [Lib.occAt]) ?_
    intro j hj
    unfold Lib.occAt
    rw [List.drop_append_of_le_length (by omega)]
    have hd : l.drop j = l[j] :: l.drop (j + 1) := List.drop_eq_getElem_cons hj
    rw [hd]
    simp only [List.cons_append, List.isPrefixOf, Bool.and_true]
    rw [beq_eq_false_iff_ne]
    intro e
    exact h (by rw [e]; exact List.getElem_mem hj)
  unfold Lib.cut
  rw [hi, if_pos (by omega)]
  simp

theorem dec_from (l : List UInt8) (h : ∀ d ∈ l, 48 ≤ d.toNat ∧ d.toNat ≤ 57) (acc : Nat) : Lib.decFrom acc l = some (l.foldl (fun n d => n * 10 + (d.toNat - 48)) acc) := by
  induction l generalizing acc with
  | nil => rfl
  | cons d l ih =>
    have hd := h d (List.mem_cons_self)
    unfold Lib.decFrom
    have : Lib.digitVal d = some (d.toNat - 48) := by
      unfold Lib.digitVal; simp; omega
    rw [this]
    simp only [List.foldl_cons]
    exact ih (fun x hx => h x (List.mem_cons_of_mem _ hx)) _

/-- The numeral of a part is read as that part. -/
theorem num_itoa {n : Int} (h0 : 0 ≤ n) (h1 : n ≤ 999) : numV (Lib.itoa n) = n := by
  have e := itoa_of h0
  have hl : (Lib.itoa n).length ≤ 3 := by have := itoa_three h0 h1; rw [bytes_size] at this; exact this
  have hd := dec_digits n.toNat
  have hv := val_dec n.toNat
  have ha : Lib.atoi (Lib.itoa n) = some n := by
    rw [e]
    cases hc : Lib.decDigits n.toNat with
    | nil => exact absurd hc (dec_ne _)
    | cons b r =>
      rw [hc] at hd hv
      have hb := hd b (List.mem_cons_self)
      have n45 : (b == 45) = false := by rw [beq_eq_false_iff_ne]; rintro rfl; revert hb; decide
      have n43 : (b == 43) = false := by rw [beq_eq_false_iff_ne]; rintro rfl; revert hb; decide
      unfold Lib.atoi
      simp only [n45, n43, Bool.false_eq_true, if_false]
      unfold Lib.decNat
      simp only [List.isEmpty_cons, Bool.false_eq_true, if_false]
      rw [dec_from _ hd]
      unfold valOf at hv
      rw [hv]
      simp
      omega
  unfold numV
  rw [Lib.atoiAll_short _ (by omega), ha]
  rfl

theorem parts_text {a b c : Int} (h : mayV a b c = true) : pA (textV a b c).data.toList = a ∧ pB (textV a b c).data.toList = b ∧ pC (textV a b c).data.toList = c := by
  obtain ⟨a0, a1, b0, b1, c0, c1⟩ := may_all h
  unfold pA pB pC
  rw [text_list h, cut_dot _ _ (no_dot a0)]
  simp only
  rw [cut_dot _ _ (no_dot b0)]
  exact ⟨num_itoa a0 a1, num_itoa b0 b1, num_itoa c0 c1⟩

/-- A version's text is told, as that version. -/
theorem okP_of {a b c : Int} (h : mayV a b c = true) : okP (textV a b c) = true ∧ resA (textV a b c) = a ∧ resB (textV a b c) = b ∧ resC (textV a b c) = c := by
  obtain ⟨e1, e2, e3⟩ := parts_text h
  have ho : okP (textV a b c) = true := by
    unfold okP
    rw [e1, e2, e3, h]
    simp
  unfold resA resB resC
  rw [ho]
  exact ⟨rfl, e1, e2, e3⟩

theorem okP_empty : okP ByteArray.empty = false := by
  rw [Bool.eq_false_iff]
  intro h
  obtain ⟨hm, he⟩ := okP_text h
  have := congrArg (fun s : ByteArray => s.data.toList) he
  simp only [text_list hm] at this
  have h2 := congrArg List.length this
  simp at h2
end Go.Proofs.YtjbohacllhjgmaaGreatDoor
