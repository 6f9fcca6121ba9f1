/- The walk of cut: what is left of one range without another one, in new memory. -/
import Derived.Test.YtkmgfemhfibikaaGreatDoorCut1
import Derived.Deep.AppendLies
namespace Go.Proofs.YtkmgfemhfibikaaGreatDoor
open Go.RowKit
set_option maxRecDepth 100000

def sliceLen : Value → Nat
  | .slice _ n _ => n
  | _ => 0

theorem infoSpan : (Tryz.prog.info? 37).map (fun i => (i.zero, i.size, i.bytes)) = some (some (.agg #[.int .i64 0, .int .i64 0, .int .i64 0, .int .i64 0, .int .i64 0, .int .i64 0]), 6, 48) := by kernel_rfl

/-- The end of a list's first span lies there. -/
def Hi3 (w : World) (g o : Nat) (h : Int) : Prop := w.cell? ⟨g, o + 3, none⟩ = some (.int .i64 (atA h)) ∧ w.cell? ⟨g, o + 4, none⟩ = some (.int .i64 (atB h)) ∧ w.cell? ⟨g, o + 5, none⟩ = some (.int .i64 (atC h)) ∧ g < w.heap.size
theorem keepHi (g o : Nat) (h : Int) : KeepP fun w1 => Hi3 w1 g o h := fun _ _ hh hb =>
  ⟨(hb.cell (p := ⟨g, o + 3, none⟩) hh.2.2.2).trans hh.1, (hb.cell (p := ⟨g, o + 4, none⟩) hh.2.2.2).trans hh.2.1, (hb.cell (p := ⟨g, o + 5, none⟩) hh.2.2.2).trans hh.2.2.1, Nat.lt_of_lt_of_le hh.2.2.2 hb.size⟩
theorem Hi3.of {w : World} {g o : Nat} {p : Int × Int} (h : SpAt w g (o + 0 * 6) (spR p)) (hg : g < w.heap.size) : Hi3 w g o p.2 := by
  obtain ⟨_, _, _, h3, h4, h5⟩ := h.first
  exact ⟨h3, h4, h5, hg⟩

theorem size1 (w : World) (o : Obj) : (w.alloc o).heap.size = w.heap.size + 1 := by simp

/-- A span is put behind a row. -/
theorem wp_app {w wx : World} {uo : Value} {o1 : Rg} {N : Nat} {a b c x y z : Int} {ops : Array Oper} {rest : List Oper} {o : Oper} {f : Act} {Q : Exit → Act → World → Prop} (hgd : o.guard = none) (s t : Operand)
    (ho : o.op = .call { callee := .builtin .append, args := #[s, t], argTypes := #[22, 22] }) (hs : f.eval s = uo) (p : Int × Int)
    (hK : Below w.heap.size w wx ∧ Bx6F wx N a b c x y z ∧ OwnS wx w.heap.size uo (o1.map spR)) {M : Nat} (hM : wx.heap.size = M) (hx : f.eval t = .slice (some ⟨M, 0, none⟩) 1 1) (hne : uo.ownBlock ≠ some N) (hlen : o1.length + 1 ≤ 1000000000000)
    (h : ∀ v1 w1, (Below w.heap.size w w1 ∧ Bx6F w1 N a b c x y z ∧ OwnS w1 w.heap.size v1 ((o1 ++ [p]).map spR)) → v1.ownBlock ≠ some N → (∀ M i j k l m n, uo.ownBlock ≠ some M → Bx6 wx M i j k l m n → Bx6 w1 M i j k l m n) → wpList Tryz.prog ops Q rest (f.put o.dst v1) w1) :
    wpList Tryz.prog ops Q (o :: rest) f (wx.alloc (.cells #[.int .i64 (atA p.1), .int .i64 (atB p.1), .int .i64 (atC p.1), .int .i64 (atA p.2), .int .i64 (atB p.2), .int .i64 (atC p.2)] 37)) := by
  subst hM
  obtain ⟨i0, hi, hz0, hz1, hz2⟩ : ∃ i, Tryz.prog.info? 37 = some i ∧ i.zero = some (.agg #[.int .i64 0, .int .i64 0, .int .i64 0, .int .i64 0, .int .i64 0, .int .i64 0]) ∧ i.size = 6 ∧ i.bytes = 48 := by
    have := infoSpan
    cases hq : Tryz.prog.info? 37 with
    | none => rw [hq] at this; cases this
    | some i =>
      rw [hq] at this
      simp only [Option.map_some, Option.some.injEq, Prod.mk.injEq] at this
      exact ⟨i, rfl, this.1, this.2.1, this.2.2⟩
  have hob : OwnS (wx.alloc (.cells #[.int .i64 (atA p.1), .int .i64 (atB p.1), .int .i64 (atC p.1), .int .i64 (atA p.2), .int .i64 (atB p.2), .int .i64 (atC p.2)] 37)) w.heap.size uo (o1.map spR) := hK.2.2.below (boxB _ _)
  have hsz : (wx.alloc (.cells #[.int .i64 (atA p.1), .int .i64 (atB p.1), .int .i64 (atC p.1), .int .i64 (atA p.2), .int .i64 (atB p.2), .int .i64 (atC p.2)] 37)).heap.size = wx.heap.size + 1 := by simp
  have hwx := hK.1.size
  refine wpList_append_own_at _ hgd s t 22 ho w.heap.size 37 i0 _ 6 48 Tryz.underlying22 hi hz0 hz1 hz2 rfl (by decide) uo _ _ hs hob ⟨wx.heap.size, 0, none⟩ 1 1 [.int .i64 (atA p.1), .int .i64 (atB p.1), .int .i64 (atC p.1), .int .i64 (atA p.2), .int .i64 (atB p.2), .int .i64 (atC p.2)] hx rfl
    (World.news_of_block (cs := #[.int .i64 (atA p.1), .int .i64 (atB p.1), .int .i64 (atC p.1), .int .i64 (atA p.2), .int .i64 (atB p.2), .int .i64 (atC p.2)]) (t := 37) (fr := (0, 0)) (by show (wx.heap.push _)[wx.heap.size]? = _; rw [Array.getElem?_push, if_pos rfl])) (by simp [Value.oneCell']) (by unfold maxLen; rw [List.length_map]; omega) (by rw [List.length_map]; omega) (by omega) ?_
  intro v1 w1 hown1 hg1 _ hat
  have hbw : Below w.heap.size w w1 := (below_then hK.1 (boxB _ _)).grown hg1 (by omega) (fun k hk => (hK.2.2.lt hk).2)
  refine h v1 w1 ⟨hbw, (hK.2.1.below (boxB _ _)).grown hg1 hne, ?_⟩ ?_ ?_
  · unfold OwnS
    rw [List.map_append, List.map_singleton, spCells_snoc, List.length_append]
    exact hown1
  · rcases hat with e | e
    · rw [e]; exact hne
    · rw [e, hsz]
      intro e2
      have h6 := hK.2.1.1.2.2.2.2.2.2
      have := Option.some.inj e2
      omega
  · intro M i j k l m n hM hbx
    exact (hbx.below (boxB _ _)).grown hg1 hM

set_option maxHeartbeats 16000000 in
theorem cut_walk (A B : Rg) (ga oa ca : Nat) (vb : Value) (w : World) (hA : ∀ p ∈ A, okP2 p) (hB : ∀ p ∈ B, okP2 p) (hga : ga < w.heap.size) (hla : ∀ i (h : i < A.length), SpAt w ga (oa + i * 6) (spR A[i])) (hlb : SpansR w vb B)
    (hlen : A.length ≤ 1000000000000) (hlenb : B.length ≤ 1000000000000) (hbig : (cutR A B).length ≤ 1000000000000) :
    Calls Tryz.prog 20 #[.slice (some ⟨ga, oa, none⟩) A.length ca, vb] w fun e w' => ∃ v, e = .returned v ∧ OwnS w' w.heap.size v ((cutR A B).map spR) ∧ Below w.heap.size w w' := by
  have HA := hide3 hA
  have HB := hide3 hB
  have HLB := hide3 hlb
  have HBIG := hide3 hbig
  have HLENB : Hid (∀ B2 : Rg, ∀ lo, dropR lo B2 = dropR lo B → True) := fun _ _ _ => trivial
  have HLA : Hid (∀ w1, Below w.heap.size w w1 → ∀ i (h : i < A.length), SpAt w1 ga (oa + i * 6) (spR A[i])) := fun w1 hb i hi => (hla i hi).below hb hga
  clear hA hB hla hlb hbig HLENB
  go_enter Tryz.func20, Tryz.ntmps20
  go_wp2
  go_step3
  go_wp2
  go_step3
  go_wp2_with fail
  go_loopw [1, 5, 14] (fun b out i wr => ∃ (k : Nat) (B1 o1 : Rg), k ≤ A.length ∧ i = .int .i64 k ∧ SpansR w b B1 ∧ (∀ p ∈ B1, okP2 p) ∧ B1.length ≤ B.length ∧ OwnS wr w.heap.size out (o1.map spR) ∧ Below w.heap.size w wr ∧ o1 ++ cutR (A.drop k) B1 = cutR A B) (fun _ _ i _ => A.length - (intOf i).toNat)
  case atStart => exact ⟨0, B, [], Nat.zero_le _, rfl, HLB.out, HB.out, Nat.le_refl _, OwnS.nil _ _, Below.refl _ _, rfl⟩
  case round =>
    obtain ⟨k, B1, o1, hk, rfl, hb1, hb1o, hb1l, hown, hb, heq⟩ := hrel
    have HOWN := hide3 hown
    have HBW := hide3 hb
    have HEQ := hide3 heq
    have HB1 := hide3 hb1
    have HB1O := hide3 hb1o
    have HB1L := hide3 hb1l
    clear hb1 hb1o heq hb1l
    by_cases hlt : k < A.length
    · have hs := HLA.out wr hb k hlt
      have HS : Hid (A.drop k = A[k] :: A.drop (k + 1)) := List.drop_eq_getElem_cons hlt
      have HSO : Hid (okP2 A[k]) := HA.out _ (List.getElem_mem hlt)
      generalize A[k] = s at *
      obtain ⟨lo, hi⟩ := s
      obtain ⟨c0, c1, c2, c3, c4, c5⟩ := hs
      simp only [spR] at c0 c1 c2 c3 c4 c5
      clear hb hown
      go_wp2_with fail
      obtain ⟨wo, rfl⟩ : ∃ wo : World, wo = wr := ⟨_, rfl⟩
      obtain ⟨uo, rfl⟩ : ∃ uo : Value, uo = u5 := ⟨_, rfl⟩
      have HKa : Hid (KeepP fun w1 => Below w.heap.size w w1 ∧ Bx6F w1 wo.heap.size (atA lo) (atB lo) (atC lo) (atA hi) (atB hi) (atC hi) ∧ OwnS w1 w.heap.size uo (o1.map spR)) := (keepBelow w).and ((keep6F _ _ _ _ _ _ _).and (keepOwn _ _ _))
      have HO0 : Hid (Below w.heap.size w (wo.alloc (.cells #[.int .i64 (atA lo), .int .i64 (atB lo), .int .i64 (atC lo), .int .i64 (atA hi), .int .i64 (atB hi), .int .i64 (atC hi)] 37)) ∧ Bx6F (wo.alloc (.cells #[.int .i64 (atA lo), .int .i64 (atB lo), .int .i64 (atC lo), .int .i64 (atA hi), .int .i64 (atB hi), .int .i64 (atC hi)] 37)) wo.heap.size (atA lo) (atB lo) (atC lo) (atA hi) (atB hi) (atC hi) ∧ OwnS (wo.alloc (.cells #[.int .i64 (atA lo), .int .i64 (atB lo), .int .i64 (atC lo), .int .i64 (atA hi), .int .i64 (atB hi), .int .i64 (atC hi)] 37)) w.heap.size uo (o1.map spR)) := ⟨below_then HBW.out (boxB _ _), Bx6F.new rfl _ _ _ _ _ _, HOWN.out.below (boxB _ _)⟩
      have HNE : Hid (uo.ownBlock ≠ some wo.heap.size) := fun e => by have := (HOWN.out.lt e).1; omega
      have HNB : Hid (w.heap.size ≤ wo.heap.size) := HBW.out.size
      have HEQ2 : Hid (o1 ++ (cutS lo hi (dropR lo B1) ++ cutR (A.drop (k + 1)) (dropR lo B1)) = cutR A B) := by
        unfold Hid; rw [← HEQ.out, HS.out]; rfl
      clear HOWN HBW c0 c1 c2 c3 c4 c5 HEQ HS
      go_loopw [1] (fun b wr => ∃ B2 : Rg, SpansR w b B2 ∧ (∀ p ∈ B2, okP2 p) ∧ B2.length ≤ B.length ∧ dropR lo B2 = dropR lo B1 ∧ (Below w.heap.size w wr ∧ Bx6F wr wo.heap.size (atA lo) (atB lo) (atC lo) (atA hi) (atB hi) (atC hi) ∧ OwnS wr w.heap.size uo (o1.map spR))) (fun b _ => sliceLen b)
      case atStart => exact ⟨B1, HB1.out, HB1O.out, HB1L.out, rfl, HO0.out⟩
      case round =>
        clear HO0 HB1 HB1O HB1L
        obtain ⟨B2, hb2, hb2o, hb2l, hdr, hk2⟩ := hrel
        have HO := hide3 hk2
        have HB2 := hide3 hb2
        have HB2O := hide3 hb2o
        have HB2L := hide3 hb2l
        have HDR := hide3 hdr
        clear hk2 hb2 hb2o hdr hb2l
        cases B2 with
        | nil =>
          have HK := HKa
          obtain ⟨ad, cap, hv, hcap, _⟩ := HB2.out
          subst hv
          have HEQ3 : Hid ((o1 ++ [(lo, hi)]) ++ cutR (A.drop (k + 1)) [] = cutR A B) := by
            unfold Hid; rw [← HEQ2.out, ← HDR.out]; simp [dropR, cutS]
          have HL1 : Hid (o1.length + 1 ≤ 1000000000000) := by
            have h1 := congrArg List.length HEQ3.out
            have h2 := HBIG.out
            rw [List.length_append, List.length_append, List.length_singleton] at h1
            unfold Hid; omega
          go_wp2_with fail
          refine wp_region_keep HK.out (by kernel_rfl) (by kernel_rfl) (by first | exact HO.out | exact HK.out.drew HO.out) ?_
          intro C hin hout
          have HIN := hide3 hin
          have HOUT := hide3 hout
          clear hin hout HO
          repeat
            (with_reducible refine wpQuiet_step (fun K hK => ?_)
             go_simp
             first
               | (refine hK _ ?_; clear hK K)
               | (apply Exists.intro; refine ⟨fun w1 hC => ?_, hK _ ?_⟩; (focus ((first | (exact rfl) | (obtain ⟨hb0, ⟨⟨k0, k1, k2, k3, k4, k5, k6⟩, f0, f1, f2⟩, ho⟩ := HOUT.out w1 hC; clear hC; go_simp; first | done | exact rfl)); done)); clear hK K))
          refine wpQuiet_nil ?_
          intro wn hC
          have HO := hide3 (HOUT.out _ hC)
          clear hC HIN HOUT C
          obtain ⟨hb0, ⟨⟨k0, k1, k2, k3, k4, k5, k6⟩, f0, f1, f2⟩, ho⟩ := HO.out
          go_wp2_with fail
          go_loop [5, 35] (fun o i => o = uo ∧ i = .int .i64 0) (fun _ _ => 0)
          case atStart => exact ⟨rfl, rfl⟩
          case round =>
            obtain ⟨h5, h35⟩ := hrel
            subst u5
            subst u35
            go_wp2_with (at_builtin; refine wp_app (uo := uo) (o1 := o1) (N := wo.heap.size) rfl (.tmp 78) (.tmp 80) rfl rfl (lo, hi) HO.out rfl rfl HNE.out HL1.out ?_; intro v1 w1 ok1 hne1 _; have HO1 := hide3 ok1; clear ok1 HO)
            exact ⟨⟨k + 1, [], o1 ++ [(lo, hi)], by omega, by go_num, HB2.out, HB2O.out, by simp, HO1.out.2.2, HO1.out.1, HEQ3.out⟩, by simp [intOf]; omega⟩
        | cons p B3 =>
          obtain ⟨ad, cap, hv, hcap, hq⟩ := HB2.out
          rcases hq with hq | ⟨gb, ob, hq, hgb, hsb⟩
          · cases hq
          subst hq
          subst hv
          obtain ⟨g, h⟩ := p
          have HPO := hide3 (HB2O.out _ List.mem_cons_self)
          have HSB : Hid (∀ w1, Below w.heap.size w w1 → ∀ i (hi : i < ((g, h) :: B3).length), SpAt w1 gb (ob + i * 6) (spR (((g, h) :: B3)[i]))) := fun w1 hb i hi => (hsb i hi).below hb hgb
          have HGB := hide3 hgb
          have hcap1 : B3.length + 1 ≤ cap := hcap
          obtain ⟨q, hq1, hq2, hc⟩ := Compare_at HPO.out.2.1 HSO.out.1
          have HC := hide3 hc
          have HO' : Hid ((Below w.heap.size w wr ∧ Bx6F wr wo.heap.size (atA lo) (atB lo) (atC lo) (atA hi) (atB hi) (atC hi) ∧ OwnS wr w.heap.size uo (o1.map spR)) ∧ Hi3 wr gb ob h) := ⟨HO.out, Hi3.of (HSB.out wr HO.out.1 0 (by simp)) (Nat.lt_of_lt_of_le hgb HO.out.1.size)⟩
          have HK : Hid (KeepP fun w1 => (Below w.heap.size w w1 ∧ Bx6F w1 wo.heap.size (atA lo) (atB lo) (atC lo) (atA hi) (atB hi) (atC hi) ∧ OwnS w1 w.heap.size uo (o1.map spR)) ∧ Hi3 w1 gb ob h) := HKa.out.and (keepHi _ _ _)
          clear HO hc hgb hsb hcap
          have HO := HO'
          clear HO'
          have hlz : (0 : Int) < (((g, h) :: B3 : Rg).length : Int) := by simp
          by_cases hh : h < lo
          · have hq3 : q < 0 := hq1.2 hh
            have HDR2 : Hid (dropR lo B3 = dropR lo B1) := by unfold Hid; rw [← HDR.out, dw_yes hh]
            go_wp2_with fail
            refine wp_region_keep HK.out (by kernel_rfl) (by kernel_rfl) (by first | exact HO.out | exact HK.out.drew HO.out) ?_
            intro C hin hout
            have HIN := hide3 hin
            have HOUT := hide3 hout
            clear hin hout HO
            repeat
              (with_reducible refine wpQuiet_step (fun K hK => ?_)
               go_simp
               first
                 | (refine hK _ ?_; clear hK K)
                 | (apply Exists.intro; refine ⟨fun w1 hC => ?_, hK _ ?_⟩; (focus ((first | (go_at_call 34; with_reducible exact callC HIN.out HOUT.out HK.out HC.out w1 hC) | (exact rfl) | (obtain ⟨⟨hb0, ⟨⟨k0, k1, k2, k3, k4, k5, k6⟩, f0, f1, f2⟩, ho⟩, x0, x1, x2, x3⟩ := HOUT.out w1 hC; clear hC; go_simp; first | done | exact rfl)); done)); clear hK K))
            refine wpQuiet_nil ?_
            intro wn hC
            have HO := hide3 (HOUT.out _ hC)
            clear hC HIN HOUT C
            obtain ⟨⟨hb0, ⟨⟨k0, k1, k2, k3, k4, k5, k6⟩, f0, f1, f2⟩, ho⟩, x0, x1, x2, x3⟩ := HO.out
            go_wp2
            exact ⟨⟨B3, HB2.out.tail, fun p hp => HB2O.out p (List.mem_cons_of_mem _ hp), by have := HB2L.out; simp only [List.length_cons] at this; omega, HDR2.out, HO.out.1⟩, by simp [sliceLen]⟩
          · have hq3 : ¬ q < 0 := fun hx => hh (hq1.1 hx)
            have HEQ3 : Hid (o1 ++ (cutS lo hi (((g, h) :: B3).drop 0) ++ cutR (A.drop (k + 1)) ((g, h) :: B3)) = cutR A B) := by
              unfold Hid; rw [← HEQ2.out, ← HDR.out, dw_no (by omega)]; rfl
            have HLB3 : Hid (B3.length + 1 ≤ 1000000000000) := by have := HB2L.out; simp only [List.length_cons] at this; unfold Hid; omega
            go_wp2_with fail
            refine wp_region_keep HK.out (by kernel_rfl) (by kernel_rfl) (by first | exact HO.out | exact HK.out.drew HO.out) ?_
            intro C hin hout
            have HIN := hide3 hin
            have HOUT := hide3 hout
            clear hin hout HO
            repeat
              (with_reducible refine wpQuiet_step (fun K hK => ?_)
               go_simp
               first
                 | (refine hK _ ?_; clear hK K)
                 | (apply Exists.intro; refine ⟨fun w1 hC => ?_, hK _ ?_⟩; (focus ((first | (go_at_call 34; with_reducible exact callC HIN.out HOUT.out HK.out HC.out w1 hC) | (exact rfl) | (obtain ⟨⟨hb0, ⟨⟨k0, k1, k2, k3, k4, k5, k6⟩, f0, f1, f2⟩, ho⟩, x0, x1, x2, x3⟩ := HOUT.out w1 hC; clear hC; go_simp; first | done | exact rfl)); done)); clear hK K))
            refine wpQuiet_nil ?_
            intro wn hC
            have HO := hide3 (HOUT.out _ hC)
            clear hC HIN HOUT C
            obtain ⟨⟨hb0, ⟨⟨k0, k1, k2, k3, k4, k5, k6⟩, f0, f1, f2⟩, ho⟩, x0, x1, x2, x3⟩ := HO.out
            go_wp2_with fail
            clear hq1 hq2 hq3 k0 k1 k2 k3 k4 k5 k6 f0 f1 f2 ho x0 x1 x2 x3 hb0 HC HK
            go_loopw [5, 35] (fun out i wr => ∃ (j : Nat) (l2 : Int) (o2 : Rg), j ≤ B3.length + 1 ∧ i = .int .i64 j ∧ (okR l2 ∧ l2 ≤ hi) ∧ (Below w.heap.size w wr ∧ Bx6F wr wo.heap.size (atA l2) (atB l2) (atC l2) (atA hi) (atB hi) (atC hi) ∧ OwnS wr w.heap.size out (o2.map spR)) ∧ out.ownBlock ≠ some wo.heap.size ∧ o2 ++ (cutS l2 hi (((g, h) :: B3).drop j) ++ cutR (A.drop (k + 1)) ((g, h) :: B3)) = cutR A B) (fun _ i _ => B3.length + 1 - (intOf i).toNat)
            case atStart => exact ⟨0, lo, o1, by omega, rfl, ⟨HSO.out.1, HSO.out.2.2⟩, HO.out.1, HNE.out, HEQ3.out⟩
            case round =>
              clear HO HNE HEQ3 HEQ2 HKa HDR
              obtain ⟨j, l2, o2, hj, rfl, hl2, hk3, hne3, heq3⟩ := hrel
              obtain ⟨wi, rfl⟩ : ∃ wi : World, wi = wr := ⟨_, rfl⟩
              obtain ⟨ui, rfl⟩ : ∃ ui : Value, ui = u5 := ⟨_, rfl⟩
              have HL2 := hide3 hl2
              have HO := hide3 hk3
              have HNE := hide3 hne3
              have HEQ := hide3 heq3
              have HLL : Hid (∀ o3 : Rg, (∃ X, o3 ++ X = cutR A B) → o3.length ≤ 1000000000000) := by
                rintro o3 ⟨X, hX⟩
                have h1 := congrArg List.length hX
                have h2 := HBIG.out
                rw [List.length_append] at h1
                omega
              clear hl2 hk3 hne3 heq3
              by_cases hjl : j < B3.length + 1
              · have hs := HSB.out wi HO.out.1 j (by simpa using hjl)
                have HE : Hid (((g, h) :: B3).drop j = ((g, h) :: B3)[j]'(by simpa using hjl) :: ((g, h) :: B3).drop (j + 1)) := List.drop_eq_getElem_cons (by simpa using hjl)
                have HGO := hide3 (HB2O.out _ (List.getElem_mem (l := (g, h) :: B3) (n := j) (by simpa using hjl)))
                generalize ((g, h) :: B3)[j]'(by simpa using hjl) = e at *
                obtain ⟨g2, h2⟩ := e
                obtain ⟨c0, c1, c2, c3, c4, c5⟩ := hs
                simp only [spR] at c0 c1 c2 c3 c4 c5
                rw [HE.out] at HEQ
                have HR : Hid ((Below w.heap.size w (wi.alloc (.cells #[.int .i64 (atA g2), .int .i64 (atB g2), .int .i64 (atC g2), .int .i64 (atA h2), .int .i64 (atB h2), .int .i64 (atC h2)] 37)) ∧ Bx6F (wi.alloc (.cells #[.int .i64 (atA g2), .int .i64 (atB g2), .int .i64 (atC g2), .int .i64 (atA h2), .int .i64 (atB h2), .int .i64 (atC h2)] 37)) wo.heap.size (atA l2) (atB l2) (atC l2) (atA hi) (atB hi) (atC hi) ∧ OwnS (wi.alloc (.cells #[.int .i64 (atA g2), .int .i64 (atB g2), .int .i64 (atC g2), .int .i64 (atA h2), .int .i64 (atB h2), .int .i64 (atC h2)] 37)) w.heap.size ui (o2.map spR)) ∧ Bx6 (wi.alloc (.cells #[.int .i64 (atA g2), .int .i64 (atB g2), .int .i64 (atC g2), .int .i64 (atA h2), .int .i64 (atB h2), .int .i64 (atC h2)] 37)) wi.heap.size (atA g2) (atB g2) (atC g2) (atA h2) (atB h2) (atC h2)) := ⟨((keepBelow w).and ((keep6F _ _ _ _ _ _ _).and (keepOwn _ _ _))) _ _ HO.out (boxB _ _), Bx6.new rfl _ _ _ _ _ _⟩
                have HK3 : Hid (KeepP fun w1 => (Below w.heap.size w w1 ∧ Bx6F w1 wo.heap.size (atA l2) (atB l2) (atC l2) (atA hi) (atB hi) (atC hi) ∧ OwnS w1 w.heap.size ui (o2.map spR)) ∧ Bx6 w1 wi.heap.size (atA g2) (atB g2) (atC g2) (atA h2) (atB h2) (atC h2)) := ((keepBelow w).and ((keep6F _ _ _ _ _ _ _).and (keepOwn _ _ _))).and (keep6 _ _ _ _ _ _ _)
                have HNG : Hid (ui.ownBlock ≠ some wi.heap.size) := fun e => by have := (HO.out.2.2.lt e).1; omega
                obtain ⟨_, ⟨⟨k0, k1, k2, k3, k4, k5, k6⟩, f0, f1, f2⟩, _⟩ := HR.out.1
                obtain ⟨q1, hq1, hq1', hc1⟩ := Compare_at HGO.out.1 HSO.out.2.1
                obtain ⟨q2, hq2, hq2', hc2⟩ := Compare_at HL2.out.1 HGO.out.1
                obtain ⟨q3, hq3, hq3', hc3⟩ := Compare_at HGO.out.2.1 HSO.out.2.1
                have HC1 := hide3 hc1
                have HC2 := hide3 hc2
                have HC3 := hide3 hc3
                have hlb3 := HLB3.out
                have hjl2 : (j : Int) < (((g, h) :: B3 : Rg).length : Int) := by simp; omega
                clear hc1 hc2 hc3 HO
                have t1 : True := trivial
                have t2 : True := trivial
                by_cases hb1 : hi < g2
                · have hp1 : 0 < q1 := hq1'.2 hb1
                  have HEQ4 : Hid ((o2 ++ [(l2, hi)]) ++ cutR (A.drop (k + 1)) ((g, h) :: B3) = cutR A B) := by
                    unfold Hid; rw [← HEQ.out]; simp [cutS, hb1]
                  have HL1 : Hid (o2.length + 1 ≤ 1000000000000) := by have := HLL.out _ ⟨_, HEQ4.out⟩; rw [List.length_append, List.length_singleton] at this; exact this
                  go_wp2_with (first
                    | (go_at_call 34; refine (liftK HK3.out HC1.out _ HR.out).mono ?_; rintro e w1 ⟨rfl, ok⟩; clear HR; have HR := hide3 ok; clear ok; obtain ⟨⟨hbw, ⟨⟨k0, k1, k2, k3, k4, k5, k6⟩, f0, f1, f2⟩, ho⟩, m0, m1, m2, m3, m4, m5, m6⟩ := HR.out)
                    | (at_builtin; refine wp_app (uo := ui) (o1 := o2) (N := wo.heap.size) rfl (.tmp 78) (.tmp 80) rfl rfl (l2, hi) HR.out.1 rfl rfl HNE.out HL1.out ?_; intro v1 w9 ok1 hne1 _; have HO1 := hide3 ok1; clear ok1 HR))
                  exact ⟨⟨k + 1, (g, h) :: B3, o2 ++ [(l2, hi)], by omega, by go_num, HB2.out, HB2O.out, HB2L.out, HO1.out.2.2, HO1.out.1, HEQ4.out⟩, by simp [intOf]; omega⟩
                · have hp1 : ¬ 0 < q1 := fun hx => hb1 (hq1'.1 hx)
                  by_cases hb2 : l2 < g2
                  · have hp2 : q2 < 0 := hq2.2 hb2
                    have HPV := hide3 (Prev_at (r := g2) (by have := HL2.out.1.1; omega) HGO.out.1.2)
                    by_cases hb3 : h2 < hi
                    · have hp3 : q3 < 0 := hq3.2 hb3
                      have HNX := hide3 (Next_at (r := h2) HGO.out.2.1.1 (by have := HSO.out.2.1.2; omega))
                      have HEQ4 : Hid ((o2 ++ [(l2, g2 - 1)]) ++ (cutS (h2 + 1) hi (((g, h) :: B3).drop (j + 1)) ++ cutR (A.drop (k + 1)) ((g, h) :: B3)) = cutR A B) := by
                        unfold Hid; rw [← HEQ.out]; simp [cutS, hb1, hb2, Int.not_le.2 hb3]
                      have HL1 : Hid (o2.length + 1 ≤ 1000000000000) := by have := HLL.out _ ⟨_, HEQ4.out⟩; rw [List.length_append, List.length_singleton] at this; exact this
                      have HNO : Hid (okR (h2 + 1) ∧ h2 + 1 ≤ hi) := by have h1 := HSO.out.2.1; have h2' := HGO.out.2.1; unfold okR at *; unfold Hid; omega
                      go_wp2_with (first
                        | (have _t := t1; go_at_call 34; refine (liftK HK3.out HC1.out _ HR.out).mono ?_; rintro e w1 ⟨rfl, ok⟩; clear HR t1; have HR := hide3 ok; clear ok; obtain ⟨⟨hbw, ⟨⟨k0, k1, k2, k3, k4, k5, k6⟩, f0, f1, f2⟩, ho⟩, m0, m1, m2, m3, m4, m5, m6⟩ := HR.out)
                        | (have _t := t2; go_at_call 34; refine (liftK HK3.out HC2.out _ HR.out).mono ?_; rintro e w2 ⟨rfl, ok⟩; clear HR t2; have HR := hide3 ok; clear ok; obtain ⟨⟨hbw, ⟨⟨k0, k1, k2, k3, k4, k5, k6⟩, f0, f1, f2⟩, ho⟩, m0, m1, m2, m3, m4, m5, m6⟩ := HR.out)
                        | (go_at_call 35; refine (liftK HK3.out HPV.out _ HR.out).mono ?_; rintro e w3 ⟨rfl, ok⟩; clear HR; have HR := hide3 ok; clear ok; obtain ⟨⟨hbw, ⟨⟨k0, k1, k2, k3, k4, k5, k6⟩, f0, f1, f2⟩, ho⟩, m0, m1, m2, m3, m4, m5, m6⟩ := HR.out)
                        | (at_builtin; refine wp_app (uo := ui) (o1 := o2) (N := wo.heap.size) rfl (.tmp 57) (.tmp 62) rfl rfl (l2, g2 - 1) (HK3.out _ _ HR.out (boxB _ _)).1 (size1 _ _) rfl HNE.out HL1.out ?_; intro v1 w4 ok1 hne1 hgr1; have HR4 : Hid ((Below w.heap.size w w4 ∧ Bx6F w4 wo.heap.size (atA l2) (atB l2) (atC l2) (atA hi) (atB hi) (atC hi) ∧ OwnS w4 w.heap.size v1 ((o2 ++ [(l2, g2 - 1)]).map spR)) ∧ Bx6 w4 wi.heap.size (atA g2) (atB g2) (atC g2) (atA h2) (atB h2) (atC h2)) := ⟨ok1, hgr1 _ _ _ _ _ _ _ HNG.out (HK3.out _ _ HR.out (boxB _ _)).2⟩; have HK4 : Hid (KeepP fun w1 => (Below w.heap.size w w1 ∧ Bx6F w1 wo.heap.size (atA l2) (atB l2) (atC l2) (atA hi) (atB hi) (atC hi) ∧ OwnS w1 w.heap.size v1 ((o2 ++ [(l2, g2 - 1)]).map spR)) ∧ Bx6 w1 wi.heap.size (atA g2) (atB g2) (atC g2) (atA h2) (atB h2) (atC h2)) := ((keepBelow w).and ((keep6F _ _ _ _ _ _ _).and (keepOwn _ _ _))).and (keep6 _ _ _ _ _ _ _); clear ok1 hgr1 HR; have HR := HR4; clear HR4; obtain ⟨⟨hbw, ⟨⟨k0, k1, k2, k3, k4, k5, k6⟩, f0, f1, f2⟩, ho⟩, m0, m1, m2, m3, m4, m5, m6⟩ := HR.out)
                        | (go_at_call 34; refine (liftK HK4.out HC3.out _ HR.out).mono ?_; rintro e w5 ⟨rfl, ok⟩; clear HR; have HR := hide3 ok; clear ok; obtain ⟨⟨hbw, ⟨⟨k0, k1, k2, k3, k4, k5, k6⟩, f0, f1, f2⟩, ho⟩, m0, m1, m2, m3, m4, m5, m6⟩ := HR.out)
                        | (go_at_call 36; refine (liftK HK4.out HNX.out _ HR.out).mono ?_; rintro e w6 ⟨rfl, ok⟩; clear HR; have HR := hide3 ok; clear ok; obtain ⟨⟨hbw, ⟨⟨k0, k1, k2, k3, k4, k5, k6⟩, f0, f1, f2⟩, ho⟩, m0, m1, m2, m3, m4, m5, m6⟩ := HR.out))
                      exact ⟨⟨j + 1, h2 + 1, o2 ++ [(l2, g2 - 1)], by omega, by go_num, HNO.out, ⟨((HR.out.1.1.setCell HNB.out _).setCell HNB.out _).setCell HNB.out _, HR.out.1.2.1.put _ _ _, ((HR.out.1.2.2.set hne1 _ _).set hne1 _ _).set hne1 _ _⟩, hne1, HEQ4.out⟩, by simp [intOf]; omega⟩
                    · have hp3 : ¬ q3 < 0 := fun hx => hb3 (hq3.1 hx)
                      have HEQ4 : Hid ((o2 ++ [(l2, g2 - 1)]) ++ cutR (A.drop (k + 1)) ((g, h) :: B3) = cutR A B) := by
                        unfold Hid; rw [← HEQ.out]; simp [cutS, hb1, hb2, Int.not_lt.1 hb3]
                      have HL1 : Hid (o2.length + 1 ≤ 1000000000000) := by have := HLL.out _ ⟨_, HEQ4.out⟩; rw [List.length_append, List.length_singleton] at this; exact this
                      go_wp2_with (first
                        | (have _t := t1; go_at_call 34; refine (liftK HK3.out HC1.out _ HR.out).mono ?_; rintro e w1 ⟨rfl, ok⟩; clear HR t1; have HR := hide3 ok; clear ok; obtain ⟨⟨hbw, ⟨⟨k0, k1, k2, k3, k4, k5, k6⟩, f0, f1, f2⟩, ho⟩, m0, m1, m2, m3, m4, m5, m6⟩ := HR.out)
                        | (have _t := t2; go_at_call 34; refine (liftK HK3.out HC2.out _ HR.out).mono ?_; rintro e w2 ⟨rfl, ok⟩; clear HR t2; have HR := hide3 ok; clear ok; obtain ⟨⟨hbw, ⟨⟨k0, k1, k2, k3, k4, k5, k6⟩, f0, f1, f2⟩, ho⟩, m0, m1, m2, m3, m4, m5, m6⟩ := HR.out)
                        | (go_at_call 35; refine (liftK HK3.out HPV.out _ HR.out).mono ?_; rintro e w3 ⟨rfl, ok⟩; clear HR; have HR := hide3 ok; clear ok; obtain ⟨⟨hbw, ⟨⟨k0, k1, k2, k3, k4, k5, k6⟩, f0, f1, f2⟩, ho⟩, m0, m1, m2, m3, m4, m5, m6⟩ := HR.out)
                        | (at_builtin; refine wp_app (uo := ui) (o1 := o2) (N := wo.heap.size) rfl (.tmp 57) (.tmp 62) rfl rfl (l2, g2 - 1) (HK3.out _ _ HR.out (boxB _ _)).1 (size1 _ _) rfl HNE.out HL1.out ?_; intro v1 w4 ok1 hne1 hgr1; have HR4 : Hid ((Below w.heap.size w w4 ∧ Bx6F w4 wo.heap.size (atA l2) (atB l2) (atC l2) (atA hi) (atB hi) (atC hi) ∧ OwnS w4 w.heap.size v1 ((o2 ++ [(l2, g2 - 1)]).map spR)) ∧ Bx6 w4 wi.heap.size (atA g2) (atB g2) (atC g2) (atA h2) (atB h2) (atC h2)) := ⟨ok1, hgr1 _ _ _ _ _ _ _ HNG.out (HK3.out _ _ HR.out (boxB _ _)).2⟩; have HK4 : Hid (KeepP fun w1 => (Below w.heap.size w w1 ∧ Bx6F w1 wo.heap.size (atA l2) (atB l2) (atC l2) (atA hi) (atB hi) (atC hi) ∧ OwnS w1 w.heap.size v1 ((o2 ++ [(l2, g2 - 1)]).map spR)) ∧ Bx6 w1 wi.heap.size (atA g2) (atB g2) (atC g2) (atA h2) (atB h2) (atC h2)) := ((keepBelow w).and ((keep6F _ _ _ _ _ _ _).and (keepOwn _ _ _))).and (keep6 _ _ _ _ _ _ _); clear ok1 hgr1 HR; have HR := HR4; clear HR4; obtain ⟨⟨hbw, ⟨⟨k0, k1, k2, k3, k4, k5, k6⟩, f0, f1, f2⟩, ho⟩, m0, m1, m2, m3, m4, m5, m6⟩ := HR.out)
                        | (go_at_call 34; refine (liftK HK4.out HC3.out _ HR.out).mono ?_; rintro e w5 ⟨rfl, ok⟩; clear HR; have HR := hide3 ok; clear ok; obtain ⟨⟨hbw, ⟨⟨k0, k1, k2, k3, k4, k5, k6⟩, f0, f1, f2⟩, ho⟩, m0, m1, m2, m3, m4, m5, m6⟩ := HR.out))
                      exact ⟨⟨k + 1, (g, h) :: B3, o2 ++ [(l2, g2 - 1)], by omega, by go_num, HB2.out, HB2O.out, HB2L.out, HR.out.1.2.2, HR.out.1.1, HEQ4.out⟩, by simp [intOf]; omega⟩
                  · have hp2 : ¬ q2 < 0 := fun hx => hb2 (hq2.1 hx)
                    by_cases hb3 : h2 < hi
                    · have hp3 : q3 < 0 := hq3.2 hb3
                      have HNX := hide3 (Next_at (r := h2) HGO.out.2.1.1 (by have := HSO.out.2.1.2; omega))
                      have HEQ4 : Hid (o2 ++ (cutS (h2 + 1) hi (((g, h) :: B3).drop (j + 1)) ++ cutR (A.drop (k + 1)) ((g, h) :: B3)) = cutR A B) := by
                        unfold Hid; rw [← HEQ.out]; simp [cutS, hb1, hb2, Int.not_le.2 hb3]
                      have HNO : Hid (okR (h2 + 1) ∧ h2 + 1 ≤ hi) := by have h1 := HSO.out.2.1; have h2' := HGO.out.2.1; unfold okR at *; unfold Hid; omega
                      go_wp2_with (first
                        | (have _t := t1; go_at_call 34; refine (liftK HK3.out HC1.out _ HR.out).mono ?_; rintro e w1 ⟨rfl, ok⟩; clear HR t1; have HR := hide3 ok; clear ok; obtain ⟨⟨hbw, ⟨⟨k0, k1, k2, k3, k4, k5, k6⟩, f0, f1, f2⟩, ho⟩, m0, m1, m2, m3, m4, m5, m6⟩ := HR.out)
                        | (have _t := t2; go_at_call 34; refine (liftK HK3.out HC2.out _ HR.out).mono ?_; rintro e w2 ⟨rfl, ok⟩; clear HR t2; have HR := hide3 ok; clear ok; obtain ⟨⟨hbw, ⟨⟨k0, k1, k2, k3, k4, k5, k6⟩, f0, f1, f2⟩, ho⟩, m0, m1, m2, m3, m4, m5, m6⟩ := HR.out)
                        | (go_at_call 34; refine (liftK HK3.out HC3.out _ HR.out).mono ?_; rintro e w5 ⟨rfl, ok⟩; clear HR; have HR := hide3 ok; clear ok; obtain ⟨⟨hbw, ⟨⟨k0, k1, k2, k3, k4, k5, k6⟩, f0, f1, f2⟩, ho⟩, m0, m1, m2, m3, m4, m5, m6⟩ := HR.out)
                        | (go_at_call 36; refine (liftK HK3.out HNX.out _ HR.out).mono ?_; rintro e w6 ⟨rfl, ok⟩; clear HR; have HR := hide3 ok; clear ok; obtain ⟨⟨hbw, ⟨⟨k0, k1, k2, k3, k4, k5, k6⟩, f0, f1, f2⟩, ho⟩, m0, m1, m2, m3, m4, m5, m6⟩ := HR.out))
                      exact ⟨⟨j + 1, h2 + 1, o2, by omega, by go_num, HNO.out, ⟨((HR.out.1.1.setCell HNB.out _).setCell HNB.out _).setCell HNB.out _, HR.out.1.2.1.put _ _ _, ((HR.out.1.2.2.set HNE.out _ _).set HNE.out _ _).set HNE.out _ _⟩, HNE.out, HEQ4.out⟩, by simp [intOf]; omega⟩
                    · have hp3 : ¬ q3 < 0 := fun hx => hb3 (hq3.1 hx)
                      have HEQ4 : Hid (o2 ++ cutR (A.drop (k + 1)) ((g, h) :: B3) = cutR A B) := by
                        unfold Hid; rw [← HEQ.out]; simp [cutS, hb1, hb2, Int.not_lt.1 hb3]
                      go_wp2_with (first
                        | (have _t := t1; go_at_call 34; refine (liftK HK3.out HC1.out _ HR.out).mono ?_; rintro e w1 ⟨rfl, ok⟩; clear HR t1; have HR := hide3 ok; clear ok; obtain ⟨⟨hbw, ⟨⟨k0, k1, k2, k3, k4, k5, k6⟩, f0, f1, f2⟩, ho⟩, m0, m1, m2, m3, m4, m5, m6⟩ := HR.out)
                        | (have _t := t2; go_at_call 34; refine (liftK HK3.out HC2.out _ HR.out).mono ?_; rintro e w2 ⟨rfl, ok⟩; clear HR t2; have HR := hide3 ok; clear ok; obtain ⟨⟨hbw, ⟨⟨k0, k1, k2, k3, k4, k5, k6⟩, f0, f1, f2⟩, ho⟩, m0, m1, m2, m3, m4, m5, m6⟩ := HR.out)
                        | (go_at_call 34; refine (liftK HK3.out HC3.out _ HR.out).mono ?_; rintro e w5 ⟨rfl, ok⟩; clear HR; have HR := hide3 ok; clear ok; obtain ⟨⟨hbw, ⟨⟨k0, k1, k2, k3, k4, k5, k6⟩, f0, f1, f2⟩, ho⟩, m0, m1, m2, m3, m4, m5, m6⟩ := HR.out))
                      exact ⟨⟨k + 1, (g, h) :: B3, o2, by omega, by go_num, HB2.out, HB2O.out, HB2L.out, HR.out.1.2.2, HR.out.1.1, HEQ4.out⟩, by simp [intOf]; omega⟩
              · have hje : j = B3.length + 1 := by omega
                subst hje
                have HEQ4 : Hid ((o2 ++ [(l2, hi)]) ++ cutR (A.drop (k + 1)) ((g, h) :: B3) = cutR A B) := by
                  unfold Hid; rw [← HEQ.out, show ((g, h) :: B3).drop (B3.length + 1) = [] from List.drop_of_length_le (Nat.le_refl _)]; simp [cutS]
                have HL1 : Hid (o2.length + 1 ≤ 1000000000000) := by have := HLL.out _ ⟨_, HEQ4.out⟩; rw [List.length_append, List.length_singleton] at this; exact this
                obtain ⟨_, ⟨⟨k0, k1, k2, k3, k4, k5, k6⟩, f0, f1, f2⟩, _⟩ := HO.out
                go_wp2_with (at_builtin; refine wp_app (uo := ui) (o1 := o2) (N := wo.heap.size) rfl (.tmp 78) (.tmp 80) rfl rfl (l2, hi) HO.out rfl rfl HNE.out HL1.out ?_; intro v1 w9 ok1 hne1 _; have HO1 := hide3 ok1; clear ok1 HO)
                exact ⟨⟨k + 1, (g, h) :: B3, o2 ++ [(l2, hi)], by omega, by go_num, HB2.out, HB2O.out, HB2L.out, HO1.out.2.2, HO1.out.1, HEQ4.out⟩, by simp [intOf]; omega⟩
    · have hke : k = A.length := by omega
      subst hke
      have HEQ1 : Hid (o1 = cutR A B) := by unfold Hid; rw [← HEQ.out, List.drop_length]; simp [cutR]
      have HO := hide3 hown
      have HBb := hide3 hb
      clear hown hb HEQ HOWN HBW
      go_wp2
      rw [Exit.noGoto_ret]
      go_ret
      exact ⟨u5, rfl, by rw [← HEQ1.out]; exact HO.out, HBb.out⟩
end Go.Proofs.YtkmgfemhfibikaaGreatDoor
