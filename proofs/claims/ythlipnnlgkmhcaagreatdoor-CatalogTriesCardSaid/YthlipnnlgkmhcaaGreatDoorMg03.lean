/- Cut2, Fo1, Fo2, Pure2, laid in one text. -/
import Derived.Deep.AppendLies
import Derived.Test.YthlipnnlgkmhcaaGreatDoorMg02
namespace Go.Proofs.YthlipnnlgkmhcaaGreatDoor
open Go.RowKit
set_option maxRecDepth 100000

def sliceLen : Value → Nat
  | .slice _ n _ => n
  | _ => 0

theorem infoSpan : (Tryz.prog.info? 75).map (fun i => (i.zero, i.size, i.bytes)) = some (some (.agg #[.int .i64 0, .int .i64 0, .int .i64 0, .int .i64 0, .int .i64 0, .int .i64 0]), 6, 48) := by kernel_rfl

/-- The end of a list's first span lies there. -/
def Hi3 (w : World) (g o : Nat) (h : Int) : Prop := w.cell? ⟨g, o + 3, none⟩ = some (.int .i64 (atA h)) ∧ w.cell? ⟨g, o + 4, none⟩ = some (.int .i64 (atB h)) ∧ w.cell? ⟨g, o + 5, none⟩ = some (.int .i64 (atC h)) ∧ g < w.heap.size
theorem keepHi (g o : Nat) (h : Int) : KeepP fun w1 => Hi3 w1 g o h := fun _ _ hh hb =>
  ⟨(hb.cell (p := ⟨g, o + 3, none⟩) hh.2.2.2).trans hh.1, (hb.cell (p := ⟨g, o + 4, none⟩) hh.2.2.2).trans hh.2.1, (hb.cell (p := ⟨g, o + 5, none⟩) hh.2.2.2).trans hh.2.2.1, Nat.lt_of_lt_of_le hh.2.2.2 hb.size⟩
theorem Hi3.of {w : World} {g o : Nat} {p : Int × Int} (h : SpAt w g (o + 0 * 6) (spR p)) (hg : g < w.heap.size) : Hi3 w g o p.2 := by
  obtain ⟨_, _, _, h3, h4, h5⟩ := h.first
  exact ⟨h3, h4, h5, hg⟩

theorem size1 (w : World) (o : Obj) : (w.alloc o).heap.size = w.heap.size + 1 := by simp

/-- A span is put behind a row. -/
theorem wp_app {w wx : World} {uo : Value} {o1 : Rg} {N : Nat} {a b c x y z : Int} {ops : Array Oper} {rest : List Oper} {o : Oper} {f : Act} {Q : Exit → Act → World → Prop} (hgd : o.guard = none) (s t : Operand)
    (ho : o.op = .call { callee := .builtin .append, args := #[s, t], argTypes := #[39, 39] }) (hs : f.eval s = uo) (p : Int × Int)
    (hK : Below w.heap.size w wx ∧ Bx6F wx N a b c x y z ∧ OwnS wx w.heap.size uo (o1.map spR)) {M : Nat} (hM : wx.heap.size = M) (hx : f.eval t = .slice (some ⟨M, 0, none⟩) 1 1) (hne : uo.ownBlock ≠ some N) (hlen : o1.length + 1 ≤ 1000000000000)
    (h : ∀ v1 w1, (Below w.heap.size w w1 ∧ Bx6F w1 N a b c x y z ∧ OwnS w1 w.heap.size v1 ((o1 ++ [p]).map spR)) → v1.ownBlock ≠ some N → (∀ M i j k l m n, uo.ownBlock ≠ some M → Bx6 wx M i j k l m n → Bx6 w1 M i j k l m n) → wpList Tryz.prog ops Q rest (f.put o.dst v1) w1) :
    wpList Tryz.prog ops Q (o :: rest) f (wx.alloc (.cells #[.int .i64 (atA p.1), .int .i64 (atB p.1), .int .i64 (atC p.1), .int .i64 (atA p.2), .int .i64 (atB p.2), .int .i64 (atC p.2)] 75)) := by
  subst hM
  obtain ⟨i0, hi, hz0, hz1, hz2⟩ : ∃ i, Tryz.prog.info? 75 = some i ∧ i.zero = some (.agg #[.int .i64 0, .int .i64 0, .int .i64 0, .int .i64 0, .int .i64 0, .int .i64 0]) ∧ i.size = 6 ∧ i.bytes = 48 := by
    have := infoSpan
    cases hq : Tryz.prog.info? 75 with
    | none => rw [hq] at this; cases this
    | some i =>
      rw [hq] at this
      simp only [Option.map_some, Option.some.injEq, Prod.mk.injEq] at this
      exact ⟨i, rfl, this.1, this.2.1, this.2.2⟩
  have hob : OwnS (wx.alloc (.cells #[.int .i64 (atA p.1), .int .i64 (atB p.1), .int .i64 (atC p.1), .int .i64 (atA p.2), .int .i64 (atB p.2), .int .i64 (atC p.2)] 75)) w.heap.size uo (o1.map spR) := hK.2.2.below (boxB _ _)
  have hsz : (wx.alloc (.cells #[.int .i64 (atA p.1), .int .i64 (atB p.1), .int .i64 (atC p.1), .int .i64 (atA p.2), .int .i64 (atB p.2), .int .i64 (atC p.2)] 75)).heap.size = wx.heap.size + 1 := by simp
  have hwx := hK.1.size
  refine wpList_append_own_at _ hgd s t 39 ho w.heap.size 75 i0 _ 6 48 Tryz.underlying39 hi hz0 hz1 hz2 rfl (by decide) uo _ _ hs hob ⟨wx.heap.size, 0, none⟩ 1 1 [.int .i64 (atA p.1), .int .i64 (atB p.1), .int .i64 (atC p.1), .int .i64 (atA p.2), .int .i64 (atB p.2), .int .i64 (atC p.2)] hx rfl
    (World.news_of_block (cs := #[.int .i64 (atA p.1), .int .i64 (atB p.1), .int .i64 (atC p.1), .int .i64 (atA p.2), .int .i64 (atB p.2), .int .i64 (atC p.2)]) (t := 75) (fr := (0, 0)) (by show (wx.heap.push _)[wx.heap.size]? = _; rw [Array.getElem?_push, if_pos rfl])) (by simp [Value.oneCell']) (by unfold maxLen; rw [List.length_map]; omega) (by rw [List.length_map]; omega) (by omega) ?_
  intro v1 w1 hown1 hg1 _ hat
  have hbw : Below w.heap.size w w1 := (below_then hK.1 (boxB _ _)).grown hg1 (by omega) (fun k hk => (hK.2.2.lt hk).2)
  refine h v1 w1 ⟨hbw, (hK.2.1.below (boxB _ _)).grown hg1 hne, ?_⟩ ?_ ?_
  · unfold OwnS
    rw [List.map_append, List.map_singleton, spCells_snoc, List.length_append]
    exact hown1
  · rcases hat with e | e
    · rw [e]; exact hne
    · rw [e, hsz]
      intro e2
      have h6 := hK.2.1.1.2.2.2.2.2.2
      have := Option.some.inj e2
      omega
  · intro M i j k l m n hM hbx
    exact (hbx.below (boxB _ _)).grown hg1 hM

set_option maxHeartbeats 16000000 in
theorem cut_walk (A B : Rg) (ga oa ca : Nat) (vb : Value) (w : World) (hA : ∀ p ∈ A, okP2 p) (hB : ∀ p ∈ B, okP2 p) (hga : ga < w.heap.size) (hla : ∀ i (h : i < A.length), SpAt w ga (oa + i * 6) (spR A[i])) (hlb : SpansR w vb B)
    (hlen : A.length ≤ 1000000000000) (hlenb : B.length ≤ 1000000000000) (hbig : (cutR A B).length ≤ 1000000000000) :
    Calls Tryz.prog 80 #[.slice (some ⟨ga, oa, none⟩) A.length ca, vb] w fun e w' => ∃ v, e = .returned v ∧ OwnS w' w.heap.size v ((cutR A B).map spR) ∧ Below w.heap.size w w' := by
  have HA := hide3 hA
  have HB := hide3 hB
  have HLB := hide3 hlb
  have HBIG := hide3 hbig
  have HLENB : Hid (∀ B2 : Rg, ∀ lo, dropR lo B2 = dropR lo B → True) := fun _ _ _ => trivial
  have HLA : Hid (∀ w1, Below w.heap.size w w1 → ∀ i (h : i < A.length), SpAt w1 ga (oa + i * 6) (spR A[i])) := fun w1 hb i hi => (hla i hi).below hb hga
  clear hA hB hla hlb hbig HLENB
  go_enter Tryz.func80, Tryz.ntmps80
  go_wp2
  go_step3
  go_wp2
  go_step3
  go_wp2_with fail
  go_loopw [1, 5, 14] (fun b out i wr => ∃ (k : Nat) (B1 o1 : Rg), k ≤ A.length ∧ i = .int .i64 k ∧ SpansR w b B1 ∧ (∀ p ∈ B1, okP2 p) ∧ B1.length ≤ B.length ∧ OwnS wr w.heap.size out (o1.map spR) ∧ Below w.heap.size w wr ∧ o1 ++ cutR (A.drop k) B1 = cutR A B) (fun _ _ i _ => A.length - (intOf i).toNat)
  case atStart => exact ⟨0, B, [], Nat.zero_le _, rfl, HLB.out, HB.out, Nat.le_refl _, OwnS.nil _ _, Below.refl _ _, rfl⟩
  case round =>
    obtain ⟨k, B1, o1, hk, rfl, hb1, hb1o, hb1l, hown, hb, heq⟩ := hrel
    have HOWN := hide3 hown
    have HBW := hide3 hb
    have HEQ := hide3 heq
    have HB1 := hide3 hb1
    have HB1O := hide3 hb1o
    have HB1L := hide3 hb1l
    clear hb1 hb1o heq hb1l
    by_cases hlt : k < A.length
    · have hs := HLA.out wr hb k hlt
      have HS : Hid (A.drop k = A[k] :: A.drop (k + 1)) := List.drop_eq_getElem_cons hlt
      have HSO : Hid (okP2 A[k]) := HA.out _ (List.getElem_mem hlt)
      generalize A[k] = s at *
      obtain ⟨lo, hi⟩ := s
      obtain ⟨c0, c1, c2, c3, c4, c5⟩ := hs
      simp only [spR] at c0 c1 c2 c3 c4 c5
      clear hb hown
      go_wp2_with fail
      obtain ⟨wo, rfl⟩ : ∃ wo : World, wo = wr := ⟨_, rfl⟩
      obtain ⟨uo, rfl⟩ : ∃ uo : Value, uo = u5 := ⟨_, rfl⟩
      have HKa : Hid (KeepP fun w1 => Below w.heap.size w w1 ∧ Bx6F w1 wo.heap.size (atA lo) (atB lo) (atC lo) (atA hi) (atB hi) (atC hi) ∧ OwnS w1 w.heap.size uo (o1.map spR)) := (keepBelow w).and ((keep6F _ _ _ _ _ _ _).and (keepOwn _ _ _))
      have HO0 : Hid (Below w.heap.size w (wo.alloc (.cells #[.int .i64 (atA lo), .int .i64 (atB lo), .int .i64 (atC lo), .int .i64 (atA hi), .int .i64 (atB hi), .int .i64 (atC hi)] 75)) ∧ Bx6F (wo.alloc (.cells #[.int .i64 (atA lo), .int .i64 (atB lo), .int .i64 (atC lo), .int .i64 (atA hi), .int .i64 (atB hi), .int .i64 (atC hi)] 75)) wo.heap.size (atA lo) (atB lo) (atC lo) (atA hi) (atB hi) (atC hi) ∧ OwnS (wo.alloc (.cells #[.int .i64 (atA lo), .int .i64 (atB lo), .int .i64 (atC lo), .int .i64 (atA hi), .int .i64 (atB hi), .int .i64 (atC hi)] 75)) w.heap.size uo (o1.map spR)) := ⟨below_then HBW.out (boxB _ _), Bx6F.new rfl _ _ _ _ _ _, HOWN.out.below (boxB _ _)⟩
      have HNE : Hid (uo.ownBlock ≠ some wo.heap.size) := fun e => by have := (HOWN.out.lt e).1; omega
      have HNB : Hid (w.heap.size ≤ wo.heap.size) := HBW.out.size
      have HEQ2 : Hid (o1 ++ (cutS lo hi (dropR lo B1) ++ cutR (A.drop (k + 1)) (dropR lo B1)) = cutR A B) := by
        unfold Hid; rw [← HEQ.out, HS.out]; rfl
      clear HOWN HBW c0 c1 c2 c3 c4 c5 HEQ HS
      go_loopw [1] (fun b wr => ∃ B2 : Rg, SpansR w b B2 ∧ (∀ p ∈ B2, okP2 p) ∧ B2.length ≤ B.length ∧ dropR lo B2 = dropR lo B1 ∧ (Below w.heap.size w wr ∧ Bx6F wr wo.heap.size (atA lo) (atB lo) (atC lo) (atA hi) (atB hi) (atC hi) ∧ OwnS wr w.heap.size uo (o1.map spR))) (fun b _ => sliceLen b)
      case atStart => exact ⟨B1, HB1.out, HB1O.out, HB1L.out, rfl, HO0.out⟩
      case round =>
        clear HO0 HB1 HB1O HB1L
        obtain ⟨B2, hb2, hb2o, hb2l, hdr, hk2⟩ := hrel
        have HO := hide3 hk2
        have HB2 := hide3 hb2
        have HB2O := hide3 hb2o
        have HB2L := hide3 hb2l
        have HDR := hide3 hdr
        clear hk2 hb2 hb2o hdr hb2l
        cases B2 with
        | nil =>
          have HK := HKa
          obtain ⟨ad, cap, hv, hcap, _⟩ := HB2.out
          subst hv
          have HEQ3 : Hid ((o1 ++ [(lo, hi)]) ++ cutR (A.drop (k + 1)) [] = cutR A B) := by
            unfold Hid; rw [← HEQ2.out, ← HDR.out]; simp [dropR, cutS]
          have HL1 : Hid (o1.length + 1 ≤ 1000000000000) := by
            have h1 := congrArg List.length HEQ3.out
            have h2 := HBIG.out
            rw [List.length_append, List.length_append, List.length_singleton] at h1
            unfold Hid; omega
          go_wp2_with fail
          refine wp_region_keep HK.out (by kernel_rfl) (by kernel_rfl) (by first | exact HO.out | exact HK.out.drew HO.out) ?_
          intro C hin hout
          have HIN := hide3 hin
          have HOUT := hide3 hout
          clear hin hout HO
          repeat
            (with_reducible refine wpQuiet_step (fun K hK => ?_)
             go_simp
             first
               | (refine hK _ ?_; clear hK K)
               | (apply Exists.intro; refine ⟨fun w1 hC => ?_, hK _ ?_⟩; (focus ((first | (exact rfl) | (obtain ⟨hb0, ⟨⟨k0, k1, k2, k3, k4, k5, k6⟩, f0, f1, f2⟩, ho⟩ := HOUT.out w1 hC; clear hC; go_simp; first | done | exact rfl)); done)); clear hK K))
          refine wpQuiet_nil ?_
          intro wn hC
          have HO := hide3 (HOUT.out _ hC)
          clear hC HIN HOUT C
          obtain ⟨hb0, ⟨⟨k0, k1, k2, k3, k4, k5, k6⟩, f0, f1, f2⟩, ho⟩ := HO.out
          go_wp2_with fail
          go_loop [5, 35] (fun o i => o = uo ∧ i = .int .i64 0) (fun _ _ => 0)
          case atStart => exact ⟨rfl, rfl⟩
          case round =>
            obtain ⟨h5, h35⟩ := hrel
            subst u5
            subst u35
            go_wp2_with (at_builtin; refine wp_app (uo := uo) (o1 := o1) (N := wo.heap.size) rfl (.tmp 78) (.tmp 80) rfl rfl (lo, hi) HO.out rfl rfl HNE.out HL1.out ?_; intro v1 w1 ok1 hne1 _; have HO1 := hide3 ok1; clear ok1 HO)
            exact ⟨⟨k + 1, [], o1 ++ [(lo, hi)], by omega, by go_num, HB2.out, HB2O.out, by simp, HO1.out.2.2, HO1.out.1, HEQ3.out⟩, by simp [intOf]; omega⟩
        | cons p B3 =>
          obtain ⟨ad, cap, hv, hcap, hq⟩ := HB2.out
          rcases hq with hq | ⟨gb, ob, hq, hgb, hsb⟩
          · cases hq
          subst hq
          subst hv
          obtain ⟨g, h⟩ := p
          have HPO := hide3 (HB2O.out _ List.mem_cons_self)
          have HSB : Hid (∀ w1, Below w.heap.size w w1 → ∀ i (hi : i < ((g, h) :: B3).length), SpAt w1 gb (ob + i * 6) (spR (((g, h) :: B3)[i]))) := fun w1 hb i hi => (hsb i hi).below hb hgb
          have HGB := hide3 hgb
          have hcap1 : B3.length + 1 ≤ cap := hcap
          obtain ⟨q, hq1, hq2, hc⟩ := Compare_at HPO.out.2.1 HSO.out.1
          have HC := hide3 hc
          have HO' : Hid ((Below w.heap.size w wr ∧ Bx6F wr wo.heap.size (atA lo) (atB lo) (atC lo) (atA hi) (atB hi) (atC hi) ∧ OwnS wr w.heap.size uo (o1.map spR)) ∧ Hi3 wr gb ob h) := ⟨HO.out, Hi3.of (HSB.out wr HO.out.1 0 (by simp)) (Nat.lt_of_lt_of_le hgb HO.out.1.size)⟩
          have HK : Hid (KeepP fun w1 => (Below w.heap.size w w1 ∧ Bx6F w1 wo.heap.size (atA lo) (atB lo) (atC lo) (atA hi) (atB hi) (atC hi) ∧ OwnS w1 w.heap.size uo (o1.map spR)) ∧ Hi3 w1 gb ob h) := HKa.out.and (keepHi _ _ _)
          clear HO hc hgb hsb hcap
          have HO := HO'
          clear HO'
          have hlz : (0 : Int) < (((g, h) :: B3 : Rg).length : Int) := by simp
          by_cases hh : h < lo
          · have hq3 : q < 0 := hq1.2 hh
            have HDR2 : Hid (dropR lo B3 = dropR lo B1) := by unfold Hid; rw [← HDR.out, dw_yes hh]
            go_wp2_with fail
            refine wp_region_keep HK.out (by kernel_rfl) (by kernel_rfl) (by first | exact HO.out | exact HK.out.drew HO.out) ?_
            intro C hin hout
            have HIN := hide3 hin
            have HOUT := hide3 hout
            clear hin hout HO
            repeat
              (with_reducible refine wpQuiet_step (fun K hK => ?_)
               go_simp
               first
                 | (refine hK _ ?_; clear hK K)
                 | (apply Exists.intro; refine ⟨fun w1 hC => ?_, hK _ ?_⟩; (focus ((first | (go_at_call 65; with_reducible exact callC HIN.out HOUT.out HK.out HC.out w1 hC) | (exact rfl) | (obtain ⟨⟨hb0, ⟨⟨k0, k1, k2, k3, k4, k5, k6⟩, f0, f1, f2⟩, ho⟩, x0, x1, x2, x3⟩ := HOUT.out w1 hC; clear hC; go_simp; first | done | exact rfl)); done)); clear hK K))
            refine wpQuiet_nil ?_
            intro wn hC
            have HO := hide3 (HOUT.out _ hC)
            clear hC HIN HOUT C
            obtain ⟨⟨hb0, ⟨⟨k0, k1, k2, k3, k4, k5, k6⟩, f0, f1, f2⟩, ho⟩, x0, x1, x2, x3⟩ := HO.out
            go_wp2
            exact ⟨⟨B3, HB2.out.tail, fun p hp => HB2O.out p (List.mem_cons_of_mem _ hp), by have := HB2L.out; simp only [List.length_cons] at this; omega, HDR2.out, HO.out.1⟩, by simp [sliceLen]⟩
          · have hq3 : ¬ q < 0 := fun hx => hh (hq1.1 hx)
            have HEQ3 : Hid (o1 ++ (cutS lo hi (((g, h) :: B3).drop 0) ++ cutR (A.drop (k + 1)) ((g, h) :: B3)) = cutR A B) := by
              unfold Hid; rw [← HEQ2.out, ← HDR.out, dw_no (by omega)]; rfl
            have HLB3 : Hid (B3.length + 1 ≤ 1000000000000) := by have := HB2L.out; simp only [List.length_cons] at this; unfold Hid; omega
            go_wp2_with fail
            refine wp_region_keep HK.out (by kernel_rfl) (by kernel_rfl) (by first | exact HO.out | exact HK.out.drew HO.out) ?_
            intro C hin hout
            have HIN := hide3 hin
            have HOUT := hide3 hout
            clear hin hout HO
            repeat
              (with_reducible refine wpQuiet_step (fun K hK => ?_)
               go_simp
               first
                 | (refine hK _ ?_; clear hK K)
                 | (apply Exists.intro; refine ⟨fun w1 hC => ?_, hK _ ?_⟩; (focus ((first | (go_at_call 65; with_reducible exact callC HIN.out HOUT.out HK.out HC.out w1 hC) | (exact rfl) | (obtain ⟨⟨hb0, ⟨⟨k0, k1, k2, k3, k4, k5, k6⟩, f0, f1, f2⟩, ho⟩, x0, x1, x2, x3⟩ := HOUT.out w1 hC; clear hC; go_simp; first | done | exact rfl)); done)); clear hK K))
            refine wpQuiet_nil ?_
            intro wn hC
            have HO := hide3 (HOUT.out _ hC)
            clear hC HIN HOUT C
            obtain ⟨⟨hb0, ⟨⟨k0, k1, k2, k3, k4, k5, k6⟩, f0, f1, f2⟩, ho⟩, x0, x1, x2, x3⟩ := HO.out
            go_wp2_with fail
            clear hq1 hq2 hq3 k0 k1 k2 k3 k4 k5 k6 f0 f1 f2 ho x0 x1 x2 x3 hb0 HC HK
            go_loopw [5, 35] (fun out i wr => ∃ (j : Nat) (l2 : Int) (o2 : Rg), j ≤ B3.length + 1 ∧ i = .int .i64 j ∧ (okR l2 ∧ l2 ≤ hi) ∧ (Below w.heap.size w wr ∧ Bx6F wr wo.heap.size (atA l2) (atB l2) (atC l2) (atA hi) (atB hi) (atC hi) ∧ OwnS wr w.heap.size out (o2.map spR)) ∧ out.ownBlock ≠ some wo.heap.size ∧ o2 ++ (cutS l2 hi (((g, h) :: B3).drop j) ++ cutR (A.drop (k + 1)) ((g, h) :: B3)) = cutR A B) (fun _ i _ => B3.length + 1 - (intOf i).toNat)
            case atStart => exact ⟨0, lo, o1, by omega, rfl, ⟨HSO.out.1, HSO.out.2.2⟩, HO.out.1, HNE.out, HEQ3.out⟩
            case round =>
              clear HO HNE HEQ3 HEQ2 HKa HDR
              obtain ⟨j, l2, o2, hj, rfl, hl2, hk3, hne3, heq3⟩ := hrel
              obtain ⟨wi, rfl⟩ : ∃ wi : World, wi = wr := ⟨_, rfl⟩
              obtain ⟨ui, rfl⟩ : ∃ ui : Value, ui = u5 := ⟨_, rfl⟩
              have HL2 := hide3 hl2
              have HO := hide3 hk3
              have HNE := hide3 hne3
              have HEQ := hide3 heq3
              have HLL : Hid (∀ o3 : Rg, (∃ X, o3 ++ X = cutR A B) → o3.length ≤ 1000000000000) := by
                rintro o3 ⟨X, hX⟩
                have h1 := congrArg List.length hX
                have h2 := HBIG.out
                rw [List.length_append] at h1
                omega
              clear hl2 hk3 hne3 heq3
              by_cases hjl : j < B3.length + 1
              · have hs := HSB.out wi HO.out.1 j (by simpa using hjl)
                have HE : Hid (((g, h) :: B3).drop j = ((g, h) :: B3)[j]'(by simpa using hjl) :: ((g, h) :: B3).drop (j + 1)) := List.drop_eq_getElem_cons (by simpa using hjl)
                have HGO := hide3 (HB2O.out _ (List.getElem_mem (l := (g, h) :: B3) (n := j) (by simpa using hjl)))
                generalize ((g, h) :: B3)[j]'(by simpa using hjl) = e at *
                obtain ⟨g2, h2⟩ := e
                obtain ⟨c0, c1, c2, c3, c4, c5⟩ := hs
                simp only [spR] at c0 c1 c2 c3 c4 c5
                rw [HE.out] at HEQ
                have HR : Hid ((Below w.heap.size w (wi.alloc (.cells #[.int .i64 (atA g2), .int .i64 (atB g2), .int .i64 (atC g2), .int .i64 (atA h2), .int .i64 (atB h2), .int .i64 (atC h2)] 75)) ∧ Bx6F (wi.alloc (.cells #[.int .i64 (atA g2), .int .i64 (atB g2), .int .i64 (atC g2), .int .i64 (atA h2), .int .i64 (atB h2), .int .i64 (atC h2)] 75)) wo.heap.size (atA l2) (atB l2) (atC l2) (atA hi) (atB hi) (atC hi) ∧ OwnS (wi.alloc (.cells #[.int .i64 (atA g2), .int .i64 (atB g2), .int .i64 (atC g2), .int .i64 (atA h2), .int .i64 (atB h2), .int .i64 (atC h2)] 75)) w.heap.size ui (o2.map spR)) ∧ Bx6 (wi.alloc (.cells #[.int .i64 (atA g2), .int .i64 (atB g2), .int .i64 (atC g2), .int .i64 (atA h2), .int .i64 (atB h2), .int .i64 (atC h2)] 75)) wi.heap.size (atA g2) (atB g2) (atC g2) (atA h2) (atB h2) (atC h2)) := ⟨((keepBelow w).and ((keep6F _ _ _ _ _ _ _).and (keepOwn _ _ _))) _ _ HO.out (boxB _ _), Bx6.new rfl _ _ _ _ _ _⟩
                have HK3 : Hid (KeepP fun w1 => (Below w.heap.size w w1 ∧ Bx6F w1 wo.heap.size (atA l2) (atB l2) (atC l2) (atA hi) (atB hi) (atC hi) ∧ OwnS w1 w.heap.size ui (o2.map spR)) ∧ Bx6 w1 wi.heap.size (atA g2) (atB g2) (atC g2) (atA h2) (atB h2) (atC h2)) := ((keepBelow w).and ((keep6F _ _ _ _ _ _ _).and (keepOwn _ _ _))).and (keep6 _ _ _ _ _ _ _)
                have HNG : Hid (ui.ownBlock ≠ some wi.heap.size) := fun e => by have := (HO.out.2.2.lt e).1; omega
                obtain ⟨_, ⟨⟨k0, k1, k2, k3, k4, k5, k6⟩, f0, f1, f2⟩, _⟩ := HR.out.1
                obtain ⟨q1, hq1, hq1', hc1⟩ := Compare_at HGO.out.1 HSO.out.2.1
                obtain ⟨q2, hq2, hq2', hc2⟩ := Compare_at HL2.out.1 HGO.out.1
                obtain ⟨q3, hq3, hq3', hc3⟩ := Compare_at HGO.out.2.1 HSO.out.2.1
                have HC1 := hide3 hc1
                have HC2 := hide3 hc2
                have HC3 := hide3 hc3
                have hlb3 := HLB3.out
                have hjl2 : (j : Int) < (((g, h) :: B3 : Rg).length : Int) := by simp; omega
                clear hc1 hc2 hc3 HO
                have t1 : True := trivial
                have t2 : True := trivial
                by_cases hb1 : hi < g2
                · have hp1 : 0 < q1 := hq1'.2 hb1
                  have HEQ4 : Hid ((o2 ++ [(l2, hi)]) ++ cutR (A.drop (k + 1)) ((g, h) :: B3) = cutR A B) := by
                    unfold Hid; rw [← HEQ.out]; simp [cutS, hb1]
                  have HL1 : Hid (o2.length + 1 ≤ 1000000000000) := by have := HLL.out _ ⟨_, HEQ4.out⟩; rw [List.length_append, List.length_singleton] at this; exact this
                  go_wp2_with (first
                    | (go_at_call 65; refine (liftK HK3.out HC1.out _ HR.out).mono ?_; rintro e w1 ⟨rfl, ok⟩; clear HR; have HR := hide3 ok; clear ok; obtain ⟨⟨hbw, ⟨⟨k0, k1, k2, k3, k4, k5, k6⟩, f0, f1, f2⟩, ho⟩, m0, m1, m2, m3, m4, m5, m6⟩ := HR.out)
                    | (at_builtin; refine wp_app (uo := ui) (o1 := o2) (N := wo.heap.size) rfl (.tmp 78) (.tmp 80) rfl rfl (l2, hi) HR.out.1 rfl rfl HNE.out HL1.out ?_; intro v1 w9 ok1 hne1 _; have HO1 := hide3 ok1; clear ok1 HR))
                  exact ⟨⟨k + 1, (g, h) :: B3, o2 ++ [(l2, hi)], by omega, by go_num, HB2.out, HB2O.out, HB2L.out, HO1.out.2.2, HO1.out.1, HEQ4.out⟩, by simp [intOf]; omega⟩
                · have hp1 : ¬ 0 < q1 := fun hx => hb1 (hq1'.1 hx)
                  by_cases hb2 : l2 < g2
                  · have hp2 : q2 < 0 := hq2.2 hb2
                    have HPV := hide3 (Prev_at (r := g2) (by have := HL2.out.1.1; omega) HGO.out.1.2)
                    by_cases hb3 : h2 < hi
                    · have hp3 : q3 < 0 := hq3.2 hb3
                      have HNX := hide3 (Next_at (r := h2) HGO.out.2.1.1 (by have := HSO.out.2.1.2; omega))
                      have HEQ4 : Hid ((o2 ++ [(l2, g2 - 1)]) ++ (cutS (h2 + 1) hi (((g, h) :: B3).drop (j + 1)) ++ cutR (A.drop (k + 1)) ((g, h) :: B3)) = cutR A B) := by
                        unfold Hid; rw [← HEQ.out]; simp [cutS, hb1, hb2, Int.not_le.2 hb3]
                      have HL1 : Hid (o2.length + 1 ≤ 1000000000000) := by have := HLL.out _ ⟨_, HEQ4.out⟩; rw [List.length_append, List.length_singleton] at this; exact this
                      have HNO : Hid (okR (h2 + 1) ∧ h2 + 1 ≤ hi) := by have h1 := HSO.out.2.1; have h2' := HGO.out.2.1; unfold okR at *; unfold Hid; omega
                      go_wp2_with (first
                        | (have _t := t1; go_at_call 65; refine (liftK HK3.out HC1.out _ HR.out).mono ?_; rintro e w1 ⟨rfl, ok⟩; clear HR t1; have HR := hide3 ok; clear ok; obtain ⟨⟨hbw, ⟨⟨k0, k1, k2, k3, k4, k5, k6⟩, f0, f1, f2⟩, ho⟩, m0, m1, m2, m3, m4, m5, m6⟩ := HR.out)
                        | (have _t := t2; go_at_call 65; refine (liftK HK3.out HC2.out _ HR.out).mono ?_; rintro e w2 ⟨rfl, ok⟩; clear HR t2; have HR := hide3 ok; clear ok; obtain ⟨⟨hbw, ⟨⟨k0, k1, k2, k3, k4, k5, k6⟩, f0, f1, f2⟩, ho⟩, m0, m1, m2, m3, m4, m5, m6⟩ := HR.out)
                        | (go_at_call 111; refine (liftK HK3.out HPV.out _ HR.out).mono ?_; rintro e w3 ⟨rfl, ok⟩; clear HR; have HR := hide3 ok; clear ok; obtain ⟨⟨hbw, ⟨⟨k0, k1, k2, k3, k4, k5, k6⟩, f0, f1, f2⟩, ho⟩, m0, m1, m2, m3, m4, m5, m6⟩ := HR.out)
                        | (at_builtin; refine wp_app (uo := ui) (o1 := o2) (N := wo.heap.size) rfl (.tmp 57) (.tmp 62) rfl rfl (l2, g2 - 1) (HK3.out _ _ HR.out (boxB _ _)).1 (size1 _ _) rfl HNE.out HL1.out ?_; intro v1 w4 ok1 hne1 hgr1; have HR4 : Hid ((Below w.heap.size w w4 ∧ Bx6F w4 wo.heap.size (atA l2) (atB l2) (atC l2) (atA hi) (atB hi) (atC hi) ∧ OwnS w4 w.heap.size v1 ((o2 ++ [(l2, g2 - 1)]).map spR)) ∧ Bx6 w4 wi.heap.size (atA g2) (atB g2) (atC g2) (atA h2) (atB h2) (atC h2)) := ⟨ok1, hgr1 _ _ _ _ _ _ _ HNG.out (HK3.out _ _ HR.out (boxB _ _)).2⟩; have HK4 : Hid (KeepP fun w1 => (Below w.heap.size w w1 ∧ Bx6F w1 wo.heap.size (atA l2) (atB l2) (atC l2) (atA hi) (atB hi) (atC hi) ∧ OwnS w1 w.heap.size v1 ((o2 ++ [(l2, g2 - 1)]).map spR)) ∧ Bx6 w1 wi.heap.size (atA g2) (atB g2) (atC g2) (atA h2) (atB h2) (atC h2)) := ((keepBelow w).and ((keep6F _ _ _ _ _ _ _).and (keepOwn _ _ _))).and (keep6 _ _ _ _ _ _ _); clear ok1 hgr1 HR; have HR := HR4; clear HR4; obtain ⟨⟨hbw, ⟨⟨k0, k1, k2, k3, k4, k5, k6⟩, f0, f1, f2⟩, ho⟩, m0, m1, m2, m3, m4, m5, m6⟩ := HR.out)
                        | (go_at_call 65; refine (liftK HK4.out HC3.out _ HR.out).mono ?_; rintro e w5 ⟨rfl, ok⟩; clear HR; have HR := hide3 ok; clear ok; obtain ⟨⟨hbw, ⟨⟨k0, k1, k2, k3, k4, k5, k6⟩, f0, f1, f2⟩, ho⟩, m0, m1, m2, m3, m4, m5, m6⟩ := HR.out)
                        | (go_at_call 112; refine (liftK HK4.out HNX.out _ HR.out).mono ?_; rintro e w6 ⟨rfl, ok⟩; clear HR; have HR := hide3 ok; clear ok; obtain ⟨⟨hbw, ⟨⟨k0, k1, k2, k3, k4, k5, k6⟩, f0, f1, f2⟩, ho⟩, m0, m1, m2, m3, m4, m5, m6⟩ := HR.out))
                      exact ⟨⟨j + 1, h2 + 1, o2 ++ [(l2, g2 - 1)], by omega, by go_num, HNO.out, ⟨((HR.out.1.1.setCell HNB.out _).setCell HNB.out _).setCell HNB.out _, HR.out.1.2.1.put _ _ _, ((HR.out.1.2.2.set hne1 _ _).set hne1 _ _).set hne1 _ _⟩, hne1, HEQ4.out⟩, by simp [intOf]; omega⟩
                    · have hp3 : ¬ q3 < 0 := fun hx => hb3 (hq3.1 hx)
                      have HEQ4 : Hid ((o2 ++ [(l2, g2 - 1)]) ++ cutR (A.drop (k + 1)) ((g, h) :: B3) = cutR A B) := by
                        unfold Hid; rw [← HEQ.out]; simp [cutS, hb1, hb2, Int.not_lt.1 hb3]
                      have HL1 : Hid (o2.length + 1 ≤ 1000000000000) := by have := HLL.out _ ⟨_, HEQ4.out⟩; rw [List.length_append, List.length_singleton] at this; exact this
                      go_wp2_with (first
                        | (have _t := t1; go_at_call 65; refine (liftK HK3.out HC1.out _ HR.out).mono ?_; rintro e w1 ⟨rfl, ok⟩; clear HR t1; have HR := hide3 ok; clear ok; obtain ⟨⟨hbw, ⟨⟨k0, k1, k2, k3, k4, k5, k6⟩, f0, f1, f2⟩, ho⟩, m0, m1, m2, m3, m4, m5, m6⟩ := HR.out)
                        | (have _t := t2; go_at_call 65; refine (liftK HK3.out HC2.out _ HR.out).mono ?_; rintro e w2 ⟨rfl, ok⟩; clear HR t2; have HR := hide3 ok; clear ok; obtain ⟨⟨hbw, ⟨⟨k0, k1, k2, k3, k4, k5, k6⟩, f0, f1, f2⟩, ho⟩, m0, m1, m2, m3, m4, m5, m6⟩ := HR.out)
                        | (go_at_call 111; refine (liftK HK3.out HPV.out _ HR.out).mono ?_; rintro e w3 ⟨rfl, ok⟩; clear HR; have HR := hide3 ok; clear ok; obtain ⟨⟨hbw, ⟨⟨k0, k1, k2, k3, k4, k5, k6⟩, f0, f1, f2⟩, ho⟩, m0, m1, m2, m3, m4, m5, m6⟩ := HR.out)
                        | (at_builtin; refine wp_app (uo := ui) (o1 := o2) (N := wo.heap.size) rfl (.tmp 57) (.tmp 62) rfl rfl (l2, g2 - 1) (HK3.out _ _ HR.out (boxB _ _)).1 (size1 _ _) rfl HNE.out HL1.out ?_; intro v1 w4 ok1 hne1 hgr1; have HR4 : Hid ((Below w.heap.size w w4 ∧ Bx6F w4 wo.heap.size (atA l2) (atB l2) (atC l2) (atA hi) (atB hi) (atC hi) ∧ OwnS w4 w.heap.size v1 ((o2 ++ [(l2, g2 - 1)]).map spR)) ∧ Bx6 w4 wi.heap.size (atA g2) (atB g2) (atC g2) (atA h2) (atB h2) (atC h2)) := ⟨ok1, hgr1 _ _ _ _ _ _ _ HNG.out (HK3.out _ _ HR.out (boxB _ _)).2⟩; have HK4 : Hid (KeepP fun w1 => (Below w.heap.size w w1 ∧ Bx6F w1 wo.heap.size (atA l2) (atB l2) (atC l2) (atA hi) (atB hi) (atC hi) ∧ OwnS w1 w.heap.size v1 ((o2 ++ [(l2, g2 - 1)]).map spR)) ∧ Bx6 w1 wi.heap.size (atA g2) (atB g2) (atC g2) (atA h2) (atB h2) (atC h2)) := ((keepBelow w).and ((keep6F _ _ _ _ _ _ _).and (keepOwn _ _ _))).and (keep6 _ _ _ _ _ _ _); clear ok1 hgr1 HR; have HR := HR4; clear HR4; obtain ⟨⟨hbw, ⟨⟨k0, k1, k2, k3, k4, k5, k6⟩, f0, f1, f2⟩, ho⟩, m0, m1, m2, m3, m4, m5, m6⟩ := HR.out)
                        | (go_at_call 65; refine (liftK HK4.out HC3.out _ HR.out).mono ?_; rintro e w5 ⟨rfl, ok⟩; clear HR; have HR := hide3 ok; clear ok; obtain ⟨⟨hbw, ⟨⟨k0, k1, k2, k3, k4, k5, k6⟩, f0, f1, f2⟩, ho⟩, m0, m1, m2, m3, m4, m5, m6⟩ := HR.out))
                      exact ⟨⟨k + 1, (g, h) :: B3, o2 ++ [(l2, g2 - 1)], by omega, by go_num, HB2.out, HB2O.out, HB2L.out, HR.out.1.2.2, HR.out.1.1, HEQ4.out⟩, by simp [intOf]; omega⟩
                  · have hp2 : ¬ q2 < 0 := fun hx => hb2 (hq2.1 hx)
                    by_cases hb3 : h2 < hi
                    · have hp3 : q3 < 0 := hq3.2 hb3
                      have HNX := hide3 (Next_at (r := h2) HGO.out.2.1.1 (by have := HSO.out.2.1.2; omega))
                      have HEQ4 : Hid (o2 ++ (cutS (h2 + 1) hi (((g, h) :: B3).drop (j + 1)) ++ cutR (A.drop (k + 1)) ((g, h) :: B3)) = cutR A B) := by
                        unfold Hid; rw [← HEQ.out]; simp [cutS, hb1, hb2, Int.not_le.2 hb3]
                      have HNO : Hid (okR (h2 + 1) ∧ h2 + 1 ≤ hi) := by have h1 := HSO.out.2.1; have h2' := HGO.out.2.1; unfold okR at *; unfold Hid; omega
                      go_wp2_with (first
                        | (have _t := t1; go_at_call 65; refine (liftK HK3.out HC1.out _ HR.out).mono ?_; rintro e w1 ⟨rfl, ok⟩; clear HR t1; have HR := hide3 ok; clear ok; obtain ⟨⟨hbw, ⟨⟨k0, k1, k2, k3, k4, k5, k6⟩, f0, f1, f2⟩, ho⟩, m0, m1, m2, m3, m4, m5, m6⟩ := HR.out)
                        | (have _t := t2; go_at_call 65; refine (liftK HK3.out HC2.out _ HR.out).mono ?_; rintro e w2 ⟨rfl, ok⟩; clear HR t2; have HR := hide3 ok; clear ok; obtain ⟨⟨hbw, ⟨⟨k0, k1, k2, k3, k4, k5, k6⟩, f0, f1, f2⟩, ho⟩, m0, m1, m2, m3, m4, m5, m6⟩ := HR.out)
                        | (go_at_call 65; refine (liftK HK3.out HC3.out _ HR.out).mono ?_; rintro e w5 ⟨rfl, ok⟩; clear HR; have HR := hide3 ok; clear ok; obtain ⟨⟨hbw, ⟨⟨k0, k1, k2, k3, k4, k5, k6⟩, f0, f1, f2⟩, ho⟩, m0, m1, m2, m3, m4, m5, m6⟩ := HR.out)
                        | (go_at_call 112; refine (liftK HK3.out HNX.out _ HR.out).mono ?_; rintro e w6 ⟨rfl, ok⟩; clear HR; have HR := hide3 ok; clear ok; obtain ⟨⟨hbw, ⟨⟨k0, k1, k2, k3, k4, k5, k6⟩, f0, f1, f2⟩, ho⟩, m0, m1, m2, m3, m4, m5, m6⟩ := HR.out))
                      exact ⟨⟨j + 1, h2 + 1, o2, by omega, by go_num, HNO.out, ⟨((HR.out.1.1.setCell HNB.out _).setCell HNB.out _).setCell HNB.out _, HR.out.1.2.1.put _ _ _, ((HR.out.1.2.2.set HNE.out _ _).set HNE.out _ _).set HNE.out _ _⟩, HNE.out, HEQ4.out⟩, by simp [intOf]; omega⟩
                    · have hp3 : ¬ q3 < 0 := fun hx => hb3 (hq3.1 hx)
                      have HEQ4 : Hid (o2 ++ cutR (A.drop (k + 1)) ((g, h) :: B3) = cutR A B) := by
                        unfold Hid; rw [← HEQ.out]; simp [cutS, hb1, hb2, Int.not_lt.1 hb3]
                      go_wp2_with (first
                        | (have _t := t1; go_at_call 65; refine (liftK HK3.out HC1.out _ HR.out).mono ?_; rintro e w1 ⟨rfl, ok⟩; clear HR t1; have HR := hide3 ok; clear ok; obtain ⟨⟨hbw, ⟨⟨k0, k1, k2, k3, k4, k5, k6⟩, f0, f1, f2⟩, ho⟩, m0, m1, m2, m3, m4, m5, m6⟩ := HR.out)
                        | (have _t := t2; go_at_call 65; refine (liftK HK3.out HC2.out _ HR.out).mono ?_; rintro e w2 ⟨rfl, ok⟩; clear HR t2; have HR := hide3 ok; clear ok; obtain ⟨⟨hbw, ⟨⟨k0, k1, k2, k3, k4, k5, k6⟩, f0, f1, f2⟩, ho⟩, m0, m1, m2, m3, m4, m5, m6⟩ := HR.out)
                        | (go_at_call 65; refine (liftK HK3.out HC3.out _ HR.out).mono ?_; rintro e w5 ⟨rfl, ok⟩; clear HR; have HR := hide3 ok; clear ok; obtain ⟨⟨hbw, ⟨⟨k0, k1, k2, k3, k4, k5, k6⟩, f0, f1, f2⟩, ho⟩, m0, m1, m2, m3, m4, m5, m6⟩ := HR.out))
                      exact ⟨⟨k + 1, (g, h) :: B3, o2, by omega, by go_num, HB2.out, HB2O.out, HB2L.out, HR.out.1.2.2, HR.out.1.1, HEQ4.out⟩, by simp [intOf]; omega⟩
              · have hje : j = B3.length + 1 := by omega
                subst hje
                have HEQ4 : Hid ((o2 ++ [(l2, hi)]) ++ cutR (A.drop (k + 1)) ((g, h) :: B3) = cutR A B) := by
                  unfold Hid; rw [← HEQ.out, show ((g, h) :: B3).drop (B3.length + 1) = [] from List.drop_of_length_le (Nat.le_refl _)]; simp [cutS]
                have HL1 : Hid (o2.length + 1 ≤ 1000000000000) := by have := HLL.out _ ⟨_, HEQ4.out⟩; rw [List.length_append, List.length_singleton] at this; exact this
                obtain ⟨_, ⟨⟨k0, k1, k2, k3, k4, k5, k6⟩, f0, f1, f2⟩, _⟩ := HO.out
                go_wp2_with (at_builtin; refine wp_app (uo := ui) (o1 := o2) (N := wo.heap.size) rfl (.tmp 78) (.tmp 80) rfl rfl (l2, hi) HO.out rfl rfl HNE.out HL1.out ?_; intro v1 w9 ok1 hne1 _; have HO1 := hide3 ok1; clear ok1 HO)
                exact ⟨⟨k + 1, (g, h) :: B3, o2 ++ [(l2, hi)], by omega, by go_num, HB2.out, HB2O.out, HB2L.out, HO1.out.2.2, HO1.out.1, HEQ4.out⟩, by simp [intOf]; omega⟩
    · have hke : k = A.length := by omega
      subst hke
      have HEQ1 : Hid (o1 = cutR A B) := by unfold Hid; rw [← HEQ.out, List.drop_length]; simp [cutR]
      have HO := hide3 hown
      have HBb := hide3 hb
      clear hown hb HEQ HOWN HBW
      go_wp2
      rw [Exit.noGoto_ret]
      go_ret
      exact ⟨u5, rfl, by rw [← HEQ1.out]; exact HO.out, HBb.out⟩
end Go.Proofs.YthlipnnlgkmhcaaGreatDoor
namespace Go.Proofs.YthlipnnlgkmhcaaGreatDoor
open Go.RowKit
set_option maxRecDepth 100000

theorem RiseR.len {M : Int} : ∀ {B : Rg} {k : Int}, RiseR k M B → B = [] ∨ 2 * (B.length : Int) + k ≤ M + 2
  | [], _, _ => Or.inl rfl
  | (g, h) :: B, k, hr => by
    obtain ⟨h1, h2, h3, h4⟩ := hr
    right
    rcases RiseR.len h4 with rfl | h5
    · simp; omega
    · simp only [List.length_cons]; omega
theorem RangeR.len {B : Rg} (h : RangeR B) : B.length ≤ 500000001 := by
  rcases RiseR.len h with rfl | h1
  · simp
  · omega
theorem RangeR.ok {B : Rg} (h : RangeR B) : ∀ p ∈ B, okP2 p := fun p hp => by
  have := RiseR.mem h hp
  unfold okP2 okR; omega

theorem spCells_at : ∀ (L : List Sp) (i : Nat) (h : i < L.length), (spCells L)[i * 6]? = some (.int .i64 L[i].a) ∧ (spCells L)[i * 6 + 1]? = some (.int .i64 L[i].b) ∧ (spCells L)[i * 6 + 1 + 1]? = some (.int .i64 L[i].c) ∧
    (spCells L)[i * 6 + 1 + 1 + 1]? = some (.int .i64 L[i].x) ∧ (spCells L)[i * 6 + 1 + 1 + 1 + 1]? = some (.int .i64 L[i].y) ∧ (spCells L)[i * 6 + 1 + 1 + 1 + 1 + 1]? = some (.int .i64 L[i].z)
  | [], i, h => by simp at h
  | s :: L, 0, _ => by simp [spCells]
  | s :: L, i + 1, h => by
    have ih := spCells_at L i (by simpa using h)
    have e : (i + 1) * 6 = i * 6 + 6 := by omega
    have q : ∀ j, (spCells (s :: L))[i * 6 + 6 + j]? = (spCells L)[i * 6 + j]? := fun j => by
      have : i * 6 + 6 + j = (i * 6 + j) + 6 := by omega
      rw [this]; simp [spCells]
    have q0 := q 0
    have q1 := q 1
    have q2 := q 2
    have q3 := q 3
    have q4 := q 4
    have q5 := q 5
    simp only [Nat.add_zero] at q0
    rw [e]
    simp only [List.getElem_cons_succ]
    exact ⟨q0.trans ih.1, q1.trans ih.2.1, q2.trans ih.2.2.1, q3.trans ih.2.2.2.1, q4.trans ih.2.2.2.2.1, q5.trans ih.2.2.2.2.2⟩

theorem OwnS.base {w : World} {B C : Nat} {v : Value} {L : List Sp} (h : OwnS w B v L) (hc : C ≤ B) : OwnS w C v L := by
  refine ⟨h.1, ?_⟩
  rcases h.2 with hn | ⟨g, cap, cur, hv, hB, r⟩
  · exact Or.inl hn
  · exact Or.inr ⟨g, cap, cur, hv, Nat.le_trans hc hB, r⟩

theorem OwnS.sp {w : World} {B : Nat} {v : Value} {L : List Sp} (h : OwnS w B v L) : ∃ ad cap, v = .slice ad L.length cap ∧ L.length ≤ cap ∧ (L = [] ∨ ∃ g o, ad = some ⟨g, o, none⟩ ∧ g < w.heap.size ∧ ∀ i (h : i < L.length), SpAt w g (o + i * 6) L[i]) := by
  rcases h.2 with ⟨rfl, hn⟩ | ⟨g, cap, cur, rfl, hB, hgg, hc, hm, hs, hx⟩
  · have : L = [] := List.eq_nil_of_length_eq_zero hn
    subst this
    exact ⟨none, 0, rfl, Nat.le_refl _, Or.inl rfl⟩
  · refine ⟨_, _, rfl, hc, Or.inr ⟨g, 0, rfl, ?_, fun i hi => ?_⟩⟩
    · rw [Array.getElem?_eq_some_iff] at hgg; exact hgg.1
    · have q : ∀ j v, (spCells L)[j]? = some v → w.cell? ⟨g, 0 + j, none⟩ = some v := fun j v hj => by
        rw [← hx, List.getElem?_take] at hj
        split at hj
        · rw [Nat.zero_add]
          simp [World.cell?, hgg]
          simpa using hj
        · cases hj
      obtain ⟨s0, s1, s2, s3, s4, s5⟩ := spCells_at L i hi
      exact ⟨q _ _ s0, q _ _ s1, q _ _ s2, q _ _ s3, q _ _ s4, q _ _ s5⟩

theorem OwnS.spans {w : World} {B : Nat} {v : Value} {L : Rg} (h : OwnS w B v (L.map spR)) : SpansR w v L := by
  obtain ⟨ad, cap, hv, hc, hl⟩ := h.sp
  simp only [List.length_map] at hv hc hl
  refine ⟨ad, cap, hv, hc, ?_⟩
  rcases hl with hl | ⟨g, o, ha, hg, hs⟩
  · left; simpa using hl
  · right
    refine ⟨g, o, ha, hg, fun i hi => ?_⟩
    have := hs i hi
    rw [List.getElem_map] at this
    exact this

theorem cut_none (ad : Option Addr) (cap : Nat) (vb : Value) (w : World) :
    Calls Tryz.prog 80 #[.slice ad 0 cap, vb] w fun e w' => e = .returned (.slice none 0 0) ∧ Below w.heap.size w w' := by
  go_enter Tryz.func80, Tryz.ntmps80
  go_wp2
  go_step3
  go_wp2
  go_step3
  go_wp2_with fail
  go_loop [1, 5, 14] (fun b out i => b = vb ∧ out = .slice none 0 0 ∧ i = .int .i64 0) (fun _ _ _ => 0)
  case atStart => exact ⟨rfl, rfl, rfl⟩
  case round =>
    obtain ⟨h1, h5, h14⟩ := hrel
    subst u1
    subst u5
    subst u14
    go_wp2
    go_ret
    exact ⟨rfl, Below.refl _ _⟩

theorem cut_rg {A B : Rg} (hA : RangeR A) (hB : RangeR B) {va vb : Value} {w : World} (ha : SpansR w va A) (hb : SpansR w vb B) :
    Calls Tryz.prog 80 #[va, vb] w fun e w' => ∃ v, e = .returned v ∧ OwnS w' w.heap.size v ((cutR A B).map spR) ∧ Below w.heap.size w w' := by
  obtain ⟨ad, cap, rfl, hc, hl⟩ := ha
  rcases hl with rfl | ⟨g, o, rfl, hg, hs⟩
  · refine (cut_none ad cap vb w).mono ?_
    rintro e w' ⟨rfl, h⟩
    exact ⟨_, rfl, OwnS.nil _ _, h⟩
  · have h1 := hA.len
    have h2 := hB.len
    have h3 := cutR_len (B := B) hA
    exact cut_walk A B g o cap vb w hA.ok hB.ok hg hs hb (by omega) (by omega) (by omega)

theorem meet_rg {A B : Rg} (hA : RangeR A) (hB : RangeR B) {va vb : Value} {w : World} (ha : SpansR w va A) (hb : SpansR w vb B) :
    Calls Tryz.prog 55 #[va, vb] w fun e w' => ∃ v, e = .returned v ∧ OwnS w' w.heap.size v ((meetR A B).map spR) ∧ Below w.heap.size w w' := by
  have H1 : Hid (Calls Tryz.prog 80 #[va, vb] w fun e w' => ∃ v, e = .returned v ∧ OwnS w' w.heap.size v ((cutR A B).map spR) ∧ Below w.heap.size w w') := cut_rg hA hB ha hb
  have H2 : Hid (∀ v1 w1, OwnS w1 w.heap.size v1 ((cutR A B).map spR) → Below w.heap.size w w1 → Calls Tryz.prog 80 #[va, v1] w1 fun e w' => ∃ v, e = .returned v ∧ OwnS w' w1.heap.size v ((meetR A B).map spR) ∧ Below w1.heap.size w1 w') := fun v1 w1 ho hbl => cut_rg hA (hA.cut hB) (ha.below hbl) ho.spans
  have t1 : True := trivial
  clear ha hb
  go_enter Tryz.func55, Tryz.ntmps55
  go_wp2_with (first
    | (have _t := t1; go_at_call 80; refine H1.out.mono ?_; rintro e w1 ⟨v1, rfl, ok1⟩; clear t1; have HO1 := hide3 ok1; clear ok1)
    | (go_at_call 80; refine (H2.out _ _ HO1.out.1 HO1.out.2).mono ?_; rintro e w2 ⟨v2, rfl, ok2⟩; have HO2 := hide3 ok2; clear ok2))
  go_ret
  exact ⟨v2, rfl, HO2.out.1.base HO1.out.2.size, below_then HO1.out.2 HO2.out.2⟩

/-- The first and the last version lie in their variables. -/
def FL (w : World) : Prop := (w.cell? ⟨0, 0, none⟩ = some (.int .i64 0) ∧ w.cell? ⟨0, 1, none⟩ = some (.int .i64 0) ∧ w.cell? ⟨0, 2, none⟩ = some (.int .i64 0)) ∧
  (w.cell? ⟨1, 0, none⟩ = some (.int .i64 999) ∧ w.cell? ⟨1, 1, none⟩ = some (.int .i64 999) ∧ w.cell? ⟨1, 2, none⟩ = some (.int .i64 999)) ∧ 0 < w.heap.size ∧ 1 < w.heap.size
theorem FL.below {w w' : World} (h : FL w) (hb : Below w.heap.size w w') : FL w' := by
  obtain ⟨⟨h0, h1, h2⟩, ⟨h3, h4, h5⟩, h6, h7⟩ := h
  have q : ∀ i, w'.cell? ⟨0, i, none⟩ = w.cell? ⟨0, i, none⟩ := fun i => hb.cell (p := ⟨0, i, none⟩) h6
  have r : ∀ i, w'.cell? ⟨1, i, none⟩ = w.cell? ⟨1, i, none⟩ := fun i => hb.cell (p := ⟨1, i, none⟩) h7
  exact ⟨⟨by rw [q]; exact h0, by rw [q]; exact h1, by rw [q]; exact h2⟩, ⟨by rw [r]; exact h3, by rw [r]; exact h4, by rw [r]; exact h5⟩, Nat.lt_of_lt_of_le h6 hb.size, Nat.lt_of_lt_of_le h7 hb.size⟩
theorem keepFL : KeepP FL := fun _ _ h hb => h.below hb

/-- One span in a new block. -/
theorem spans_one {w w1 : World} (hb : Below w.heap.size w w1) (lo hi : Int) {M : Nat} (hM : w1.heap.size = M) : SpansR (w1.alloc (.cells #[.int .i64 (atA lo), .int .i64 (atB lo), .int .i64 (atC lo), .int .i64 (atA hi), .int .i64 (atB hi), .int .i64 (atC hi)] 75)) (.slice (some ⟨M, 0, none⟩) 1 1) [(lo, hi)] ∧ Below w.heap.size w (w1.alloc (.cells #[.int .i64 (atA lo), .int .i64 (atB lo), .int .i64 (atC lo), .int .i64 (atA hi), .int .i64 (atB hi), .int .i64 (atC hi)] 75)) := by
  subst hM
  refine ⟨⟨_, _, rfl, Nat.le_refl _, Or.inr ⟨_, 0, rfl, by simp, fun i hi => ?_⟩⟩, below_then hb (boxB _ _)⟩
  have : i = 0 := by simpa using hi
  subst this
  refine ⟨?_, ?_, ?_, ?_, ?_, ?_⟩ <;> simp [spR]

theorem from_at (lo hi : Int) (w : World) :
    Calls Tryz.prog 113 #[.agg #[.int .i64 (atA lo), .int .i64 (atB lo), .int .i64 (atC lo)], .agg #[.int .i64 (atA hi), .int .i64 (atB hi), .int .i64 (atC hi)]] w fun e w' => ∃ v, e = .returned v ∧ SpansR w' v [(lo, hi)] ∧ Below w.heap.size w w' := by
  have H := hide3 (fun w1 (hb : Below w.heap.size w w1) M hM => spans_one hb lo hi (M := M) hM)
  have HB := hide3 (boxB2 w)
  go_enter Tryz.func113, Tryz.ntmps113
  go_wp2
  go_ret
  exact ⟨_, rfl, H.out _ (HB.out _ _) _ (by simp)⟩
end Go.Proofs.YthlipnnlgkmhcaaGreatDoor
namespace Go.Proofs.YthlipnnlgkmhcaaGreatDoor
open Go.RowKit
set_option maxRecDepth 100000

theorem All_rg {w : World} (h : FL w) :
    Calls Tryz.prog 81 #[] w fun e w' => ∃ v, e = .returned v ∧ SpansR w' v allR ∧ Below w.heap.size w w' := by
  have HF : Hid (∀ w1, Calls Tryz.prog 113 #[.agg #[.int .i64 0, .int .i64 0, .int .i64 0], .agg #[.int .i64 999, .int .i64 999, .int .i64 999]] w1 fun e w' => ∃ v, e = .returned v ∧ SpansR w' v allR ∧ Below w1.heap.size w1 w') := from_at 0 999999999
  obtain ⟨⟨h0, h1, h2⟩, ⟨h3, h4, h5⟩, h6, h7⟩ := h
  go_enter Tryz.func81, Tryz.ntmps81
  go_wp2_with (go_at_call 113; refine (HF.out _).mono ?_; rintro e w1 ⟨v1, rfl, ok1⟩; have HO := hide3 ok1; clear ok1)
  go_ret
  exact ⟨v1, rfl, HO.out⟩

theorem join_rg {A B : Rg} (hA : RangeR A) (hB : RangeR B) {va vb : Value} {w : World} (hf : FL w) (ha : SpansR w va A) (hb : SpansR w vb B) :
    Calls Tryz.prog 56 #[va, vb] w fun e w' => ∃ v, e = .returned v ∧ OwnS w' w.heap.size v ((joinR A B).map spR) ∧ Below w.heap.size w w' := by
  have HAll : Hid (∀ w1, Below w.heap.size w w1 → Calls Tryz.prog 81 #[] w1 fun e w' => ∃ v, e = .returned v ∧ SpansR w' v allR ∧ Below w1.heap.size w1 w') := fun w1 hbl => All_rg (hf.below hbl)
  have H1 : Hid (∀ v1 w1, SpansR w1 v1 allR → Below w.heap.size w w1 → Calls Tryz.prog 80 #[v1, va] w1 fun e w' => ∃ v, e = .returned v ∧ OwnS w' w1.heap.size v ((cutR allR A).map spR) ∧ Below w1.heap.size w1 w') := fun v1 w1 h1 hbl => cut_rg allR_ok hA h1 (ha.below hbl)
  have H2 : Hid (∀ v1 w1, SpansR w1 v1 (cutR allR A) → Below w.heap.size w w1 → Calls Tryz.prog 80 #[v1, vb] w1 fun e w' => ∃ v, e = .returned v ∧ OwnS w' w1.heap.size v ((cutR (cutR allR A) B).map spR) ∧ Below w1.heap.size w1 w') := fun v1 w1 h1 hbl => cut_rg (allR_ok.cut hA) hB h1 (hb.below hbl)
  have H3 : Hid (∀ v0 v1 w1, SpansR w1 v0 allR → SpansR w1 v1 (cutR (cutR allR A) B) → Calls Tryz.prog 80 #[v0, v1] w1 fun e w' => ∃ v, e = .returned v ∧ OwnS w' w1.heap.size v ((joinR A B).map spR) ∧ Below w1.heap.size w1 w') := fun v0 v1 w1 h0 h1 => cut_rg allR_ok ((allR_ok.cut hA).cut hB) h0 h1
  have HB0 : Hid (Below w.heap.size w w) := Below.refl _ _
  have t1 : True := trivial
  have t2 : True := trivial
  have t3 : True := trivial
  clear ha hb hf
  go_enter Tryz.func56, Tryz.ntmps56
  go_wp2_with (first
    | (have _t := t1; go_at_call 81; refine (HAll.out _ HB0.out).mono ?_; rintro e w1 ⟨v1, rfl, ok1⟩; clear t1; have HO1 := hide3 ok1; clear ok1)
    | (go_at_call 81; refine (HAll.out _ HO1.out.2).mono ?_; rintro e w2 ⟨v2, rfl, ok2⟩; have HO2 : Hid (SpansR w2 v1 allR ∧ SpansR w2 v2 allR ∧ Below w.heap.size w w2) := ⟨HO1.out.1.below ok2.2, ok2.1, below_then HO1.out.2 ok2.2⟩; clear ok2 HO1)
    | (have _t := t2; go_at_call 80; refine (H1.out _ _ HO2.out.2.1 HO2.out.2.2).mono ?_; rintro e w3 ⟨v3, rfl, ok3⟩; clear t2; have HO3 : Hid (SpansR w3 v1 allR ∧ SpansR w3 v3 (cutR allR A) ∧ Below w.heap.size w w3) := ⟨HO2.out.1.below ok3.2, ok3.1.spans, below_then HO2.out.2.2 ok3.2⟩; clear ok3 HO2)
    | (have _t := t3; go_at_call 80; refine (H2.out _ _ HO3.out.2.1 HO3.out.2.2).mono ?_; rintro e w4 ⟨v4, rfl, ok4⟩; clear t3; have HO4 : Hid (SpansR w4 v1 allR ∧ SpansR w4 v4 (cutR (cutR allR A) B) ∧ Below w.heap.size w w4) := ⟨HO3.out.1.below ok4.2, ok4.1.spans, below_then HO3.out.2.2 ok4.2⟩; clear ok4 HO3)
    | (go_at_call 80; refine (H3.out _ _ _ HO4.out.1 HO4.out.2.1).mono ?_; rintro e w5 ⟨v5, rfl, ok5⟩; have HO5 := hide3 ok5; clear ok5))
  go_ret
  exact ⟨v5, rfl, HO5.out.1.base HO4.out.2.2.size, below_then HO4.out.2.2 HO5.out.2⟩

/-- What notFull makes of a list of n spans. -/
def fullV (n : Nat) (v : Value) : Value := if n ≤ 64 then v else .slice none 0 0
def fullE (n : Nat) : Int := if n ≤ 64 then 0 else 26

theorem notFull_any (ad : Option Addr) (n cap : Nat) (w : World) :
    Calls Tryz.prog 79 #[.slice ad n cap] w fun e w' => e = .returned (.tuple #[fullV n (.slice ad n cap), .int .i64 (fullE n)]) ∧ Below w.heap.size w w' := by
  by_cases h : n ≤ 64
  · have h1 : ¬ (64 : Int) < (n : Int) := by omega
    have HV : Hid (fullV n (.slice ad n cap) = .slice ad n cap ∧ fullE n = 0) := by unfold Hid fullV fullE; simp [h]
    go_enter Tryz.func79, Tryz.ntmps79
    go_wp2
    go_ret2
    exact ⟨by rw [HV.out.1, HV.out.2]; rfl, Below.refl _ _⟩
  · have h1 : (64 : Int) < (n : Int) := by omega
    have HV : Hid (fullV n (.slice ad n cap) = .slice none 0 0 ∧ fullE n = 26) := by unfold Hid fullV fullE; simp [h]
    go_enter Tryz.func79, Tryz.ntmps79
    go_wp2
    go_ret2
    exact ⟨by rw [HV.out.1, HV.out.2]; rfl, Below.refl _ _⟩
end Go.Proofs.YthlipnnlgkmhcaaGreatDoor
namespace Go.Proofs.YthlipnnlgkmhcaaGreatDoor
open Go.RowKit

/-- A span's places. -/
def rk (s : Sp) : Int × Int := (rankV s.a s.b s.c, rankV s.x s.y s.z)

theorem maySp_true {a b c x y z : Int} : maySp a b c x y z = true ↔ mayV a b c = true ∧ mayV x y z = true ∧ cmpV a b c x y z ≤ 0 := by
  unfold maySp; simp [and_assoc]
theorem cmp_lek {a b c x y z : Int} (h : mayV a b c = true) (k : mayV x y z = true) : cmpV a b c x y z ≤ 0 ↔ rankV a b c ≤ rankV x y z := by
  have h1 := cmp_rank k h
  rw [cmp_neg] at h1
  omega
theorem maySp_rk {s : Sp} (h : maySp s.a s.b s.c s.x s.y s.z = true) : spR (rk s) = s ∧ okP2 (rk s) := by
  obtain ⟨h1, h2, h3⟩ := maySp_true.1 h
  rw [cmp_lek h1 h2] at h3
  obtain ⟨a, b, c, x, y, z⟩ := s
  obtain ⟨e1, e2, e3⟩ := at_rank h1
  obtain ⟨f1, f2, f3⟩ := at_rank h2
  have l1 := rank_low h1
  have l2 := rank_low h2
  refine ⟨?_, ?_, ?_, ?_⟩
  · simp only [spR, rk]
    simp only at e1 e2 e3 f1 f2 f3
    rw [e1, e2, e3, f1, f2, f3]
  · unfold okR rk; simp only at *; omega
  · unfold okR rk; simp only at *; omega
  · exact h3
theorem rk_spR {p : Int × Int} (h : okP2 p) : rk (spR p) = p ∧ maySp (spR p).a (spR p).b (spR p).c (spR p).x (spR p).y (spR p).z = true := by
  obtain ⟨h1, h2, h3⟩ := h
  obtain ⟨m1, e1⟩ := may_at h1.has
  obtain ⟨m2, e2⟩ := may_at h2.has
  refine ⟨?_, ?_⟩
  · unfold rk spR; simp only; rw [e1, e2]
  · rw [maySp_true]
    refine ⟨m1, m2, ?_⟩
    unfold spR
    simp only
    rw [cmp_lek m1 m2, e1, e2]
    exact h3
theorem apart_rk {x y z a b c : Int} (h : mayV x y z = true) (k : mayV a b c = true) : apartV x y z a b c = true ↔ rankV x y z + 2 ≤ rankV a b c := by
  unfold apartV
  have l1 := rank_low h
  have l2 := rank_low k
  rw [Bool.and_eq_true, decide_eq_true_eq]
  constructor
  · rintro ⟨h1, h2⟩
    obtain ⟨_, m, e⟩ := on_may h1
    rw [cmp_rank m k, e] at h2
    omega
  · intro h1
    have h2 : onIs x y z 1 = true := by rw [next_is h]; simp; omega
    obtain ⟨_, m, e⟩ := on_may h2
    refine ⟨h2, ?_⟩
    rw [cmp_rank m k, e]
    omega

theorem okAt_zero {s : Sp} {L : List Sp} : okAt (s :: L) 0 = maySp s.a s.b s.c s.x s.y s.z := by simp [okAt]
theorem okAt_one {s t : Sp} {L : List Sp} : okAt (s :: t :: L) 1 = (maySp t.a t.b t.c t.x t.y t.z && apartV s.x s.y s.z t.a t.b t.c) := by simp [okAt]
theorem okAt_more {s : Sp} {L : List Sp} {i : Nat} : okAt (s :: L) (i + 1 + 1) = okAt L (i + 1) := by simp [okAt]

theorem ok_tail {s : Sp} {L : List Sp} (h : ∀ i, i < (s :: L).length → okAt (s :: L) i = true) : ∀ i, i < L.length → okAt L i = true := by
  intro i hi
  cases i with
  | succ i => rw [← okAt_more (s := s)]; exact h _ (by simpa using hi)
  | zero =>
    cases L with
    | nil => simp at hi
    | cons t L =>
      have := h 1 (by simp)
      rw [okAt_one, Bool.and_eq_true] at this
      rw [okAt_zero]; exact this.1

theorem ok_rise : ∀ {L : List Sp}, (∀ i, i < L.length → okAt L i = true) → (L.map rk).map spR = L ∧ RangeR (L.map rk)
  | [], _ => ⟨rfl, trivial⟩
  | s :: L, h => by
    obtain ⟨e, hr⟩ := ok_rise (ok_tail h)
    have h0 := h 0 (by simp)
    rw [okAt_zero] at h0
    obtain ⟨es, o1, o2, o3⟩ := maySp_rk h0
    refine ⟨by rw [List.map_cons, List.map_cons, e, es], o1.1, o3, o2.2, ?_⟩
    cases L with
    | nil => trivial
    | cons t L =>
      have h1 := h 1 (by simp)
      rw [okAt_one, Bool.and_eq_true] at h1
      have ha := (apart_rk (maySp_true.1 h0).2.1 (maySp_true.1 h1.1).1).1 h1.2
      exact ⟨ha, hr.2⟩

theorem rise_ok : ∀ {A : Rg}, RangeR A → ∀ i, i < (A.map spR).length → okAt (A.map spR) i = true
  | [], _, i, hi => by simp at hi
  | p :: A, h, i, hi => by
    obtain ⟨g, e⟩ := p
    obtain ⟨h1, h2, h3, h4⟩ := h
    have ho : okP2 (g, e) := ⟨⟨h1, by show g ≤ 999999999; omega⟩, ⟨by show 0 ≤ e; omega, h3⟩, h2⟩
    have ih := rise_ok (A := A) (h4.weak (by omega))
    cases i with
    | zero => rw [List.map_cons, okAt_zero]; exact (rk_spR ho).2
    | succ i =>
      cases i with
      | succ i => rw [List.map_cons, okAt_more]; exact ih _ (by simpa using hi)
      | zero =>
        cases A with
        | nil => simp at hi
        | cons q A =>
          obtain ⟨g', e'⟩ := q
          obtain ⟨k1, k2, k3, _⟩ := h4
          have hq : okP2 (g', e') := ⟨⟨by show 0 ≤ g'; omega, by show g' ≤ 999999999; omega⟩, ⟨by show 0 ≤ e'; omega, k3⟩, k2⟩
          rw [List.map_cons, List.map_cons, okAt_one, Bool.and_eq_true]
          refine ⟨(rk_spR hq).2, ?_⟩
          rw [apart_rk (maySp_true.1 (rk_spR ho).2).2.1 (maySp_true.1 (rk_spR hq).2).1]
          have r1 := congrArg Prod.snd (rk_spR ho).1
          have r2 := congrArg Prod.fst (rk_spR hq).1
          simp only [rk] at r1 r2
          rw [r1, r2]
          exact k1

/-- A list may be just if it is a range of at most 64 spans. -/
theorem may_iff {L : List Sp} : mayL L = true ↔ ∃ A : Rg, L = A.map spR ∧ RangeR A ∧ A.length ≤ 64 := by
  unfold mayL
  rw [Bool.and_eq_true, decide_eq_true_eq, List.all_eq_true]
  constructor
  · rintro ⟨h1, h2⟩
    obtain ⟨e, hr⟩ := ok_rise fun i hi => h2 i (List.mem_range.2 hi)
    exact ⟨L.map rk, e.symm, hr, by simpa using h1⟩
  · rintro ⟨A, rfl, hr, hl⟩
    exact ⟨by simpa using hl, fun i hi => rise_ok hr i (List.mem_range.1 hi)⟩
theorem may_rg {A : Rg} (h : RangeR A) (hl : A.length ≤ 64) : mayL (A.map spR) = true := may_iff.2 ⟨A, rfl, h, hl⟩

theorem has_rg {p : Int × Int} (h : okP2 p) {a b c : Int} (k : mayV a b c = true) : hasS a b c (spR p) = true ↔ p.1 ≤ rankV a b c ∧ rankV a b c ≤ p.2 := by
  obtain ⟨h1, h2, h3⟩ := h
  obtain ⟨m1, e1⟩ := may_at h1.has
  obtain ⟨m2, e2⟩ := may_at h2.has
  unfold hasS spR
  simp only
  rw [Bool.and_eq_true, decide_eq_true_eq, decide_eq_true_eq, cmp_lek m1 k, cmp_lek k m2, e1, e2]

theorem any_rg {A : Rg} (h : ∀ p ∈ A, okP2 p) {a b c : Int} (k : mayV a b c = true) : (A.map spR).any (hasS a b c) = true ↔ InR A (rankV a b c) := by
  induction A with
  | nil => simp [InR]
  | cons p A ih =>
    obtain ⟨g, e⟩ := p
    rw [List.map_cons, List.any_cons, Bool.or_eq_true, has_rg (h _ List.mem_cons_self) k, ih fun q hq => h q (List.mem_cons_of_mem _ hq)]
    rfl
theorem in_rg {A : Rg} (h : RangeR A) (hl : A.length ≤ 64) {a b c : Int} : inL (A.map spR) a b c = true ↔ mayV a b c = true ∧ InR A (rankV a b c) := by
  unfold inL
  rw [may_rg h hl, Bool.true_and, Bool.and_eq_true]
  constructor
  · rintro ⟨k, hi⟩
    exact ⟨k, (any_rg (fun p hp => by have := RiseR.mem h hp; unfold okP2 okR; omega) k).1 hi⟩
  · rintro ⟨k, hi⟩
    exact ⟨k, (any_rg (fun p hp => by have := RiseR.mem h hp; unfold okP2 okR; omega) k).2 hi⟩

theorem SpansR.at {w : World} {v : Value} {A : Rg} (h : SpansR w v A) : SpansAt w v (A.map spR) := by
  obtain ⟨ad, cap, hv, hc, hl⟩ := h
  refine ⟨ad, cap, by rw [List.length_map]; exact hv, ?_⟩
  rcases hl with rfl | ⟨g, o, ha, hg, hs⟩
  · exact Or.inl rfl
  · right
    refine ⟨g, o, ha, hg, fun i hi => ?_⟩
    rw [List.getElem_map]
    exact hs i (by simpa using hi)

/-- A list of spans that came in: its length is no more than its room. -/
def SpansC (w : World) (v : Value) (L : List Sp) : Prop := SpansAt w v L ∧ ∃ ad n cap, v = .slice ad n cap ∧ n ≤ cap
theorem SpansC.rg {w : World} {v : Value} {A : Rg} (h : SpansC w v (A.map spR)) : SpansR w v A := by
  obtain ⟨⟨ad, cap, rfl, hl⟩, ad', n', cap', hv, hc⟩ := h
  cases hv
  rw [List.length_map] at hc ⊢
  refine ⟨_, _, rfl, hc, ?_⟩
  rcases hl with hl | ⟨g, o, ha, hg, hs⟩
  · left; simpa using hl
  · right
    refine ⟨g, o, ha, hg, fun i hi => ?_⟩
    have := hs i (by simpa using hi)
    rw [List.getElem_map] at this
    exact this
theorem SpansC.below {w w' : World} {v : Value} {L : List Sp} (h : SpansC w v L) (hb : Below w.heap.size w w') : SpansC w' v L := ⟨h.1.below hb, h.2⟩
theorem SpansR.c {w : World} {v : Value} {A : Rg} (h : SpansR w v A) : SpansC w v (A.map spR) := by
  have := h.at
  obtain ⟨ad, cap, hv, hc, _⟩ := h
  exact ⟨this, ad, _, cap, hv, hc⟩
end Go.Proofs.YthlipnnlgkmhcaaGreatDoor
