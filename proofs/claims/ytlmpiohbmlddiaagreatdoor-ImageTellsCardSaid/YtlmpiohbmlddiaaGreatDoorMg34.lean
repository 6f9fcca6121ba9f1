/- Iz5: their declarations that are needed, laid in one text, remarks and blanks left out. -/
import Derived.Test.YtlmpiohbmlddiaaGreatDoorMg33
namespace Go.Proofs.YtlmpiohbmlddiaaGreatDoor
open Go.RowKit
set_option maxRecDepth 100000
set_option maxHeartbeats 12800000 in
theorem EF {P:Mn} {G:List Nd} {L:List Dr} {a1 a2 a3 a4 ag:Option Addr} {c1 c2 c3 c4 cg ct0 g o:Nat} {w:World} {Q:Ending→World→Prop} {mt lt:ByteArray}
 (HMY:Hid (∀ W,Below w.heap.size w W→Calls Tryz.prog 26 #[.agg #[.slice a1 P.d.length c1,.slice a2 P.v.length c2,.slice a3 P.o.length c3,.slice a4 P.p.length c4,.slice ag G.length cg,.slice (some ⟨g,o,none⟩) L.length ct0,.bool false]] W fun e w'=>e= .returned (.bool true)∧Below W.heap.size W w'))
 (HSM:Hid (∀ W,Below w.heap.size w W→Calls Tryz.prog 20 #[.agg #[.slice a1 P.d.length c1,.slice a2 P.v.length c2,.slice a3 P.o.length c3,.slice a4 P.p.length c4],.agg #[.slice none 0 0,.slice none 0 0,.slice none 0 0,.slice none 0 0]] W fun e w'=>e= .returned (.bool (eqB P eA))∧Below W.heap.size W w'))
 (HMP:Hid (∀ W,Below w.heap.size w W→Calls Tryz.prog 27 #[.agg #[.slice a1 P.d.length c1,.slice a2 P.v.length c2,.slice a3 P.o.length c3,.slice a4 P.p.length c4]] W fun e w'=>e= .returned (.tuple #[.string mt,.int .i64 0])∧Below W.heap.size W w'))
 (HGP:Hid (∀ W,Below w.heap.size w W→Calls Tryz.prog 28 #[.agg #[.slice ag G.length cg]] W fun e w'=>e= .returned (.tuple #[.string lt,.int .i64 0])∧Below W.heap.size W w'))
 (hl:L.length=1) (hem:dG P G L false=false)
 (HQ:Hid (∀ v W,OwnFi W w.heap.size v (dA mt lt false L)→Below w.heap.size w W→Q (.returned (.tuple #[v,.int .i64 0])) W)):
 Calls Tryz.prog 9 #[.agg #[.slice a1 P.d.length c1,.slice a2 P.v.length c2,.slice a3 P.o.length c3,.slice a4 P.p.length c4,.slice ag G.length cg,.slice (some ⟨g,o,none⟩) L.length ct0,.bool false]] w Q:=by
 have HEM:Hid (dG P G L false=(eqB P eA&&(((G.length:Int)==1)&&(((L.length:Int)==1)&& !false)))):=rfl;have HS0:=aA (StB.new w (.slice a1 P.d.length c1) (.slice a2 P.v.length c2) (.slice a3 P.o.length c3) (.slice a4 P.p.length c4) (.slice ag G.length cg) (.slice (some ⟨g,o,none⟩) L.length ct0) false);have HB0:Hid (Below w.heap.size w (w.alloc (stO (.slice a1 P.d.length c1) (.slice a2 P.v.length c2) (.slice a3 P.o.length c3) (.slice a4 P.p.length c4) (.slice ag G.length cg) (.slice (some ⟨g,o,none⟩) L.length ct0) false))):=aF _ _;obtain ⟨⟨⟨s0,s1,s2,s3⟩,s4,s5,s6⟩,_⟩:=HS0.out
 have HA0:Hid (eS mt lt false L 0=cM (cM [] ⟨fD,false,mt⟩) ⟨eD,false,lt⟩):=by
  unfold Hid;rw [kR,if_neg (by omega)];simp only [eP,caF,List.append_nil,List.map_cons,List.map_nil,List.foldl_cons,List.foldl_nil,Bool.false_eq_true,if_false]
 have HEN:=aA (jY mt lt false L);have HLN:Hid (∀ k,(eS mt lt false L k).length≤4+3*k):=fun k=>jZ _ _ _ _ k
 have hli:¬ (1:Int)<(L.length:Int):=by omega
 have hld:decide ((1:Int)<(L.length:Int))=false:=decide_eq_false hli;have hln:decide (1<L.length)=false:=decide_eq_false (by omega);have HL1:=aA hl;clear hl;have HEF:=aA hem;clear hem;generalize dA mt lt false L=fv at*;generalize eS mt lt false L=AC at*;generalize eqB P eA=bm at*
 go_enter Tryz.func9,Tryz.ntmps9
 go_upto_region 5 with (first
  |(have _t:=HS1;go_at_call 20;refine (HSM.out _ HB1.out).mono ?_;rintro e W2 ⟨rfl,ok⟩;have HB2:=aA (aB HB1.out ok);have HS2:=aA (HS1.out.keep ok);clear s0 s1 s2 s3 s4 s5 s6 HS1;obtain ⟨⟨⟨s0,s1,s2,s3⟩,s4,s5,s6⟩,_⟩:=HS2.out;clear ok)
  |(have _t:=HS0;go_at_call 26;refine (HMY.out _ HB0.out).mono ?_;rintro e W1 ⟨rfl,ok⟩;have HB1:=aA (aB HB0.out ok);have HS1:=aA (HS0.out.keep ok);clear s0 s1 s2 s3 s4 s5 s6 HS0;obtain ⟨⟨⟨s0,s1,s2,s3⟩,s4,s5,s6⟩,_⟩:=HS1.out;clear ok))
 go_cut [42] from 15 to 42 (fun s42 wx=>s42= .bool false∧wx=W2)
 case first=>
  rw [HEF.out] at HEM;cases bm<;>cases hg:((G.length:Int)==1)<;>cases hl3:((L.length:Int)==1)
  all_goals
   rw [hg,hl3] at HEM
   first
    |exact absurd HEM.out (by decide)
    |(clear HEM
      go_wp2_with fail
      go_meet
      exact ⟨rfl,rfl⟩)
 case rest=>
  obtain ⟨rfl,rfl⟩:=hcut
  go_upto_region 16 with (first
   |(have _t:=HF5;go_at_call 29;refine (HF5.out.put (by simp [cA]) ⟨eD,false,lt⟩).mono ?_;rintro e W6 ⟨b6,n6,d6,rfl,ok⟩;have HF6:=aA ok;clear HF5 s0 s1 s2 s3 s4 s5 s6;obtain ⟨⟨⟨s0,s1,s2,s3⟩,s4,s5,s6⟩,_⟩:=ok.1.2;clear ok)
   |(have _t:=HF4;go_at_call 29;refine (HF4.out.put (by simp) ⟨fD,false,mt⟩).mono ?_;rintro e W5 ⟨b5,n5,d5,rfl,ok⟩;have HF5:=aA ok;clear HF4 s0 s1 s2 s3 s4 s5 s6;obtain ⟨⟨⟨s0,s1,s2,s3⟩,s4,s5,s6⟩,_⟩:=ok.1.2;clear ok)
   |(have _t:=HS3;go_at_call 28;refine (HGP.out _ HB3.out).mono ?_;rintro e W4 ⟨rfl,ok⟩;have HF4:Hid (FdQ w W4 (.slice a1 P.d.length c1) (.slice a2 P.v.length c2) (.slice a3 P.o.length c3) (.slice a4 P.p.length c4) (.slice ag G.length cg) (.slice (some ⟨g,o,none⟩) L.length ct0) false (.slice none 0 0) []):=⟨⟨aB HB3.out ok,HS3.out.keep ok⟩,OwnFi.nil _ _⟩;clear s0 s1 s2 s3 s4 s5 s6 HS3;obtain ⟨⟨⟨s0,s1,s2,s3⟩,s4,s5,s6⟩,_⟩:=HF4.out.1.2;clear ok)
   |(have _t:=HS2;go_at_call 27;refine (HMP.out _ HB2.out).mono ?_;rintro e W3 ⟨rfl,ok⟩;have HB3:=aA (aB HB2.out ok);have HS3:=aA (HS2.out.keep ok);clear s0 s1 s2 s3 s4 s5 s6 HS2;obtain ⟨⟨⟨s0,s1,s2,s3⟩,s4,s5,s6⟩,_⟩:=HS3.out;clear ok))
  have HZ:Hid (FdQ w W6 (.slice a1 P.d.length c1) (.slice a2 P.v.length c2) (.slice a3 P.o.length c3) (.slice a4 P.p.length c4) (.slice ag G.length cg) (.slice (some ⟨g,o,none⟩) L.length ct0) false (.slice b6 n6 d6) (fv)):=by
   have e:=HF6.out;have e2:=HEN.out;rw [HL1.out] at e2;rw [←e2,HA0.out];exact e
  clear HA0 HEN HLN HF6
  go_wp2_with fail
  go_loopw [11,10] (fun vi vo wr=>vi= .int .i64 1∧vo= .slice b6 n6 d6∧wr=W6) (fun _ _ _=>0)
  case atStart=>exact ⟨rfl,rfl,rfl⟩
  case round=>
   obtain ⟨rfl,rfl,rfl⟩:=hrel
   go_wp2_with fail
   exact HQ.out _ _ HZ.out.2 HZ.out.1.1
set_option maxHeartbeats 12800000 in
theorem EG {P:Mn} {G:List Nd} {L:List Dr} {a1 a2 a3 a4 ag:Option Addr} {c1 c2 c3 c4 cg ct0 g o:Nat} {w:World} {Q:Ending→World→Prop} {mt lt:ByteArray}
 (HMY:Hid (∀ W,Below w.heap.size w W→Calls Tryz.prog 26 #[.agg #[.slice a1 P.d.length c1,.slice a2 P.v.length c2,.slice a3 P.o.length c3,.slice a4 P.p.length c4,.slice ag G.length cg,.slice (some ⟨g,o,none⟩) L.length ct0,.bool true]] W fun e w'=>e= .returned (.bool true)∧Below W.heap.size W w'))
 (HSM:Hid (∀ W,Below w.heap.size w W→Calls Tryz.prog 20 #[.agg #[.slice a1 P.d.length c1,.slice a2 P.v.length c2,.slice a3 P.o.length c3,.slice a4 P.p.length c4],.agg #[.slice none 0 0,.slice none 0 0,.slice none 0 0,.slice none 0 0]] W fun e w'=>e= .returned (.bool (eqB P eA))∧Below W.heap.size W w'))
 (HMP:Hid (∀ W,Below w.heap.size w W→Calls Tryz.prog 27 #[.agg #[.slice a1 P.d.length c1,.slice a2 P.v.length c2,.slice a3 P.o.length c3,.slice a4 P.p.length c4]] W fun e w'=>e= .returned (.tuple #[.string mt,.int .i64 0])∧Below W.heap.size W w'))
 (HGP:Hid (∀ W,Below w.heap.size w W→Calls Tryz.prog 28 #[.agg #[.slice ag G.length cg]] W fun e w'=>e= .returned (.tuple #[.string lt,.int .i64 0])∧Below W.heap.size W w'))
 (hl:L.length=1) (hem:dG P G L true=false)
 (HQ:Hid (∀ v W,OwnFi W w.heap.size v (dA mt lt true L)→Below w.heap.size w W→Q (.returned (.tuple #[v,.int .i64 0])) W)):
 Calls Tryz.prog 9 #[.agg #[.slice a1 P.d.length c1,.slice a2 P.v.length c2,.slice a3 P.o.length c3,.slice a4 P.p.length c4,.slice ag G.length cg,.slice (some ⟨g,o,none⟩) L.length ct0,.bool true]] w Q:=by
 have HEM:Hid (dG P G L true=(eqB P eA&&(((G.length:Int)==1)&&(((L.length:Int)==1)&& !true)))):=rfl;have HS0:=aA (StB.new w (.slice a1 P.d.length c1) (.slice a2 P.v.length c2) (.slice a3 P.o.length c3) (.slice a4 P.p.length c4) (.slice ag G.length cg) (.slice (some ⟨g,o,none⟩) L.length ct0) true);have HB0:Hid (Below w.heap.size w (w.alloc (stO (.slice a1 P.d.length c1) (.slice a2 P.v.length c2) (.slice a3 P.o.length c3) (.slice a4 P.p.length c4) (.slice ag G.length cg) (.slice (some ⟨g,o,none⟩) L.length ct0) true))):=aF _ _;obtain ⟨⟨⟨s0,s1,s2,s3⟩,s4,s5,s6⟩,_⟩:=HS0.out
 have HA0:Hid (eS mt lt true L 0=cM (cM (cM [] ⟨fD,false,mt⟩) ⟨eD,false,lt⟩) ⟨lJ,false,⟨#[]⟩⟩):=by
  unfold Hid;rw [kR,if_neg (by omega)];simp only [eP,caF,List.append_nil,List.map_cons,List.map_nil,List.foldl_cons,List.foldl_nil,if_true,List.cons_append,List.nil_append]
 have HEN:=aA (jY mt lt true L);have HLN:Hid (∀ k,(eS mt lt true L k).length≤4+3*k):=fun k=>jZ _ _ _ _ k
 have hli:¬ (1:Int)<(L.length:Int):=by omega
 have hld:decide ((1:Int)<(L.length:Int))=false:=decide_eq_false hli;have hln:decide (1<L.length)=false:=decide_eq_false (by omega);have HL1:=aA hl;clear hl;have HEF:=aA hem;clear hem;generalize dA mt lt true L=fv at*;generalize eS mt lt true L=AC at*;generalize eqB P eA=bm at*
 go_enter Tryz.func9,Tryz.ntmps9
 go_upto_region 5 with (first
  |(have _t:=HS1;go_at_call 20;refine (HSM.out _ HB1.out).mono ?_;rintro e W2 ⟨rfl,ok⟩;have HB2:=aA (aB HB1.out ok);have HS2:=aA (HS1.out.keep ok);clear s0 s1 s2 s3 s4 s5 s6 HS1;obtain ⟨⟨⟨s0,s1,s2,s3⟩,s4,s5,s6⟩,_⟩:=HS2.out;clear ok)
  |(have _t:=HS0;go_at_call 26;refine (HMY.out _ HB0.out).mono ?_;rintro e W1 ⟨rfl,ok⟩;have HB1:=aA (aB HB0.out ok);have HS1:=aA (HS0.out.keep ok);clear s0 s1 s2 s3 s4 s5 s6 HS0;obtain ⟨⟨⟨s0,s1,s2,s3⟩,s4,s5,s6⟩,_⟩:=HS1.out;clear ok))
 go_cut [42] from 15 to 42 (fun s42 wx=>s42= .bool false∧wx=W2)
 case first=>
  rw [HEF.out] at HEM;cases bm<;>cases hg:((G.length:Int)==1)<;>cases hl3:((L.length:Int)==1)
  all_goals
   rw [hg,hl3] at HEM
   first
    |exact absurd HEM.out (by decide)
    |(clear HEM
      go_wp2_with fail
      go_meet
      exact ⟨rfl,rfl⟩)
 case rest=>
  obtain ⟨rfl,rfl⟩:=hcut
  go_upto_region 16 with (first
   |(have _t:=HF6;go_at_call 29;refine (HF6.out.put (by simp [cA]) ⟨lJ,false,⟨#[]⟩⟩).mono ?_;rintro e W7 ⟨b7,n7,d7,rfl,ok⟩;have HF7:=aA ok;clear HF6 s0 s1 s2 s3 s4 s5 s6;obtain ⟨⟨⟨s0,s1,s2,s3⟩,s4,s5,s6⟩,_⟩:=ok.1.2;clear ok)
   |(have _t:=HF5;go_at_call 29;refine (HF5.out.put (by simp [cA]) ⟨eD,false,lt⟩).mono ?_;rintro e W6 ⟨b6,n6,d6,rfl,ok⟩;have HF6:=aA ok;clear HF5 s0 s1 s2 s3 s4 s5 s6;obtain ⟨⟨⟨s0,s1,s2,s3⟩,s4,s5,s6⟩,_⟩:=ok.1.2;clear ok)
   |(have _t:=HF4;go_at_call 29;refine (HF4.out.put (by simp) ⟨fD,false,mt⟩).mono ?_;rintro e W5 ⟨b5,n5,d5,rfl,ok⟩;have HF5:=aA ok;clear HF4 s0 s1 s2 s3 s4 s5 s6;obtain ⟨⟨⟨s0,s1,s2,s3⟩,s4,s5,s6⟩,_⟩:=ok.1.2;clear ok)
   |(have _t:=HS3;go_at_call 28;refine (HGP.out _ HB3.out).mono ?_;rintro e W4 ⟨rfl,ok⟩;have HF4:Hid (FdQ w W4 (.slice a1 P.d.length c1) (.slice a2 P.v.length c2) (.slice a3 P.o.length c3) (.slice a4 P.p.length c4) (.slice ag G.length cg) (.slice (some ⟨g,o,none⟩) L.length ct0) true (.slice none 0 0) []):=⟨⟨aB HB3.out ok,HS3.out.keep ok⟩,OwnFi.nil _ _⟩;clear s0 s1 s2 s3 s4 s5 s6 HS3;obtain ⟨⟨⟨s0,s1,s2,s3⟩,s4,s5,s6⟩,_⟩:=HF4.out.1.2;clear ok)
   |(have _t:=HS2;go_at_call 27;refine (HMP.out _ HB2.out).mono ?_;rintro e W3 ⟨rfl,ok⟩;have HB3:=aA (aB HB2.out ok);have HS3:=aA (HS2.out.keep ok);clear s0 s1 s2 s3 s4 s5 s6 HS2;obtain ⟨⟨⟨s0,s1,s2,s3⟩,s4,s5,s6⟩,_⟩:=HS3.out;clear ok))
  have HZ:Hid (FdQ w W7 (.slice a1 P.d.length c1) (.slice a2 P.v.length c2) (.slice a3 P.o.length c3) (.slice a4 P.p.length c4) (.slice ag G.length cg) (.slice (some ⟨g,o,none⟩) L.length ct0) true (.slice b7 n7 d7) (fv)):=by
   have e:=HF7.out;have e2:=HEN.out;rw [HL1.out] at e2;rw [←e2,HA0.out];exact e
  clear HA0 HEN HLN HF7
  go_wp2_with fail
  go_loopw [11,10] (fun vi vo wr=>vi= .int .i64 1∧vo= .slice b7 n7 d7∧wr=W7) (fun _ _ _=>0)
  case atStart=>exact ⟨rfl,rfl,rfl⟩
  case round=>
   obtain ⟨rfl,rfl,rfl⟩:=hrel
   go_wp2_with fail
   exact HQ.out _ _ HZ.out.2 HZ.out.1.1
set_option maxHeartbeats 12800000 in
theorem EH {P:Mn} {G:List Nd} {L:List Dr} {a1 a2 a3 a4 ag:Option Addr} {c1 c2 c3 c4 cg ct0 g o:Nat} {w:World} {Q:Ending→World→Prop} {mt lt:ByteArray}
 (HMY:Hid (∀ W,Below w.heap.size w W→Calls Tryz.prog 26 #[.agg #[.slice a1 P.d.length c1,.slice a2 P.v.length c2,.slice a3 P.o.length c3,.slice a4 P.p.length c4,.slice ag G.length cg,.slice (some ⟨g,o,none⟩) L.length ct0,.bool false]] W fun e w'=>e= .returned (.bool true)∧Below W.heap.size W w'))
 (HSM:Hid (∀ W,Below w.heap.size w W→Calls Tryz.prog 20 #[.agg #[.slice a1 P.d.length c1,.slice a2 P.v.length c2,.slice a3 P.o.length c3,.slice a4 P.p.length c4],.agg #[.slice none 0 0,.slice none 0 0,.slice none 0 0,.slice none 0 0]] W fun e w'=>e= .returned (.bool (eqB P eA))∧Below W.heap.size W w'))
 (HMP:Hid (∀ W,Below w.heap.size w W→Calls Tryz.prog 27 #[.agg #[.slice a1 P.d.length c1,.slice a2 P.v.length c2,.slice a3 P.o.length c3,.slice a4 P.p.length c4]] W fun e w'=>e= .returned (.tuple #[.string mt,.int .i64 0])∧Below W.heap.size W w'))
 (HGP:Hid (∀ W,Below w.heap.size w W→Calls Tryz.prog 28 #[.agg #[.slice ag G.length cg]] W fun e w'=>e= .returned (.tuple #[.string lt,.int .i64 0])∧Below W.heap.size W w'))
 (HTX:Hid (∀ W u i (hi:i<L.length),i≠0→PathAt W u L[i].pa→Calls Tryz.prog 30 #[u] W fun e w'=>e= .returned (.string (aI L[i].pa))∧Below W.heap.size W w'))
 (HPP:Hid (∀ W i (hi:i<L.length) v1 v2 v3,PgAt W L[i].pk v1 v2 v3→Calls Tryz.prog 31 #[.agg #[.string L[i].pk.nm,.int .i64 L[i].pk.a,.int .i64 L[i].pk.b,.int .i64 L[i].pk.c,v1,v2,v3]] W fun e w'=>∃ er,e= .returned (.tuple #[.string (aR L[i].pk),.int .i64 er])∧Below W.heap.size W w'))
 (HIN:Hid (∀ W i (hi:i<L.length),Below w.heap.size w W→Calls Tryz.prog 32 #[.agg #[.slice (some ⟨g,o,none⟩) L.length ct0],.int .i64 i] W fun e w'=>∃ a n c,e= .returned (.slice a n c)∧eU L L[i].pa=decide (0<n)∧Below W.heap.size W w'))
 (HDS:Hid (∀ W,Below w.heap.size w W→∀ i (hi:i<L.length),∃ u v1 v2 v3,DrIn W g (o+i*9) L[i] u v1 v2 v3))
 (HSZ:Hid (∀ i (hi:i<L.length),i≠0→(aI L[i].pa).size≤1024))
 (hl:1<L.length∧L.length≤257) (hem:dG P G L false=false)
 (HQ:Hid (∀ v W,OwnFi W w.heap.size v (dA mt lt false L)→Below w.heap.size w W→Q (.returned (.tuple #[v,.int .i64 0])) W)):
 Calls Tryz.prog 9 #[.agg #[.slice a1 P.d.length c1,.slice a2 P.v.length c2,.slice a3 P.o.length c3,.slice a4 P.p.length c4,.slice ag G.length cg,.slice (some ⟨g,o,none⟩) L.length ct0,.bool false]] w Q:=by
 have HEM:Hid (dG P G L false=(eqB P eA&&(((G.length:Int)==1)&&(((L.length:Int)==1)&& !false)))):=rfl;have HS0:=aA (StB.new w (.slice a1 P.d.length c1) (.slice a2 P.v.length c2) (.slice a3 P.o.length c3) (.slice a4 P.p.length c4) (.slice ag G.length cg) (.slice (some ⟨g,o,none⟩) L.length ct0) false);have HB0:Hid (Below w.heap.size w (w.alloc (stO (.slice a1 P.d.length c1) (.slice a2 P.v.length c2) (.slice a3 P.o.length c3) (.slice a4 P.p.length c4) (.slice ag G.length cg) (.slice (some ⟨g,o,none⟩) L.length ct0) false))):=aF _ _;obtain ⟨⟨⟨s0,s1,s2,s3⟩,s4,s5,s6⟩,_⟩:=HS0.out
 have HA0:Hid (eS mt lt false L 0=cM (cM (cM [] ⟨fD,false,mt⟩) ⟨eD,false,lt⟩) ⟨dX,true,⟨#[]⟩⟩):=by
  unfold Hid;rw [kR,if_pos hl.1];simp only [eP,caF,List.append_nil,List.map_cons,List.map_nil,List.foldl_cons,List.foldl_nil,Bool.false_eq_true,if_false,List.cons_append,List.nil_append,AN]
 have HEN:=aA (jY mt lt false L);have HLN:Hid (∀ k,(eS mt lt false L k).length≤4+3*k):=fun k=>jZ _ _ _ _ k
 have HAS:Hid (∀ k (hk:k+1<L.length),eS mt lt false L (k+1)=if eU L L[k+1].pa=true then cM (cM (cM (eS mt lt false L k) ⟨aI L[k+1].pa,true,⟨#[]⟩⟩) ⟨aI L[k+1].pa++cZ,false,aR L[k+1].pk⟩) ⟨aI L[k+1].pa++dX,true,⟨#[]⟩⟩ else cM (cM (eS mt lt false L k) ⟨aI L[k+1].pa,true,⟨#[]⟩⟩) ⟨aI L[k+1].pa++cZ,false,aR L[k+1].pk⟩):=fun k hk=>uA hk
 obtain ⟨hl1,hl2⟩:=hl;have hli:(1:Int)<(L.length:Int):=by omega
 have hld:decide ((1:Int)<(L.length:Int))=true:=decide_eq_true hli;have hln:decide (1<L.length)=true:=decide_eq_true hl1;have HEF:=aA hem;clear hem;generalize dA mt lt false L=fv at*;generalize eS mt lt false L=AC at*;generalize eqB P eA=bm at*
 go_enter Tryz.func9,Tryz.ntmps9
 go_upto_region 5 with (first
  |(have _t:=HS1;go_at_call 20;refine (HSM.out _ HB1.out).mono ?_;rintro e W2 ⟨rfl,ok⟩;have HB2:=aA (aB HB1.out ok);have HS2:=aA (HS1.out.keep ok);clear s0 s1 s2 s3 s4 s5 s6 HS1;obtain ⟨⟨⟨s0,s1,s2,s3⟩,s4,s5,s6⟩,_⟩:=HS2.out;clear ok)
  |(have _t:=HS0;go_at_call 26;refine (HMY.out _ HB0.out).mono ?_;rintro e W1 ⟨rfl,ok⟩;have HB1:=aA (aB HB0.out ok);have HS1:=aA (HS0.out.keep ok);clear s0 s1 s2 s3 s4 s5 s6 HS0;obtain ⟨⟨⟨s0,s1,s2,s3⟩,s4,s5,s6⟩,_⟩:=HS1.out;clear ok))
 go_cut [42] from 15 to 42 (fun s42 wx=>s42= .bool false∧wx=W2)
 case first=>
  rw [HEF.out] at HEM;cases bm<;>cases hg:((G.length:Int)==1)<;>cases hl3:((L.length:Int)==1)
  all_goals
   rw [hg,hl3] at HEM
   first
    |exact absurd HEM.out (by decide)
    |(clear HEM
      go_wp2_with fail
      go_meet
      exact ⟨rfl,rfl⟩)
 case rest=>
  obtain ⟨rfl,rfl⟩:=hcut
  go_upto_region 16 with (first
   |(have _t:=HF6;go_at_call 29;refine (HF6.out.put (by simp [cA]) ⟨dX,true,⟨#[]⟩⟩).mono ?_;rintro e W7 ⟨b7,n7,d7,rfl,ok⟩;have HF7:=aA ok;clear HF6 s0 s1 s2 s3 s4 s5 s6;obtain ⟨⟨⟨s0,s1,s2,s3⟩,s4,s5,s6⟩,_⟩:=ok.1.2;clear ok)
   |(have _t:=HF5;go_at_call 29;refine (HF5.out.put (by simp [cA]) ⟨eD,false,lt⟩).mono ?_;rintro e W6 ⟨b6,n6,d6,rfl,ok⟩;have HF6:=aA ok;clear HF5 s0 s1 s2 s3 s4 s5 s6;obtain ⟨⟨⟨s0,s1,s2,s3⟩,s4,s5,s6⟩,_⟩:=ok.1.2;clear ok)
   |(have _t:=HF4;go_at_call 29;refine (HF4.out.put (by simp) ⟨fD,false,mt⟩).mono ?_;rintro e W5 ⟨b5,n5,d5,rfl,ok⟩;have HF5:=aA ok;clear HF4 s0 s1 s2 s3 s4 s5 s6;obtain ⟨⟨⟨s0,s1,s2,s3⟩,s4,s5,s6⟩,_⟩:=ok.1.2;clear ok)
   |(have _t:=HS3;go_at_call 28;refine (HGP.out _ HB3.out).mono ?_;rintro e W4 ⟨rfl,ok⟩;have HF4:Hid (FdQ w W4 (.slice a1 P.d.length c1) (.slice a2 P.v.length c2) (.slice a3 P.o.length c3) (.slice a4 P.p.length c4) (.slice ag G.length cg) (.slice (some ⟨g,o,none⟩) L.length ct0) false (.slice none 0 0) []):=⟨⟨aB HB3.out ok,HS3.out.keep ok⟩,OwnFi.nil _ _⟩;clear s0 s1 s2 s3 s4 s5 s6 HS3;obtain ⟨⟨⟨s0,s1,s2,s3⟩,s4,s5,s6⟩,_⟩:=HF4.out.1.2;clear ok)
   |(have _t:=HS2;go_at_call 27;refine (HMP.out _ HB2.out).mono ?_;rintro e W3 ⟨rfl,ok⟩;have HB3:=aA (aB HB2.out ok);have HS3:=aA (HS2.out.keep ok);clear s0 s1 s2 s3 s4 s5 s6 HS2;obtain ⟨⟨⟨s0,s1,s2,s3⟩,s4,s5,s6⟩,_⟩:=HS3.out;clear ok))
  have HZ:Hid (FdQ w W7 (.slice a1 P.d.length c1) (.slice a2 P.v.length c2) (.slice a3 P.o.length c3) (.slice a4 P.p.length c4) (.slice ag G.length cg) (.slice (some ⟨g,o,none⟩) L.length ct0) false (.slice b7 n7 d7) (AC 0)):=by
   have e:=HF7.out;rw [HA0.out];exact e
  clear HA0 HF7 HMY HSM HMP HGP s0 s1 s2 s3 s4 s5 s6
  go_wp2_with fail
  go_loopw [11,10] (fun vi vo wr=>∃ k:Nat,k+1≤L.length∧vi= .int .i64 ((k:Int)+1)∧∃ b n d,vo= .slice b n d∧FdQ w wr (.slice a1 P.d.length c1) (.slice a2 P.v.length c2) (.slice a3 P.o.length c3) (.slice a4 P.p.length c4) (.slice ag G.length cg) (.slice (some ⟨g,o,none⟩) L.length ct0) false (.slice b n d) (AC k)) (fun vi _ _=>L.length - (intOf vi).toNat)
  case atStart=>exact ⟨0,by omega,rfl,_,_,_,rfl,HZ.out⟩
  case round=>
   obtain ⟨k,hk,rfl,b,n,d,rfl,hfd0⟩:=hrel;have HG0:=aA hfd0;obtain ⟨⟨⟨s0,s1,s2,s3⟩,s4,s5,s6⟩,_⟩:=HG0.out.1.2;clear hfd0 HZ
   by_cases hlt:k+1<L.length
   · have hki:(k:Int)+1<(L.length:Int):=by omega
     have hlnk:(AC k).length≤2000:=by have:=HLN.out k;omega
     obtain ⟨u,v1,v2,v3,hdk⟩:=HDS.out wr HG0.out.1.1 (k+1) hlt;have HDK:=aA hdk;have HTC:Hid (∀ W,Below wr.heap.size wr W→Calls Tryz.prog 30 #[u] W fun e w'=>e= .returned (.string (aI L[k+1].pa))∧Below W.heap.size W w'):=fun W hb=>HTX.out W u (k+1) hlt (by omega) (hdk.2.1.1.below hb)
     have HPC:Hid (∀ W,Below wr.heap.size wr W→Calls Tryz.prog 31 #[.agg #[.string L[k+1].pk.nm,.int .i64 L[k+1].pk.a,.int .i64 L[k+1].pk.b,.int .i64 L[k+1].pk.c,v1,v2,v3]] W fun e w'=>∃ er,e= .returned (.tuple #[.string (aR L[k+1].pk),.int .i64 er])∧Below W.heap.size W w'):=fun W hb=>HPP.out W (k+1) hlt v1 v2 v3 (hdk.2.1.2.below hb)
     have HIC:Hid (∀ W,Below w.heap.size w W→Calls Tryz.prog 32 #[.agg #[.slice (some ⟨g,o,none⟩) L.length ct0],.int .i64 ((k:Int)+1)] W fun e w'=>∃ a n c,e= .returned (.slice a n c)∧eU L L[k+1].pa=decide (0<n)∧Below W.heap.size W w'):=fun W hb=>HIN.out W (k+1) hlt hb
     have hz1:=HSZ.out (k+1) hlt (by omega);have HST:=aA (HAS.out k hlt);have e1:=fun W:World=>run_string_add_sum (P:=Tryz.prog) (w:=W) (aI L[k+1].pa) cZ (by have h9:cZ.size=8:=rfl;omega)
     have e2:=fun W:World=>run_string_add_sum (P:=Tryz.prog) (w:=W) (aI L[k+1].pa) dX (by have h9:dX.size=8:=rfl;omega)
     obtain ⟨⟨d0,d1,d2,d3,d4,d5,d6,d7,d8⟩,⟨hpa,hpk⟩,hgl⟩:=hdk;obtain ⟨ua,uc,rfl⟩:=hpa.sl;obtain ⟨pa1,pn1,pc1,rfl⟩:∃ a n c,v1= .slice a n c:=by obtain ⟨a,c,e⟩:=hpk.1.sl;exact ⟨_,_,_,e⟩
     obtain ⟨pa2,pn2,pc2,rfl⟩:∃ a n c,v2= .slice a n c:=by obtain ⟨a,c,e⟩:=hpk.2.1.sl;exact ⟨_,_,_,e⟩
     obtain ⟨pa3,pn3,pc3,rfl⟩:∃ a n c,v3= .slice a n c:=by obtain ⟨a,c,e⟩:=hpk.2.2.sl;exact ⟨_,_,_,e⟩
     clear hpa hpk HTX HPP HIN HDS HSZ HAS;generalize L[k+1].pa.length=ul at*;generalize eU L L[k+1].pa=hi at*;generalize aI L[k+1].pa=tx at*;generalize aR L[k+1].pk=wt at*;generalize L[k+1]=dd at*;unfold cZ at e1;unfold dX at e2;cases hi
     · rw [if_neg Bool.false_ne_true] at HST
       go_wp2_with (first
        |(have _t:=HG4;go_at_call 32;refine (HIC.out _ HG4.out.1.1).mono ?_;rintro e V5 ⟨e5,f5,g5,rfl,hf5,ok⟩;have HG5:=aA (HG4.out.keep ok);clear HG4 s0 s1 s2 s3 s4 s5 s6;obtain ⟨⟨⟨s0,s1,s2,s3⟩,s4,s5,s6⟩,_⟩:=HG5.out.1.2;clear ok;have hfn:¬ 0<f5:=(by exact of_decide_eq_false (hf5.symm.trans rfl));have hfi:¬ (0:Int)<(f5:Int):=(by omega);have hfd:decide (0<f5)=false:=hf5.symm;have hfe:decide ((0:Int)<(f5:Int))=false:=(decide_eq_false hfi);clear hf5)
        |(have _t:=HG3;go_at_call 29;refine (HG3.out.put (by rw [cA];omega) ⟨tx++cZ,false,wt⟩).mono ?_;rintro e V4 ⟨e4,f4,g4,rfl,ok⟩;have HG4:=aA ok;clear HG3 s0 s1 s2 s3 s4 s5 s6;obtain ⟨⟨⟨s0,s1,s2,s3⟩,s4,s5,s6⟩,_⟩:=ok.1.2;clear ok)
        |(have _t:=HG2;go_at_call 29;refine (HG2.out.put (by omega) ⟨tx,true,⟨#[]⟩⟩).mono ?_;rintro e V3 ⟨e3,f3,g3,rfl,ok⟩;have HG3:=aA ok;clear HG2 s0 s1 s2 s3 s4 s5 s6;obtain ⟨⟨⟨s0,s1,s2,s3⟩,s4,s5,s6⟩,_⟩:=ok.1.2;clear ok)
        |(have _t:=HG1;go_at_call 31;refine (HPC.out _ HB1.out).mono ?_;rintro e V2 ⟨er,rfl,ok⟩;have HG2:=aA (HG1.out.keep ok);clear HG1 HB1 s0 s1 s2 s3 s4 s5 s6;obtain ⟨⟨⟨s0,s1,s2,s3⟩,s4,s5,s6⟩,_⟩:=HG2.out.1.2;clear ok)
        |(have _t:=HG0;go_at_call 30;refine (HTC.out _ (Below.refl _ _)).mono ?_;rintro e V1 ⟨rfl,ok⟩;have HG1:=aA (HG0.out.keep ok);have HB1:=aA ok;clear HG0 s0 s1 s2 s3 s4 s5 s6 d0 d1 d2 d3 d4 d5 d6 d7 d8;obtain ⟨⟨⟨s0,s1,s2,s3⟩,s4,s5,s6⟩,_⟩:=HG1.out.1.2;obtain ⟨⟨d0,d1,d2,d3,d4,d5,d6,d7,d8⟩,_,_⟩:=HDK.out.below ok;clear ok))
       exact ⟨⟨k+1,by omega,by go_num,_,_,_,rfl,by rw [HST.out];exact HG5.out⟩,by simp [intOf];omega⟩
     · rw [if_pos rfl] at HST
       go_wp2_with (first
        |(have _t:=HG5;go_at_call 29;refine (HG5.out.put (by rw [cA,cA];omega) ⟨tx++dX,true,⟨#[]⟩⟩).mono ?_;rintro e V6 ⟨e6,f6,g6,rfl,ok⟩;have HG6:=aA ok;clear HG5 ok)
        |(have _t:=HG4;go_at_call 32;refine (HIC.out _ HG4.out.1.1).mono ?_;rintro e V5 ⟨e5,f5,g5,rfl,hf5,ok⟩;have HG5:=aA (HG4.out.keep ok);clear HG4 s0 s1 s2 s3 s4 s5 s6;obtain ⟨⟨⟨s0,s1,s2,s3⟩,s4,s5,s6⟩,_⟩:=HG5.out.1.2;clear ok;have hfn:0<f5:=(by exact of_decide_eq_true (hf5.symm.trans rfl));have hfi:(0:Int)<(f5:Int):=(by omega);have hfd:decide (0<f5)=true:=hf5.symm;have hfe:decide ((0:Int)<(f5:Int))=true:=(decide_eq_true hfi);clear hf5)
        |(have _t:=HG3;go_at_call 29;refine (HG3.out.put (by rw [cA];omega) ⟨tx++cZ,false,wt⟩).mono ?_;rintro e V4 ⟨e4,f4,g4,rfl,ok⟩;have HG4:=aA ok;clear HG3 s0 s1 s2 s3 s4 s5 s6;obtain ⟨⟨⟨s0,s1,s2,s3⟩,s4,s5,s6⟩,_⟩:=ok.1.2;clear ok)
        |(have _t:=HG2;go_at_call 29;refine (HG2.out.put (by omega) ⟨tx,true,⟨#[]⟩⟩).mono ?_;rintro e V3 ⟨e3,f3,g3,rfl,ok⟩;have HG3:=aA ok;clear HG2 s0 s1 s2 s3 s4 s5 s6;obtain ⟨⟨⟨s0,s1,s2,s3⟩,s4,s5,s6⟩,_⟩:=ok.1.2;clear ok)
        |(have _t:=HG1;go_at_call 31;refine (HPC.out _ HB1.out).mono ?_;rintro e V2 ⟨er,rfl,ok⟩;have HG2:=aA (HG1.out.keep ok);clear HG1 HB1 s0 s1 s2 s3 s4 s5 s6;obtain ⟨⟨⟨s0,s1,s2,s3⟩,s4,s5,s6⟩,_⟩:=HG2.out.1.2;clear ok)
        |(have _t:=HG0;go_at_call 30;refine (HTC.out _ (Below.refl _ _)).mono ?_;rintro e V1 ⟨rfl,ok⟩;have HG1:=aA (HG0.out.keep ok);have HB1:=aA ok;clear HG0 s0 s1 s2 s3 s4 s5 s6 d0 d1 d2 d3 d4 d5 d6 d7 d8;obtain ⟨⟨⟨s0,s1,s2,s3⟩,s4,s5,s6⟩,_⟩:=HG1.out.1.2;obtain ⟨⟨d0,d1,d2,d3,d4,d5,d6,d7,d8⟩,_,_⟩:=HDK.out.below ok;clear ok))
       exact ⟨⟨k+1,by omega,by go_num,_,_,_,rfl,by rw [HST.out];exact HG6.out⟩,by simp [intOf];omega⟩
   · have hki:¬ (k:Int)+1<(L.length:Int):=by omega
     have HR:Hid (FdQ w wr (.slice a1 P.d.length c1) (.slice a2 P.v.length c2) (.slice a3 P.o.length c3) (.slice a4 P.p.length c4) (.slice ag G.length cg) (.slice (some ⟨g,o,none⟩) L.length ct0) false (.slice b n d) (fv)):=by
      have e:=HG0.out;have e2:=HEN.out;rw [show L.length - 1=k by omega] at e2;rw [←e2];exact e
     clear HG0
     go_wp2_with fail
     exact HQ.out _ _ HR.out.2 HR.out.1.1
set_option maxHeartbeats 12800000 in
theorem EI {P:Mn} {G:List Nd} {L:List Dr} {a1 a2 a3 a4 ag:Option Addr} {c1 c2 c3 c4 cg ct0 g o:Nat} {w:World} {Q:Ending→World→Prop} {mt lt:ByteArray}
 (HMY:Hid (∀ W,Below w.heap.size w W→Calls Tryz.prog 26 #[.agg #[.slice a1 P.d.length c1,.slice a2 P.v.length c2,.slice a3 P.o.length c3,.slice a4 P.p.length c4,.slice ag G.length cg,.slice (some ⟨g,o,none⟩) L.length ct0,.bool true]] W fun e w'=>e= .returned (.bool true)∧Below W.heap.size W w'))
 (HSM:Hid (∀ W,Below w.heap.size w W→Calls Tryz.prog 20 #[.agg #[.slice a1 P.d.length c1,.slice a2 P.v.length c2,.slice a3 P.o.length c3,.slice a4 P.p.length c4],.agg #[.slice none 0 0,.slice none 0 0,.slice none 0 0,.slice none 0 0]] W fun e w'=>e= .returned (.bool (eqB P eA))∧Below W.heap.size W w'))
 (HMP:Hid (∀ W,Below w.heap.size w W→Calls Tryz.prog 27 #[.agg #[.slice a1 P.d.length c1,.slice a2 P.v.length c2,.slice a3 P.o.length c3,.slice a4 P.p.length c4]] W fun e w'=>e= .returned (.tuple #[.string mt,.int .i64 0])∧Below W.heap.size W w'))
 (HGP:Hid (∀ W,Below w.heap.size w W→Calls Tryz.prog 28 #[.agg #[.slice ag G.length cg]] W fun e w'=>e= .returned (.tuple #[.string lt,.int .i64 0])∧Below W.heap.size W w'))
 (HTX:Hid (∀ W u i (hi:i<L.length),i≠0→PathAt W u L[i].pa→Calls Tryz.prog 30 #[u] W fun e w'=>e= .returned (.string (aI L[i].pa))∧Below W.heap.size W w'))
 (HPP:Hid (∀ W i (hi:i<L.length) v1 v2 v3,PgAt W L[i].pk v1 v2 v3→Calls Tryz.prog 31 #[.agg #[.string L[i].pk.nm,.int .i64 L[i].pk.a,.int .i64 L[i].pk.b,.int .i64 L[i].pk.c,v1,v2,v3]] W fun e w'=>∃ er,e= .returned (.tuple #[.string (aR L[i].pk),.int .i64 er])∧Below W.heap.size W w'))
 (HIN:Hid (∀ W i (hi:i<L.length),Below w.heap.size w W→Calls Tryz.prog 32 #[.agg #[.slice (some ⟨g,o,none⟩) L.length ct0],.int .i64 i] W fun e w'=>∃ a n c,e= .returned (.slice a n c)∧eU L L[i].pa=decide (0<n)∧Below W.heap.size W w'))
 (HDS:Hid (∀ W,Below w.heap.size w W→∀ i (hi:i<L.length),∃ u v1 v2 v3,DrIn W g (o+i*9) L[i] u v1 v2 v3))
 (HSZ:Hid (∀ i (hi:i<L.length),i≠0→(aI L[i].pa).size≤1024))
 (hl:1<L.length∧L.length≤257) (hem:dG P G L true=false)
 (HQ:Hid (∀ v W,OwnFi W w.heap.size v (dA mt lt true L)→Below w.heap.size w W→Q (.returned (.tuple #[v,.int .i64 0])) W)):
 Calls Tryz.prog 9 #[.agg #[.slice a1 P.d.length c1,.slice a2 P.v.length c2,.slice a3 P.o.length c3,.slice a4 P.p.length c4,.slice ag G.length cg,.slice (some ⟨g,o,none⟩) L.length ct0,.bool true]] w Q:=by
 have HEM:Hid (dG P G L true=(eqB P eA&&(((G.length:Int)==1)&&(((L.length:Int)==1)&& !true)))):=rfl;have HS0:=aA (StB.new w (.slice a1 P.d.length c1) (.slice a2 P.v.length c2) (.slice a3 P.o.length c3) (.slice a4 P.p.length c4) (.slice ag G.length cg) (.slice (some ⟨g,o,none⟩) L.length ct0) true);have HB0:Hid (Below w.heap.size w (w.alloc (stO (.slice a1 P.d.length c1) (.slice a2 P.v.length c2) (.slice a3 P.o.length c3) (.slice a4 P.p.length c4) (.slice ag G.length cg) (.slice (some ⟨g,o,none⟩) L.length ct0) true))):=aF _ _;obtain ⟨⟨⟨s0,s1,s2,s3⟩,s4,s5,s6⟩,_⟩:=HS0.out
 have HA0:Hid (eS mt lt true L 0=cM (cM (cM (cM [] ⟨fD,false,mt⟩) ⟨eD,false,lt⟩) ⟨lJ,false,⟨#[]⟩⟩) ⟨dX,true,⟨#[]⟩⟩):=by
  unfold Hid;rw [kR,if_pos hl.1];simp only [eP,caF,List.map_cons,List.map_nil,List.foldl_cons,List.foldl_nil,if_true,List.cons_append,List.nil_append,AN]
 have HEN:=aA (jY mt lt true L);have HLN:Hid (∀ k,(eS mt lt true L k).length≤4+3*k):=fun k=>jZ _ _ _ _ k
 have HAS:Hid (∀ k (hk:k+1<L.length),eS mt lt true L (k+1)=if eU L L[k+1].pa=true then cM (cM (cM (eS mt lt true L k) ⟨aI L[k+1].pa,true,⟨#[]⟩⟩) ⟨aI L[k+1].pa++cZ,false,aR L[k+1].pk⟩) ⟨aI L[k+1].pa++dX,true,⟨#[]⟩⟩ else cM (cM (eS mt lt true L k) ⟨aI L[k+1].pa,true,⟨#[]⟩⟩) ⟨aI L[k+1].pa++cZ,false,aR L[k+1].pk⟩):=fun k hk=>uA hk
 obtain ⟨hl1,hl2⟩:=hl;have hli:(1:Int)<(L.length:Int):=by omega
 have hld:decide ((1:Int)<(L.length:Int))=true:=decide_eq_true hli;have hln:decide (1<L.length)=true:=decide_eq_true hl1;have HEF:=aA hem;clear hem;generalize dA mt lt true L=fv at*;generalize eS mt lt true L=AC at*;generalize eqB P eA=bm at*
 go_enter Tryz.func9,Tryz.ntmps9
 go_upto_region 5 with (first
  |(have _t:=HS1;go_at_call 20;refine (HSM.out _ HB1.out).mono ?_;rintro e W2 ⟨rfl,ok⟩;have HB2:=aA (aB HB1.out ok);have HS2:=aA (HS1.out.keep ok);clear s0 s1 s2 s3 s4 s5 s6 HS1;obtain ⟨⟨⟨s0,s1,s2,s3⟩,s4,s5,s6⟩,_⟩:=HS2.out;clear ok)
  |(have _t:=HS0;go_at_call 26;refine (HMY.out _ HB0.out).mono ?_;rintro e W1 ⟨rfl,ok⟩;have HB1:=aA (aB HB0.out ok);have HS1:=aA (HS0.out.keep ok);clear s0 s1 s2 s3 s4 s5 s6 HS0;obtain ⟨⟨⟨s0,s1,s2,s3⟩,s4,s5,s6⟩,_⟩:=HS1.out;clear ok))
 go_cut [42] from 15 to 42 (fun s42 wx=>s42= .bool false∧wx=W2)
 case first=>
  rw [HEF.out] at HEM;cases bm<;>cases hg:((G.length:Int)==1)<;>cases hl3:((L.length:Int)==1)
  all_goals
   rw [hg,hl3] at HEM
   first
    |exact absurd HEM.out (by decide)
    |(clear HEM
      go_wp2_with fail
      go_meet
      exact ⟨rfl,rfl⟩)
 case rest=>
  obtain ⟨rfl,rfl⟩:=hcut
  go_upto_region 16 with (first
   |(have _t:=HF7;go_at_call 29;refine (HF7.out.put (by simp [cA]) ⟨dX,true,⟨#[]⟩⟩).mono ?_;rintro e W8 ⟨b8,n8,d8,rfl,ok⟩;have HF8:=aA ok;clear HF7 s0 s1 s2 s3 s4 s5 s6;obtain ⟨⟨⟨s0,s1,s2,s3⟩,s4,s5,s6⟩,_⟩:=ok.1.2;clear ok)
   |(have _t:=HF6;go_at_call 29;refine (HF6.out.put (by simp [cA]) ⟨lJ,false,⟨#[]⟩⟩).mono ?_;rintro e W7 ⟨b7,n7,d7,rfl,ok⟩;have HF7:=aA ok;clear HF6 s0 s1 s2 s3 s4 s5 s6;obtain ⟨⟨⟨s0,s1,s2,s3⟩,s4,s5,s6⟩,_⟩:=ok.1.2;clear ok)
   |(have _t:=HF5;go_at_call 29;refine (HF5.out.put (by simp [cA]) ⟨eD,false,lt⟩).mono ?_;rintro e W6 ⟨b6,n6,d6,rfl,ok⟩;have HF6:=aA ok;clear HF5 s0 s1 s2 s3 s4 s5 s6;obtain ⟨⟨⟨s0,s1,s2,s3⟩,s4,s5,s6⟩,_⟩:=ok.1.2;clear ok)
   |(have _t:=HF4;go_at_call 29;refine (HF4.out.put (by simp) ⟨fD,false,mt⟩).mono ?_;rintro e W5 ⟨b5,n5,d5,rfl,ok⟩;have HF5:=aA ok;clear HF4 s0 s1 s2 s3 s4 s5 s6;obtain ⟨⟨⟨s0,s1,s2,s3⟩,s4,s5,s6⟩,_⟩:=ok.1.2;clear ok)
   |(have _t:=HS3;go_at_call 28;refine (HGP.out _ HB3.out).mono ?_;rintro e W4 ⟨rfl,ok⟩;have HF4:Hid (FdQ w W4 (.slice a1 P.d.length c1) (.slice a2 P.v.length c2) (.slice a3 P.o.length c3) (.slice a4 P.p.length c4) (.slice ag G.length cg) (.slice (some ⟨g,o,none⟩) L.length ct0) true (.slice none 0 0) []):=⟨⟨aB HB3.out ok,HS3.out.keep ok⟩,OwnFi.nil _ _⟩;clear s0 s1 s2 s3 s4 s5 s6 HS3;obtain ⟨⟨⟨s0,s1,s2,s3⟩,s4,s5,s6⟩,_⟩:=HF4.out.1.2;clear ok)
   |(have _t:=HS2;go_at_call 27;refine (HMP.out _ HB2.out).mono ?_;rintro e W3 ⟨rfl,ok⟩;have HB3:=aA (aB HB2.out ok);have HS3:=aA (HS2.out.keep ok);clear s0 s1 s2 s3 s4 s5 s6 HS2;obtain ⟨⟨⟨s0,s1,s2,s3⟩,s4,s5,s6⟩,_⟩:=HS3.out;clear ok))
  have HZ:Hid (FdQ w W8 (.slice a1 P.d.length c1) (.slice a2 P.v.length c2) (.slice a3 P.o.length c3) (.slice a4 P.p.length c4) (.slice ag G.length cg) (.slice (some ⟨g,o,none⟩) L.length ct0) true (.slice b8 n8 d8) (AC 0)):=by
   have e:=HF8.out;rw [HA0.out];exact e
  clear HA0 HF8 HMY HSM HMP HGP s0 s1 s2 s3 s4 s5 s6
  go_wp2_with fail
  go_loopw [11,10] (fun vi vo wr=>∃ k:Nat,k+1≤L.length∧vi= .int .i64 ((k:Int)+1)∧∃ b n d,vo= .slice b n d∧FdQ w wr (.slice a1 P.d.length c1) (.slice a2 P.v.length c2) (.slice a3 P.o.length c3) (.slice a4 P.p.length c4) (.slice ag G.length cg) (.slice (some ⟨g,o,none⟩) L.length ct0) true (.slice b n d) (AC k)) (fun vi _ _=>L.length - (intOf vi).toNat)
  case atStart=>exact ⟨0,by omega,rfl,_,_,_,rfl,HZ.out⟩
  case round=>
   obtain ⟨k,hk,rfl,b,n,d,rfl,hfd0⟩:=hrel;have HG0:=aA hfd0;obtain ⟨⟨⟨s0,s1,s2,s3⟩,s4,s5,s6⟩,_⟩:=HG0.out.1.2;clear hfd0 HZ
   by_cases hlt:k+1<L.length
   · have hki:(k:Int)+1<(L.length:Int):=by omega
     have hlnk:(AC k).length≤2000:=by have:=HLN.out k;omega
     obtain ⟨u,v1,v2,v3,hdk⟩:=HDS.out wr HG0.out.1.1 (k+1) hlt;have HDK:=aA hdk;have HTC:Hid (∀ W,Below wr.heap.size wr W→Calls Tryz.prog 30 #[u] W fun e w'=>e= .returned (.string (aI L[k+1].pa))∧Below W.heap.size W w'):=fun W hb=>HTX.out W u (k+1) hlt (by omega) (hdk.2.1.1.below hb)
     have HPC:Hid (∀ W,Below wr.heap.size wr W→Calls Tryz.prog 31 #[.agg #[.string L[k+1].pk.nm,.int .i64 L[k+1].pk.a,.int .i64 L[k+1].pk.b,.int .i64 L[k+1].pk.c,v1,v2,v3]] W fun e w'=>∃ er,e= .returned (.tuple #[.string (aR L[k+1].pk),.int .i64 er])∧Below W.heap.size W w'):=fun W hb=>HPP.out W (k+1) hlt v1 v2 v3 (hdk.2.1.2.below hb)
     have HIC:Hid (∀ W,Below w.heap.size w W→Calls Tryz.prog 32 #[.agg #[.slice (some ⟨g,o,none⟩) L.length ct0],.int .i64 ((k:Int)+1)] W fun e w'=>∃ a n c,e= .returned (.slice a n c)∧eU L L[k+1].pa=decide (0<n)∧Below W.heap.size W w'):=fun W hb=>HIN.out W (k+1) hlt hb
     have hz1:=HSZ.out (k+1) hlt (by omega);have HST:=aA (HAS.out k hlt);have e1:=fun W:World=>run_string_add_sum (P:=Tryz.prog) (w:=W) (aI L[k+1].pa) cZ (by have h9:cZ.size=8:=rfl;omega)
     have e2:=fun W:World=>run_string_add_sum (P:=Tryz.prog) (w:=W) (aI L[k+1].pa) dX (by have h9:dX.size=8:=rfl;omega)
     obtain ⟨⟨d0,d1,d2,d3,d4,d5,d6,d7,d8⟩,⟨hpa,hpk⟩,hgl⟩:=hdk;obtain ⟨ua,uc,rfl⟩:=hpa.sl;obtain ⟨pa1,pn1,pc1,rfl⟩:∃ a n c,v1= .slice a n c:=by obtain ⟨a,c,e⟩:=hpk.1.sl;exact ⟨_,_,_,e⟩
     obtain ⟨pa2,pn2,pc2,rfl⟩:∃ a n c,v2= .slice a n c:=by obtain ⟨a,c,e⟩:=hpk.2.1.sl;exact ⟨_,_,_,e⟩
     obtain ⟨pa3,pn3,pc3,rfl⟩:∃ a n c,v3= .slice a n c:=by obtain ⟨a,c,e⟩:=hpk.2.2.sl;exact ⟨_,_,_,e⟩
     clear hpa hpk HTX HPP HIN HDS HSZ HAS;generalize L[k+1].pa.length=ul at*;generalize eU L L[k+1].pa=hi at*;generalize aI L[k+1].pa=tx at*;generalize aR L[k+1].pk=wt at*;generalize L[k+1]=dd at*;unfold cZ at e1;unfold dX at e2;cases hi
     · rw [if_neg Bool.false_ne_true] at HST
       go_wp2_with (first
        |(have _t:=HG4;go_at_call 32;refine (HIC.out _ HG4.out.1.1).mono ?_;rintro e V5 ⟨e5,f5,g5,rfl,hf5,ok⟩;have HG5:=aA (HG4.out.keep ok);clear HG4 s0 s1 s2 s3 s4 s5 s6;obtain ⟨⟨⟨s0,s1,s2,s3⟩,s4,s5,s6⟩,_⟩:=HG5.out.1.2;clear ok;have hfn:¬ 0<f5:=(by exact of_decide_eq_false (hf5.symm.trans rfl));have hfi:¬ (0:Int)<(f5:Int):=(by omega);have hfd:decide (0<f5)=false:=hf5.symm;have hfe:decide ((0:Int)<(f5:Int))=false:=(decide_eq_false hfi);clear hf5)
        |(have _t:=HG3;go_at_call 29;refine (HG3.out.put (by rw [cA];omega) ⟨tx++cZ,false,wt⟩).mono ?_;rintro e V4 ⟨e4,f4,g4,rfl,ok⟩;have HG4:=aA ok;clear HG3 s0 s1 s2 s3 s4 s5 s6;obtain ⟨⟨⟨s0,s1,s2,s3⟩,s4,s5,s6⟩,_⟩:=ok.1.2;clear ok)
        |(have _t:=HG2;go_at_call 29;refine (HG2.out.put (by omega) ⟨tx,true,⟨#[]⟩⟩).mono ?_;rintro e V3 ⟨e3,f3,g3,rfl,ok⟩;have HG3:=aA ok;clear HG2 s0 s1 s2 s3 s4 s5 s6;obtain ⟨⟨⟨s0,s1,s2,s3⟩,s4,s5,s6⟩,_⟩:=ok.1.2;clear ok)
        |(have _t:=HG1;go_at_call 31;refine (HPC.out _ HB1.out).mono ?_;rintro e V2 ⟨er,rfl,ok⟩;have HG2:=aA (HG1.out.keep ok);clear HG1 HB1 s0 s1 s2 s3 s4 s5 s6;obtain ⟨⟨⟨s0,s1,s2,s3⟩,s4,s5,s6⟩,_⟩:=HG2.out.1.2;clear ok)
        |(have _t:=HG0;go_at_call 30;refine (HTC.out _ (Below.refl _ _)).mono ?_;rintro e V1 ⟨rfl,ok⟩;have HG1:=aA (HG0.out.keep ok);have HB1:=aA ok;clear HG0 s0 s1 s2 s3 s4 s5 s6 d0 d1 d2 d3 d4 d5 d6 d7 d8;obtain ⟨⟨⟨s0,s1,s2,s3⟩,s4,s5,s6⟩,_⟩:=HG1.out.1.2;obtain ⟨⟨d0,d1,d2,d3,d4,d5,d6,d7,d8⟩,_,_⟩:=HDK.out.below ok;clear ok))
       exact ⟨⟨k+1,by omega,by go_num,_,_,_,rfl,by rw [HST.out];exact HG5.out⟩,by simp [intOf];omega⟩
     · rw [if_pos rfl] at HST
       go_wp2_with (first
        |(have _t:=HG5;go_at_call 29;refine (HG5.out.put (by rw [cA,cA];omega) ⟨tx++dX,true,⟨#[]⟩⟩).mono ?_;rintro e V6 ⟨e6,f6,g6,rfl,ok⟩;have HG6:=aA ok;clear HG5 ok)
        |(have _t:=HG4;go_at_call 32;refine (HIC.out _ HG4.out.1.1).mono ?_;rintro e V5 ⟨e5,f5,g5,rfl,hf5,ok⟩;have HG5:=aA (HG4.out.keep ok);clear HG4 s0 s1 s2 s3 s4 s5 s6;obtain ⟨⟨⟨s0,s1,s2,s3⟩,s4,s5,s6⟩,_⟩:=HG5.out.1.2;clear ok;have hfn:0<f5:=(by exact of_decide_eq_true (hf5.symm.trans rfl));have hfi:(0:Int)<(f5:Int):=(by omega);have hfd:decide (0<f5)=true:=hf5.symm;have hfe:decide ((0:Int)<(f5:Int))=true:=(decide_eq_true hfi);clear hf5)
        |(have _t:=HG3;go_at_call 29;refine (HG3.out.put (by rw [cA];omega) ⟨tx++cZ,false,wt⟩).mono ?_;rintro e V4 ⟨e4,f4,g4,rfl,ok⟩;have HG4:=aA ok;clear HG3 s0 s1 s2 s3 s4 s5 s6;obtain ⟨⟨⟨s0,s1,s2,s3⟩,s4,s5,s6⟩,_⟩:=ok.1.2;clear ok)
        |(have _t:=HG2;go_at_call 29;refine (HG2.out.put (by omega) ⟨tx,true,⟨#[]⟩⟩).mono ?_;rintro e V3 ⟨e3,f3,g3,rfl,ok⟩;have HG3:=aA ok;clear HG2 s0 s1 s2 s3 s4 s5 s6;obtain ⟨⟨⟨s0,s1,s2,s3⟩,s4,s5,s6⟩,_⟩:=ok.1.2;clear ok)
        |(have _t:=HG1;go_at_call 31;refine (HPC.out _ HB1.out).mono ?_;rintro e V2 ⟨er,rfl,ok⟩;have HG2:=aA (HG1.out.keep ok);clear HG1 HB1 s0 s1 s2 s3 s4 s5 s6;obtain ⟨⟨⟨s0,s1,s2,s3⟩,s4,s5,s6⟩,_⟩:=HG2.out.1.2;clear ok)
        |(have _t:=HG0;go_at_call 30;refine (HTC.out _ (Below.refl _ _)).mono ?_;rintro e V1 ⟨rfl,ok⟩;have HG1:=aA (HG0.out.keep ok);have HB1:=aA ok;clear HG0 s0 s1 s2 s3 s4 s5 s6 d0 d1 d2 d3 d4 d5 d6 d7 d8;obtain ⟨⟨⟨s0,s1,s2,s3⟩,s4,s5,s6⟩,_⟩:=HG1.out.1.2;obtain ⟨⟨d0,d1,d2,d3,d4,d5,d6,d7,d8⟩,_,_⟩:=HDK.out.below ok;clear ok))
       exact ⟨⟨k+1,by omega,by go_num,_,_,_,rfl,by rw [HST.out];exact HG6.out⟩,by simp [intOf];omega⟩
   · have hki:¬ (k:Int)+1<(L.length:Int):=by omega
     have HR:Hid (FdQ w wr (.slice a1 P.d.length c1) (.slice a2 P.v.length c2) (.slice a3 P.o.length c3) (.slice a4 P.p.length c4) (.slice ag G.length cg) (.slice (some ⟨g,o,none⟩) L.length ct0) true (.slice b n d) (fv)):=by
      have e:=HG0.out;have e2:=HEN.out;rw [show L.length - 1=k by omega] at e2;rw [←e2];exact e
     clear HG0
     go_wp2_with fail
     exact HQ.out _ _ HR.out.2 HR.out.1.1
set_option maxHeartbeats 6400000 in
theorem vZ {P:Mn} {G:List Nd} {L:List Dr} {x1 x2 x3 x4 xg xt:Value} {pr:Bool} {w:World} (hm:MnAt w P x1 x2 x3 x4) (hmz:P.d.length≤9223372036854775807∧P.v.length≤9223372036854775807∧P.o.length≤9223372036854775807∧P.p.length≤9223372036854775807) (hmn:(∀ d ∈ P.d,d.nm.size≤9223372036854775807)∧(∀ d ∈ P.v,d.nm.size≤9223372036854775807)∧(∀ d ∈ P.o,d.nm.size≤9223372036854775807)∧∀ d ∈ P.p,d.nm.size≤9223372036854775807) (hg:NodesAt w xg G) (hgn:∀ n ∈ G,Lo.NdZ n) (ht:DirsAt w xt L) (hz:L.length≤9223372036854775807) (hk:iB L) (hn:∀ d ∈ L,PgN d.pk∧∀ s ∈ d.pa,s.size≤9223372036854775807) (hgz:oT G):
 Calls Tryz.prog 9 #[.agg #[x1,x2,x3,x4,xg,xt,.bool pr]] w (oV w (eI P G L pr) (erI P G L)):=by
 have HMY:Hid (∀ W,Below w.heap.size w W→Calls Tryz.prog 26 #[.agg #[x1,x2,x3,x4,xg,xt,.bool pr]] W fun e w'=>e= .returned (.bool (iU P G L))∧Below W.heap.size W w'):=fun W hb=>DU (hm.below hb) hmz hmn (hg.below hb) hgn (ht.below hb) hz hk hn hgz
 have HSM:Hid (∀ W,Below w.heap.size w W→Calls Tryz.prog 20 #[.agg #[x1,x2,x3,x4],.agg #[.slice none 0 0,.slice none 0 0,.slice none 0 0,.slice none 0 0]] W fun e w'=>e= .returned (.bool (eqB P eA))∧Below W.heap.size W w'):=fun W hb=>DK (hm.below hb) (FZ W) hmz
 cases hmy:iU P G L
 · rw [hmy] at HMY
   have HQ:Hid (∀ W,Below w.heap.size w W→oV w (eI P G L pr) (erI P G L) (.returned (.tuple #[.slice none 0 0,.int .i64 43])) W):=fun W hb=>⟨_,by unfold erI;rw [hmy];rfl,by unfold eI;rw [hmy];exact OwnFi.nil _ _,hb⟩
   generalize oV w (eI P G L pr) (erI P G L)=Q at*;obtain ⟨a1,c1,rfl⟩:=hm.1.sl;obtain ⟨a2,c2,rfl⟩:=hm.2.1.sl;obtain ⟨a3,c3,rfl⟩:=hm.2.2.1.sl;obtain ⟨a4,c4,rfl⟩:=hm.2.2.2.sl;obtain ⟨at0,ct0,rfl,_⟩:=ht.sl;obtain ⟨ag,cg,rfl⟩:∃ a c,xg= .slice a G.length c:=by obtain ⟨a,c,e,_⟩:=hg;exact ⟨a,c,e⟩
   have HS0:=aA (StB.new w (.slice a1 P.d.length c1) (.slice a2 P.v.length c2) (.slice a3 P.o.length c3) (.slice a4 P.p.length c4) (.slice ag G.length cg) (.slice at0 L.length ct0) pr);have HB0:Hid (Below w.heap.size w (w.alloc (stO (.slice a1 P.d.length c1) (.slice a2 P.v.length c2) (.slice a3 P.o.length c3) (.slice a4 P.p.length c4) (.slice ag G.length cg) (.slice at0 L.length ct0) pr))):=aF _ _;obtain ⟨⟨⟨s0,s1,s2,s3⟩,s4,s5,s6⟩,_⟩:=HS0.out;clear hm hmz hmn hg hgn ht hk hn hgz hmy HSM
   go_enter Tryz.func9,Tryz.ntmps9
   go_wp2_with (go_at_call 26;refine (HMY.out _ HB0.out).mono ?_;rintro e W1 ⟨rfl,ok⟩;have HB1:=aA (aB HB0.out ok);clear ok)
   exact HQ.out _ HB1.out
 · rw [hmy] at HMY
   have htk:=JN (fE (nX hmy)).1
   obtain ⟨hwm,hgm⟩:aN P=true∧Lo.cU G=true:=by
    unfold iU at hmy;simp only [Bool.and_eq_true] at hmy;exact hmy.1
   have HMP:Hid (∀ W,Below w.heap.size w W→Calls Tryz.prog 27 #[.agg #[x1,x2,x3,x4]] W fun e w'=>e= .returned (.tuple #[.string (aJ P),.int .i64 0])∧Below W.heap.size W w'):=fun W hb=>by
    have e:=oM (hm.below hb) hmz hmn;rw [if_pos hwm] at e;exact e
   have HGP:Hid (∀ W,Below w.heap.size w W→Calls Tryz.prog 28 #[.agg #[xg]] W fun e w'=>e= .returned (.tuple #[.string (Lo.prT G),.int .i64 0])∧Below W.heap.size W w'):=fun W hb=>by
    have e:=Lo.oQ (hg.below hb) hgn;unfold Lo.prE at e;rw [if_pos hgm] at e;exact e
   have HTX:Hid (∀ W u i (hi:i<L.length),i≠0→PathAt W u L[i].pa→Calls Tryz.prog 30 #[u] W fun e w'=>e= .returned (.string (aI L[i].pa))∧Below W.heap.size W w'):=fun W u i hi hne hu=>by
    obtain ⟨n1,n2,n3,_⟩:=htk.names i hi hne;rw [←eM n1 n2];exact lF hu (hk.1 _ (List.getElem_mem hi)) (hn _ (List.getElem_mem hi)).2
   have HPP:Hid (∀ W i (hi:i<L.length) v1 v2 v3,PgAt W L[i].pk v1 v2 v3→Calls Tryz.prog 31 #[.agg #[.string L[i].pk.nm,.int .i64 L[i].pk.a,.int .i64 L[i].pk.b,.int .i64 L[i].pk.c,v1,v2,v3]] W fun e w'=>∃ er,e= .returned (.tuple #[.string (aR L[i].pk),.int .i64 er])∧Below W.heap.size W w'):=fun W i hi v1 v2 v3 hp=>(KU hp (hk.2 _ (List.getElem_mem hi)) (hn _ (List.getElem_mem hi)).1).mono fun e w' h=>⟨_,h.1,h.2⟩
   have HSZ:Hid (∀ i (hi:i<L.length),i≠0→(aI L[i].pa).size≤1024):=fun i hi hne=>by
    rw [cD];exact (htk.names i hi hne).2.2.1
   have hl:=htk.len;have HQ0:dG P G L pr=true→Hid (∀ W,Below w.heap.size w W→oV w (eI P G L pr) (erI P G L) (.returned (.tuple #[.slice none 0 0,.int .i64 0])) W):=fun h W hb=>⟨_,by unfold erI;rw [hmy];rfl,by unfold eI;rw [hmy,h];exact OwnFi.nil _ _,hb⟩
   have HQ1:dG P G L pr=false→Hid (∀ v W,OwnFi W w.heap.size v (dA (aJ P) (Lo.prT G) pr L)→Below w.heap.size w W→oV w (eI P G L pr) (erI P G L) (.returned (.tuple #[v,.int .i64 0])) W):=fun h v W ho hb=>⟨v,by unfold erI;rw [hmy];rfl,by unfold eI;rw [hmy,h];exact ho,hb⟩
   obtain ⟨at0,ct0,hxt,_,hsl⟩:=ht.sl;obtain ⟨g,o,rfl,_⟩:=hsl 0 hl.1;subst hxt
   have HDS:Hid (∀ W,Below w.heap.size w W→∀ i (hi:i<L.length),∃ u v1 v2 v3,DrIn W g (o+i*9) L[i] u v1 v2 v3):=fun W hb i hi=>by
    obtain ⟨g',o',e,u,v1,v2,v3,hd⟩:=hsl i hi;cases e;exact ⟨u,v1,v2,v3,hd.below hb⟩
   have HIN:Hid (∀ W i (hi:i<L.length),Below w.heap.size w W→Calls Tryz.prog 32 #[.agg #[.slice (some ⟨g,o,none⟩) L.length ct0],.int .i64 i] W fun e w'=>∃ a n c,e= .returned (.slice a n c)∧eU L L[i].pa=decide (0<n)∧Below W.heap.size W w'):=fun W i hi hb=>ED (ht.below hb) hl.2 hk.1 hi
   obtain ⟨a1,c1,rfl⟩:=hm.1.sl;obtain ⟨a2,c2,rfl⟩:=hm.2.1.sl;obtain ⟨a3,c3,rfl⟩:=hm.2.2.1.sl;obtain ⟨a4,c4,rfl⟩:=hm.2.2.2.sl;obtain ⟨ag,cg,rfl⟩:∃ a c,xg= .slice a G.length c:=by obtain ⟨a,c,e,_⟩:=hg;exact ⟨a,c,e⟩
   cases hem:dG P G L pr
   · have HQ:=HQ1 hem
     by_cases hb1:1<L.length
     · cases pr
       · exact EH HMY HSM HMP HGP HTX HPP HIN HDS HSZ ⟨hb1,hl.2⟩ hem HQ
       · exact EI HMY HSM HMP HGP HTX HPP HIN HDS HSZ ⟨hb1,hl.2⟩ hem HQ
     · cases pr
       · exact EF HMY HSM HMP HGP (by omega) hem HQ
       · exact EG HMY HSM HMP HGP (by omega) hem HQ
   · have HQ:=HQ0 hem
     have HEM:Hid ((eqB P eA&&(((G.length:Int)==1)&&(((L.length:Int)==1)&& !pr)))=true):=hem;have HS0:=aA (StB.new w (.slice a1 P.d.length c1) (.slice a2 P.v.length c2) (.slice a3 P.o.length c3) (.slice a4 P.p.length c4) (.slice ag G.length cg) (.slice (some ⟨g,o,none⟩) L.length ct0) pr);have HB0:Hid (Below w.heap.size w (w.alloc (stO (.slice a1 P.d.length c1) (.slice a2 P.v.length c2) (.slice a3 P.o.length c3) (.slice a4 P.p.length c4) (.slice ag G.length cg) (.slice (some ⟨g,o,none⟩) L.length ct0) pr))):=aF _ _;obtain ⟨⟨⟨s0,s1,s2,s3⟩,s4,s5,s6⟩,_⟩:=HS0.out;clear hm hmz hmn hg hgn ht hk hn hgz hmy hsl HIN HDS HSZ HPP HTX HMP HGP HQ0 HQ1 hem htk hwm hgm;generalize oV w (eI P G L pr) (erI P G L)=Q at*
     obtain ⟨q1,q2,q3,q4⟩:eqB P eA=true∧((G.length:Int)==1)=true∧((L.length:Int)==1)=true∧pr=false:=by
      have e:=HEM.out;simp only [Bool.and_eq_true,Bool.not_eq_true'] at e;exact e
     rw [q1] at HSM;subst q4;clear HEM q1
     go_enter Tryz.func9,Tryz.ntmps9
     go_wp2_with (first
      |(have _t:=HS1;go_at_call 20;refine (HSM.out _ HB1.out).mono ?_;rintro e W2 ⟨rfl,ok⟩;have HB2:=aA (aB HB1.out ok);have HS2:=aA (HS1.out.keep ok);clear s0 s1 s2 s3 s4 s5 s6 HS1;obtain ⟨⟨⟨s0,s1,s2,s3⟩,s4,s5,s6⟩,_⟩:=HS2.out;clear ok)
      |(have _t:=HS0;go_at_call 26;refine (HMY.out _ HB0.out).mono ?_;rintro e W1 ⟨rfl,ok⟩;have HB1:=aA (aB HB0.out ok);have HS1:=aA (HS0.out.keep ok);clear s0 s1 s2 s3 s4 s5 s6 HS0;obtain ⟨⟨⟨s0,s1,s2,s3⟩,s4,s5,s6⟩,_⟩:=HS1.out;clear ok))
     exact HQ.out _ HB2.out
end Go.Proofs.YtlmpiohbmlddiaaGreatDoor
