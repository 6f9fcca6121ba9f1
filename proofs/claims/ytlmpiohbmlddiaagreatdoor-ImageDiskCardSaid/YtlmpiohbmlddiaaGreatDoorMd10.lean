/- RwTr, Tw9, Tw10, Tw8: their declarations that are needed, laid in one text, remarks and blanks left out. -/
import Derived.Test.YtlmpiohbmlddiaaGreatDoorShelfM
import Derived.Laws.CopyOwn
import Derived.BigRegion
import Derived.Test.YtlmpiohbmlddiaaGreatDoorMd09
namespace Go.Proofs.YtlmpiohbmlddiaaGreatDoor
open Go.ChangeShapes Go.WideShapes Go.ChangeAt Go.RowKit
set_option maxRecDepth 100000
theorem oY {H:Type}:∀ {ts:List TypeId} {ds:List (DataW H)} {i:Nat} {t:TypeId} {d:DataW H},(DataW.weightsEach Tryz.prog ts ds).all (· ≤reachBytes)=true→ts[i]? =some t→ds[i]? =some d→(d.weights Tryz.prog t).all (· ≤reachBytes)=true
 |[],_,_,_,_,_,h,_=>by simp at h
 |_::_,[],_,_,_,_,_,h=>by simp at h
 |t::ts,d::ds,0,t',d',ha,h1,h2=>by
  simp at h1 h2
  subst h1 h2;unfold DataW.weightsEach at ha;rw [List.all_append,Bool.and_eq_true] at ha;exact ha.1
 |t::ts,d::ds,i+1,t',d',ha,h1,h2=>by
  unfold DataW.weightsEach at ha;rw [List.all_append,Bool.and_eq_true] at ha;exact oY ha.2 (by simpa using h1) (by simpa using h2)
theorem wH {H:Type} {t:TypeId}:∀ {ds:List (DataW H)} {d:DataW H},(DataW.weightsAll Tryz.prog t ds).all (· ≤reachBytes)=true→d ∈ ds→(d.weights Tryz.prog t).all (· ≤reachBytes)=true
 |[],_,_,h=>by cases h
 |d::ds,d',ha,h=>by
  unfold DataW.weightsAll at ha;rw [List.all_append,Bool.and_eq_true] at ha
  rcases List.mem_cons.1 h with rfl|h
  · exact ha.1
  · exact wH ha.2 h
theorem oZ {H:Type} {t:TypeId} {fs:Array Field} (ht:Tryz.prog.underlying t=some (.struct fs)) {dH:List (DataW H)} (h:((DataW.agg dH).weights Tryz.prog t).all (· ≤reachBytes)=true) {i:Nat} {f:Field} (hf:fs[i]? =some f) {d:DataW H} (hd:dH[i]? =some d):(d.weights Tryz.prog f.type).all (· ≤reachBytes)=true:=by
 unfold DataW.weights at h;rw [ht] at h;refine oY h (i:=i) (t:=f.type) ?_ hd;rw [List.getElem?_map,Array.getElem?_toList,hf];rfl
theorem lQ {H:Type} {t e:TypeId} (ht:Tryz.prog.underlying t=some (.slice e)) {el sp:List (DataW H)} (h:((DataW.slice el sp).weights Tryz.prog t).all (· ≤reachBytes)=true):(el.length+sp.length)*Tryz.prog.bytesOf e≤reachBytes∧∀ d ∈ el,(d.weights Tryz.prog e).all (· ≤reachBytes)=true:=by
 unfold DataW.weights at h;rw [ht] at h;rw [List.all_cons,Bool.and_eq_true,List.all_append,Bool.and_eq_true] at h;exact ⟨of_decide_eq_true h.1,fun d hd=>wH h.2.1 hd⟩
theorem AE:Tryz.prog.cellsOf 50=1:=by kernel_rfl
theorem FJ:Tryz.prog.cellsOf 56=9:=by kernel_rfl
theorem AF:Tryz.prog.cellsOf 28=1:=by kernel_rfl
theorem AG:Tryz.prog.cellsOf 30=1:=by kernel_rfl
theorem FK:Tryz.prog.bytesOf 9=16:=by kernel_rfl
theorem mV (g o i:Nat):(⟨g,o,none⟩:Addr).add i=⟨g,o+i,none⟩:=by unfold Addr.add;split<;>simp_all
theorem OG {H:Type} {enc:TypeId×Value→H} {W:World} {base fuel:Nat} {held:Bool} {cs:List Value} {x:DataW H×List MemPlace} (h:DataW.trod enc Tryz.prog W base (fun _=>true) held fuel 50 cs=some x):
 ∃ v L,cs=[v]∧PathAt W v L∧(∀ s ∈ L,s.size≤9223372036854775807)∧((x.1.weights Tryz.prog 50).all (· ≤reachBytes)=true→L.length*16≤140737488355328):=by
 rcases Go.Deep.open_slice Tryz.underlying50 h with ⟨rfl,_⟩|⟨ad,len,cap,m,n,D,Pl,rfl,_,hl,hcm,hm,hx,hel⟩
 · exact ⟨_,[],rfl,⟨none,0,rfl,Nat.le_refl _,Or.inl rfl⟩,(fun s hs=>by cases hs),fun _=>by simp⟩
 · have hwt:(x.1.weights Tryz.prog 50).all (· ≤reachBytes)=true→len*16≤140737488355328:=fun hr=>by
    have hxi:x.1= .slice ((List.range len).map D) ((List.range (m - len)).map fun j=>D (len+j)):=by rw [hx]
    rw [hxi] at hr;have hb:=(lQ Tryz.underlying50 hr).1;rw [List.length_map,List.length_range,FK] at hb;unfold reachBytes at hb;omega
   rcases Nat.eq_zero_or_pos len with h0|h0
   · subst h0
     exact ⟨_,[],rfl,⟨_,_,rfl,Nat.zero_le _,Or.inl rfl⟩,(fun s hs=>by cases hs),fun _=>by simp⟩
   · have hmm:len≤m:=by rw [hm];simp;exact hl
     rw [lP] at hel;obtain ⟨g,off,spot⟩:=ad;obtain ⟨cs0,hc0,_⟩:=hel 0 (by omega);obtain ⟨_,hln,hq⟩:=World.cells?_some hc0;have hcell:=hq 0 (by decide);rw [List.getElem?_eq_getElem (by omega:0<cs0.length)] at hcell;have hspot:spot=none:=by simpa [Addr.add] using World.cell?_spot hcell
     subst hspot
     obtain ⟨L,hL,hP⟩:=fD (P:=fun i (s:ByteArray)=>StIn W g (off+i) s∧s.size≤9223372036854775807) (n:=len) fun i hi=>by
      obtain ⟨cs,hc,ht⟩:=hel i (by omega);rw [mV,Nat.mul_one] at hc;obtain ⟨_,hcl,hq⟩:=World.cells?_some hc;obtain ⟨s,e0,_,hs0⟩:=DataW.trod_string Tryz.underlying9 ht;have q0:=hq 0 (by decide);rw [mV,e0] at q0;exact ⟨s,⟨q0,Sc.bZ q0⟩,by unfold maxLen at hs0;exact hs0⟩
     subst hL;refine ⟨_,L,rfl,⟨_,_,rfl,hl,Or.inr ⟨g,off,rfl,fun i hi=>(hP i hi).1⟩⟩,?_,hwt⟩;intro s hs;obtain ⟨i,hi,rfl⟩:=List.getElem_of_mem hs;exact (hP i hi).2
def PgN (P:Pg):Prop:=P.nm.size≤9223372036854775807∧(∀ d ∈ P.d,d.nm.size≤9223372036854775807)∧(∀ d ∈ P.p,d.nm.size≤9223372036854775807)∧∀ d ∈ P.o,d.nm.size≤9223372036854775807
theorem RI {H:Type} {enc:TypeId×Value→H} {W:World} {base fuel:Nat} {held:Bool} {cs:List Value} {x:DataW H×List MemPlace} (h:DataW.trod enc Tryz.prog W base (fun _=>true) held fuel 54 cs=some x):
 ∃ (P:Pg) (v1 v2 v3:Value),(cs[0]? =some (.string P.nm)∧cs[1]? =some (.int .i64 P.a)∧cs[2]? =some (.int .i64 P.b)∧cs[3]? =some (.int .i64 P.c)∧cs[4]? =some v1∧cs[5]? =some v2∧cs[6]? =some v3)∧PgAt W P v1 v2 v3∧PgZ P∧PgN P:=by
 have hs:Tryz.prog.underlying 54=some (.struct (Tryz.prog.fieldsOf 54)):=by kernel_rfl
 obtain ⟨xs,n',_,_,_,hxl,hf⟩:=DataW.trod_struct hs h;have hfz:(Tryz.prog.fieldsOf 54).size=5:=by kernel_rfl
 obtain ⟨f0,i0,t0,o0⟩:=aT (fs:=Tryz.prog.fieldsOf 54) (i:=0) (ty:=9) (off:=0) (by kernel_rfl);obtain ⟨f1,i1,t1,o1⟩:=aT (fs:=Tryz.prog.fieldsOf 54) (i:=1) (ty:=52) (off:=1) (by kernel_rfl);obtain ⟨f2,i2,t2,o2⟩:=aT (fs:=Tryz.prog.fieldsOf 54) (i:=2) (ty:=22) (off:=4) (by kernel_rfl);obtain ⟨f3,i3,t3,o3⟩:=aT (fs:=Tryz.prog.fieldsOf 54) (i:=3) (ty:=22) (off:=5) (by kernel_rfl);obtain ⟨f4,i4,t4,o4⟩:=aT (fs:=Tryz.prog.fieldsOf 54) (i:=4) (ty:=22) (off:=6) (by kernel_rfl);have r0:=hf 0 f0 i0;have r1:=hf 1 f1 i1;have r2:=hf 2 f2 i2;have r3:=hf 3 f3 i3;have r4:=hf 4 f4 i4;rw [t0,o0,lP,List.getElem?_eq_getElem (by omega:0<xs.length)] at r0;rw [t1,o1,kG,List.getElem?_eq_getElem (by omega:1<xs.length)] at r1;rw [t2,o2,iU,List.getElem?_eq_getElem (by omega:2<xs.length)] at r2;rw [t3,o3,iU,List.getElem?_eq_getElem (by omega:3<xs.length)] at r3
 rw [t4,o4,iU,List.getElem?_eq_getElem (by omega:4<xs.length)] at r4;obtain ⟨s,e0,_,hs0⟩:=DataW.trod_string Tryz.underlying9 r0;obtain ⟨a,b,c,ea,eb,ec,_⟩:=kP r1;obtain ⟨v1,L1,e2,h1,z1,m1⟩:=nF r2;obtain ⟨v2,L2,e3,h2,z2,m2⟩:=nF r3;obtain ⟨v3,L3,e4,h3,z3,m3⟩:=nF r4;have ka:((cs.drop 1).take 3)[0]? =some (.int .i64 a):=ea;have kb:((cs.drop 1).take 3)[1]? =some (.int .i64 b):=eb;have kc:((cs.drop 1).take 3)[2]? =some (.int .i64 c):=ec
 simp at ka kb kc
 exact ⟨⟨s,a,b,c,L1,L2,L3⟩,v1,v2,v3,⟨eC e0,ka,kb,kc,eC e2,eC e3,eC e4⟩,⟨h1,h2,h3⟩,⟨z1,z2,z3⟩,by unfold maxLen at hs0;exact hs0,m1,m2,m3⟩
def DrN (d:Dr):Prop:=PgZ d.pk∧PgN d.pk∧∀ s ∈ d.pa,s.size≤9223372036854775807
theorem SY {cs:List Value} {i:Nat} (hi:i<7):((cs.drop 1).take 7)[i]? =cs[i+1]? :=by
 rw [List.getElem?_take,if_pos hi,List.getElem?_drop,Nat.add_comm]
theorem KC {H:Type} {enc:TypeId×Value→H} {W:World} {base:Nat} {held:Bool} {n:Nat} {g o:Nat} {cs:List Value} {x:DataW H×List MemPlace} (hc:W.cells? base ⟨g,o,none⟩ 9=some cs) (h:DataW.trod enc Tryz.prog W base (fun _=>true) held n 56 cs=some x):
 ∃ D:Dr,(∃ u v1 v2 v3,DrIn W g o D u v1 v2 v3)∧DrN D∧((x.1.weights Tryz.prog 56).all (· ≤reachBytes)=true→D.pa.length*16≤140737488355328):=by
 have hs:Tryz.prog.underlying 56=some (.struct (Tryz.prog.fieldsOf 56)):=by kernel_rfl
 obtain ⟨xs,n',_,hxx,_,hxl,hf⟩:=DataW.trod_struct hs h;have hfz:(Tryz.prog.fieldsOf 56).size=3:=by kernel_rfl
 obtain ⟨_,hcl,hq⟩:=World.cells?_some hc;obtain ⟨f0,i0,t0,o0⟩:=aT (fs:=Tryz.prog.fieldsOf 56) (i:=0) (ty:=50) (off:=0) (by kernel_rfl);obtain ⟨f1,i1,t1,o1⟩:=aT (fs:=Tryz.prog.fieldsOf 56) (i:=1) (ty:=54) (off:=1) (by kernel_rfl);obtain ⟨f2,i2,t2,o2⟩:=aT (fs:=Tryz.prog.fieldsOf 56) (i:=2) (ty:=3) (off:=8) (by kernel_rfl);have r0:=hf 0 f0 i0;have r1:=hf 1 f1 i1;have r2:=hf 2 f2 i2;rw [t0,o0,AE,List.getElem?_eq_getElem (by omega:0<xs.length)] at r0;rw [t1,o1,KB,List.getElem?_eq_getElem (by omega:1<xs.length)] at r1;rw [t2,o2,uX,List.getElem?_eq_getElem (by omega:2<xs.length)] at r2;obtain ⟨u,L,e0,hp,hsz,hwt⟩:=OG r0;obtain ⟨P,v1,v2,v3,⟨p0,p1,p2,p3,p4,p5,p6⟩,hpg,hpz,hpn⟩:=RI r1;obtain ⟨k,e2,_,_⟩:=DataW.trod_int Tryz.underlying3 r2;rw [SY (by decide)] at p0 p1 p2 p3 p4 p5 p6;have c0:=hq 0 (by decide);have c1:=hq 1 (by decide);have c2:=hq 2 (by decide);have c3:=hq 3 (by decide)
 have c4:=hq 4 (by decide);have c5:=hq 5 (by decide);have c6:=hq 6 (by decide);have c7:=hq 7 (by decide);have c8:=hq 8 (by decide);rw [mV,eC e0] at c0;rw [mV,p0] at c1;rw [mV,p1] at c2;rw [mV,p2] at c3;rw [mV,p3] at c4;rw [mV,p4] at c5;rw [mV,p5] at c6;rw [mV,p6] at c7;rw [mV,uY e2] at c8;refine ⟨⟨L,P,k⟩,⟨u,v1,v2,v3,⟨c0,c1,c2,c3,c4,c5,c6,c7,c8⟩,⟨hp,hpg⟩,Sc.bZ c0⟩,⟨hpz,hpn,hsz⟩,fun hr=> ?_⟩;have hd:x.1= .agg (xs.map (·.1)):=congrArg Prod.fst hxx;rw [hd] at hr;have hp2:=oZ hs hr i0 (d:=xs[0].1) (by rw [List.getElem?_map,List.getElem?_eq_getElem (by omega:0<xs.length)];rfl);rw [t0] at hp2;exact hwt hp2
end Go.Proofs.YtlmpiohbmlddiaaGreatDoor
namespace Go.Proofs.YtlmpiohbmlddiaaGreatDoor
open Go.RowKit
set_option maxRecDepth 100000
theorem BxG.new (w:World) (v:Value):BxT (w.alloc (.cells #[v] 27)) w.heap.size v:=⟨by simp,by simp⟩
noncomputable def eN (d:Dr) (n:Nd):Bool:=eqB d.pk.nm n.nm&&(decide (d.pk.a=n.a)&&decide (d.pk.b=n.b)&&decide (d.pk.c=n.c))
set_option maxHeartbeats 1600000 in
theorem KD (d:Dr) (n:Nd) (ua x1 x2 x3 y1 y2:Option Addr) (un uc l1 c1 l2 c2 l3 c3 m1 k1 m2 k2:Nat) (w:World):
 Calls Tryz.prog 118 #[.agg #[.slice ua un uc,.string d.pk.nm,.int .i64 d.pk.a,.int .i64 d.pk.b,.int .i64 d.pk.c,.slice x1 l1 c1,.slice x2 l2 c2,.slice x3 l3 c3,.int .i64 d.nd],.agg #[.string n.nm,.int .i64 n.a,.int .i64 n.b,.int .i64 n.c,.slice y1 m1 k1,.slice y2 m2 k2]] w fun e w'=>e= .returned (.bool (eN d n))∧Below w.heap.size w w':=by
 have HRB:Hid (eN d n=(eqB d.pk.nm n.nm&&(decide (d.pk.a=n.a)&&decide (d.pk.b=n.b)&&decide (d.pk.c=n.c)))):=rfl;have hv:=SS d.pk.a d.pk.b d.pk.c n.a n.b n.c;have hgd:=nP;generalize eN d n=rb at*
 by_cases hn:d.pk.nm=n.nm
 · have q1:(d.pk.nm.toList==n.nm.toList)=true:=by rw [hn];simp
   have q2:(d.pk.nm.toList=n.nm.toList)=True:=by rw [hn];simp
   rw [bJ hn] at HRB;clear hn;generalize (decide (d.pk.a=n.a)&&decide (d.pk.b=n.b)&&decide (d.pk.c=n.c))=xv at*;generalize d.pk.nm=s at*;generalize n.nm=t at*
   go_enter Tryz.func118,Tryz.ntmps118
   go_wp2
   go_ret;exact ⟨aC (by rw [HRB.out];simp),aV _ _ _⟩
 · have q1:(d.pk.nm.toList==n.nm.toList)=false:=by rw [beq_eq_false_iff_ne];exact fun e=>hn (aY e)
   have q2:(d.pk.nm.toList=n.nm.toList)=False:=eq_false fun e=>hn (aY e)
   rw [cG hn] at HRB;clear hn;generalize (decide (d.pk.a=n.a)&&decide (d.pk.b=n.b)&&decide (d.pk.c=n.c))=xv at*;generalize d.pk.nm=s at*;generalize n.nm=t at*
   go_enter Tryz.func118,Tryz.ntmps118
   go_wp2
   go_ret;exact ⟨aC (by rw [HRB.out];simp),aV _ _ _⟩
def toB (N:Nat) (e:Eg):Bool:=decide (0<e.to)&&decide (e.to<(N:Int))
def cX (G:List Nd):Bool:=decide (0<G.length)&&G.all fun n=>n.ed.all (toB G.length)
def tL (G:List Nd):Prop:=G.length≤9223372036854775807∧∀ n ∈ G,n.ed.length≤9223372036854775807
theorem wI {α:Type} {p:α→Bool} {L:List α} {k:Nat} (hk:k<L.length) (h:(L.take k).all p=true) (h2:p L[k]=true):(L.take (k+1)).all p=true:=by
 rw [List.take_succ_eq_append_getElem hk,List.all_append,h];simp [h2]
theorem nG {α:Type} {p:α→Bool} {L:List α} {k:Nat} (hk:k<L.length) (h2:p L[k]=false):L.all p=false:=by
 rw [List.all_eq_false];exact ⟨_,List.getElem_mem hk,by rw [h2];simp⟩
set_option maxHeartbeats 6400000 in
theorem wJ {G:List Nd} {v:Value} {w:World} (h:NodesAt w v G) (hz:tL G):
 Calls Tryz.prog 116 #[.agg #[v]] w fun e w'=>e= .returned (.bool (cX G))∧Below w.heap.size w w':=by
 have HNA:Hid (∀ w1,Below w.heap.size w w1→NodesAt w1 v G):=fun w1 hb=>h.below hb
 obtain ⟨ad,cap,rfl,hc,_⟩:=h;have HZ:=aB hz.2;have hz1:=hz.1;clear hz
 have HNO:Hid (∀ k (hk:k<G.length),G[k].ed.all (toB G.length)=false→cX G=false):=fun k hk h=>by
  unfold cX;rw [nG (p:=fun n:Nd=>n.ed.all (toB G.length)) hk h]
  simp
 have HYE:Hid (G.all (fun n=>n.ed.all (toB G.length))=true→cX G=decide (0<G.length)):=fun h=>by
  unfold cX;rw [h]
  simp
 go_enter Tryz.func116,Tryz.ntmps116
 go_wp2_with fail
 go_loopw [10] (fun i wr=>∃ k:Nat,k≤G.length∧i= .int .i64 k∧(Below w.heap.size w wr∧BxT wr w.heap.size (.slice ad G.length cap))∧(G.take k).all (fun n=>n.ed.all (toB G.length))=true) (fun i _=>G.length - (intOf i).toNat)
 case atStart=>exact ⟨0,Nat.zero_le _,rfl,⟨aD _ _,BxG.new _ _⟩,rfl⟩
 case round=>
  obtain ⟨k,hk,rfl,⟨hb,bx0,bx1⟩,hall⟩:=hrel;have HALL:=aB hall;have HB:=aB hb;obtain ⟨wa,rfl⟩:∃ x,x=wr:=⟨wr,rfl⟩;have HBX:Hid (BxT wa w.heap.size (.slice ad G.length cap)):=⟨bx0,bx1⟩
  by_cases hlt:k<G.length
  · obtain ⟨ad',cap',e,_,hcs⟩:=HNA.out wa hb
    cases e
    obtain ⟨g,o,rfl,hg,hcz⟩:∃ g o,ad=some ⟨g,o,none⟩∧g<wa.heap.size∧∀ i (h:i<G.length),∃ vc ve,NdIn wa g (o+i*6) G[i] vc ve:=by
     rcases hcs with h|h
     · rw [h] at hlt;simp at hlt
     · exact h
    clear hcs;obtain ⟨vc,ve,⟨c0,c1,c2,c3,c4,c5⟩,⟨hpn,hed⟩,hgg⟩:=hcz k hlt;have HED:Hid (∀ w1,Below wa.heap.size wa w1→EdgesAt w1 ve G[k].ed):=fun w1 hb=>hed.below hb
    have hzk:=HZ.out _ (List.getElem_mem hlt);have HNK:=aB (HNO.out k hlt);have HNX:Hid (G[k].ed.all (toB G.length)=true→(G.take (k+1)).all (fun n=>n.ed.all (toB G.length))=true):=fun h=>wI hlt HALL.out h
    obtain ⟨pa,pc,rfl⟩:=hpn.sl;obtain ⟨ea,ec,rfl⟩:=hed.sl;generalize G[k]=n at*;clear hall hb hcz hpn hed;obtain ⟨wb,hwb⟩:∃ wb,wb=wa.alloc (.cells #[.string n.nm,.int .i64 n.a,.int .i64 n.b,.int .i64 n.c,.slice pa n.cx.length pc,.slice ea n.ed.length ec] 60):=⟨_,rfl⟩;have HB1:Hid (Below wa.heap.size wa wb):=by rw [hwb];exact aD _ _
    have hsz:wa.heap.size<wb.heap.size:=by rw [hwb];simp
    go_wp2_with fail
    rw [←hwb];clear c0 c1 c2 c3 c4 c5 hwb
    go_loopw [17] (fun i wx=>∃ j:Nat,j≤n.ed.length∧i= .int .i64 j∧Below wb.heap.size wb wx∧(n.ed.take j).all (toB G.length)=true) (fun i _=>n.ed.length - (intOf i).toNat)
    case atStart=>exact ⟨0,Nat.zero_le _,rfl,Below.refl _ _,rfl⟩
    case round=>
     obtain ⟨j,hj,rfl,hbi,hali⟩:=hrel;have HBI:=aB hbi;have HALI:=aB hali;have HBW:Hid (Below w.heap.size w wr):=aA HB.out (aA HB1.out hbi);have HBT:Hid (BxT wr w.heap.size (.slice (some ⟨g,o,none⟩) G.length cap)):=cE _ _ _ _ HBX.out (aA HB1.out hbi);obtain ⟨t0,t1⟩:=HBT.out;clear bx0 bx1
     by_cases hlj:j<n.ed.length
     · obtain ⟨ea',ec',e,_,hcs⟩:=HED.out wr (aA HB1.out hbi)
       cases e
       obtain ⟨eg,eo,rfl,heg,hcz⟩:∃ g o,ea=some ⟨g,o,none⟩∧g<wr.heap.size∧∀ i (h:i<n.ed.length),EgIn wr g (o+i*2) n.ed[i]:=by
        rcases hcs with h|h
        · rw [h] at hlj;simp at hlj
        · exact h
       clear hcs;obtain ⟨⟨e0,e1⟩,_⟩:=hcz j hlj;have HTN:Hid (toB G.length n.ed[j]=true→(n.ed.take (j+1)).all (toB G.length)=true):=fun h=>wI hlj HALI.out h
       have HTF:Hid (toB G.length n.ed[j]=false→cX G=false):=fun h=>HNK.out (nG hlj h)
       have HTB:Hid (toB G.length n.ed[j]=(decide (0<n.ed[j].to)&&decide (n.ed[j].to<(G.length:Int)))):=rfl;generalize toB G.length n.ed[j]=tb at*;generalize n.ed[j]=eg1 at*;clear hcz hali hbi;have t0':(wr.alloc (.cells #[.string eg1.lb,.int .i64 eg1.to] 62)).cell? ⟨w.heap.size,0,none⟩=some (.slice (some ⟨g,o,none⟩) G.length cap):=((aD wr (.cells #[.string eg1.lb,.int .i64 eg1.to] 62)).cell (p:=⟨w.heap.size,0,none⟩) t1).trans t0
       by_cases hq1:eg1.to≤0
       · have HR:Hid (cX G=false):=HTF.out (by rw [HTB.out,decide_eq_false (by omega)];rfl)
         go_wp2
         go_ret;exact ⟨aC HR.out.symm,aA HBW.out (aD _ _)⟩
       · by_cases hq2:(G.length:Int)≤eg1.to
         · have HR:Hid (cX G=false):=HTF.out (by rw [HTB.out,decide_eq_false (show ¬ eg1.to<(G.length:Int) by omega)];simp)
           go_wp2
           go_ret;exact ⟨aC HR.out.symm,aA HBW.out (aD _ _)⟩
         · have HR:=aB (HTN.out (by rw [HTB.out,decide_eq_true (by omega),decide_eq_true (by omega)];rfl))
           go_wp2
           exact ⟨⟨j+1,by omega,by go_num,aA HBI.out (aD _ _),HR.out⟩,by simp [intOf];omega⟩
     · obtain rfl:j=n.ed.length:=by omega
       have HR:=aB (HNX.out (by rw [List.take_length] at hali;exact hali));clear hali hbi
       go_wp2
       exact ⟨⟨k+1,by omega,by go_num,⟨HBW.out,HBT.out⟩,HR.out⟩,by simp [intOf];omega⟩
  · obtain rfl:k=G.length:=by omega
    have HR:Hid (cX G=decide (0<G.length)):=HYE.out (by rw [List.take_length] at hall;exact hall);clear hb hall
    rcases Nat.eq_zero_or_pos G.length with h0|h0
    · rw [h0] at HR
      go_wp2
      go_ret;exact ⟨aC (by rw [HR.out];simp),HB.out⟩
    · have hp:decide ((G.length:Int)>0)=true:=decide_eq_true (by omega)
      rw [decide_eq_true h0] at HR
      go_wp2
      go_ret;exact ⟨aC (by rw [HR.out]),HB.out⟩
structure MS where
 m:List Int
 q:List Nat
def drZ:Dr:=⟨[],gQ,0⟩
def ndZ:Nd:=⟨⟨#[]⟩,0,0,0,[],[]⟩
noncomputable def gC (L:List Dr) (G:List Nd) (r:Nat) (st:MS) (e:Eg):Option MS:=
 if bE L (r:Int) e.lb<0 then none
 else if eN (L.getD (bE L (r:Int) e.lb).toNat drZ) (G.getD e.to.toNat ndZ)=false then none
 else if st.m.getD (bE L (r:Int) e.lb).toNat 0<0 then some ⟨st.m.set (bE L (r:Int) e.lb).toNat e.to,st.q++[(bE L (r:Int) e.lb).toNat]⟩
 else if st.m.getD (bE L (r:Int) e.lb).toNat 0=e.to then some st else none
noncomputable def fE (L:List Dr) (G:List Nd) (r:Nat):List Eg→MS→Option MS
 |[],st=>some st
 |e::es,st=>(gC L G r st e).bind (fE L G r es)
def fF (G:List Nd) (st:MS) (r:Nat):List Eg:=(G.getD (st.m.getD r 0).toNat ndZ).ed
noncomputable def jS (L:List Dr) (G:List Nd):Nat→Nat→MS→Option (List Int)
 |0,_,_=>none
 |n+1,i,st=>match st.q[i]? with
  |none=>some st.m
  |some r=>(fE L G r (fF G st r) st).bind (jS L G n (i+1))
def cK (n:Nat):MS:=⟨(List.replicate n (-1)).set 0 0,[0]⟩
noncomputable def fG (L:List Dr) (G:List Nd):Option (List Int):=jS L G (L.length+1) 0 (cK L.length)
noncomputable def dQ (L:List Dr) (G:List Nd):List Int:=if bR L=true∧cX G=true then (fG L G).getD [] else []
noncomputable def gU (L:List Dr) (G:List Nd):Int:=if bR L=true then (if cX G=true then (if (fG L G).isSome=true then 0 else 42) else 33) else 42
structure MInv (L:List Dr) (G:List Nd) (st:MS):Prop where
 len:st.m.length=L.length
 each:∀ j (h:j<st.m.length),st.m[j]= -1∨(0≤st.m[j]∧st.m[j]<(G.length:Int))
 qin:∀ r ∈ st.q,∃ h:r<st.m.length,0≤st.m[r]
 cnt:st.q.length=st.m.countP fun x=>decide (0≤x)
theorem MInv.short {L:List Dr} {G:List Nd} {st:MS} (h:MInv L G st):st.q.length≤L.length:=by
 rw [h.cnt,←h.len];exact List.countP_le_length
theorem MInv.start {L:List Dr} {G:List Nd} (hl:0<L.length) (hg:0<G.length):MInv L G (cK L.length) where
 len:=by simp [cK]
 each:=fun j h=>by
  have h':j<L.length:=by simpa [cK] using h
  have e:(cK L.length).m[j]=if 0=j then 0 else -1:=by simp [cK,List.getElem_set]
  rw [e]
  split
  · exact Or.inr ⟨Int.le_refl _,by omega⟩
  · exact Or.inl rfl
 qin:=fun r hr=>by
  obtain rfl:r=0:=by simpa [cK] using hr
  exact ⟨by simpa [cK] using hl,by simp [cK]⟩
 cnt:=by
  unfold cK;simp only [List.length_singleton];rw [List.countP_set (by simpa using hl)]
  have e:(List.replicate L.length (-1:Int)).countP (fun x=>decide (0≤x))=0:=by
   rw [List.countP_eq_zero];intro a ha;rw [(List.mem_replicate.1 ha).2];decide
  rw [e]
  simp
theorem MInv.set {L:List Dr} {G:List Nd} {st:MS} (h:MInv L G st) {k:Nat} (hk:k<st.m.length) (hm:st.m[k]<0) {x:Int} (hx:0<x) (hx2:x<(G.length:Int)):MInv L G ⟨st.m.set k x,st.q++[k]⟩ where
 len:=by simpa using h.len
 each:=fun j hj=>by
  simp only [List.getElem_set]
  split
  · exact Or.inr ⟨by omega,hx2⟩
  · exact h.each j (by simpa using hj)
 qin:=fun r hr=>by
  rcases List.mem_append.1 hr with hr|hr
  · obtain ⟨h1,h2⟩:=h.qin r hr
    refine ⟨by simpa using h1,?_⟩;simp only [List.getElem_set]
    split
    · omega
    · exact h2
  · obtain rfl:=List.mem_singleton.1 hr
    refine ⟨by simpa using hk,?_⟩;simp only [List.getElem_set_self];omega
 cnt:=by
  rw [List.length_append,h.cnt,List.length_singleton]
  simp only
  rw [List.countP_set hk,if_neg (by simpa using hm),if_pos (by simp;omega)]
  simp
def gS (l:List Int):List Value:=l.map (.int .i64)
def tM (l:List Nat):List Value:=l.map fun r:Nat=>Value.int .i64 (r:Int)
theorem wK (l:List Int):(gS l).length=l.length:=by simp [gS]
theorem wL (l:List Int) (k:Nat) (x:Int):gS (l.set k x)=(gS l).set k (.int .i64 x):=by simp [gS,List.map_set]
theorem FM (l:List Nat) (r:Nat):tM (l++[r])=tM l++[.int .i64 (r:Int)]:=by simp [tM]
def OwnI (w:World) (B:Nat) (v:Value) (l:List Int):Prop:=w.ownsRow B 3 1 v l.length (gS l)
def InI (w:World) (g o:Nat) (x:Int):Prop:=w.cell? ⟨g,o,none⟩=some (.int .i64 x)∧g<w.heap.size
theorem gV (g o:Nat) (x:Int):KeepP fun w1=>InI w1 g o x:=fun _ _ h hb=>⟨(hb.cell (p:=⟨g,o,none⟩) h.2).trans h.1,Nat.lt_of_lt_of_le h.2 hb.size⟩
theorem cH {w w':World} {B:Nat} {e:TypeId} {sz:Nat} {v:Value} {n:Nat} {xs:List Value} (h:w.ownsRow B e sz v n xs) (hb:Below w.heap.size w w'):w'.ownsRow B e sz v n xs:=by
 refine ⟨h.1,h.2.imp id ?_⟩;rintro ⟨g,cap,cur,rfl,hB,hgg,r⟩;exact ⟨g,cap,cur,rfl,hB,(hb.block g (Array.getElem?_eq_some_iff.1 hgg).1).trans hgg,r⟩
def StM (w:World) (vt vg:Value) (g:Nat) (q c:Nat) (st:MS) (wr:World):Prop:=
 (Below w.heap.size w wr∧BxT wr w.heap.size vt∧BxT wr (w.heap.size+1) vg)∧(wr.ownsRow (w.heap.size+2) 3 1 (.slice (some ⟨g,0,none⟩) st.m.length st.m.length) st.m.length (gS st.m)∧wr.ownsRow (w.heap.size+2) 3 1 (.slice (some ⟨q,0,none⟩) st.q.length c) st.q.length (tM st.q))∧q≠g
theorem kQ (w:World) (vt vg:Value) (g q c:Nat) (st:MS):KeepP (StM w vt vg g q c st):=fun _ _ h hb=>
 ⟨⟨aA h.1.1 hb,cE _ _ _ _ h.1.2.1 hb,cE _ _ _ _ h.1.2.2 hb⟩,⟨cH h.2.1.1 hb,cH h.2.1.2 hb⟩,h.2.2⟩
theorem StM.node {w:World} {vt vg:Value} {g q c:Nat} {st:MS} {wr:World} (h:StM w vt vg g q c st wr) {k:Nat} (hk:k<st.m.length):InI wr g k st.m[k]:=by
 have e:=World.ownsRow.cellAt h.2.1.1 k (by omega);have e2:(gS st.m)[k]? =some (.int .i64 st.m[k]):=by simp [gS,hk]
 exact ⟨e.trans e2,(World.ownsRow.lt h.2.1.1 g rfl).2⟩
theorem StM.seen {w:World} {vt vg:Value} {g q c:Nat} {st:MS} {wr:World} (h:StM w vt vg g q c st wr) {k:Nat} (hk:k<st.q.length):InI wr q k (st.q[k]:Int):=by
 have e:=World.ownsRow.cellAt h.2.1.2 k (by omega);have e2:(tM st.q)[k]? =some (.int .i64 (st.q[k]:Int)):=by simp [tM,hk]
 exact ⟨e.trans e2,(World.ownsRow.lt h.2.1.2 q rfl).2⟩
theorem StM.put {w:World} {vt vg:Value} {g q c:Nat} {st:MS} {wr:World} (h:StM w vt vg g q c st wr) (k:Nat) (x:Int):StM w vt vg g q c ⟨st.m.set k x,st.q⟩ (wr.setCell ⟨g,k,none⟩ (.int .i64 x)):=by
 obtain ⟨h1,h2⟩:=World.ownsRow.stored h.2.1.1 k (.int .i64 x);have hB:=(World.ownsRow.lt h.2.1.1 g rfl).1;refine ⟨⟨h.1.1.grown h2 h.1.1.size (fun k hk=>by cases hk;omega),⟨h2.cell h.1.2.1.1 (by simp;omega),Nat.lt_of_lt_of_le h.1.2.1.2 h2.size⟩,⟨h2.cell h.1.2.2.1 (by simp;omega),Nat.lt_of_lt_of_le h.1.2.2.2 h2.size⟩⟩,⟨?_,?_⟩,h.2.2⟩
 · show World.ownsRow _ _ _ _ (.slice (some ⟨g,0,none⟩) (st.m.set k x).length (st.m.set k x).length) (st.m.set k x).length (gS (st.m.set k x))
   rw [wL,List.length_set];exact h1
 · exact h.2.1.2.kept h2 (Or.inr (by simp [Value.ownBlock];exact h.2.2))
theorem StM.app {w:World} {vt vg:Value} {g q c:Nat} {st:MS} {wr w1:World} {v1:Value} (h:StM w vt vg g q c st wr) (r:Nat) (ho:w1.ownsRow (w.heap.size+2) 3 1 v1 (st.q.length+1) (tM st.q++[.int .i64 (r:Int)])) (hg:wr.grownBy w1 (some q)) (hat:v1.ownBlock=some q∨v1.ownBlock=some (wr.heap.size+1)):∃ q' c',v1= .slice (some ⟨q',0,none⟩) (st.q++[r]).length c'∧StM w vt vg g q' c' ⟨st.m,st.q++[r]⟩ w1:=by
 have hB:=(World.ownsRow.lt h.2.1.2 q rfl).1;have hgl:=(World.ownsRow.lt h.2.1.1 g rfl).2;obtain ⟨q',c',rfl,_⟩:=ho.form (by omega);refine ⟨q',c',by rw [List.length_append];rfl,⟨h.1.1.grown hg h.1.1.size (fun k hk=>by cases hk;omega),⟨hg.cell h.1.2.1.1 (by simp;omega),Nat.lt_of_lt_of_le h.1.2.1.2 hg.size⟩,⟨hg.cell h.1.2.2.1 (by simp;omega),Nat.lt_of_lt_of_le h.1.2.2.2 hg.size⟩⟩,⟨?_,?_⟩,?_⟩
 · exact h.2.1.1.kept hg (Or.inr (by simp [Value.ownBlock];exact fun e=>h.2.2 e.symm))
 · show World.ownsRow _ _ _ _ (.slice (some ⟨q',0,none⟩) (st.q++[r]).length c') (st.q++[r]).length (tM (st.q++[r]))
   rw [FM,List.length_append];exact ho
 · rcases hat with e|e
   · have:q'=q:=by simpa [Value.ownBlock] using e
     rw [this];exact h.2.2
   · have:q'=wr.heap.size+1:=by simpa [Value.ownBlock] using e
     omega
theorem OH {B:Nat} {wx:World} {n:Nat} {v:Value} {xs:List Value} {x:Int} {ops:Array Oper} {rest:List Oper} {o:Oper} {f:Act} {Q:Exit→Act→World→Prop}
 (hgd:o.guard=none) (s t:Operand) (ho:o.op= .call { callee:= .builtin .append,args:= #[s,t],argTypes:= #[81,81] }) (hs:f.eval s=v)
 (hown:wx.ownsRow B 3 1 v n xs) (hB:B≤wx.heap.size) {M:Nat} (hM:wx.heap.size=M) (hx:f.eval t= .slice (some ⟨M,0,none⟩) 1 1) (hlen:n≤1000000)
 (h:∀ v1 w1,w1.ownsRow B 3 1 v1 (n+1) (xs++[.int .i64 x])→(wx.alloc (.cells #[.int .i64 x] 3)).grownBy w1 v.ownBlock→(v1.ownBlock=v.ownBlock∨v1.ownBlock=some (wx.heap.size+1))→wpList Tryz.prog ops Q rest (f.put o.dst v1) w1):
 wpList Tryz.prog ops Q (o::rest) f (wx.alloc (.cells #[.int .i64 x] 3)):=by
 subst hM;have hinfo:(Tryz.prog.info? 3).map (fun i=>(i.zero,i.size,i.bytes))=some (some (.int .i64 0),1,8):=by kernel_rfl
 obtain ⟨i0,hi,hz0,hz1,hz2⟩:=Sc.bO hinfo;refine wpList_append_own_at _ hgd s t 81 ho B 3 i0 _ 1 8 Tryz.underlying81 hi hz0 hz1 hz2 rfl (by decide) v n xs hs (hown.alloc _) ⟨wx.heap.size,0,none⟩ 1 1 [.int .i64 x] hx rfl (cell_one_new _ _ _) (fun u hu=>by rw [List.mem_singleton.1 hu];rfl) (by unfold maxLen;omega) (by omega) (by simp;omega) ?_;intro v1 w1 h1 h2 _ h4;exact h v1 w1 h1 h2 (by rw [show (wx.alloc (.cells #[.int .i64 x] 3)).heap.size=wx.heap.size+1 by simp] at h4;exact h4)
def kR (w:World) (L:List Dr) (G:List Nd) (e:Ending) (w':World):Prop:=∃ v',e= .returned (.tuple #[v',.int .i64 (gU L G)])∧OwnI w' w.heap.size v' (dQ L G)∧Below w.heap.size w w'
def fU (m n:Nat):List Value:=List.replicate m (.int .i64 (-1))++List.replicate (n - m) (.int .i64 0)
theorem mL {m n:Nat} (h:m≤n):(fU m n).length=n:=by simp [fU];omega
theorem FN (n:Nat):fU n n=List.replicate n (.int .i64 (-1)):=by simp [fU]
theorem mM {m n k:Nat}:splice (fU m n) m (List.replicate k (.int .i64 (-1)))=fU (m+k) n:=by
 unfold splice fU;rw [List.length_replicate,List.take_append_of_le_length (by simp),List.take_of_length_le (by simp),List.drop_append,List.drop_replicate,List.drop_replicate,List.length_replicate,←List.append_assoc,List.replicate_append_replicate];have e1:m - (m+k)=0:=by omega
 have e2:m+k - m=k:=by omega
 have e3:n - m - k=n - (m+k):=by omega
 rw [e1,e2,e3]
 simp
theorem RJ:(Tryz.prog.info? 3).map (fun i=>(i.zero,i.size,i.bytes))=some (some (.int .i64 0),1,8):=by kernel_rfl
theorem KE:(Tryz.prog.info? 3).map (·.size)=some 1:=by kernel_rfl
theorem OI {k:Nat}:∀ u ∈ List.replicate k (Value.int .i64 (-1)),u.oneCell'=true:=fun u hu=>by
 rw [(List.mem_replicate.1 hu).2];rfl
theorem OJ {w:World} {g m n:Nat} {k:Nat} (hk:k≤m) (hg:w.heap[g]? =some (.cells (fU m n).toArray 3 (0,0))):∀ j v,(List.replicate k (Value.int .i64 (-1)))[j]? =some v→w.cell? ((⟨g,0,none⟩:Addr).add j)=some v:=fun j v hj=>by
 have hj':j<k:=by
  have:=(List.getElem?_eq_some_iff.1 hj).1
  simpa using this
 have ad:(⟨g,0,none⟩:Addr).add j=⟨g,j,none⟩:=by unfold Addr.add;split<;>simp_all
 have hv:v= .int .i64 (-1):=by
  rw [List.getElem?_replicate,if_pos hj'] at hj;exact (Option.some.inj hj).symm
 rw [ad,Lib.cell_of_heap hg,hv];show (fU m n).toArray[j]? =_;rw [List.getElem?_toArray];unfold fU;rw [List.getElem?_append_left (by simp;omega),List.getElem?_replicate,if_pos (by omega)]
set_option maxHeartbeats 6400000 in
theorem AH {g0 n:Nat} {w:World} (h0:w.cell? ⟨g0,0,none⟩=some (.int .i64 (-1))) (hn:1≤n) (hn2:n≤1000):
 Calls Tryz.prog 117 #[.slice (some ⟨g0,0,none⟩) 1 1,.int .i64 n] w fun e w'=>e= .returned (.slice (some ⟨w.heap.size,0,none⟩) n n)∧w'.heap[w.heap.size]? =some (.cells (List.replicate n (Value.int .i64 (-1))).toArray 3 (0,0))∧Below w.heap.size w w':=by
 have HM:Hid (∀ w1,Calls Tryz.prog 164 #[.int .u64 1,.int .u64 n] w1 fun e w'=>e= .returned (.tuple #[.int .u64 0,.int .u64 n])∧w'=w1):=fun w1=>by
  have h:=Tryz.bits_Mul 1 n (by decide) (by omega) w1;have e1:(1*n / 18446744073709551616:Nat)=0:=by omega
  have e2:(1*n % 18446744073709551616:Nat)=n:=by omega
  rw [e1,e2] at h;exact h
 obtain ⟨i0,hi,hz0,hz1,hz2⟩:=Sc.bO RJ;have hlt0:g0<w.heap.size:=Sc.bZ h0
 have HC0:Hid (∀ w1,Below w.heap.size w w1→∀ j v,[Value.int .i64 (-1)][j]? =some v→w1.cell? ((⟨g0,0,none⟩:Addr).add j)=some v):=fun w1 hb j v hj=>by
  obtain rfl:j=0:=by
   have:=(List.getElem?_eq_some_iff.1 hj).1
   simpa using this
  have ad:(⟨g0,0,none⟩:Addr).add 0=⟨g0,0,none⟩:=by unfold Addr.add;split<;>simp_all
  rw [ad,←hj];exact (hb.cell (p:=⟨g0,0,none⟩) hlt0).trans h0
 have hnn:¬ ((n:Int)<0):=by omega
 have hnu:¬ ((n:Int)>9223372036854775807):=by omega
 have q1:decide ((n:Int)>9223372036854775807)=false:=decide_eq_false hnu;have q2:decide ((n:Int)<0)=false:=decide_eq_false hnn
 have HMK:Hid (∀ w1:World,w1.ownsRow w.heap.size 3 1 (.slice (some ⟨w.heap.size,0,none⟩) n n) n (madeCells (Value.int .i64 0).cells (n*1)).toList→w1.heap[w.heap.size]? =some (.cells (fU 0 n).toArray 3 (0,0))):=fun w1 ho=>by
  have e:(madeCells (Value.int .i64 0).cells (n*1)).toList=List.replicate n (.int .i64 0):=by rw [Nat.mul_one];exact toList_madeCells_one _ _
  rw [e] at ho
  rcases ho.2 with ⟨h',_⟩|⟨g',cap',cur,h',_,hg,_,_,hcs,htk⟩
  · cases h'
  · injection h' with e1 e2 e3
    cases e1;subst e3;rw [hg]
    have:cur=(fU 0 n).toArray:=by
     apply Array.ext';rw [Nat.mul_one,List.take_of_length_le (by rw [Array.length_toList];omega)] at htk;rw [htk];simp [fU]
    rw [this]
 have HCP:Hid (∀ w2:World,w2.heap[w.heap.size]? =some (.cells (fU 0 n).toArray 3 (0,0))→Below w.heap.size w w2→∃ w3:World,(Builtin.copy_ #[81,81] 3 #[.slice (some ⟨w.heap.size,0,none⟩) n n,.slice (some ⟨g0,0,none⟩) 1 1]).run Tryz.prog w2= .ok (.int .i64 1) w3∧w3.heap[w.heap.size]? =some (.cells (fU 1 n).toArray 3 (0,0))∧Below w.heap.size w w3):=fun w2 hg hb=>by
  have hr:=run_copy_row (P:=Tryz.prog) w2 81 81 3 3 w.heap.size 0 n n ⟨g0,0,none⟩ 1 1 _ 3 [Value.int .i64 (-1)] Tryz.underlying81 KE hg (Nat.min_eq_left hn).symm (HC0.out w2 hb) (by show 0+1≤(fU 0 n).toArray.size;rw [List.size_toArray,mL (Nat.zero_le _)];omega) (fun u hu=>by rw [List.mem_singleton.1 hu];rfl);refine ⟨_,hr,?_,below_setRow hb (Nat.le_refl _) _⟩;rw [setRow_heap w2 _ _ _ _ _ hg];have e:=mM (m:=0) (n:=n) (k:=1);unfold splice at e;rw [Nat.zero_add] at e;rw [←e];rfl
 clear h0
 go_enter Tryz.func117,Tryz.ntmps117
 go_wp2_with (first
  |(go_at_call 164;refine (HM.out _).mono ?_;rintro e w1 ⟨rfl,hw1⟩;subst w1)
  |(at_make;refine wpList_make_full _ rfl _ _ 81 rfl w.heap.size 3 i0 _ 1 Tryz.underlying81 hi hz0 hz1 _ _ _ _ n rfl rfl (by first|rfl|omega) (by first|rfl|omega) (by rw [hz2];omega) (by unfold maxLen;omega) (Nat.le_refl _) ?_;intro w2 ho2 hg2;have HG2:=aB (HMK.out _ ho2);have HB2:Hid (Below w.heap.size w w2):=⟨hg2.os,hg2.tape,hg2.output,hg2.size,fun k hk=>hg2.block k hk (by simp)⟩;obtain ⟨w3,hcp,hg3,hb3⟩:=HCP.out w2 HG2.out HB2.out;have HG3:=aB hg3;have HB3:=aB hb3;clear ho2 hg2 hg3 hb3))
 clear HC0 HMK HM q1 q2 hnu
 go_loopw [8] (fun i wr=>∃ m:Nat,(1≤m∧m≤n)∧i= .int .i64 m∧wr.heap[w.heap.size]? =some (.cells (fU m n).toArray 3 (0,0))∧Below w.heap.size w wr) (fun i _=>n - (intOf i).toNat)
 case atStart=>exact ⟨1,⟨Nat.le_refl _,hn⟩,rfl,HG3.out,HB3.out⟩
 case round=>
  obtain ⟨m,⟨hm1,hm2⟩,rfl,hg,hb⟩:=hrel;have HG:=aB hg;have HB:=aB hb;clear hg hb
  by_cases hlt:m<n
  · obtain ⟨kk,hkk⟩:∃ kk,kk=Nat.min m (n - m):=⟨_,rfl⟩
    have hk1:1≤kk:=by rw [hkk];exact Nat.le_min.2 ⟨hm1,by omega⟩
    have hk2:kk≤m:=by rw [hkk];exact Nat.min_le_left _ _
    have hk3:kk≤n - m:=by rw [hkk];exact Nat.min_le_right _ _
    have HSP:Hid (splice (fU m n) m (List.replicate kk (Value.int .i64 (-1)))=fU (m+kk) n):=mM;have HKK:=aB hkk;have HRL:Hid ((fU m n).length=n):=mL hm2;have hci:¬ (n=m):=by omega
    have hci2:¬ ((n:Int)=(m:Int)):=by omega
    clear hkk
    obtain ⟨w4,hcp4,hg4,hb4⟩:∃ w4:World,(Builtin.copy_ #[81,81] 3 #[.slice (some ⟨w.heap.size,m,none⟩) (n - m) (n - m),.slice (some ⟨w.heap.size,0,none⟩) m n]).run Tryz.prog wr.drew= .ok (.int .i64 kk) w4∧w4.heap[w.heap.size]? =some (.cells (fU (m+kk) n).toArray 3 (0,0))∧Below w.heap.size w w4:=by
     have hr:=run_copy_row (P:=Tryz.prog) wr.drew 81 81 3 3 w.heap.size m (n - m) (n - m) ⟨w.heap.size,0,none⟩ m n _ 3 (List.replicate kk (Value.int .i64 (-1))) Tryz.underlying81 KE HG.out (by rw [List.length_replicate];exact HKK.out) (OJ (w:=wr.drew) hk2 HG.out) (by rw [List.length_replicate,List.size_toArray,HRL.out];omega) OI;rw [List.length_replicate] at hr;refine ⟨_,hr,?_,below_setRow HB.out.drew (Nat.le_refl _) _⟩;rw [setRow_heap wr.drew _ _ _ _ _ HG.out,←HSP.out];unfold splice;rw [List.length_replicate,List.append_assoc]
    have HG4:=aB hg4;have HB4:=aB hb4;have hmc:m≤n:=hm2;have hkb:m+kk≤n:=by omega
    clear hg4 hb4 HSP HKK HRL
    go_wp2_with fail
    go_region
    go_wp2
    exact ⟨⟨m+kk,⟨by omega,hkb⟩,by go_num,HG4.out,HB4.out⟩,by simp [intOf];omega⟩
  · obtain rfl:m=n:=by omega
    have HR:Hid (wr.heap[w.heap.size]? =some (.cells (List.replicate m (Value.int .i64 (-1))).toArray 3 (0,0))):=by have e:=HG.out;rw [FN] at e;exact e
    go_wp2
    go_ret;exact ⟨rfl,HR.out,HB.out⟩
end Go.Proofs.YtlmpiohbmlddiaaGreatDoor
