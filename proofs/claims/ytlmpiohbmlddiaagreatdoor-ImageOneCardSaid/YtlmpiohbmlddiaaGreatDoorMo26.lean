/- RwSt: their declarations that are needed, laid in one text, remarks and blanks left out. -/
import Derived.Test.YtlmpiohbmlddiaaGreatDoorMo25
namespace Go.Proofs.YtlmpiohbmlddiaaGreatDoor
open Go.ChangeShapes Go.WideShapes Go.ChangeAt Go.RowKit
set_option maxRecDepth 100000
theorem EG:Tryz.prog.cellsOf 32=7:=by kernel_rfl
theorem EH:Tryz.prog.cellsOf 4=1:=by kernel_rfl
theorem wO {cs:List Value} {o k i:Nat} {v:Value} (h:((cs.drop o).take k)[i]? =some v) (hi:i<k):cs[o+i]? =some v:=by
 rw [List.getElem?_take_of_lt hi,List.getElem?_drop] at h;exact h
set_option maxHeartbeats 1600000 in
theorem sG {H:Type} {enc:TypeId×Value→H} {W:World} {base b0:Nat} {held:Bool} {v:Value} {d:DataW H} {p:List MemPlace} (hv:Value.okWide Tryz.prog W .any b0 32 v) (h:DataW.Trod enc Tryz.prog W base (fun _=>true) held 32 v d p):
 ∃ (P:Mn) (G:List Nd) (L:List Dr) (pr:Bool) (v1 v2 v3 v4 vg vt:Value),v= .agg #[v1,v2,v3,v4,vg,vt,.bool pr]∧(MnAt W P v1 v2 v3 v4∧(P.d.length≤9223372036854775807∧P.v.length≤9223372036854775807∧P.o.length≤9223372036854775807∧P.p.length≤9223372036854775807)∧((∀ d ∈ P.d,d.nm.size≤9223372036854775807)∧(∀ d ∈ P.v,d.nm.size≤9223372036854775807)∧(∀ d ∈ P.o,d.nm.size≤9223372036854775807)∧∀ d ∈ P.p,d.nm.size≤9223372036854775807))∧
   (NodesAt W vg G∧sP G∧∀ n ∈ G,RL n)∧(DirsAt W vt L∧L.length≤9223372036854775807∧∀ d ∈ L,DrN d)∧((d.weights Tryz.prog 32).all (· ≤reachBytes)=true→FitP1 L∧L.length*144≤140737488355328):=by
 have hs:Tryz.prog.underlying 32=some (.struct (Tryz.prog.fieldsOf 32)):=by kernel_rfl
 have hsm:Tryz.prog.underlying 24=some (.struct (Tryz.prog.fieldsOf 24)):=by kernel_rfl
 have hsg:Tryz.prog.underlying 27=some (.struct (Tryz.prog.fieldsOf 27)):=by kernel_rfl
 have hst:Tryz.prog.underlying 30=some (.struct (Tryz.prog.fieldsOf 30)):=by kernel_rfl
 obtain ⟨cs,rfl,hsz⟩:=okWide_struct hs hv;obtain ⟨n,h⟩:=h;obtain ⟨xs,n',_,hxx,_,hxl,hf⟩:=DataW.trod_struct hs h;have hfz:(Tryz.prog.fieldsOf 32).size=4:=by kernel_rfl
 rw [EG] at hsz;obtain ⟨f0,i0,t0,o0⟩:=bC (fs:=Tryz.prog.fieldsOf 32) (i:=0) (ty:=24) (off:=0) (by kernel_rfl);obtain ⟨f1,i1,t1,o1⟩:=bC (fs:=Tryz.prog.fieldsOf 32) (i:=1) (ty:=27) (off:=4) (by kernel_rfl);obtain ⟨f2,i2,t2,o2⟩:=bC (fs:=Tryz.prog.fieldsOf 32) (i:=2) (ty:=30) (off:=5) (by kernel_rfl);obtain ⟨f3,i3,t3,o3⟩:=bC (fs:=Tryz.prog.fieldsOf 32) (i:=3) (ty:=4) (off:=6) (by kernel_rfl);have r0:=hf 0 f0 i0;have r1:=hf 1 f1 i1;have r2:=hf 2 f2 i2;have r3:=hf 3 f3 i3;rw [t0,o0,PB,List.getElem?_eq_getElem (by omega:0<xs.length)] at r0;rw [t1,o1,AZ,List.getElem?_eq_getElem (by omega:1<xs.length)] at r1;rw [t2,o2,CL,List.getElem?_eq_getElem (by omega:2<xs.length)] at r2;rw [t3,o3,EH,List.getElem?_eq_getElem (by omega:3<xs.length)] at r3;obtain ⟨pr,e3,_⟩:=DataW.trod_bool Tryz.underlying4 r3;have k6:cs.toList[6]? =some (.bool pr):=fD e3;obtain ⟨xm,_,_,_,_,hxm,hfm⟩:=DataW.trod_struct hsm r0
 have hfzm:(Tryz.prog.fieldsOf 24).size=4:=by kernel_rfl
 have get:∀ i,((Tryz.prog.fieldsOf 24)[i]?).map (fun f=>(f.type,f.offset))=some (22,i)→i<4→∃ v L,cs.toList[i]? =some v∧DepsAt W v L∧L.length≤9223372036854775807∧∀ d ∈ L,d.nm.size≤9223372036854775807:=by
  intro i hfd hi;obtain ⟨f,h1,h2,h3⟩:=bC hfd;have hr:=hfm i f h1;rw [h2,h3,kF,List.getElem?_eq_getElem (by omega:i<xm.length)] at hr;obtain ⟨v,L,e,hL,hz,hm⟩:=oX hr
  have:=wO (fD e) hi
  rw [Nat.zero_add] at this;exact ⟨v,L,this,hL,hz,hm⟩
 obtain ⟨v1,L1,k0,h1,z1,m1⟩:=get 0 (by kernel_rfl) (by decide);obtain ⟨v2,L2,k1,h2,z2,m2⟩:=get 1 (by kernel_rfl) (by decide);obtain ⟨v3,L3,k2,h3,z3,m3⟩:=get 2 (by kernel_rfl) (by decide);obtain ⟨v4,L4,k3,h4,z4,m4⟩:=get 3 (by kernel_rfl) (by decide);obtain ⟨xg,_,_,_,_,hxg,hfg⟩:=DataW.trod_struct hsg r1;have hfzg:(Tryz.prog.fieldsOf 27).size=1:=by kernel_rfl
 obtain ⟨g0,ig0,tg0,og0⟩:=bC (fs:=Tryz.prog.fieldsOf 27) (i:=0) (ty:=25) (off:=0) (by kernel_rfl);have rg:=hfg 0 g0 ig0;rw [tg0,og0,AY,List.getElem?_eq_getElem (by omega:0<xg.length)] at rg;obtain ⟨u,G,eg,hg0,zg0,mg0⟩:=KI rg;have k4:cs.toList[4+0]? =some u:=wO (fD eg) (by decide);obtain ⟨xt,_,_,hxxt,_,hxt,hft⟩:=DataW.trod_struct hst r2;have hfzt:(Tryz.prog.fieldsOf 30).size=1:=by kernel_rfl
 obtain ⟨q0,iq0,tq0,oq0⟩:=bC (fs:=Tryz.prog.fieldsOf 30) (i:=0) (ty:=28) (off:=0) (by kernel_rfl);have rt:=hft 0 q0 iq0;rw [tq0,oq0,CK,List.getElem?_eq_getElem (by omega:0<xt.length)] at rt;obtain ⟨vt,L,et,hd,hz,hn,hwt⟩:=PD rt;have k5:cs.toList[5+0]? =some vt:=wO (fD et) (by decide);obtain ⟨l⟩:=cs;obtain ⟨y0,y1,y2,y3,y4,y5,y6,rfl⟩:=TQ (l:=l) (by simpa using hsz)
 simp at k0 k1 k2 k3 k4 k5 k6
 subst k0 k1 k2 k3 k4 k5 k6;refine ⟨⟨L1,L2,L3,L4⟩,G,L,pr,_,_,_,_,_,_,rfl,⟨⟨h1,h2,h3,h4⟩,⟨z1,z2,z3,z4⟩,m1,m2,m3,m4⟩,⟨hg0,⟨zg0,fun n hn=>(mg0 n hn).2.2.1⟩,mg0⟩,⟨hd,hz,hn⟩,fun hr=> ?_⟩;have hdd:d= .agg (xs.map (·.1)):=congrArg Prod.fst hxx;rw [hdd] at hr;have hp2:=qU hs hr i2 (d:=xs[2].1) (by rw [List.getElem?_map,List.getElem?_eq_getElem (by omega:2<xs.length)];rfl);rw [t2] at hp2;have hxi:xs[2].1= .agg (xt.map (·.1)):=congrArg Prod.fst hxxt;rw [hxi] at hp2;have hp3:=qU hst hp2 iq0 (d:=xt[0].1) (by rw [List.getElem?_map,List.getElem?_eq_getElem (by omega:0<xt.length)];rfl);rw [tq0] at hp3;exact hwt hp3
end Go.Proofs.YtlmpiohbmlddiaaGreatDoor
