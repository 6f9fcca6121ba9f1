/- RwGg, Gs1, Gs2, Gs3: their declarations that are needed, laid in one text, remarks and blanks left out. -/
import Derived.Test.YtbhpfedjilkelaaGreatDoorMg03
namespace Go.Proofs.YtbhpfedjilkelaaGreatDoor.Rg
open Go.ChangeShapes Go.WideShapes Go.ChangeAt Go.RowKit
set_option maxRecDepth 100000
theorem fH {H:Type} {enc:TypeId×Value→H} {W:World} {base:Nat} {spare:Nat→Bool} {held:Bool} {n:Nat} {cs:List Value} {x:DataW H×List MemPlace} (h:DataW.trod enc Tryz.prog W base spare held n 31 cs=some x):
 ∃ a b c,cs[0]? =some (.int .i64 a)∧cs[1]? =some (.int .i64 b)∧cs[2]? =some (.int .i64 c)∧x.1= .agg [.lit (.int .i64 a),.lit (.int .i64 b),.lit (.int .i64 c)]:=by
 have hs:Tryz.prog.underlying 31=some (.struct (Tryz.prog.fieldsOf 31)):=by kernel_rfl
 obtain ⟨xs,n',_,hx,_,hxl,hf⟩:=DataW.trod_struct hs h;have hfz:(Tryz.prog.fieldsOf 31).size=3:=by kernel_rfl
 have ints:∀ i off,((Tryz.prog.fieldsOf 31)[i]?).map (fun f=>(f.type,f.offset))=some (3,off)→i<3→∃ k,cs[off]? =some (.int .i64 k)∧xs[i]? =some (.lit (.int .i64 k),[]):=by
  intro i off hfd hi;obtain ⟨f,h1,h2,h3⟩:=bF hfd;have hr:=hf i f h1;rw [h2,h3,jV,List.getElem?_eq_getElem (by omega:i<xs.length)] at hr;obtain ⟨k,e1,e2,wk⟩:=DataW.trod_int Tryz.underlying3 hr;exact ⟨k,jX e1,by rw [List.getElem?_eq_getElem (by omega:i<xs.length),e2]⟩
 obtain ⟨a,a0,x0⟩:=ints 0 0 (by kernel_rfl) (by decide);obtain ⟨b,a1,x1⟩:=ints 1 1 (by kernel_rfl) (by decide);obtain ⟨c,a2,x2⟩:=ints 2 2 (by kernel_rfl) (by decide);refine ⟨a,b,c,a0,a1,a2,?_⟩;rw [hx];obtain ⟨y0,y1,y2,rfl⟩:=vD (l:=xs) (by omega)
 simp at x0 x1 x2
 subst x0 x1 x2;rfl
theorem eG {α:Type} {P:Nat→α→Prop}:∀ {n:Nat},(∀ i,i<n→∃ s,P i s)→∃ L:List α,L.length=n∧∀ i (h:i<L.length),P i L[i]
 |0,_=>⟨[],rfl,fun i h=>by simp at h⟩
 |n+1,h=>by
  obtain ⟨L,hl,hP⟩:=eG (n:=n) fun i hi=>h i (by omega)
  obtain ⟨s,hs⟩:=h n (by omega);refine ⟨L++[s],by simp [hl],fun i hi=> ?_⟩
  by_cases hin:i<L.length
  · rw [List.getElem_append_left hin];exact hP i hin
  · have:i=n:=by simp at hi;omega
    subst this
    simpa [hl] using hs
theorem fW {cs:List Value} {o:Nat} {v:Value} (h:(cs.drop o).take 1=[v]):cs[o]? =some v:=by
 have h0:((cs.drop o).take 1)[0]? =some v:=by rw [h];rfl
 simpa using h0
theorem eS:Tryz.prog.cellsOf 9=1:=by kernel_rfl
theorem rD:Tryz.prog.cellsOf 80=4:=by kernel_rfl
theorem oR:Tryz.prog.cellsOf 77=2:=by kernel_rfl
theorem oS:Tryz.prog.cellsOf 67=6:=by kernel_rfl
theorem oT:Tryz.prog.cellsOf 40=1:=by kernel_rfl
theorem lY:Tryz.prog.cellsOf 65=1:=by kernel_rfl
theorem lZ:Tryz.prog.cellsOf 53=1:=by kernel_rfl
theorem mA:Tryz.prog.cellsOf 55=1:=by kernel_rfl
theorem oU:Tryz.prog.cellsOf 3=1:=by kernel_rfl
theorem rE {H:Type} {enc:TypeId×Value→H} {W:World} {base:Nat} {held:Bool} {n:Nat} {g o:Nat} {cs:List Value} {x:DataW H×List MemPlace} (hc:W.cells? base ⟨g,o,none⟩ 4=some cs) (h:DataW.trod enc Tryz.prog W base (fun _=>true) held n 80 cs=some x):∃ d:Pn,PnIn W g o d∧d.nm.size≤9223372036854775807:=by
 have hs:Tryz.prog.underlying 80=some (.struct (Tryz.prog.fieldsOf 80)):=by kernel_rfl
 obtain ⟨xs,n',_,_,_,hxl,hf⟩:=DataW.trod_struct hs h;have hsz:(Tryz.prog.fieldsOf 80).size=2:=by kernel_rfl
 obtain ⟨_,hcl,hq⟩:=World.cells?_some hc;obtain ⟨f0,i0,t0,o0⟩:=bF (fs:=Tryz.prog.fieldsOf 80) (i:=0) (ty:=9) (off:=0) (by kernel_rfl);obtain ⟨f1,i1,t1,o1⟩:=bF (fs:=Tryz.prog.fieldsOf 80) (i:=1) (ty:=31) (off:=1) (by kernel_rfl);have r0:=hf 0 f0 i0;have r1:=hf 1 f1 i1;rw [t0,o0,eS,List.getElem?_eq_getElem (by omega:0<xs.length)] at r0;rw [t1,o1,jW,List.getElem?_eq_getElem (by omega:1<xs.length)] at r1;obtain ⟨s,e0,_,hs0⟩:=DataW.trod_string Tryz.underlying9 r0;obtain ⟨a,b,c,ea,eb,ec,_⟩:=fH r1;have ka:((cs.drop 1).take 3)[0]? =some (.int .i64 a):=ea;have kb:((cs.drop 1).take 3)[1]? =some (.int .i64 b):=eb;have kc:((cs.drop 1).take 3)[2]? =some (.int .i64 c):=ec;have q0:=hq 0 (by decide);have q1:=hq 1 (by decide);have q2:=hq 2 (by decide);have q3:=hq 3 (by decide);have ad:∀ i,(⟨g,o,none⟩:Addr).add i=⟨g,o+i,none⟩:=fun i=>by unfold Addr.add;split<;>simp_all
 simp at ka kb kc
 rw [ad,fW e0] at q0;rw [ad,ka] at q1;rw [ad,kb] at q2;rw [ad,kc] at q3;exact ⟨⟨s,a,b,c⟩,⟨⟨q0,q1,q2,q3⟩,cG q0⟩,by unfold maxLen at hs0;exact hs0⟩
theorem oV {H:Type} {enc:TypeId×Value→H} {W:World} {base:Nat} {held:Bool} {n:Nat} {g o:Nat} {cs:List Value} {x:DataW H×List MemPlace} (hc:W.cells? base ⟨g,o,none⟩ 2=some cs) (h:DataW.trod enc Tryz.prog W base (fun _=>true) held n 77 cs=some x):∃ d:Eg,EgIn W g o d∧d.lb.size≤9223372036854775807:=by
 have hs:Tryz.prog.underlying 77=some (.struct (Tryz.prog.fieldsOf 77)):=by kernel_rfl
 obtain ⟨xs,n',_,_,_,hxl,hf⟩:=DataW.trod_struct hs h;have hsz:(Tryz.prog.fieldsOf 77).size=2:=by kernel_rfl
 obtain ⟨_,hcl,hq⟩:=World.cells?_some hc;obtain ⟨f0,i0,t0,o0⟩:=bF (fs:=Tryz.prog.fieldsOf 77) (i:=0) (ty:=9) (off:=0) (by kernel_rfl);obtain ⟨f1,i1,t1,o1⟩:=bF (fs:=Tryz.prog.fieldsOf 77) (i:=1) (ty:=3) (off:=1) (by kernel_rfl);have r0:=hf 0 f0 i0;have r1:=hf 1 f1 i1;rw [t0,o0,eS,List.getElem?_eq_getElem (by omega:0<xs.length)] at r0;rw [t1,o1,oU,List.getElem?_eq_getElem (by omega:1<xs.length)] at r1;obtain ⟨s,e0,_,hs0⟩:=DataW.trod_string Tryz.underlying9 r0;obtain ⟨k,e1,_,_⟩:=DataW.trod_int Tryz.underlying3 r1;have q0:=hq 0 (by decide);have q1:=hq 1 (by decide);have ad:∀ i,(⟨g,o,none⟩:Addr).add i=⟨g,o+i,none⟩:=fun i=>by unfold Addr.add;split<;>simp_all
 rw [ad,fW e0] at q0;rw [ad,fW e1] at q1;exact ⟨⟨s,k⟩,⟨⟨q0,q1⟩,cG q0⟩,by unfold maxLen at hs0;exact hs0⟩
theorem tK {H:Type} {enc:TypeId×Value→H} {W:World} {base fuel:Nat} {held:Bool} {cs:List Value} {x:DataW H×List MemPlace} (h:DataW.trod enc Tryz.prog W base (fun _=>true) held fuel 40 cs=some x):
 ∃ v L,cs=[v]∧PinsAt W v L∧L.length≤9223372036854775807∧∀ d ∈ L,d.nm.size≤9223372036854775807:=by
 rcases Go.Deep.open_slice Tryz.underlying40 h with ⟨rfl,_⟩|⟨ad,len,cap,m,n,D,Pl,rfl,_,hl,hcm,hm,hx,hel⟩
 · exact ⟨_,[],rfl,⟨none,0,rfl,Nat.le_refl _,Or.inl rfl⟩,by simp,(fun d hd=>by cases hd)⟩
 · have hz:len≤9223372036854775807:=by unfold maxLen at hcm;omega
   rcases Nat.eq_zero_or_pos len with h0|h0
   · subst h0
     exact ⟨_,[],rfl,⟨_,_,rfl,Nat.zero_le _,Or.inl rfl⟩,by simp,(fun d hd=>by cases hd)⟩
   · have hmm:len≤m:=by rw [hm];simp;exact hl
     rw [rD] at hel;obtain ⟨g,off,spot⟩:=ad;obtain ⟨cs0,hc0,_⟩:=hel 0 (by omega);obtain ⟨_,hln,hq⟩:=World.cells?_some hc0;have hcell:=hq 0 (by decide);rw [List.getElem?_eq_getElem (by omega:0<cs0.length)] at hcell;have hspot:spot=none:=by simpa [Addr.add] using World.cell?_spot hcell
     subst hspot;have ad2:∀ o i,(⟨g,o,none⟩:Addr).add i=⟨g,o+i,none⟩:=fun o i=>by unfold Addr.add;split<;>simp_all
     obtain ⟨L,hL,hP⟩:=eG (P:=fun i (d:Pn)=>PnIn W g (off+i*4) d∧d.nm.size≤9223372036854775807) (n:=len) fun i hi=>by
      obtain ⟨cs,hc,ht⟩:=hel i (by omega);rw [ad2] at hc;exact rE hc ht
     subst hL;refine ⟨_,L,rfl,⟨_,_,rfl,hl,Or.inr ⟨g,off,rfl,?_,fun i hi=>(hP i hi).1⟩⟩,hz,?_⟩
     · have:=cG hcell
       rw [ad2,ad2] at this;exact this
     · intro d hd
       obtain ⟨i,hi,rfl⟩:=List.getElem_of_mem hd;exact (hP i hi).2
theorem rF {H:Type} {enc:TypeId×Value→H} {W:World} {base fuel:Nat} {held:Bool} {cs:List Value} {x:DataW H×List MemPlace} (h:DataW.trod enc Tryz.prog W base (fun _=>true) held fuel 65 cs=some x):
 ∃ v L,cs=[v]∧EdgesAt W v L∧L.length≤9223372036854775807∧∀ d ∈ L,d.lb.size≤9223372036854775807:=by
 rcases Go.Deep.open_slice Tryz.underlying65 h with ⟨rfl,_⟩|⟨ad,len,cap,m,n,D,Pl,rfl,_,hl,hcm,hm,hx,hel⟩
 · exact ⟨_,[],rfl,⟨none,0,rfl,Nat.le_refl _,Or.inl rfl⟩,by simp,(fun d hd=>by cases hd)⟩
 · have hz:len≤9223372036854775807:=by unfold maxLen at hcm;omega
   rcases Nat.eq_zero_or_pos len with h0|h0
   · subst h0
     exact ⟨_,[],rfl,⟨_,_,rfl,Nat.zero_le _,Or.inl rfl⟩,by simp,(fun d hd=>by cases hd)⟩
   · have hmm:len≤m:=by rw [hm];simp;exact hl
     rw [oR] at hel;obtain ⟨g,off,spot⟩:=ad;obtain ⟨cs0,hc0,_⟩:=hel 0 (by omega);obtain ⟨_,hln,hq⟩:=World.cells?_some hc0;have hcell:=hq 0 (by decide);rw [List.getElem?_eq_getElem (by omega:0<cs0.length)] at hcell;have hspot:spot=none:=by simpa [Addr.add] using World.cell?_spot hcell
     subst hspot;have ad2:∀ o i,(⟨g,o,none⟩:Addr).add i=⟨g,o+i,none⟩:=fun o i=>by unfold Addr.add;split<;>simp_all
     obtain ⟨L,hL,hP⟩:=eG (P:=fun i (d:Eg)=>EgIn W g (off+i*2) d∧d.lb.size≤9223372036854775807) (n:=len) fun i hi=>by
      obtain ⟨cs,hc,ht⟩:=hel i (by omega);rw [ad2] at hc;exact oV hc ht
     subst hL;refine ⟨_,L,rfl,⟨_,_,rfl,hl,Or.inr ⟨g,off,rfl,?_,fun i hi=>(hP i hi).1⟩⟩,hz,?_⟩
     · have:=cG hcell
       rw [ad2,ad2] at this;exact this
     · intro d hd
       obtain ⟨i,hi,rfl⟩:=List.getElem_of_mem hd;exact (hP i hi).2
def NdZ (n:Nd):Prop:=n.nm.size≤9223372036854775807∧(n.cx.length≤9223372036854775807∧∀ d ∈ n.cx,d.nm.size≤9223372036854775807)∧n.ed.length≤9223372036854775807∧∀ d ∈ n.ed,d.lb.size≤9223372036854775807
theorem oW {H:Type} {enc:TypeId×Value→H} {W:World} {base:Nat} {held:Bool} {n:Nat} {g o:Nat} {cs:List Value} {x:DataW H×List MemPlace} (hc:W.cells? base ⟨g,o,none⟩ 6=some cs) (h:DataW.trod enc Tryz.prog W base (fun _=>true) held n 67 cs=some x):∃ d:Nd,(∃ vc ve,NdIn W g o d vc ve)∧NdZ d:=by
 have hs:Tryz.prog.underlying 67=some (.struct (Tryz.prog.fieldsOf 67)):=by kernel_rfl
 obtain ⟨xs,n',_,_,_,hxl,hf⟩:=DataW.trod_struct hs h;have hsz:(Tryz.prog.fieldsOf 67).size=4:=by kernel_rfl
 obtain ⟨_,hcl,hq⟩:=World.cells?_some hc;obtain ⟨f0,i0,t0,o0⟩:=bF (fs:=Tryz.prog.fieldsOf 67) (i:=0) (ty:=9) (off:=0) (by kernel_rfl);obtain ⟨f1,i1,t1,o1⟩:=bF (fs:=Tryz.prog.fieldsOf 67) (i:=1) (ty:=31) (off:=1) (by kernel_rfl);obtain ⟨f2,i2,t2,o2⟩:=bF (fs:=Tryz.prog.fieldsOf 67) (i:=2) (ty:=40) (off:=4) (by kernel_rfl);obtain ⟨f3,i3,t3,o3⟩:=bF (fs:=Tryz.prog.fieldsOf 67) (i:=3) (ty:=65) (off:=5) (by kernel_rfl);have r0:=hf 0 f0 i0;have r1:=hf 1 f1 i1;have r2:=hf 2 f2 i2;have r3:=hf 3 f3 i3;rw [t0,o0,eS,List.getElem?_eq_getElem (by omega:0<xs.length)] at r0;rw [t1,o1,jW,List.getElem?_eq_getElem (by omega:1<xs.length)] at r1;rw [t2,o2,oT,List.getElem?_eq_getElem (by omega:2<xs.length)] at r2;rw [t3,o3,lY,List.getElem?_eq_getElem (by omega:3<xs.length)] at r3;obtain ⟨s,e0,_,hs0⟩:=DataW.trod_string Tryz.underlying9 r0;obtain ⟨a,b,c,ea,eb,ec,_⟩:=fH r1;obtain ⟨vc,L1,e2,h2,z2,m2⟩:=tK r2
 obtain ⟨ve,L2,e3,h3,z3,m3⟩:=rF r3;have ka:((cs.drop 1).take 3)[0]? =some (.int .i64 a):=ea;have kb:((cs.drop 1).take 3)[1]? =some (.int .i64 b):=eb;have kc:((cs.drop 1).take 3)[2]? =some (.int .i64 c):=ec;have q0:=hq 0 (by decide);have q1:=hq 1 (by decide);have q2:=hq 2 (by decide);have q3:=hq 3 (by decide);have q4:=hq 4 (by decide);have q5:=hq 5 (by decide);have ad:∀ i,(⟨g,o,none⟩:Addr).add i=⟨g,o+i,none⟩:=fun i=>by unfold Addr.add;split<;>simp_all
 simp at ka kb kc
 rw [ad,fW e0] at q0;rw [ad,ka] at q1;rw [ad,kb] at q2;rw [ad,kc] at q3;rw [ad,fW e2] at q4;rw [ad,fW e3] at q5;exact ⟨⟨s,a,b,c,L1,L2⟩,⟨vc,ve,⟨q0,q1,q2,q3,q4,q5⟩,⟨h2,h3⟩,cG q0⟩,by unfold maxLen at hs0;exact hs0,⟨z2,m2⟩,z3,m3⟩
theorem rG {H:Type} {enc:TypeId×Value→H} {W:World} {base fuel:Nat} {held:Bool} {cs:List Value} {x:DataW H×List MemPlace} (h:DataW.trod enc Tryz.prog W base (fun _=>true) held fuel 53 cs=some x):
 ∃ v L,cs=[v]∧NodesAt W v L∧L.length≤9223372036854775807∧∀ d ∈ L,NdZ d:=by
 rcases Go.Deep.open_slice Tryz.underlying53 h with ⟨rfl,_⟩|⟨ad,len,cap,m,n,D,Pl,rfl,_,hl,hcm,hm,hx,hel⟩
 · exact ⟨_,[],rfl,⟨none,0,rfl,Nat.le_refl _,Or.inl rfl⟩,by simp,(fun d hd=>by cases hd)⟩
 · have hz:len≤9223372036854775807:=by unfold maxLen at hcm;omega
   rcases Nat.eq_zero_or_pos len with h0|h0
   · subst h0
     exact ⟨_,[],rfl,⟨_,_,rfl,Nat.zero_le _,Or.inl rfl⟩,by simp,(fun d hd=>by cases hd)⟩
   · have hmm:len≤m:=by rw [hm];simp;exact hl
     rw [oS] at hel;obtain ⟨g,off,spot⟩:=ad;obtain ⟨cs0,hc0,_⟩:=hel 0 (by omega);obtain ⟨_,hln,hq⟩:=World.cells?_some hc0;have hcell:=hq 0 (by decide);rw [List.getElem?_eq_getElem (by omega:0<cs0.length)] at hcell;have hspot:spot=none:=by simpa [Addr.add] using World.cell?_spot hcell
     subst hspot;have ad2:∀ o i,(⟨g,o,none⟩:Addr).add i=⟨g,o+i,none⟩:=fun o i=>by unfold Addr.add;split<;>simp_all
     obtain ⟨L,hL,hP⟩:=eG (P:=fun i (d:Nd)=>(∃ vc ve,NdIn W g (off+i*6) d vc ve)∧NdZ d) (n:=len) fun i hi=>by
      obtain ⟨cs,hc,ht⟩:=hel i (by omega);rw [ad2] at hc;exact oW hc ht
     subst hL;refine ⟨_,L,rfl,⟨_,_,rfl,hl,Or.inr ⟨g,off,rfl,?_,fun i hi=>(hP i hi).1⟩⟩,hz,?_⟩
     · have:=cG hcell
       rw [ad2,ad2] at this;exact this
     · intro d hd
       obtain ⟨i,hi,rfl⟩:=List.getElem_of_mem hd;exact (hP i hi).2
theorem fX {H:Type} {enc:TypeId×Value→H} {W:World} {base b0:Nat} {held:Bool} {v:Value} {d:DataW H} {p:List MemPlace} (hv:Value.okWide Tryz.prog W .any b0 55 v) (h:DataW.Trod enc Tryz.prog W base (fun _=>true) held 55 v d p):
 ∃ (G:List Nd) (u:Value),v= .agg #[u]∧NodesAt W u G∧G.length≤9223372036854775807∧∀ n ∈ G,NdZ n:=by
 have hs:Tryz.prog.underlying 55=some (.struct (Tryz.prog.fieldsOf 55)):=by kernel_rfl
 obtain ⟨cs,rfl,hsz⟩:=okWide_struct hs hv;obtain ⟨n,h⟩:=h;obtain ⟨xs,n',_,_,_,hxl,hf⟩:=DataW.trod_struct hs h;have hfz:(Tryz.prog.fieldsOf 55).size=1:=by kernel_rfl
 rw [mA] at hsz;obtain ⟨f0,i0,t0,o0⟩:=bF (fs:=Tryz.prog.fieldsOf 55) (i:=0) (ty:=53) (off:=0) (by kernel_rfl);have r0:=hf 0 f0 i0;rw [t0,o0,lZ,List.getElem?_eq_getElem (by omega:0<xs.length)] at r0;obtain ⟨u,G,e0,h0,z0,m0⟩:=rG r0;have k0:cs.toList[0]? =some u:=fW e0;obtain ⟨l⟩:=cs
 match l,hsz with
 |[x0],_=>
  simp at k0
  subst k0;exact ⟨G,_,rfl,h0,z0,m0⟩
end Go.Proofs.YtbhpfedjilkelaaGreatDoor.Rg
namespace Go.Proofs.YtbhpfedjilkelaaGreatDoor
open Go.RowKit
set_option maxRecDepth 100000
def kA (p q:Eg):Bool:=decide (p.lb.toList=q.lb.toList)&&decide (p.to=q.to)
theorem fY {p q:Eg}:kA p q=true↔p=q:=by
 obtain ⟨s,a⟩:=p;obtain ⟨s',a'⟩:=q;unfold kA;simp only [Bool.and_eq_true,decide_eq_true_eq,Eg.mk.injEq];exact ⟨fun ⟨h1,h2⟩=>⟨Sc.bG h1,h2⟩,fun ⟨h1,h2⟩=>⟨by rw [h1],h2⟩⟩
theorem nW (op:BinOp) (x y:Operand) (xs ys:Array Value) (w:World):(eqGuard op 77 x y (.agg xs) (.agg ys)).run Tryz.prog w= .ok () w:=run_eqGuard_agg w op 77 x y xs ys (by kernel_rfl)
theorem vF (p q:Eg) (w:World):(binOp .neq 77 (.agg #[.string p.lb,.int .i64 p.to]) (.agg #[.string q.lb,.int .i64 q.to])).run Tryz.prog w= .ok (.bool (!(kA p q))) w:=by
 obtain ⟨s,a⟩:=p;obtain ⟨s',a'⟩:=q;have u3:=Tryz.underlying3;have a3:=Tryz.isAgg3;have z3:=Tryz.sizeOf3;have u9:=Tryz.underlying9;have a9:=Tryz.isAgg9;have z9:=Tryz.sizeOf9;rw [run_neq_struct,show (10000:Nat)=9999+1 from rfl,run_equalIn_agg w 9999 77 _ _ (by kernel_rfl) (by kernel_rfl)];simp only [Program.fieldsOf,Tryz.underlying77];unfold kA
 simp only
 by_cases hs:s.toList=s'.toList
 · obtain rfl:=Sc.bG hs
   by_cases ha:a=a'
   · subst ha
     go_simp
   · simp only [ha,decide_false,Bool.and_false]
     go_simp
 · simp only [hs,decide_false,Bool.false_and]
   go_simp
theorem fJ (g o:Nat) (p:Pn):KeepP fun W=>PnIn W g o p:=fun _ _ h hb=>h.below hb
theorem fK (g o:Nat) (p:Eg):KeepP fun W=>EgIn W g o p:=fun _ _ h hb=>h.below hb
set_option maxHeartbeats 1600000 in
theorem oX (A B:List Pn) (hAB:A.length=B.length) (hsz:A.length≤9223372036854775807) (ga oa ca gb ob cb:Nat) (w:World) (hla:∀ i (h:i<A.length),PnIn w ga (oa+i*4) A[i]) (hlb:∀ i (h:i<B.length),PnIn w gb (ob+i*4) B[i]):
 Calls Tryz.prog 124 #[.slice (some ⟨ga,oa,none⟩) A.length ca,.slice (some ⟨gb,ob,none⟩) B.length cb] w fun e w'=>e= .returned (.bool (eqB A B))∧Below w.heap.size w w':=by
 have HL:Hid (∀ w1,Below w.heap.size w w1→∀ i (h:i<A.length) (h2:i<B.length),PnIn w1 ga (oa+i*4) A[i]∧PnIn w1 gb (ob+i*4) B[i]):=fun w1 hb i hi hi2=>⟨(hla i hi).below hb,(hlb i hi2).below hb⟩
 have HAB:=aA hAB;clear hla hlb;rw [←hAB];clear hAB
 go_enter Tryz.func124,Tryz.ntmps124
 go_wp2_with fail
 go_loopw [13] (fun i wr=>∃ k:Nat,k≤A.length∧i= .int .i64 k∧Below w.heap.size w wr∧∀ j (h:j<k) (h1:j<A.length) (h2:j<B.length),A[j]=B[j]) (fun i _=>A.length - (intOf i).toNat)
 case atStart=>exact ⟨0,Nat.zero_le _,rfl,Below.refl _ _,fun j h=>by omega⟩
 case round=>
  obtain ⟨k,hk,rfl,hb,hall⟩:=hrel;have HALL:=aA hall;have HB:=aA hb;clear hall
  by_cases hlt:k<A.length
  · have hltB:k<B.length:=HAB.out ▸ hlt
    have HO:Hid (Below w.heap.size w wr∧PnIn wr ga (oa+k*4) A[k]∧PnIn wr gb (ob+k*4) B[k]):=⟨hb,HL.out wr hb k hlt hltB⟩;have HK:Hid (KeepP fun w1=>Below w.heap.size w w1∧PnIn w1 ga (oa+k*4) A[k]∧PnIn w1 gb (ob+k*4) B[k]):=(aO w).and ((fJ _ _ _).and (fJ _ _ _));have HNE:Hid (cE A[k] B[k]=false→eqB A B=false):=fun h=>bX fun e=>by subst e;rw [(cQ).2 rfl] at h;cases h
    have HST:Hid (cE A[k] B[k]=true→∀ j (h:j<k+1) (h1:j<A.length) (h2:j<B.length),A[j]=B[j]):=fun h j hj h1 h2=>by
     rcases Nat.lt_or_ge j k with hjk|hjk
     · exact HALL.out j hjk h1 h2
     · obtain rfl:j=k:=by omega
       exact cQ.1 h
    have he:=vE A[k] B[k];generalize A[k]=s at*;generalize B[k]=t at*;have hgd:=iP;cases hq:cE s t
    · have HR:=aA (HNE.out hq)
      rw [hq] at he;clear hb HNE HST HALL
      go_wp2_with fail
      refine bE HK (by kernel_rfl) (by kernel_rfl) (by first|exact HO.out|exact HK.out.drew HO.out) ?_;intro C HIN HOUT;clear HO
      repeat
       (with_reducible refine wpQuiet_step (fun K hK=> ?_)
        go_simp
        first
         |(refine hK _ ?_;clear hK K)
         |(apply Exists.intro;refine ⟨fun w1 hC=> ?_,hK _ ?_⟩;(focus ((first|(exact rfl)|(obtain ⟨hb1,⟨⟨p0,p1,p2,p3⟩,p6⟩,⟨⟨q0,q1,q2,q3⟩,q6⟩⟩:=HOUT.out w1 hC;clear hC;go_simp;first|done|exact rfl));done));clear hK K))
      refine wpQuiet_nil ?_;intro wn hC;have HO:=aA (HOUT.out _ hC);clear hC HIN HOUT C;obtain ⟨hb1,⟨⟨p0,p1,p2,p3⟩,p6⟩,⟨⟨q0,q1,q2,q3⟩,q6⟩⟩:=HO.out
      go_wp2
      go_ret;exact ⟨aC HR.out.symm,HO.out.1⟩
    · have HR:=aA (HST.out hq)
      rw [hq] at he;clear hb HNE HST HALL
      go_wp2_with fail
      refine bE HK (by kernel_rfl) (by kernel_rfl) (by first|exact HO.out|exact HK.out.drew HO.out) ?_;intro C HIN HOUT;clear HO
      repeat
       (with_reducible refine wpQuiet_step (fun K hK=> ?_)
        go_simp
        first
         |(refine hK _ ?_;clear hK K)
         |(apply Exists.intro;refine ⟨fun w1 hC=> ?_,hK _ ?_⟩;(focus ((first|(exact rfl)|(obtain ⟨hb1,⟨⟨p0,p1,p2,p3⟩,p6⟩,⟨⟨q0,q1,q2,q3⟩,q6⟩⟩:=HOUT.out w1 hC;clear hC;go_simp;first|done|exact rfl));done));clear hK K))
      refine wpQuiet_nil ?_;intro wn hC;have HO:=aA (HOUT.out _ hC);clear hC HIN HOUT C;obtain ⟨hb1,⟨⟨p0,p1,p2,p3⟩,p6⟩,⟨⟨q0,q1,q2,q3⟩,q6⟩⟩:=HO.out
      go_wp2
      exact ⟨⟨k+1,by omega,by go_num,HO.out.1,HR.out⟩,by simp [intOf];omega⟩
  · have hke:k=A.length:=by omega
    subst hke;have HR:Hid (eqB A B=true):=aL (List.ext_getElem HAB.out fun j h1 h2=>HALL.out j h1 h1 h2);clear hb
    go_wp2
    go_ret;exact ⟨aC HR.out.symm,HB.out⟩
theorem kB (ad bd:Option Addr) (ca cb:Nat) (w:World):
 Calls Tryz.prog 124 #[.slice ad 0 ca,.slice bd 0 cb] w fun e w'=>e= .returned (.bool true)∧Below w.heap.size w w':=by
 go_enter Tryz.func124,Tryz.ntmps124
 go_wp2_with fail
 go_loop [13] (fun i=>i= .int .i64 0) (fun _=>0)
 case atStart=>rfl
 case round=>
  subst hrel
  go_wp2
  go_ret;exact ⟨rfl,Below.refl _ _⟩
theorem rH (ad bd:Option Addr) (n m ca cb:Nat) (h:n≠m) (w:World):
 Calls Tryz.prog 124 #[.slice ad n ca,.slice bd m cb] w fun e w'=>e= .returned (.bool false)∧Below w.heap.size w w':=by
 have hn:((n:Int)=(m:Int))=False:=by simp;omega
 go_enter Tryz.func124,Tryz.ntmps124
 go_wp2
 go_ret;exact ⟨rfl,Below.refl _ _⟩
theorem rI {A B:List Pn} {va vb:Value} {w:World} (ha:PinsAt w va A) (hb:PinsAt w vb B) (hsz:A.length≤9223372036854775807):
 Calls Tryz.prog 124 #[va,vb] w fun e w'=>e= .returned (.bool (eqB A B))∧Below w.heap.size w w':=by
 obtain ⟨ad,ca,rfl,_,hl⟩:=ha;obtain ⟨bd,cb,rfl,_,hm⟩:=hb
 by_cases hn:A.length=B.length
 · rcases hl with rfl|⟨ga,oa,rfl,hga,hla⟩
   · obtain rfl:B=[]:=List.eq_nil_of_length_eq_zero (by simpa using hn.symm)
     rw [aL rfl];exact kB _ _ _ _ w
   · rcases hm with rfl|⟨gb,ob,rfl,hgb,hlb⟩
     · obtain rfl:A=[]:=List.eq_nil_of_length_eq_zero (by simpa using hn)
       rw [aL rfl];exact kB _ _ _ _ w
     · exact oX A B hn hsz ga oa ca gb ob cb w hla hlb
 · rw [bX fun e=>hn (by rw [e])]
   exact rH _ _ _ _ _ _ hn w
set_option maxHeartbeats 1600000 in
theorem oY (A B:List Eg) (hAB:A.length=B.length) (hsz:A.length≤9223372036854775807) (ga oa ca gb ob cb:Nat) (w:World) (hla:∀ i (h:i<A.length),EgIn w ga (oa+i*2) A[i]) (hlb:∀ i (h:i<B.length),EgIn w gb (ob+i*2) B[i]):
 Calls Tryz.prog 128 #[.slice (some ⟨ga,oa,none⟩) A.length ca,.slice (some ⟨gb,ob,none⟩) B.length cb] w fun e w'=>e= .returned (.bool (eqB A B))∧Below w.heap.size w w':=by
 have HL:Hid (∀ w1,Below w.heap.size w w1→∀ i (h:i<A.length) (h2:i<B.length),EgIn w1 ga (oa+i*2) A[i]∧EgIn w1 gb (ob+i*2) B[i]):=fun w1 hb i hi hi2=>⟨(hla i hi).below hb,(hlb i hi2).below hb⟩
 have HAB:=aA hAB;clear hla hlb;rw [←hAB];clear hAB
 go_enter Tryz.func128,Tryz.ntmps128
 go_wp2_with fail
 go_loopw [13] (fun i wr=>∃ k:Nat,k≤A.length∧i= .int .i64 k∧Below w.heap.size w wr∧∀ j (h:j<k) (h1:j<A.length) (h2:j<B.length),A[j]=B[j]) (fun i _=>A.length - (intOf i).toNat)
 case atStart=>exact ⟨0,Nat.zero_le _,rfl,Below.refl _ _,fun j h=>by omega⟩
 case round=>
  obtain ⟨k,hk,rfl,hb,hall⟩:=hrel;have HALL:=aA hall;have HB:=aA hb;clear hall
  by_cases hlt:k<A.length
  · have hltB:k<B.length:=HAB.out ▸ hlt
    have HO:Hid (Below w.heap.size w wr∧EgIn wr ga (oa+k*2) A[k]∧EgIn wr gb (ob+k*2) B[k]):=⟨hb,HL.out wr hb k hlt hltB⟩;have HK:Hid (KeepP fun w1=>Below w.heap.size w w1∧EgIn w1 ga (oa+k*2) A[k]∧EgIn w1 gb (ob+k*2) B[k]):=(aO w).and ((fK _ _ _).and (fK _ _ _));have HNE:Hid (kA A[k] B[k]=false→eqB A B=false):=fun h=>bX fun e=>by subst e;rw [(fY).2 rfl] at h;cases h
    have HST:Hid (kA A[k] B[k]=true→∀ j (h:j<k+1) (h1:j<A.length) (h2:j<B.length),A[j]=B[j]):=fun h j hj h1 h2=>by
     rcases Nat.lt_or_ge j k with hjk|hjk
     · exact HALL.out j hjk h1 h2
     · obtain rfl:j=k:=by omega
       exact fY.1 h
    have he:=vF A[k] B[k];generalize A[k]=s at*;generalize B[k]=t at*;have hgd:=nW;cases hq:kA s t
    · have HR:=aA (HNE.out hq)
      rw [hq] at he;clear hb HNE HST HALL
      go_wp2_with fail
      refine bE HK (by kernel_rfl) (by kernel_rfl) (by first|exact HO.out|exact HK.out.drew HO.out) ?_;intro C HIN HOUT;clear HO
      repeat
       (with_reducible refine wpQuiet_step (fun K hK=> ?_)
        go_simp
        first
         |(refine hK _ ?_;clear hK K)
         |(apply Exists.intro;refine ⟨fun w1 hC=> ?_,hK _ ?_⟩;(focus ((first|(exact rfl)|(obtain ⟨hb1,⟨⟨p0,p1⟩,p6⟩,⟨⟨q0,q1⟩,q6⟩⟩:=HOUT.out w1 hC;clear hC;go_simp;first|done|exact rfl));done));clear hK K))
      refine wpQuiet_nil ?_;intro wn hC;have HO:=aA (HOUT.out _ hC);clear hC HIN HOUT C;obtain ⟨hb1,⟨⟨p0,p1⟩,p6⟩,⟨⟨q0,q1⟩,q6⟩⟩:=HO.out
      go_wp2
      go_ret;exact ⟨aC HR.out.symm,HO.out.1⟩
    · have HR:=aA (HST.out hq)
      rw [hq] at he;clear hb HNE HST HALL
      go_wp2_with fail
      refine bE HK (by kernel_rfl) (by kernel_rfl) (by first|exact HO.out|exact HK.out.drew HO.out) ?_;intro C HIN HOUT;clear HO
      repeat
       (with_reducible refine wpQuiet_step (fun K hK=> ?_)
        go_simp
        first
         |(refine hK _ ?_;clear hK K)
         |(apply Exists.intro;refine ⟨fun w1 hC=> ?_,hK _ ?_⟩;(focus ((first|(exact rfl)|(obtain ⟨hb1,⟨⟨p0,p1⟩,p6⟩,⟨⟨q0,q1⟩,q6⟩⟩:=HOUT.out w1 hC;clear hC;go_simp;first|done|exact rfl));done));clear hK K))
      refine wpQuiet_nil ?_;intro wn hC;have HO:=aA (HOUT.out _ hC);clear hC HIN HOUT C;obtain ⟨hb1,⟨⟨p0,p1⟩,p6⟩,⟨⟨q0,q1⟩,q6⟩⟩:=HO.out
      go_wp2
      exact ⟨⟨k+1,by omega,by go_num,HO.out.1,HR.out⟩,by simp [intOf];omega⟩
  · have hke:k=A.length:=by omega
    subst hke;have HR:Hid (eqB A B=true):=aL (List.ext_getElem HAB.out fun j h1 h2=>HALL.out j h1 h1 h2);clear hb
    go_wp2
    go_ret;exact ⟨aC HR.out.symm,HB.out⟩
theorem kC (ad bd:Option Addr) (ca cb:Nat) (w:World):
 Calls Tryz.prog 128 #[.slice ad 0 ca,.slice bd 0 cb] w fun e w'=>e= .returned (.bool true)∧Below w.heap.size w w':=by
 go_enter Tryz.func128,Tryz.ntmps128
 go_wp2_with fail
 go_loop [13] (fun i=>i= .int .i64 0) (fun _=>0)
 case atStart=>rfl
 case round=>
  subst hrel
  go_wp2
  go_ret;exact ⟨rfl,Below.refl _ _⟩
theorem rJ (ad bd:Option Addr) (n m ca cb:Nat) (h:n≠m) (w:World):
 Calls Tryz.prog 128 #[.slice ad n ca,.slice bd m cb] w fun e w'=>e= .returned (.bool false)∧Below w.heap.size w w':=by
 have hn:((n:Int)=(m:Int))=False:=by simp;omega
 go_enter Tryz.func128,Tryz.ntmps128
 go_wp2
 go_ret;exact ⟨rfl,Below.refl _ _⟩
theorem rK {A B:List Eg} {va vb:Value} {w:World} (ha:EdgesAt w va A) (hb:EdgesAt w vb B) (hsz:A.length≤9223372036854775807):
 Calls Tryz.prog 128 #[va,vb] w fun e w'=>e= .returned (.bool (eqB A B))∧Below w.heap.size w w':=by
 obtain ⟨ad,ca,rfl,_,hl⟩:=ha;obtain ⟨bd,cb,rfl,_,hm⟩:=hb
 by_cases hn:A.length=B.length
 · rcases hl with rfl|⟨ga,oa,rfl,hga,hla⟩
   · obtain rfl:B=[]:=List.eq_nil_of_length_eq_zero (by simpa using hn.symm)
     rw [aL rfl];exact kC _ _ _ _ w
   · rcases hm with rfl|⟨gb,ob,rfl,hgb,hlb⟩
     · obtain rfl:A=[]:=List.eq_nil_of_length_eq_zero (by simpa using hn)
       rw [aL rfl];exact kC _ _ _ _ w
     · exact oY A B hn hsz ga oa ca gb ob cb w hla hlb
 · rw [bX fun e=>hn (by rw [e])]
   exact rJ _ _ _ _ _ _ hn w
theorem vQ {α:Type} {x y:α} {b:Bool} (h:x=y↔b=true):eqB x y=b:=by
 cases b
 · exact bX fun e=>by cases h.1 e
 · exact aL (h.2 rfl)
def bU (n:Nd):Pn:=⟨n.nm,n.a,n.b,n.c⟩
noncomputable def bZ (n m:Nd):Bool:=cE (bU n) (bU m)&&eqB n.cx m.cx
theorem kD {n m:Nd}:bZ n m=true↔bU n=bU m∧n.cx=m.cx:=by
 unfold bZ;rw [Bool.and_eq_true,cQ,fI]
theorem nX {n m:Nd}:(bZ n m&&eqB n.ed m.ed)=eqB n m:=by
 obtain ⟨s,a,b,c,cx,ed⟩:=n;obtain ⟨s',a',b',c',cx',ed'⟩:=m;refine (vQ ?_).symm;rw [Bool.and_eq_true,kD,fI];unfold bU;simp only [Nd.mk.injEq,Pn.mk.injEq];exact ⟨fun ⟨h1,h2,h3,h4,h5,h6⟩=>⟨⟨⟨h1,h2,h3,h4⟩,h5⟩,h6⟩,fun ⟨⟨⟨h1,h2,h3,h4⟩,h5⟩,h6⟩=>⟨h1,h2,h3,h4,h5,h6⟩⟩
theorem eT {s:ByteArray} {a b c:Int} {vc ve:Value} {w:World} (hc:∃ ad n cap,vc= .slice ad n cap) (he:∃ ad n cap,ve= .slice ad n cap):Calls Tryz.prog 74 #[.agg #[.string s,.int .i64 a,.int .i64 b,.int .i64 c,vc,ve]] w fun e w'=>e= .returned (.agg #[.string s,.int .i64 a,.int .i64 b,.int .i64 c])∧Below w.heap.size w w':=by
 obtain ⟨a1,n1,c1,rfl⟩:=hc;obtain ⟨a2,n2,c2,rfl⟩:=he;have HB:Hid (Below w.heap.size w ((w.alloc (.cells #[.string s,.int .i64 a,.int .i64 b,.int .i64 c,.slice a1 n1 c1,.slice a2 n2 c2] 67)).alloc (.cells #[.string s,.int .i64 a,.int .i64 b,.int .i64 c] 80))):=aT _ _ _
 go_enter Tryz.func74,Tryz.ntmps74
 go_wp2
 try simp only [Exit.inBlock,Exit.then]
 refine bodyPost_ret (by simp [results,Tryz.results74,go_sem];try rfl) rfl ?_;exact ⟨rfl,HB.out⟩
set_option maxHeartbeats 1600000 in
theorem hF {n m:Nd} {vc ve uc ue:Value} {w:World} (hc:PinsAt w vc n.cx) (he:∃ ad k cap,ve= .slice ad k cap) (hd:PinsAt w uc m.cx) (hf:∃ ad k cap,ue= .slice ad k cap) (hz:n.cx.length≤9223372036854775807):
 Calls Tryz.prog 70 #[.agg #[.string n.nm,.int .i64 n.a,.int .i64 n.b,.int .i64 n.c,vc,ve],.agg #[.string m.nm,.int .i64 m.a,.int .i64 m.b,.int .i64 m.c,uc,ue]] w fun e w'=>e= .returned (.bool (bZ n m))∧Below w.heap.size w w':=by
 have HE:Hid (∀ w1,Below w.heap.size w w1→Calls Tryz.prog 124 #[vc,uc] w1 fun x w'=>x= .returned (.bool (eqB n.cx m.cx))∧Below w1.heap.size w1 w'):=fun w1 h=>rI (hc.below h) (hd.below h) hz
 have HP1:Hid (∀ w1,Calls Tryz.prog 74 #[.agg #[.string n.nm,.int .i64 n.a,.int .i64 n.b,.int .i64 n.c,vc,ve]] w1 fun x w'=>x= .returned (.agg #[.string n.nm,.int .i64 n.a,.int .i64 n.b,.int .i64 n.c])∧Below w1.heap.size w1 w'):=fun w1=>eT (let ⟨ad,cap,h⟩:=hc.sl;⟨ad,_,cap,h⟩) he
 have HP2:Hid (∀ w1,Calls Tryz.prog 74 #[.agg #[.string m.nm,.int .i64 m.a,.int .i64 m.b,.int .i64 m.c,uc,ue]] w1 fun x w'=>x= .returned (.agg #[.string m.nm,.int .i64 m.a,.int .i64 m.b,.int .i64 m.c])∧Below w1.heap.size w1 w'):=fun w1=>eT (let ⟨ad,cap,h⟩:=hd.sl;⟨ad,_,cap,h⟩) hf
 have hv:=wO (bU n) (bU m);have hgd:=iP;have HA:Hid (bZ n m=(cE (bU n) (bU m)&&eqB n.cx m.cx)):=rfl;obtain ⟨ac,cc,rfl⟩:=hc.sl;obtain ⟨uc',cd,rfl⟩:=hd.sl;obtain ⟨ae,ke,ce,rfl⟩:=he;obtain ⟨af,kf,cf,rfl⟩:=hf;clear hc hd hz;generalize bZ n m=ab at*;generalize eqB n.cx m.cx=eb at*;generalize cE (bU n) (bU m)=pb at*;unfold bU at hv
 simp only at hv
 have HK:Hid (KeepP fun w1=>Below w.heap.size w w1∧BxNd w1 w.heap.size n (.slice ac n.cx.length cc) (.slice ae ke ce)∧BxNd w1 (w.heap.size+1) m (.slice uc' m.cx.length cd) (.slice af kf cf)):=(aO w).and ((aJ _ _ _ _).and (aJ _ _ _ _))
 have HO:Hid (Below w.heap.size w ((w.alloc (.cells #[.string n.nm,.int .i64 n.a,.int .i64 n.b,.int .i64 n.c,.slice ac n.cx.length cc,.slice ae ke ce] 67)).alloc (.cells #[.string m.nm,.int .i64 m.a,.int .i64 m.b,.int .i64 m.c,.slice uc' m.cx.length cd,.slice af kf cf] 67))∧BxNd ((w.alloc (.cells #[.string n.nm,.int .i64 n.a,.int .i64 n.b,.int .i64 n.c,.slice ac n.cx.length cc,.slice ae ke ce] 67)).alloc (.cells #[.string m.nm,.int .i64 m.a,.int .i64 m.b,.int .i64 m.c,.slice uc' m.cx.length cd,.slice af kf cf] 67)) w.heap.size n (.slice ac n.cx.length cc) (.slice ae ke ce)∧BxNd ((w.alloc (.cells #[.string n.nm,.int .i64 n.a,.int .i64 n.b,.int .i64 n.c,.slice ac n.cx.length cc,.slice ae ke ce] 67)).alloc (.cells #[.string m.nm,.int .i64 m.a,.int .i64 m.b,.int .i64 m.c,.slice uc' m.cx.length cd,.slice af kf cf] 67)) (w.heap.size+1) m (.slice uc' m.cx.length cd) (.slice af kf cf)):=
  ⟨aT _ _ _,aJ _ _ _ _ _ _ (BxNd.new rfl _ _ _) (aD _ _),BxNd.new (by simp) _ _ _⟩
 cases pb
 · go_enter Tryz.func70,Tryz.ntmps70
   go_wp2_with fail
   generalize ((w.alloc (.cells #[.string n.nm,.int .i64 n.a,.int .i64 n.b,.int .i64 n.c,.slice ac n.cx.length cc,.slice ae ke ce] 67)).alloc (.cells #[.string m.nm,.int .i64 m.a,.int .i64 m.b,.int .i64 m.c,.slice uc' m.cx.length cd,.slice af kf cf] 67))=W0 at*;refine bE HK (by kernel_rfl) (by kernel_rfl) (by first|exact HO.out|exact HK.out.drew HO.out) ?_;intro C HIN HOUT;clear HO
   repeat
    (with_reducible refine wpQuiet_step (fun K hK=> ?_)
     go_simp
     first
      |(refine hK _ ?_;clear hK K)
      |(apply Exists.intro;refine ⟨fun w1 hC=> ?_,hK _ ?_⟩;(focus ((first|(go_at_call 74;with_reducible exact bO HIN HOUT HK HP1.out w1 hC)|(go_at_call 74;with_reducible exact bO HIN HOUT HK HP2.out w1 hC)|(exact rfl)|(obtain ⟨hb1,⟨⟨p0,p1,p2,p3,p4,p5⟩,p6⟩,⟨⟨q0,q1,q2,q3,q4,q5⟩,q6⟩⟩:=HOUT.out w1 hC;clear hC;go_simp;first|done|exact rfl));done));clear hK K))
   refine wpQuiet_nil ?_;intro wn hC;have HO:=aA (HOUT.out _ hC);clear hC HIN HOUT C;obtain ⟨hb1,⟨⟨p0,p1,p2,p3,p4,p5⟩,p6⟩,⟨⟨q0,q1,q2,q3,q4,q5⟩,q6⟩⟩:=HO.out
   go_wp2
   go_ret;exact ⟨aC HA.out.symm,hb1⟩
 · go_enter Tryz.func70,Tryz.ntmps70
   go_wp2_with fail
   generalize ((w.alloc (.cells #[.string n.nm,.int .i64 n.a,.int .i64 n.b,.int .i64 n.c,.slice ac n.cx.length cc,.slice ae ke ce] 67)).alloc (.cells #[.string m.nm,.int .i64 m.a,.int .i64 m.b,.int .i64 m.c,.slice uc' m.cx.length cd,.slice af kf cf] 67))=W0 at*;refine bE HK (by kernel_rfl) (by kernel_rfl) (by first|exact HO.out|exact HK.out.drew HO.out) ?_;intro C HIN HOUT;clear HO
   repeat
    (with_reducible refine wpQuiet_step (fun K hK=> ?_)
     go_simp
     first
      |(refine hK _ ?_;clear hK K)
      |(apply Exists.intro;refine ⟨fun w1 hC=> ?_,hK _ ?_⟩;(focus ((first|(go_at_call 74;with_reducible exact bO HIN HOUT HK HP1.out w1 hC)|(go_at_call 74;with_reducible exact bO HIN HOUT HK HP2.out w1 hC)|(go_at_call 124;with_reducible exact dD HIN HOUT HK (fun w1 hk=>HE.out w1 hk.1) w1 hC)|(exact rfl)|(obtain ⟨hb1,⟨⟨p0,p1,p2,p3,p4,p5⟩,p6⟩,⟨⟨q0,q1,q2,q3,q4,q5⟩,q6⟩⟩:=HOUT.out w1 hC;clear hC;go_simp;first|done|exact rfl));done));clear hK K))
   refine wpQuiet_nil ?_;intro wn hC;have HO:=aA (HOUT.out _ hC);clear hC HIN HOUT C;obtain ⟨hb1,⟨⟨p0,p1,p2,p3,p4,p5⟩,p6⟩,⟨⟨q0,q1,q2,q3,q4,q5⟩,q6⟩⟩:=HO.out
   go_wp2
   go_ret;exact ⟨aC HA.out.symm,hb1⟩
set_option maxHeartbeats 1600000 in
theorem iQ {n m:Nd} {vc ve uc ue:Value} {w:World} (hc:PinsAt w vc n.cx) (he:EdgesAt w ve n.ed) (hd:PinsAt w uc m.cx) (hf:EdgesAt w ue m.ed) (hz:n.cx.length≤9223372036854775807∧n.ed.length≤9223372036854775807):
 Calls Tryz.prog 81 #[.agg #[.string n.nm,.int .i64 n.a,.int .i64 n.b,.int .i64 n.c,vc,ve],.agg #[.string m.nm,.int .i64 m.a,.int .i64 m.b,.int .i64 m.c,uc,ue]] w fun e w'=>e= .returned (.bool (eqB n m))∧Below w.heap.size w w':=by
 rw [←nX];have HE:Hid (∀ w1,Below w.heap.size w w1→Calls Tryz.prog 128 #[ve,ue] w1 fun x w'=>x= .returned (.bool (eqB n.ed m.ed))∧Below w1.heap.size w1 w'):=fun w1 h=>rK (he.below h) (hf.below h) hz.2
 have HK:Hid (∀ w1,Below w.heap.size w w1→Calls Tryz.prog 70 #[.agg #[.string n.nm,.int .i64 n.a,.int .i64 n.b,.int .i64 n.c,vc,ve],.agg #[.string m.nm,.int .i64 m.a,.int .i64 m.b,.int .i64 m.c,uc,ue]] w1 fun x w'=>x= .returned (.bool (bZ n m))∧Below w1.heap.size w1 w'):=fun w1 h=>hF (hc.below h) (let ⟨ad,cap,h⟩:=he.sl;⟨ad,_,cap,h⟩) (hd.below h) (let ⟨ad,cap,h⟩:=hf.sl;⟨ad,_,cap,h⟩) hz.1
 obtain ⟨ac,cc,rfl⟩:=hc.sl;obtain ⟨uc',cd,rfl⟩:=hd.sl;obtain ⟨ae,ce,rfl⟩:=he.sl;obtain ⟨af,cf,rfl⟩:=hf.sl;clear hc hd he hf hz;generalize bZ n m=ab at*;generalize eqB n.ed m.ed=eb at*
 have HO:Hid (Below w.heap.size w ((w.alloc (.cells #[.string n.nm,.int .i64 n.a,.int .i64 n.b,.int .i64 n.c,.slice ac n.cx.length cc,.slice ae n.ed.length ce] 67)).alloc (.cells #[.string m.nm,.int .i64 m.a,.int .i64 m.b,.int .i64 m.c,.slice uc' m.cx.length cd,.slice af m.ed.length cf] 67))∧BxNd ((w.alloc (.cells #[.string n.nm,.int .i64 n.a,.int .i64 n.b,.int .i64 n.c,.slice ac n.cx.length cc,.slice ae n.ed.length ce] 67)).alloc (.cells #[.string m.nm,.int .i64 m.a,.int .i64 m.b,.int .i64 m.c,.slice uc' m.cx.length cd,.slice af m.ed.length cf] 67)) w.heap.size n (.slice ac n.cx.length cc) (.slice ae n.ed.length ce)∧BxNd ((w.alloc (.cells #[.string n.nm,.int .i64 n.a,.int .i64 n.b,.int .i64 n.c,.slice ac n.cx.length cc,.slice ae n.ed.length ce] 67)).alloc (.cells #[.string m.nm,.int .i64 m.a,.int .i64 m.b,.int .i64 m.c,.slice uc' m.cx.length cd,.slice af m.ed.length cf] 67)) (w.heap.size+1) m (.slice uc' m.cx.length cd) (.slice af m.ed.length cf)):=
  ⟨aT _ _ _,aJ _ _ _ _ _ _ (BxNd.new rfl _ _ _) (aD _ _),BxNd.new (by simp) _ _ _⟩
 generalize hn1:n.cx.length=l1 at*;generalize hn2:m.cx.length=l2 at*;generalize hn3:n.ed.length=l3 at*;generalize hn4:m.ed.length=l4 at*;clear hn1 hn2 hn3 hn4
 go_enter Tryz.func81,Tryz.ntmps81
 cases ab
 · go_wp2_with (go_at_call 70;refine (HK.out _ HO.out.1).mono ?_;rintro x w1 ⟨rfl,ok⟩;have HO1:=aA (aB HO.out.1 ok);clear ok)
   go_ret;exact ⟨rfl,HO1.out⟩
 · go_wp2_with (first
    |(go_at_call 70;refine (HK.out _ HO.out.1).mono ?_;rintro x w1 ⟨rfl,ok⟩;have HO1:Hid (Below w.heap.size w w1∧BxNd w1 w.heap.size n (.slice ac l1 cc) (.slice ae l3 ce)∧BxNd w1 (w.heap.size+1) m (.slice uc' l2 cd) (.slice af l4 cf)):=⟨aB HO.out.1 ok,aJ _ _ _ _ _ _ HO.out.2.1 ok,aJ _ _ _ _ _ _ HO.out.2.2 ok⟩;obtain ⟨_,⟨⟨p0,p1,p2,p3,p4,p5⟩,p6⟩,⟨⟨q0,q1,q2,q3,q4,q5⟩,q6⟩⟩:=HO1.out;clear ok)
    |(go_at_call 128;refine (HE.out _ HO1.out.1).mono ?_;rintro x w2 ⟨rfl,ok⟩;have HO2:=aA (aB HO1.out.1 ok);clear ok))
   go_ret;exact ⟨rfl,HO2.out⟩
def SzN (n:Nd):Prop:=n.cx.length≤9223372036854775807∧n.ed.length≤9223372036854775807
theorem NodesAt.sl {w:World} {v:Value} {L:List Nd} (h:NodesAt w v L):∃ ad cap,v= .slice ad L.length cap:=by
 obtain ⟨ad,cap,hv,_⟩:=h;exact ⟨ad,cap,hv⟩
set_option maxHeartbeats 3200000 in
theorem oZ (A B:List Nd) (hAB:A.length=B.length) (hsz:A.length≤9223372036854775807) (hzn:∀ n ∈ A,SzN n) (ga oa ca gb ob cb:Nat) (w:World) (hla:∀ i (h:i<A.length),∃ vc ve,NdIn w ga (oa+i*6) A[i] vc ve) (hlb:∀ i (h:i<B.length),∃ vc ve,NdIn w gb (ob+i*6) B[i] vc ve):
 Calls Tryz.prog 80 #[.slice (some ⟨ga,oa,none⟩) A.length ca,.slice (some ⟨gb,ob,none⟩) B.length cb,.func (.func 81) #[] #[]] w fun e w'=>e= .returned (.bool (eqB A B))∧Below w.heap.size w w':=by
 have HL:Hid (∀ w1,Below w.heap.size w w1→∀ i (h:i<A.length) (h2:i<B.length),(∃ vc ve,NdIn w1 ga (oa+i*6) A[i] vc ve)∧∃ vc ve,NdIn w1 gb (ob+i*6) B[i] vc ve):=fun w1 hb i hi hi2=>⟨let ⟨x,y,h⟩:=hla i hi;⟨x,y,h.below hb⟩,let ⟨x,y,h⟩:=hlb i hi2;⟨x,y,h.below hb⟩⟩
 have HAB:=aA hAB;have HZN:=aA hzn;clear hla hlb hzn;rw [←hAB];clear hAB
 go_enter Tryz.func80,Tryz.ntmps80
 go_wp2_with fail
 go_loopw [17] (fun i wr=>∃ k:Nat,k≤A.length∧i= .int .i64 k∧Below w.heap.size w wr∧∀ j (h:j<k) (h1:j<A.length) (h2:j<B.length),A[j]=B[j]) (fun i _=>A.length - (intOf i).toNat)
 case atStart=>exact ⟨0,Nat.zero_le _,rfl,Below.refl _ _,fun j h=>by omega⟩
 case round=>
  obtain ⟨k,hk,rfl,hb,hall⟩:=hrel;have HALL:=aA hall;have HB:=aA hb;clear hall
  by_cases hlt:k<A.length
  · have hltB:k<B.length:=HAB.out ▸ hlt
    obtain ⟨⟨vc,ve,hx⟩,uc,ue,hy⟩:=HL.out wr hb k hlt hltB;have hz:=HZN.out _ (List.getElem_mem hlt);have HC:Hid (∀ w1,Below wr.heap.size wr w1→Calls Tryz.prog 81 #[.agg #[.string A[k].nm,.int .i64 A[k].a,.int .i64 A[k].b,.int .i64 A[k].c,vc,ve],.agg #[.string B[k].nm,.int .i64 B[k].a,.int .i64 B[k].b,.int .i64 B[k].c,uc,ue]] w1 fun x w'=>x= .returned (.bool (eqB A[k] B[k]))∧Below w1.heap.size w1 w'):=fun w1 h=>iQ (hx.2.1.1.below h) (hx.2.1.2.below h) (hy.2.1.1.below h) (hy.2.1.2.below h) hz
    have HNE:Hid (eqB A[k] B[k]=false→eqB A B=false):=fun h=>bX fun e=>by subst e;rw [aL rfl] at h;cases h
    have HST:Hid (eqB A[k] B[k]=true→∀ j (h:j<k+1) (h1:j<A.length) (h2:j<B.length),A[j]=B[j]):=fun h j hj h1 h2=>by
     rcases Nat.lt_or_ge j k with hjk|hjk
     · exact HALL.out j hjk h1 h2
     · obtain rfl:j=k:=by omega
       exact fI.1 h
    generalize eqB A[k] B[k]=b at*;generalize A[k]=x at*;generalize B[k]=y at*;obtain ⟨av,cv,rfl⟩:=hx.2.1.1.sl;obtain ⟨ae,ce,rfl⟩:=hx.2.1.2.sl;obtain ⟨bv,dv,rfl⟩:=hy.2.1.1.sl;obtain ⟨be,de,rfl⟩:=hy.2.1.2.sl;have HY1:=aA (hy.below (aD wr (.cells #[.string x.nm,.int .i64 x.a,.int .i64 x.b,.int .i64 x.c,.slice av x.cx.length cv,.slice ae x.ed.length ce] 67)));obtain ⟨⟨x0,x1,x2,x3,x4,x5⟩,_,x6⟩:=hx;obtain ⟨⟨f0,f1,f2,f3,f4,f5⟩,_,f6⟩:=HY1.out;clear HY1 hy hz;generalize x.cx.length=l1 at*;generalize x.ed.length=l2 at*;generalize y.cx.length=l3 at*;generalize y.ed.length=l4 at*;cases b
    · have HR:=aA (HNE.out rfl)
      clear hb HNE HST HALL
      go_wp2_with (go_at_call 81;refine (HC.out _ (aT _ _ _)).mono ?_;rintro x w1 ⟨rfl,ok⟩)
      go_ret;exact ⟨aC HR.out.symm,aB HB.out (aB (aT _ _ _) ok)⟩
    · have HR:=aA (HST.out rfl)
      clear hb HNE HST HALL
      go_wp2_with (go_at_call 81;refine (HC.out _ (aT _ _ _)).mono ?_;rintro x w1 ⟨rfl,ok⟩)
      exact ⟨⟨k+1,by omega,by go_num,aB HB.out (aB (aT _ _ _) ok),HR.out⟩,by simp [intOf];omega⟩
  · have hke:k=A.length:=by omega
    subst hke;have HR:Hid (eqB A B=true):=aL (List.ext_getElem HAB.out fun j h1 h2=>HALL.out j h1 h1 h2);clear hb
    go_wp2
    go_ret;exact ⟨aC HR.out.symm,HB.out⟩
theorem kE (ad bd:Option Addr) (ca cb:Nat) (w:World):
 Calls Tryz.prog 80 #[.slice ad 0 ca,.slice bd 0 cb,.func (.func 81) #[] #[]] w fun e w'=>e= .returned (.bool true)∧Below w.heap.size w w':=by
 go_enter Tryz.func80,Tryz.ntmps80
 go_wp2_with fail
 go_loop [17] (fun i=>i= .int .i64 0) (fun _=>0)
 case atStart=>rfl
 case round=>
  subst hrel
  go_wp2
  go_ret;exact ⟨rfl,Below.refl _ _⟩
theorem rL (ad bd:Option Addr) (n m ca cb:Nat) (h:n≠m) (w:World):
 Calls Tryz.prog 80 #[.slice ad n ca,.slice bd m cb,.func (.func 81) #[] #[]] w fun e w'=>e= .returned (.bool false)∧Below w.heap.size w w':=by
 have hn:((n:Int)=(m:Int))=False:=by simp;omega
 go_enter Tryz.func80,Tryz.ntmps80
 go_wp2
 go_ret;exact ⟨rfl,Below.refl _ _⟩
theorem rM {A B:List Nd} {va vb:Value} {w:World} (ha:NodesAt w va A) (hb:NodesAt w vb B) (hsz:A.length≤9223372036854775807) (hzn:∀ n ∈ A,SzN n):
 Calls Tryz.prog 80 #[va,vb,.func (.func 81) #[] #[]] w fun e w'=>e= .returned (.bool (eqB A B))∧Below w.heap.size w w':=by
 obtain ⟨ad,ca,rfl,_,hl⟩:=ha;obtain ⟨bd,cb,rfl,_,hm⟩:=hb
 by_cases hn:A.length=B.length
 · rcases hl with rfl|⟨ga,oa,rfl,hga,hla⟩
   · obtain rfl:B=[]:=List.eq_nil_of_length_eq_zero (by simpa using hn.symm)
     rw [aL rfl];exact kE _ _ _ _ w
   · rcases hm with rfl|⟨gb,ob,rfl,hgb,hlb⟩
     · obtain rfl:A=[]:=List.eq_nil_of_length_eq_zero (by simpa using hn)
       rw [aL rfl];exact kE _ _ _ _ w
     · exact oZ A B hn hsz hzn ga oa ca gb ob cb w hla hlb
 · rw [bX fun e=>hn (by rw [e])]
   exact rL _ _ _ _ _ _ hn w
theorem dR {A B:List Nd} {va vb:Value} {w:World} (ha:NodesAt w va A) (hb:NodesAt w vb B) (hsz:A.length≤9223372036854775807) (hzn:∀ n ∈ A,SzN n):
 Calls Tryz.prog 38 #[.agg #[va],.agg #[vb]] w fun e w'=>e= .returned (.bool (eqB A B))∧Below w.heap.size w w':=by
 have HE:Hid (∀ w1,Below w.heap.size w w1→Calls Tryz.prog 80 #[va,vb,.func (.func 81) #[] #[]] w1 fun e w'=>e= .returned (.bool (eqB A B))∧Below w1.heap.size w1 w'):=fun w1 h=>rM (ha.below h) (hb.below h) hsz hzn
 obtain ⟨ad,ca,rfl⟩:=ha.sl;obtain ⟨bd,cb,rfl⟩:=hb.sl;clear ha hb hsz hzn
 go_enter Tryz.func38,Tryz.ntmps38
 go_wp2_with (go_at_call 80;refine (HE.out _ (aT _ _ _)).mono ?_;rintro x w1 ⟨rfl,ok⟩)
 go_ret;exact ⟨rfl,aB (aT _ _ _) ok⟩
end Go.Proofs.YtbhpfedjilkelaaGreatDoor
