/- RwGg, RwGw, Gu4: their declarations that are needed, laid in one text, remarks and blanks left out. -/
import Derived.Test.YtpfemjlhklnfoaaGreatDoorMg34
namespace Go.Proofs.YtpfemjlhklnfoaaGreatDoor.Rg
open Go.ChangeShapes Go.WideShapes Go.ChangeAt Go.RowKit
set_option maxRecDepth 100000
theorem jF {H:Type} {enc:TypeId×Value→H} {W:World} {base:Nat} {spare:Nat→Bool} {held:Bool} {n:Nat} {cs:List Value} {x:DataW H×List MemPlace} (h:DataW.trod enc Tryz.prog W base spare held n 31 cs=some x):
 ∃ a b c,cs[0]? =some (.int .i64 a)∧cs[1]? =some (.int .i64 b)∧cs[2]? =some (.int .i64 c)∧x.1= .agg [.lit (.int .i64 a),.lit (.int .i64 b),.lit (.int .i64 c)]:=by
 have hs:Tryz.prog.underlying 31=some (.struct (Tryz.prog.fieldsOf 31)):=by kernel_rfl
 obtain ⟨xs,n',_,hx,_,hxl,hf⟩:=DataW.trod_struct hs h;have hfz:(Tryz.prog.fieldsOf 31).size=3:=by kernel_rfl
 have ints:∀ i off,((Tryz.prog.fieldsOf 31)[i]?).map (fun f=>(f.type,f.offset))=some (3,off)→i<3→∃ k,cs[off]? =some (.int .i64 k)∧xs[i]? =some (.lit (.int .i64 k),[]):=by
  intro i off hfd hi;obtain ⟨f,h1,h2,h3⟩:=bA hfd;have hr:=hf i f h1;rw [h2,h3,mH,List.getElem?_eq_getElem (by omega:i<xs.length)] at hr;obtain ⟨k,e1,e2,wk⟩:=DataW.trod_int Tryz.underlying3 hr;exact ⟨k,mI e1,by rw [List.getElem?_eq_getElem (by omega:i<xs.length),e2]⟩
 obtain ⟨a,a0,x0⟩:=ints 0 0 (by kernel_rfl) (by decide);obtain ⟨b,a1,x1⟩:=ints 1 1 (by kernel_rfl) (by decide);obtain ⟨c,a2,x2⟩:=ints 2 2 (by kernel_rfl) (by decide);refine ⟨a,b,c,a0,a1,a2,?_⟩;rw [hx];obtain ⟨y0,y1,y2,rfl⟩:=LI (l:=xs) (by omega)
 simp at x0 x1 x2
 subst x0 x1 x2;rfl
theorem eB {α:Type} {P:Nat→α→Prop}:∀ {n:Nat},(∀ i,i<n→∃ s,P i s)→∃ L:List α,L.length=n∧∀ i (h:i<L.length),P i L[i]
 |0,_=>⟨[],rfl,fun i h=>by simp at h⟩
 |n+1,h=>by
  obtain ⟨L,hl,hP⟩:=eB (n:=n) fun i hi=>h i (by omega)
  obtain ⟨s,hs⟩:=h n (by omega);refine ⟨L++[s],by simp [hl],fun i hi=> ?_⟩
  by_cases hin:i<L.length
  · rw [List.getElem_append_left hin];exact hP i hin
  · have:i=n:=by simp at hi;omega
    subst this
    simpa [hl] using hs
theorem eC {cs:List Value} {o:Nat} {v:Value} (h:(cs.drop o).take 1=[v]):cs[o]? =some v:=by
 have h0:((cs.drop o).take 1)[0]? =some v:=by rw [h];rfl
 simpa using h0
theorem kZ:Tryz.prog.cellsOf 9=1:=by kernel_rfl
theorem IG:Tryz.prog.cellsOf 80=4:=by kernel_rfl
theorem DJ:Tryz.prog.cellsOf 77=2:=by kernel_rfl
theorem DK:Tryz.prog.cellsOf 67=6:=by kernel_rfl
theorem DL:Tryz.prog.cellsOf 40=1:=by kernel_rfl
theorem xQ:Tryz.prog.cellsOf 65=1:=by kernel_rfl
theorem xR:Tryz.prog.cellsOf 53=1:=by kernel_rfl
theorem xS:Tryz.prog.cellsOf 55=1:=by kernel_rfl
theorem DM:Tryz.prog.cellsOf 3=1:=by kernel_rfl
theorem IH {H:Type} {enc:TypeId×Value→H} {W:World} {base:Nat} {held:Bool} {n:Nat} {g o:Nat} {cs:List Value} {x:DataW H×List MemPlace} (hc:W.cells? base ⟨g,o,none⟩ 4=some cs) (h:DataW.trod enc Tryz.prog W base (fun _=>true) held n 80 cs=some x):∃ d:Pn,PnIn W g o d∧d.nm.size≤9223372036854775807:=by
 have hs:Tryz.prog.underlying 80=some (.struct (Tryz.prog.fieldsOf 80)):=by kernel_rfl
 obtain ⟨xs,n',_,_,_,hxl,hf⟩:=DataW.trod_struct hs h;have hsz:(Tryz.prog.fieldsOf 80).size=2:=by kernel_rfl
 obtain ⟨_,hcl,hq⟩:=World.cells?_some hc;obtain ⟨f0,i0,t0,o0⟩:=bA (fs:=Tryz.prog.fieldsOf 80) (i:=0) (ty:=9) (off:=0) (by kernel_rfl);obtain ⟨f1,i1,t1,o1⟩:=bA (fs:=Tryz.prog.fieldsOf 80) (i:=1) (ty:=31) (off:=1) (by kernel_rfl);have r0:=hf 0 f0 i0;have r1:=hf 1 f1 i1;rw [t0,o0,kZ,List.getElem?_eq_getElem (by omega:0<xs.length)] at r0;rw [t1,o1,jD,List.getElem?_eq_getElem (by omega:1<xs.length)] at r1;obtain ⟨s,e0,_,hs0⟩:=DataW.trod_string Tryz.underlying9 r0;obtain ⟨a,b,c,ea,eb,ec,_⟩:=jF r1;have ka:((cs.drop 1).take 3)[0]? =some (.int .i64 a):=ea;have kb:((cs.drop 1).take 3)[1]? =some (.int .i64 b):=eb;have kc:((cs.drop 1).take 3)[2]? =some (.int .i64 c):=ec;have q0:=hq 0 (by decide);have q1:=hq 1 (by decide);have q2:=hq 2 (by decide);have q3:=hq 3 (by decide);have ad:∀ i,(⟨g,o,none⟩:Addr).add i=⟨g,o+i,none⟩:=fun i=>by unfold Addr.add;split<;>simp_all
 simp at ka kb kc
 rw [ad,eC e0] at q0;rw [ad,ka] at q1;rw [ad,kb] at q2;rw [ad,kc] at q3;exact ⟨⟨s,a,b,c⟩,⟨⟨q0,q1,q2,q3⟩,dH q0⟩,by unfold maxLen at hs0;exact hs0⟩
theorem DN {H:Type} {enc:TypeId×Value→H} {W:World} {base:Nat} {held:Bool} {n:Nat} {g o:Nat} {cs:List Value} {x:DataW H×List MemPlace} (hc:W.cells? base ⟨g,o,none⟩ 2=some cs) (h:DataW.trod enc Tryz.prog W base (fun _=>true) held n 77 cs=some x):∃ d:Eg,EgIn W g o d∧d.lb.size≤9223372036854775807:=by
 have hs:Tryz.prog.underlying 77=some (.struct (Tryz.prog.fieldsOf 77)):=by kernel_rfl
 obtain ⟨xs,n',_,_,_,hxl,hf⟩:=DataW.trod_struct hs h;have hsz:(Tryz.prog.fieldsOf 77).size=2:=by kernel_rfl
 obtain ⟨_,hcl,hq⟩:=World.cells?_some hc;obtain ⟨f0,i0,t0,o0⟩:=bA (fs:=Tryz.prog.fieldsOf 77) (i:=0) (ty:=9) (off:=0) (by kernel_rfl);obtain ⟨f1,i1,t1,o1⟩:=bA (fs:=Tryz.prog.fieldsOf 77) (i:=1) (ty:=3) (off:=1) (by kernel_rfl);have r0:=hf 0 f0 i0;have r1:=hf 1 f1 i1;rw [t0,o0,kZ,List.getElem?_eq_getElem (by omega:0<xs.length)] at r0;rw [t1,o1,DM,List.getElem?_eq_getElem (by omega:1<xs.length)] at r1;obtain ⟨s,e0,_,hs0⟩:=DataW.trod_string Tryz.underlying9 r0;obtain ⟨k,e1,_,_⟩:=DataW.trod_int Tryz.underlying3 r1;have q0:=hq 0 (by decide);have q1:=hq 1 (by decide);have ad:∀ i,(⟨g,o,none⟩:Addr).add i=⟨g,o+i,none⟩:=fun i=>by unfold Addr.add;split<;>simp_all
 rw [ad,eC e0] at q0;rw [ad,eC e1] at q1;exact ⟨⟨s,k⟩,⟨⟨q0,q1⟩,dH q0⟩,by unfold maxLen at hs0;exact hs0⟩
theorem LF {H:Type} {enc:TypeId×Value→H} {W:World} {base fuel:Nat} {held:Bool} {cs:List Value} {x:DataW H×List MemPlace} (h:DataW.trod enc Tryz.prog W base (fun _=>true) held fuel 40 cs=some x):
 ∃ v L,cs=[v]∧PinsAt W v L∧L.length≤9223372036854775807∧∀ d ∈ L,d.nm.size≤9223372036854775807:=by
 rcases Go.Deep.open_slice Tryz.underlying40 h with ⟨rfl,_⟩|⟨ad,len,cap,m,n,D,Pl,rfl,_,hl,hcm,hm,hx,hel⟩
 · exact ⟨_,[],rfl,⟨none,0,rfl,Nat.le_refl _,Or.inl rfl⟩,by simp,(fun d hd=>by cases hd)⟩
 · have hz:len≤9223372036854775807:=by unfold maxLen at hcm;omega
   rcases Nat.eq_zero_or_pos len with h0|h0
   · subst h0
     exact ⟨_,[],rfl,⟨_,_,rfl,Nat.zero_le _,Or.inl rfl⟩,by simp,(fun d hd=>by cases hd)⟩
   · have hmm:len≤m:=by rw [hm];simp;exact hl
     rw [IG] at hel;obtain ⟨g,off,spot⟩:=ad;obtain ⟨cs0,hc0,_⟩:=hel 0 (by omega);obtain ⟨_,hln,hq⟩:=World.cells?_some hc0;have hcell:=hq 0 (by decide);rw [List.getElem?_eq_getElem (by omega:0<cs0.length)] at hcell;have hspot:spot=none:=by simpa [Addr.add] using World.cell?_spot hcell
     subst hspot;have ad2:∀ o i,(⟨g,o,none⟩:Addr).add i=⟨g,o+i,none⟩:=fun o i=>by unfold Addr.add;split<;>simp_all
     obtain ⟨L,hL,hP⟩:=eB (P:=fun i (d:Pn)=>PnIn W g (off+i*4) d∧d.nm.size≤9223372036854775807) (n:=len) fun i hi=>by
      obtain ⟨cs,hc,ht⟩:=hel i (by omega);rw [ad2] at hc;exact IH hc ht
     subst hL;refine ⟨_,L,rfl,⟨_,_,rfl,hl,Or.inr ⟨g,off,rfl,?_,fun i hi=>(hP i hi).1⟩⟩,hz,?_⟩
     · have:=dH hcell
       rw [ad2,ad2] at this;exact this
     · intro d hd
       obtain ⟨i,hi,rfl⟩:=List.getElem_of_mem hd;exact (hP i hi).2
theorem II {H:Type} {enc:TypeId×Value→H} {W:World} {base fuel:Nat} {held:Bool} {cs:List Value} {x:DataW H×List MemPlace} (h:DataW.trod enc Tryz.prog W base (fun _=>true) held fuel 65 cs=some x):
 ∃ v L,cs=[v]∧EdgesAt W v L∧L.length≤9223372036854775807∧∀ d ∈ L,d.lb.size≤9223372036854775807:=by
 rcases Go.Deep.open_slice Tryz.underlying65 h with ⟨rfl,_⟩|⟨ad,len,cap,m,n,D,Pl,rfl,_,hl,hcm,hm,hx,hel⟩
 · exact ⟨_,[],rfl,⟨none,0,rfl,Nat.le_refl _,Or.inl rfl⟩,by simp,(fun d hd=>by cases hd)⟩
 · have hz:len≤9223372036854775807:=by unfold maxLen at hcm;omega
   rcases Nat.eq_zero_or_pos len with h0|h0
   · subst h0
     exact ⟨_,[],rfl,⟨_,_,rfl,Nat.zero_le _,Or.inl rfl⟩,by simp,(fun d hd=>by cases hd)⟩
   · have hmm:len≤m:=by rw [hm];simp;exact hl
     rw [DJ] at hel;obtain ⟨g,off,spot⟩:=ad;obtain ⟨cs0,hc0,_⟩:=hel 0 (by omega);obtain ⟨_,hln,hq⟩:=World.cells?_some hc0;have hcell:=hq 0 (by decide);rw [List.getElem?_eq_getElem (by omega:0<cs0.length)] at hcell;have hspot:spot=none:=by simpa [Addr.add] using World.cell?_spot hcell
     subst hspot;have ad2:∀ o i,(⟨g,o,none⟩:Addr).add i=⟨g,o+i,none⟩:=fun o i=>by unfold Addr.add;split<;>simp_all
     obtain ⟨L,hL,hP⟩:=eB (P:=fun i (d:Eg)=>EgIn W g (off+i*2) d∧d.lb.size≤9223372036854775807) (n:=len) fun i hi=>by
      obtain ⟨cs,hc,ht⟩:=hel i (by omega);rw [ad2] at hc;exact DN hc ht
     subst hL;refine ⟨_,L,rfl,⟨_,_,rfl,hl,Or.inr ⟨g,off,rfl,?_,fun i hi=>(hP i hi).1⟩⟩,hz,?_⟩
     · have:=dH hcell
       rw [ad2,ad2] at this;exact this
     · intro d hd
       obtain ⟨i,hi,rfl⟩:=List.getElem_of_mem hd;exact (hP i hi).2
def NdZ (n:Nd):Prop:=n.nm.size≤9223372036854775807∧(n.cx.length≤9223372036854775807∧∀ d ∈ n.cx,d.nm.size≤9223372036854775807)∧n.ed.length≤9223372036854775807∧∀ d ∈ n.ed,d.lb.size≤9223372036854775807
theorem DO {H:Type} {enc:TypeId×Value→H} {W:World} {base:Nat} {held:Bool} {n:Nat} {g o:Nat} {cs:List Value} {x:DataW H×List MemPlace} (hc:W.cells? base ⟨g,o,none⟩ 6=some cs) (h:DataW.trod enc Tryz.prog W base (fun _=>true) held n 67 cs=some x):∃ d:Nd,(∃ vc ve,NdIn W g o d vc ve)∧NdZ d:=by
 have hs:Tryz.prog.underlying 67=some (.struct (Tryz.prog.fieldsOf 67)):=by kernel_rfl
 obtain ⟨xs,n',_,_,_,hxl,hf⟩:=DataW.trod_struct hs h;have hsz:(Tryz.prog.fieldsOf 67).size=4:=by kernel_rfl
 obtain ⟨_,hcl,hq⟩:=World.cells?_some hc;obtain ⟨f0,i0,t0,o0⟩:=bA (fs:=Tryz.prog.fieldsOf 67) (i:=0) (ty:=9) (off:=0) (by kernel_rfl);obtain ⟨f1,i1,t1,o1⟩:=bA (fs:=Tryz.prog.fieldsOf 67) (i:=1) (ty:=31) (off:=1) (by kernel_rfl);obtain ⟨f2,i2,t2,o2⟩:=bA (fs:=Tryz.prog.fieldsOf 67) (i:=2) (ty:=40) (off:=4) (by kernel_rfl);obtain ⟨f3,i3,t3,o3⟩:=bA (fs:=Tryz.prog.fieldsOf 67) (i:=3) (ty:=65) (off:=5) (by kernel_rfl);have r0:=hf 0 f0 i0;have r1:=hf 1 f1 i1;have r2:=hf 2 f2 i2;have r3:=hf 3 f3 i3;rw [t0,o0,kZ,List.getElem?_eq_getElem (by omega:0<xs.length)] at r0;rw [t1,o1,jD,List.getElem?_eq_getElem (by omega:1<xs.length)] at r1;rw [t2,o2,DL,List.getElem?_eq_getElem (by omega:2<xs.length)] at r2;rw [t3,o3,xQ,List.getElem?_eq_getElem (by omega:3<xs.length)] at r3;obtain ⟨s,e0,_,hs0⟩:=DataW.trod_string Tryz.underlying9 r0;obtain ⟨a,b,c,ea,eb,ec,_⟩:=jF r1;obtain ⟨vc,L1,e2,h2,z2,m2⟩:=LF r2
 obtain ⟨ve,L2,e3,h3,z3,m3⟩:=II r3;have ka:((cs.drop 1).take 3)[0]? =some (.int .i64 a):=ea;have kb:((cs.drop 1).take 3)[1]? =some (.int .i64 b):=eb;have kc:((cs.drop 1).take 3)[2]? =some (.int .i64 c):=ec;have q0:=hq 0 (by decide);have q1:=hq 1 (by decide);have q2:=hq 2 (by decide);have q3:=hq 3 (by decide);have q4:=hq 4 (by decide);have q5:=hq 5 (by decide);have ad:∀ i,(⟨g,o,none⟩:Addr).add i=⟨g,o+i,none⟩:=fun i=>by unfold Addr.add;split<;>simp_all
 simp at ka kb kc
 rw [ad,eC e0] at q0;rw [ad,ka] at q1;rw [ad,kb] at q2;rw [ad,kc] at q3;rw [ad,eC e2] at q4;rw [ad,eC e3] at q5;exact ⟨⟨s,a,b,c,L1,L2⟩,⟨vc,ve,⟨q0,q1,q2,q3,q4,q5⟩,⟨h2,h3⟩,dH q0⟩,by unfold maxLen at hs0;exact hs0,⟨z2,m2⟩,z3,m3⟩
theorem IJ {H:Type} {enc:TypeId×Value→H} {W:World} {base fuel:Nat} {held:Bool} {cs:List Value} {x:DataW H×List MemPlace} (h:DataW.trod enc Tryz.prog W base (fun _=>true) held fuel 53 cs=some x):
 ∃ v L,cs=[v]∧NodesAt W v L∧L.length≤9223372036854775807∧∀ d ∈ L,NdZ d:=by
 rcases Go.Deep.open_slice Tryz.underlying53 h with ⟨rfl,_⟩|⟨ad,len,cap,m,n,D,Pl,rfl,_,hl,hcm,hm,hx,hel⟩
 · exact ⟨_,[],rfl,⟨none,0,rfl,Nat.le_refl _,Or.inl rfl⟩,by simp,(fun d hd=>by cases hd)⟩
 · have hz:len≤9223372036854775807:=by unfold maxLen at hcm;omega
   rcases Nat.eq_zero_or_pos len with h0|h0
   · subst h0
     exact ⟨_,[],rfl,⟨_,_,rfl,Nat.zero_le _,Or.inl rfl⟩,by simp,(fun d hd=>by cases hd)⟩
   · have hmm:len≤m:=by rw [hm];simp;exact hl
     rw [DK] at hel;obtain ⟨g,off,spot⟩:=ad;obtain ⟨cs0,hc0,_⟩:=hel 0 (by omega);obtain ⟨_,hln,hq⟩:=World.cells?_some hc0;have hcell:=hq 0 (by decide);rw [List.getElem?_eq_getElem (by omega:0<cs0.length)] at hcell;have hspot:spot=none:=by simpa [Addr.add] using World.cell?_spot hcell
     subst hspot;have ad2:∀ o i,(⟨g,o,none⟩:Addr).add i=⟨g,o+i,none⟩:=fun o i=>by unfold Addr.add;split<;>simp_all
     obtain ⟨L,hL,hP⟩:=eB (P:=fun i (d:Nd)=>(∃ vc ve,NdIn W g (off+i*6) d vc ve)∧NdZ d) (n:=len) fun i hi=>by
      obtain ⟨cs,hc,ht⟩:=hel i (by omega);rw [ad2] at hc;exact DO hc ht
     subst hL;refine ⟨_,L,rfl,⟨_,_,rfl,hl,Or.inr ⟨g,off,rfl,?_,fun i hi=>(hP i hi).1⟩⟩,hz,?_⟩
     · have:=dH hcell
       rw [ad2,ad2] at this;exact this
     · intro d hd
       obtain ⟨i,hi,rfl⟩:=List.getElem_of_mem hd;exact (hP i hi).2
theorem xT {H:Type} {enc:TypeId×Value→H} {W:World} {base b0:Nat} {held:Bool} {v:Value} {d:DataW H} {p:List MemPlace} (hv:Value.okWide Tryz.prog W .any b0 55 v) (h:DataW.Trod enc Tryz.prog W base (fun _=>true) held 55 v d p):
 ∃ (G:List Nd) (u:Value),v= .agg #[u]∧NodesAt W u G∧G.length≤9223372036854775807∧∀ n ∈ G,NdZ n:=by
 have hs:Tryz.prog.underlying 55=some (.struct (Tryz.prog.fieldsOf 55)):=by kernel_rfl
 obtain ⟨cs,rfl,hsz⟩:=okWide_struct hs hv;obtain ⟨n,h⟩:=h;obtain ⟨xs,n',_,_,_,hxl,hf⟩:=DataW.trod_struct hs h;have hfz:(Tryz.prog.fieldsOf 55).size=1:=by kernel_rfl
 rw [xS] at hsz;obtain ⟨f0,i0,t0,o0⟩:=bA (fs:=Tryz.prog.fieldsOf 55) (i:=0) (ty:=53) (off:=0) (by kernel_rfl);have r0:=hf 0 f0 i0;rw [t0,o0,xR,List.getElem?_eq_getElem (by omega:0<xs.length)] at r0;obtain ⟨u,G,e0,h0,z0,m0⟩:=IJ r0;have k0:cs.toList[0]? =some u:=eC e0;obtain ⟨l⟩:=cs
 match l,hsz with
 |[x0],_=>
  simp at k0
  subst k0;exact ⟨G,_,rfl,h0,z0,m0⟩
end Go.Proofs.YtpfemjlhklnfoaaGreatDoor.Rg
namespace Go.Proofs.YtpfemjlhklnfoaaGreatDoor
open Go.ChangeShapes Go.WideShapes Go.ChangeAt Go.RowKit
set_option maxRecDepth 100000
theorem IK:Tryz.prog.cellsOf 59=6:=by kernel_rfl
theorem xU:Tryz.prog.cellsOf 4=1:=by kernel_rfl
theorem NE {α:Type} {l:List α} (h:l.length=6):∃ a b c d e f,l=[a,b,c,d,e,f]:=by
 match l,h with
 |[a,b,c,d,e,f],_=>exact ⟨a,b,c,d,e,f,rfl⟩
theorem IL {H:Type} {enc:TypeId×Value→H} {W:World} {base b0:Nat} {held:Bool} {v:Value} {d:DataW H} {p:List MemPlace} (hv:Value.okWide Tryz.prog W .any b0 59 v) (h:DataW.Trod enc Tryz.prog W base (fun _=>true) held 59 v d p):
 ∃ (v0 v1 v2 v3 v4:Value) (dv:Bool) (Ps:List Pg) (L1 L2 L3 L4:List Dp),v= .agg #[v0,v1,v2,v3,v4,.bool dv]∧(PgsAt W v0 Ps∧Ps.length≤9223372036854775807∧∀ P ∈ Ps,kQ P)∧fV W v1 L1∧fV W v2 L2∧fV W v3 L3∧fV W v4 L4:=by
 have hs:Tryz.prog.underlying 59=some (.struct (Tryz.prog.fieldsOf 59)):=by kernel_rfl
 obtain ⟨cs,rfl,hsz⟩:=okWide_struct hs hv;obtain ⟨n,h⟩:=h;obtain ⟨xs,n',_,_,_,hxl,hf⟩:=DataW.trod_struct hs h;have hfz:(Tryz.prog.fieldsOf 59).size=3:=by kernel_rfl
 rw [IK] at hsz;obtain ⟨f0,i0,t0,o0⟩:=bA (fs:=Tryz.prog.fieldsOf 59) (i:=0) (ty:=22) (off:=0) (by kernel_rfl);obtain ⟨f1,i1,t1,o1⟩:=bA (fs:=Tryz.prog.fieldsOf 59) (i:=1) (ty:=57) (off:=1) (by kernel_rfl);obtain ⟨f2,i2,t2,o2⟩:=bA (fs:=Tryz.prog.fieldsOf 59) (i:=2) (ty:=4) (off:=5) (by kernel_rfl);have r0:=hf 0 f0 i0;have r1:=hf 1 f1 i1;have r2:=hf 2 f2 i2;rw [t0,o0,BL,List.getElem?_eq_getElem (by omega:0<xs.length)] at r0;rw [t1,o1,DI,List.getElem?_eq_getElem (by omega:1<xs.length)] at r1;rw [t2,o2,xU,List.getElem?_eq_getElem (by omega:2<xs.length)] at r2;obtain ⟨v0,Ps,e0,h0⟩:=JL r0;obtain ⟨v1,v2,v3,v4,L1,L2,L3,L4,⟨e1,e2,e3,e4⟩,hr⟩:=ND r1;obtain ⟨dv,e5,_⟩:=DataW.trod_bool Tryz.underlying4 r2;have k0:cs.toList[0]? =some v0:=eC e0;have k1:((cs.toList.drop 1).take 4)[0]? =some v1:=e1;have k2:((cs.toList.drop 1).take 4)[1]? =some v2:=e2;have k3:((cs.toList.drop 1).take 4)[2]? =some v3:=e3
 have k4:((cs.toList.drop 1).take 4)[3]? =some v4:=e4;have k5:cs.toList[5]? =some (.bool dv):=eC e5;obtain ⟨l⟩:=cs;obtain ⟨x0,x1,x2,x3,x4,x5,rfl⟩:=NE (l:=l) (by simpa using hsz)
 simp at k0 k1 k2 k3 k4 k5
 subst k0 k1 k2 k3 k4 k5;exact ⟨_,_,_,_,_,dv,Ps,L1,L2,L3,L4,rfl,h0,hr⟩
theorem sC {W:World} (he:Env W) (hf:FL W) {u v0 v1 v2 v3 v4:Value} {dv:Bool} {G:List Nd} {Ps:List Pg} {L1 L2 L3 L4:List Dp} (hG:NodesAt W u G) (h0:PgsAt W v0 Ps∧Ps.length≤9223372036854775807∧∀ P ∈ Ps,kQ P) (h1:fV W v1 L1) (h2:fV W v2 L2) (h3:fV W v3 L3) (h4:fV W v4 L4):
 Calls Tryz.prog 8 #[.agg #[u],.agg #[v0,v1,v2,v3,v4,.bool dv]] W fun e w'=>e= .returned (.bool true)∧Below W.heap.size W w':=by
 obtain ⟨q0,h0b,h0c⟩:=h0;obtain ⟨_,_,rfl⟩:=hG.sl;obtain ⟨_,_,rfl,_⟩:=q0.sl;obtain ⟨_,_,rfl,_,_⟩:=h1.1.el;obtain ⟨_,_,rfl,_,_⟩:=h2.1.el;obtain ⟨_,_,rfl,_,_⟩:=h3.1.el;obtain ⟨_,_,rfl,_,_⟩:=h4.1.el;exact oU (P:=⟨L1,L2,L3,L4⟩) hG q0 h0b h0c ⟨h1.1,h2.1,h3.1,h4.1⟩ he hf
end Go.Proofs.YtpfemjlhklnfoaaGreatDoor
