/- Iy9, RwM, RwGr, RwTb, RwSt: their declarations that are needed, laid in one text, remarks and blanks left out. -/
import Derived.Test.YtlmpiohbmlddiaaGreatDoorMg34
namespace Go.Proofs.YtlmpiohbmlddiaaGreatDoor
open Go.RowKit
set_option maxRecDepth 100000
theorem PT (P:Mn) (G:List Nd) (L:List Dr) (pr:Bool):(eI P G L pr).length≤1000:=by
 unfold eI
 split
 · rename_i h
   have hl:=(JN (fE (nX h.1)).1).len;rw [←jY]
   have:=jZ (aJ P) (Lo.prT G) pr L (L.length - 1)
   omega
 · simp
set_option maxHeartbeats 6400000 in
theorem oX {P:Mn} {G:List Nd} {L:List Dr} {x1 x2 x3 x4 xg xt:Value} {pr:Bool} {w:World} (hm:MnAt w P x1 x2 x3 x4) (hmz:P.d.length≤9223372036854775807∧P.v.length≤9223372036854775807∧P.o.length≤9223372036854775807∧P.p.length≤9223372036854775807) (hmn:(∀ d ∈ P.d,d.nm.size≤9223372036854775807)∧(∀ d ∈ P.v,d.nm.size≤9223372036854775807)∧(∀ d ∈ P.o,d.nm.size≤9223372036854775807)∧∀ d ∈ P.p,d.nm.size≤9223372036854775807) (hg:NodesAt w xg G) (hgn:∀ n ∈ G,Lo.NdZ n) (ht:DirsAt w xt L) (hz:L.length≤9223372036854775807) (hk:iB L) (hn:∀ d ∈ L,PgN d.pk∧∀ s ∈ d.pa,s.size≤9223372036854775807) (hgz:oT G) (he:Env w) (hf:FL w):
 Calls Tryz.prog 3 #[.agg #[x1,x2,x3,x4,xg,xt,.bool pr]] w fun e w'=>e= .returned (.bool true)∧Below w.heap.size w w':=by
 have HF1:Hid (∀ W,Below w.heap.size w W→Calls Tryz.prog 8 #[.agg #[x1,x2,x3,x4,xg,xt,.bool pr]] W (oV W (eI P G L pr) (erI P G L))):=fun W hb=>nY (hm.below hb) hmz (hg.below hb) (ht.below hb) hz hk hgz jX (he.below hb) (hf.below hb)
 have HF2:Hid (∀ W,Below w.heap.size w W→Calls Tryz.prog 9 #[.agg #[x1,x2,x3,x4,xg,xt,.bool pr]] W (oV W (eI P G L pr) (erI P G L))):=fun W hb=>vZ (hm.below hb) hmz hmn (hg.below hb) hgn (ht.below hb) hz hk hn hgz
 have HLV:Hid (∀ W,Below w.heap.size w W→Calls Tryz.prog 11 #[] W fun e w'=>e= .returned (.bool true)∧Below W.heap.size W w'):=fun W hb=>AM (he.below hb) (hf.below hb)
 have HEQ:Hid (∀ W u v,FlsAt W u (eI P G L pr)→FlsAt W v (eI P G L pr)→Calls Tryz.prog 10 #[u,v] W fun e w'=>e= .returned (.bool true)∧Below W.heap.size W w'):=fun W u v h1 h2=>by
  have e:=DZ h1 h2 (Nat.le_trans (PT P G L pr) (by decide));rw [bC rfl] at e;exact e
 obtain ⟨a1,c1,rfl⟩:=hm.1.sl;obtain ⟨a2,c2,rfl⟩:=hm.2.1.sl;obtain ⟨a3,c3,rfl⟩:=hm.2.2.1.sl;obtain ⟨a4,c4,rfl⟩:=hm.2.2.2.sl;obtain ⟨at0,ct0,rfl,_⟩:=ht.sl;obtain ⟨ag,cg,rfl⟩:∃ a c,xg= .slice a G.length c:=by obtain ⟨a,c,e,_⟩:=hg;exact ⟨a,c,e⟩
 have HS0:=aA (StB.new w (.slice a1 P.d.length c1) (.slice a2 P.v.length c2) (.slice a3 P.o.length c3) (.slice a4 P.p.length c4) (.slice ag G.length cg) (.slice at0 L.length ct0) pr);have HB0:Hid (Below w.heap.size w (w.alloc (stO (.slice a1 P.d.length c1) (.slice a2 P.v.length c2) (.slice a3 P.o.length c3) (.slice a4 P.p.length c4) (.slice ag G.length cg) (.slice at0 L.length ct0) pr))):=aF _ _;obtain ⟨⟨⟨s0,s1,s2,s3⟩,s4,s5,s6⟩,_⟩:=HS0.out;clear hm hmz hmn hg hgn ht hk hn hgz he hf;generalize eI P G L pr=fi at*;generalize erI P G L=er at*
 go_enter Tryz.func3,Tryz.ntmps3
 go_wp2_with (first
  |(have _t:=HB3;go_at_call 11;refine (HLV.out _ HB3.out).mono ?_;rintro e W4 ⟨rfl,ok⟩;have HB4:=aA (aB HB3.out ok);clear ok HB3)
  |(have _t:=HV2;go_at_call 10;refine (HEQ.out _ _ _ HV1.out HV2.out).mono ?_;rintro e W3 ⟨rfl,ok⟩;have HB3:=aA (aB HB2.out ok);clear ok HV1 HV2)
  |(have _t:=HS1;go_at_call 9;refine (HF2.out _ HB1.out).mono ?_;rintro e W2 ⟨v2,rfl,ho2,ok⟩;have HV2:Hid (FlsAt W2 v2 fi):=ho2.at;obtain ⟨b2,d2,e2⟩:=ho2.form;obtain ⟨m2,hm2⟩:∃ n,n=fi.length:=⟨_,rfl⟩;rw [←hm2] at e2;subst e2;have HV1:=aA (HW1.out.below ok);have HB2:=aA (aB HB1.out ok);clear hm2 ho2 ok HS1 HW1 s0 s1 s2 s3 s4 s5 s6)
  |(have _t:=HS0;go_at_call 8;refine (HF1.out _ HB0.out).mono ?_;rintro e W1 ⟨v1,rfl,ho1,ok⟩;have HW1:Hid (FlsAt W1 v1 fi):=ho1.at;obtain ⟨b1,d1,e1⟩:=ho1.form;obtain ⟨m1,hm1⟩:∃ n,n=fi.length:=⟨_,rfl⟩;rw [←hm1] at e1;subst e1;have HB1:=aA (aB HB0.out ok);have HS1:=aA (HS0.out.keep ok);clear s0 s1 s2 s3 s4 s5 s6 HS0 hm1 ho1;obtain ⟨⟨⟨s0,s1,s2,s3⟩,s4,s5,s6⟩,_⟩:=HS1.out;clear ok))
 go_ret;exact ⟨rfl,HB4.out⟩
end Go.Proofs.YtlmpiohbmlddiaaGreatDoor
namespace Go.Proofs.YtlmpiohbmlddiaaGreatDoor
open Go.ChangeShapes Go.WideShapes Go.ChangeAt Go.RowKit
set_option maxRecDepth 100000
theorem PU:Tryz.prog.cellsOf 24=4:=by kernel_rfl
theorem lR:Tryz.prog.cellsOf 9=1:=by kernel_rfl
theorem KW:Tryz.prog.cellsOf 129=4:=by kernel_rfl
theorem EJ:Tryz.prog.cellsOf 62=2:=by kernel_rfl
theorem EK:Tryz.prog.cellsOf 60=6:=by kernel_rfl
theorem EL:Tryz.prog.cellsOf 57=1:=by kernel_rfl
theorem AP:Tryz.prog.cellsOf 58=1:=by kernel_rfl
theorem AQ:Tryz.prog.cellsOf 25=1:=by kernel_rfl
theorem AR:Tryz.prog.cellsOf 27=1:=by kernel_rfl
theorem EM:Tryz.prog.cellsOf 3=1:=by kernel_rfl
theorem KX {H:Type} {enc:TypeId×Value→H} {W:World} {base:Nat} {held:Bool} {n:Nat} {g o:Nat} {cs:List Value} {x:DataW H×List MemPlace} (hc:W.cells? base ⟨g,o,none⟩ 4=some cs) (h:DataW.trod enc Tryz.prog W base (fun _=>true) held n 129 cs=some x):∃ d:Pn,PnIn W g o d∧d.nm.size≤9223372036854775807:=by
 have hs:Tryz.prog.underlying 129=some (.struct (Tryz.prog.fieldsOf 129)):=by kernel_rfl
 obtain ⟨xs,n',_,_,_,hxl,hf⟩:=DataW.trod_struct hs h;have hsz:(Tryz.prog.fieldsOf 129).size=2:=by kernel_rfl
 obtain ⟨_,hcl,hq⟩:=World.cells?_some hc;obtain ⟨f0,i0,t0,o0⟩:=bJ (fs:=Tryz.prog.fieldsOf 129) (i:=0) (ty:=9) (off:=0) (by kernel_rfl);obtain ⟨f1,i1,t1,o1⟩:=bJ (fs:=Tryz.prog.fieldsOf 129) (i:=1) (ty:=52) (off:=1) (by kernel_rfl);have r0:=hf 0 f0 i0;have r1:=hf 1 f1 i1;rw [t0,o0,lR,List.getElem?_eq_getElem (by omega:0<xs.length)] at r0;rw [t1,o1,lY,List.getElem?_eq_getElem (by omega:1<xs.length)] at r1;obtain ⟨s,e0,_,hs0⟩:=DataW.trod_string Tryz.underlying9 r0;obtain ⟨a,b,c,ea,eb,ec,_⟩:=mG r1;have ka:((cs.drop 1).take 3)[0]? =some (.int .i64 a):=ea;have kb:((cs.drop 1).take 3)[1]? =some (.int .i64 b):=eb;have kc:((cs.drop 1).take 3)[2]? =some (.int .i64 c):=ec;have q0:=hq 0 (by decide);have q1:=hq 1 (by decide);have q2:=hq 2 (by decide);have q3:=hq 3 (by decide);have ad:∀ i,(⟨g,o,none⟩:Addr).add i=⟨g,o+i,none⟩:=fun i=>by unfold Addr.add;split<;>simp_all
 simp at ka kb kc
 rw [ad,fL e0] at q0;rw [ad,ka] at q1;rw [ad,kb] at q2;rw [ad,kc] at q3;exact ⟨⟨s,a,b,c⟩,⟨⟨q0,q1,q2,q3⟩,cS q0⟩,by unfold maxLen at hs0;exact hs0⟩
theorem EN {H:Type} {enc:TypeId×Value→H} {W:World} {base:Nat} {held:Bool} {n:Nat} {g o:Nat} {cs:List Value} {x:DataW H×List MemPlace} (hc:W.cells? base ⟨g,o,none⟩ 2=some cs) (h:DataW.trod enc Tryz.prog W base (fun _=>true) held n 62 cs=some x):∃ d:Eg,EgIn W g o d∧d.lb.size≤9223372036854775807:=by
 have hs:Tryz.prog.underlying 62=some (.struct (Tryz.prog.fieldsOf 62)):=by kernel_rfl
 obtain ⟨xs,n',_,_,_,hxl,hf⟩:=DataW.trod_struct hs h;have hsz:(Tryz.prog.fieldsOf 62).size=2:=by kernel_rfl
 obtain ⟨_,hcl,hq⟩:=World.cells?_some hc;obtain ⟨f0,i0,t0,o0⟩:=bJ (fs:=Tryz.prog.fieldsOf 62) (i:=0) (ty:=9) (off:=0) (by kernel_rfl);obtain ⟨f1,i1,t1,o1⟩:=bJ (fs:=Tryz.prog.fieldsOf 62) (i:=1) (ty:=3) (off:=1) (by kernel_rfl);have r0:=hf 0 f0 i0;have r1:=hf 1 f1 i1;rw [t0,o0,lR,List.getElem?_eq_getElem (by omega:0<xs.length)] at r0;rw [t1,o1,EM,List.getElem?_eq_getElem (by omega:1<xs.length)] at r1;obtain ⟨s,e0,_,hs0⟩:=DataW.trod_string Tryz.underlying9 r0;obtain ⟨k,e1,_,_⟩:=DataW.trod_int Tryz.underlying3 r1;have q0:=hq 0 (by decide);have q1:=hq 1 (by decide);have ad:∀ i,(⟨g,o,none⟩:Addr).add i=⟨g,o+i,none⟩:=fun i=>by unfold Addr.add;split<;>simp_all
 rw [ad,fL e0] at q0;rw [ad,fL e1] at q1;exact ⟨⟨s,k⟩,⟨⟨q0,q1⟩,cS q0⟩,by unfold maxLen at hs0;exact hs0⟩
theorem PV {H:Type} {enc:TypeId×Value→H} {W:World} {base fuel:Nat} {held:Bool} {cs:List Value} {x:DataW H×List MemPlace} (h:DataW.trod enc Tryz.prog W base (fun _=>true) held fuel 57 cs=some x):
 ∃ v L,cs=[v]∧PinsAt W v L∧L.length≤9223372036854775807∧∀ d ∈ L,d.nm.size≤9223372036854775807:=by
 rcases Go.Deep.open_slice Tryz.underlying57 h with ⟨rfl,_⟩|⟨ad,len,cap,m,n,D,Pl,rfl,_,hl,hcm,hm,hx,hel⟩
 · exact ⟨_,[],rfl,⟨none,0,rfl,Nat.le_refl _,Or.inl rfl⟩,by simp,(fun d hd=>by cases hd)⟩
 · have hz:len≤9223372036854775807:=by unfold maxLen at hcm;omega
   rcases Nat.eq_zero_or_pos len with h0|h0
   · subst h0
     exact ⟨_,[],rfl,⟨_,_,rfl,Nat.zero_le _,Or.inl rfl⟩,by simp,(fun d hd=>by cases hd)⟩
   · have hmm:len≤m:=by rw [hm];simp;exact hl
     rw [KW] at hel;obtain ⟨g,off,spot⟩:=ad;obtain ⟨cs0,hc0,_⟩:=hel 0 (by omega);obtain ⟨_,hln,hq⟩:=World.cells?_some hc0;have hcell:=hq 0 (by decide);rw [List.getElem?_eq_getElem (by omega:0<cs0.length)] at hcell;have hspot:spot=none:=by simpa [Addr.add] using World.cell?_spot hcell
     subst hspot;have ad2:∀ o i,(⟨g,o,none⟩:Addr).add i=⟨g,o+i,none⟩:=fun o i=>by unfold Addr.add;split<;>simp_all
     obtain ⟨L,hL,hP⟩:=gW (P:=fun i (d:Pn)=>PnIn W g (off+i*4) d∧d.nm.size≤9223372036854775807) (n:=len) fun i hi=>by
      obtain ⟨cs,hc,ht⟩:=hel i (by omega);rw [ad2] at hc;exact KX hc ht
     subst hL;refine ⟨_,L,rfl,⟨_,_,rfl,hl,Or.inr ⟨g,off,rfl,?_,fun i hi=>(hP i hi).1⟩⟩,hz,?_⟩
     · have:=cS hcell
       rw [ad2,ad2] at this;exact this
     · intro d hd
       obtain ⟨i,hi,rfl⟩:=List.getElem_of_mem hd;exact (hP i hi).2
theorem KY {H:Type} {enc:TypeId×Value→H} {W:World} {base fuel:Nat} {held:Bool} {cs:List Value} {x:DataW H×List MemPlace} (h:DataW.trod enc Tryz.prog W base (fun _=>true) held fuel 58 cs=some x):
 ∃ v L,cs=[v]∧EdgesAt W v L∧L.length≤9223372036854775807∧∀ d ∈ L,d.lb.size≤9223372036854775807:=by
 rcases Go.Deep.open_slice Tryz.underlying58 h with ⟨rfl,_⟩|⟨ad,len,cap,m,n,D,Pl,rfl,_,hl,hcm,hm,hx,hel⟩
 · exact ⟨_,[],rfl,⟨none,0,rfl,Nat.le_refl _,Or.inl rfl⟩,by simp,(fun d hd=>by cases hd)⟩
 · have hz:len≤9223372036854775807:=by unfold maxLen at hcm;omega
   rcases Nat.eq_zero_or_pos len with h0|h0
   · subst h0
     exact ⟨_,[],rfl,⟨_,_,rfl,Nat.zero_le _,Or.inl rfl⟩,by simp,(fun d hd=>by cases hd)⟩
   · have hmm:len≤m:=by rw [hm];simp;exact hl
     rw [EJ] at hel;obtain ⟨g,off,spot⟩:=ad;obtain ⟨cs0,hc0,_⟩:=hel 0 (by omega);obtain ⟨_,hln,hq⟩:=World.cells?_some hc0;have hcell:=hq 0 (by decide);rw [List.getElem?_eq_getElem (by omega:0<cs0.length)] at hcell;have hspot:spot=none:=by simpa [Addr.add] using World.cell?_spot hcell
     subst hspot;have ad2:∀ o i,(⟨g,o,none⟩:Addr).add i=⟨g,o+i,none⟩:=fun o i=>by unfold Addr.add;split<;>simp_all
     obtain ⟨L,hL,hP⟩:=gW (P:=fun i (d:Eg)=>EgIn W g (off+i*2) d∧d.lb.size≤9223372036854775807) (n:=len) fun i hi=>by
      obtain ⟨cs,hc,ht⟩:=hel i (by omega);rw [ad2] at hc;exact EN hc ht
     subst hL;refine ⟨_,L,rfl,⟨_,_,rfl,hl,Or.inr ⟨g,off,rfl,?_,fun i hi=>(hP i hi).1⟩⟩,hz,?_⟩
     · have:=cS hcell
       rw [ad2,ad2] at this;exact this
     · intro d hd
       obtain ⟨i,hi,rfl⟩:=List.getElem_of_mem hd;exact (hP i hi).2
def RN (n:Nd):Prop:=n.nm.size≤9223372036854775807∧(n.cx.length≤9223372036854775807∧∀ d ∈ n.cx,d.nm.size≤9223372036854775807)∧n.ed.length≤9223372036854775807∧∀ d ∈ n.ed,d.lb.size≤9223372036854775807
theorem EO {H:Type} {enc:TypeId×Value→H} {W:World} {base:Nat} {held:Bool} {n:Nat} {g o:Nat} {cs:List Value} {x:DataW H×List MemPlace} (hc:W.cells? base ⟨g,o,none⟩ 6=some cs) (h:DataW.trod enc Tryz.prog W base (fun _=>true) held n 60 cs=some x):∃ d:Nd,(∃ vc ve,NdIn W g o d vc ve)∧RN d:=by
 have hs:Tryz.prog.underlying 60=some (.struct (Tryz.prog.fieldsOf 60)):=by kernel_rfl
 obtain ⟨xs,n',_,_,_,hxl,hf⟩:=DataW.trod_struct hs h;have hsz:(Tryz.prog.fieldsOf 60).size=4:=by kernel_rfl
 obtain ⟨_,hcl,hq⟩:=World.cells?_some hc;obtain ⟨f0,i0,t0,o0⟩:=bJ (fs:=Tryz.prog.fieldsOf 60) (i:=0) (ty:=9) (off:=0) (by kernel_rfl);obtain ⟨f1,i1,t1,o1⟩:=bJ (fs:=Tryz.prog.fieldsOf 60) (i:=1) (ty:=52) (off:=1) (by kernel_rfl);obtain ⟨f2,i2,t2,o2⟩:=bJ (fs:=Tryz.prog.fieldsOf 60) (i:=2) (ty:=57) (off:=4) (by kernel_rfl);obtain ⟨f3,i3,t3,o3⟩:=bJ (fs:=Tryz.prog.fieldsOf 60) (i:=3) (ty:=58) (off:=5) (by kernel_rfl);have r0:=hf 0 f0 i0;have r1:=hf 1 f1 i1;have r2:=hf 2 f2 i2;have r3:=hf 3 f3 i3;rw [t0,o0,lR,List.getElem?_eq_getElem (by omega:0<xs.length)] at r0;rw [t1,o1,lY,List.getElem?_eq_getElem (by omega:1<xs.length)] at r1;rw [t2,o2,EL,List.getElem?_eq_getElem (by omega:2<xs.length)] at r2;rw [t3,o3,AP,List.getElem?_eq_getElem (by omega:3<xs.length)] at r3;obtain ⟨s,e0,_,hs0⟩:=DataW.trod_string Tryz.underlying9 r0;obtain ⟨a,b,c,ea,eb,ec,_⟩:=mG r1;obtain ⟨vc,L1,e2,h2,z2,m2⟩:=PV r2
 obtain ⟨ve,L2,e3,h3,z3,m3⟩:=KY r3;have ka:((cs.drop 1).take 3)[0]? =some (.int .i64 a):=ea;have kb:((cs.drop 1).take 3)[1]? =some (.int .i64 b):=eb;have kc:((cs.drop 1).take 3)[2]? =some (.int .i64 c):=ec;have q0:=hq 0 (by decide);have q1:=hq 1 (by decide);have q2:=hq 2 (by decide);have q3:=hq 3 (by decide);have q4:=hq 4 (by decide);have q5:=hq 5 (by decide);have ad:∀ i,(⟨g,o,none⟩:Addr).add i=⟨g,o+i,none⟩:=fun i=>by unfold Addr.add;split<;>simp_all
 simp at ka kb kc
 rw [ad,fL e0] at q0;rw [ad,ka] at q1;rw [ad,kb] at q2;rw [ad,kc] at q3;rw [ad,fL e2] at q4;rw [ad,fL e3] at q5;exact ⟨⟨s,a,b,c,L1,L2⟩,⟨vc,ve,⟨q0,q1,q2,q3,q4,q5⟩,⟨h2,h3⟩,cS q0⟩,by unfold maxLen at hs0;exact hs0,⟨z2,m2⟩,z3,m3⟩
theorem KZ {H:Type} {enc:TypeId×Value→H} {W:World} {base fuel:Nat} {held:Bool} {cs:List Value} {x:DataW H×List MemPlace} (h:DataW.trod enc Tryz.prog W base (fun _=>true) held fuel 25 cs=some x):
 ∃ v L,cs=[v]∧NodesAt W v L∧L.length≤9223372036854775807∧∀ d ∈ L,RN d:=by
 rcases Go.Deep.open_slice Tryz.underlying25 h with ⟨rfl,_⟩|⟨ad,len,cap,m,n,D,Pl,rfl,_,hl,hcm,hm,hx,hel⟩
 · exact ⟨_,[],rfl,⟨none,0,rfl,Nat.le_refl _,Or.inl rfl⟩,by simp,(fun d hd=>by cases hd)⟩
 · have hz:len≤9223372036854775807:=by unfold maxLen at hcm;omega
   rcases Nat.eq_zero_or_pos len with h0|h0
   · subst h0
     exact ⟨_,[],rfl,⟨_,_,rfl,Nat.zero_le _,Or.inl rfl⟩,by simp,(fun d hd=>by cases hd)⟩
   · have hmm:len≤m:=by rw [hm];simp;exact hl
     rw [EK] at hel;obtain ⟨g,off,spot⟩:=ad;obtain ⟨cs0,hc0,_⟩:=hel 0 (by omega);obtain ⟨_,hln,hq⟩:=World.cells?_some hc0;have hcell:=hq 0 (by decide);rw [List.getElem?_eq_getElem (by omega:0<cs0.length)] at hcell;have hspot:spot=none:=by simpa [Addr.add] using World.cell?_spot hcell
     subst hspot;have ad2:∀ o i,(⟨g,o,none⟩:Addr).add i=⟨g,o+i,none⟩:=fun o i=>by unfold Addr.add;split<;>simp_all
     obtain ⟨L,hL,hP⟩:=gW (P:=fun i (d:Nd)=>(∃ vc ve,NdIn W g (off+i*6) d vc ve)∧RN d) (n:=len) fun i hi=>by
      obtain ⟨cs,hc,ht⟩:=hel i (by omega);rw [ad2] at hc;exact EO hc ht
     subst hL;refine ⟨_,L,rfl,⟨_,_,rfl,hl,Or.inr ⟨g,off,rfl,?_,fun i hi=>(hP i hi).1⟩⟩,hz,?_⟩
     · have:=cS hcell
       rw [ad2,ad2] at this;exact this
     · intro d hd
       obtain ⟨i,hi,rfl⟩:=List.getElem_of_mem hd;exact (hP i hi).2
theorem LA:Tryz.prog.bytesOf 56=144:=by kernel_rfl
theorem PW {H:Type} {enc:TypeId×Value→H} {W:World} {base fuel:Nat} {held:Bool} {cs:List Value} {x:DataW H×List MemPlace} (h:DataW.trod enc Tryz.prog W base (fun _=>true) held fuel 28 cs=some x):
 ∃ v L,cs=[v]∧DirsAt W v L∧L.length≤9223372036854775807∧(∀ d ∈ L,DrN d)∧((x.1.weights Tryz.prog 28).all (· ≤reachBytes)=true→FitP1 L∧L.length*144≤140737488355328):=by
 rcases Go.Deep.open_slice Tryz.underlying28 h with ⟨rfl,_⟩|⟨ad,len,cap,m,n,D,Pl,rfl,_,hl,hcm,hm,hx,hel⟩
 · exact ⟨_,[],rfl,⟨none,0,rfl,Nat.le_refl _,Or.inl rfl⟩,by simp,(fun d hd=>by cases hd),fun _=>⟨(fun d hd=>by cases hd),by simp⟩⟩
 · have hz:len≤9223372036854775807:=by unfold maxLen at hcm;omega
   rcases Nat.eq_zero_or_pos len with h0|h0
   · subst h0
     exact ⟨_,[],rfl,⟨_,_,rfl,Nat.zero_le _,Or.inl rfl⟩,by simp,(fun d hd=>by cases hd),fun _=>⟨(fun d hd=>by cases hd),by simp⟩⟩
   · have hmm:len≤m:=by rw [hm];simp;exact hl
     rw [JJ] at hel;obtain ⟨g,off,spot⟩:=ad;obtain ⟨cs0,hc0,_⟩:=hel 0 (by omega);obtain ⟨_,hln,hq⟩:=World.cells?_some hc0;have hcell:=hq 0 (by decide);rw [List.getElem?_eq_getElem (by omega:0<cs0.length)] at hcell;have hspot:spot=none:=by simpa [Addr.add] using World.cell?_spot hcell
     subst hspot
     obtain ⟨L,hL,hP⟩:=gW (P:=fun i (d:Dr)=>(∃ u v1 v2 v3,DrIn W g (off+i*9) d u v1 v2 v3)∧DrN d∧(((D i).weights Tryz.prog 56).all (· ≤reachBytes)=true→d.pa.length*16≤140737488355328)) (n:=len) fun i hi=>by
      obtain ⟨cs,hc,ht⟩:=hel i (by omega);rw [jH] at hc;exact NG hc ht
     subst hL;refine ⟨_,L,rfl,⟨_,_,rfl,hl,Or.inr ⟨g,off,rfl,fun i hi=>(hP i hi).1⟩⟩,hz,?_,fun hr=> ?_⟩
     · intro d hd
       obtain ⟨i,hi,rfl⟩:=List.getElem_of_mem hd;exact (hP i hi).2.1
     · have hxi:x.1= .slice ((List.range L.length).map D) ((List.range (m - L.length)).map fun j=>D (L.length+j)):=by rw [hx]
       refine ⟨?_,by
        rw [hxi] at hr;have hb:=(nS Tryz.underlying28 hr).1;rw [List.length_map,List.length_range,LA] at hb;unfold reachBytes at hb;omega⟩
       intro d hd;obtain ⟨i,hi,rfl⟩:=List.getElem_of_mem hd;have hxi:x.1= .slice ((List.range L.length).map D) ((List.range (m - L.length)).map fun j=>D (L.length+j)):=by rw [hx]
       rw [hxi] at hr;exact (hP i hi).2.2 ((nS Tryz.underlying28 hr).2 (D i) (List.mem_map.2 ⟨i,List.mem_range.2 (by omega),rfl⟩))
theorem EP:Tryz.prog.cellsOf 32=7:=by kernel_rfl
theorem EQ:Tryz.prog.cellsOf 4=1:=by kernel_rfl
theorem wA {cs:List Value} {o k i:Nat} {v:Value} (h:((cs.drop o).take k)[i]? =some v) (hi:i<k):cs[o+i]? =some v:=by
 rw [List.getElem?_take_of_lt hi,List.getElem?_drop] at h;exact h
set_option maxHeartbeats 1600000 in
theorem ER {H:Type} {enc:TypeId×Value→H} {W:World} {base b0:Nat} {held:Bool} {v:Value} {d:DataW H} {p:List MemPlace} (hv:Value.okWide Tryz.prog W .any b0 32 v) (h:DataW.Trod enc Tryz.prog W base (fun _=>true) held 32 v d p):
 ∃ (P:Mn) (G:List Nd) (L:List Dr) (pr:Bool) (v1 v2 v3 v4 vg vt:Value),v= .agg #[v1,v2,v3,v4,vg,vt,.bool pr]∧(MnAt W P v1 v2 v3 v4∧(P.d.length≤9223372036854775807∧P.v.length≤9223372036854775807∧P.o.length≤9223372036854775807∧P.p.length≤9223372036854775807)∧((∀ d ∈ P.d,d.nm.size≤9223372036854775807)∧(∀ d ∈ P.v,d.nm.size≤9223372036854775807)∧(∀ d ∈ P.o,d.nm.size≤9223372036854775807)∧∀ d ∈ P.p,d.nm.size≤9223372036854775807))∧
   (NodesAt W vg G∧oT G∧∀ n ∈ G,RN n)∧(DirsAt W vt L∧L.length≤9223372036854775807∧∀ d ∈ L,DrN d)∧((d.weights Tryz.prog 32).all (· ≤reachBytes)=true→FitP1 L∧L.length*144≤140737488355328):=by
 have hs:Tryz.prog.underlying 32=some (.struct (Tryz.prog.fieldsOf 32)):=by kernel_rfl
 have hsm:Tryz.prog.underlying 24=some (.struct (Tryz.prog.fieldsOf 24)):=by kernel_rfl
 have hsg:Tryz.prog.underlying 27=some (.struct (Tryz.prog.fieldsOf 27)):=by kernel_rfl
 have hst:Tryz.prog.underlying 30=some (.struct (Tryz.prog.fieldsOf 30)):=by kernel_rfl
 obtain ⟨cs,rfl,hsz⟩:=okWide_struct hs hv;obtain ⟨n,h⟩:=h;obtain ⟨xs,n',_,hxx,_,hxl,hf⟩:=DataW.trod_struct hs h;have hfz:(Tryz.prog.fieldsOf 32).size=4:=by kernel_rfl
 rw [EP] at hsz;obtain ⟨f0,i0,t0,o0⟩:=bJ (fs:=Tryz.prog.fieldsOf 32) (i:=0) (ty:=24) (off:=0) (by kernel_rfl);obtain ⟨f1,i1,t1,o1⟩:=bJ (fs:=Tryz.prog.fieldsOf 32) (i:=1) (ty:=27) (off:=4) (by kernel_rfl);obtain ⟨f2,i2,t2,o2⟩:=bJ (fs:=Tryz.prog.fieldsOf 32) (i:=2) (ty:=30) (off:=5) (by kernel_rfl);obtain ⟨f3,i3,t3,o3⟩:=bJ (fs:=Tryz.prog.fieldsOf 32) (i:=3) (ty:=4) (off:=6) (by kernel_rfl);have r0:=hf 0 f0 i0;have r1:=hf 1 f1 i1;have r2:=hf 2 f2 i2;have r3:=hf 3 f3 i3;rw [t0,o0,PU,List.getElem?_eq_getElem (by omega:0<xs.length)] at r0;rw [t1,o1,AR,List.getElem?_eq_getElem (by omega:1<xs.length)] at r1;rw [t2,o2,CO,List.getElem?_eq_getElem (by omega:2<xs.length)] at r2;rw [t3,o3,EQ,List.getElem?_eq_getElem (by omega:3<xs.length)] at r3;obtain ⟨pr,e3,_⟩:=DataW.trod_bool Tryz.underlying4 r3;have k6:cs.toList[6]? =some (.bool pr):=fL e3;obtain ⟨xm,_,_,_,_,hxm,hfm⟩:=DataW.trod_struct hsm r0
 have hfzm:(Tryz.prog.fieldsOf 24).size=4:=by kernel_rfl
 have get:∀ i,((Tryz.prog.fieldsOf 24)[i]?).map (fun f=>(f.type,f.offset))=some (22,i)→i<4→∃ v L,cs.toList[i]? =some v∧DepsAt W v L∧L.length≤9223372036854775807∧∀ d ∈ L,d.nm.size≤9223372036854775807:=by
  intro i hfd hi;obtain ⟨f,h1,h2,h3⟩:=bJ hfd;have hr:=hfm i f h1;rw [h2,h3,kH,List.getElem?_eq_getElem (by omega:i<xm.length)] at hr;obtain ⟨v,L,e,hL,hz,hm⟩:=pD hr
  have:=wA (fL e) hi
  rw [Nat.zero_add] at this;exact ⟨v,L,this,hL,hz,hm⟩
 obtain ⟨v1,L1,k0,h1,z1,m1⟩:=get 0 (by kernel_rfl) (by decide);obtain ⟨v2,L2,k1,h2,z2,m2⟩:=get 1 (by kernel_rfl) (by decide);obtain ⟨v3,L3,k2,h3,z3,m3⟩:=get 2 (by kernel_rfl) (by decide);obtain ⟨v4,L4,k3,h4,z4,m4⟩:=get 3 (by kernel_rfl) (by decide);obtain ⟨xg,_,_,_,_,hxg,hfg⟩:=DataW.trod_struct hsg r1;have hfzg:(Tryz.prog.fieldsOf 27).size=1:=by kernel_rfl
 obtain ⟨g0,ig0,tg0,og0⟩:=bJ (fs:=Tryz.prog.fieldsOf 27) (i:=0) (ty:=25) (off:=0) (by kernel_rfl);have rg:=hfg 0 g0 ig0;rw [tg0,og0,AQ,List.getElem?_eq_getElem (by omega:0<xg.length)] at rg;obtain ⟨u,G,eg,hg0,zg0,mg0⟩:=KZ rg;have k4:cs.toList[4+0]? =some u:=wA (fL eg) (by decide);obtain ⟨xt,_,_,hxxt,_,hxt,hft⟩:=DataW.trod_struct hst r2;have hfzt:(Tryz.prog.fieldsOf 30).size=1:=by kernel_rfl
 obtain ⟨q0,iq0,tq0,oq0⟩:=bJ (fs:=Tryz.prog.fieldsOf 30) (i:=0) (ty:=28) (off:=0) (by kernel_rfl);have rt:=hft 0 q0 iq0;rw [tq0,oq0,CN,List.getElem?_eq_getElem (by omega:0<xt.length)] at rt;obtain ⟨vt,L,et,hd,hz,hn,hwt⟩:=PW rt;have k5:cs.toList[5+0]? =some vt:=wA (fL et) (by decide);obtain ⟨l⟩:=cs;obtain ⟨y0,y1,y2,y3,y4,y5,y6,rfl⟩:=UO (l:=l) (by simpa using hsz)
 simp at k0 k1 k2 k3 k4 k5 k6
 subst k0 k1 k2 k3 k4 k5 k6;refine ⟨⟨L1,L2,L3,L4⟩,G,L,pr,_,_,_,_,_,_,rfl,⟨⟨h1,h2,h3,h4⟩,⟨z1,z2,z3,z4⟩,m1,m2,m3,m4⟩,⟨hg0,⟨zg0,fun n hn=>(mg0 n hn).2.2.1⟩,mg0⟩,⟨hd,hz,hn⟩,fun hr=> ?_⟩;have hdd:d= .agg (xs.map (·.1)):=congrArg Prod.fst hxx;rw [hdd] at hr;have hp2:=qV hs hr i2 (d:=xs[2].1) (by rw [List.getElem?_map,List.getElem?_eq_getElem (by omega:2<xs.length)];rfl);rw [t2] at hp2;have hxi:xs[2].1= .agg (xt.map (·.1)):=congrArg Prod.fst hxxt;rw [hxi] at hp2;have hp3:=qV hst hp2 iq0 (d:=xt[0].1) (by rw [List.getElem?_map,List.getElem?_eq_getElem (by omega:0<xt.length)];rfl);rw [tq0] at hp3;exact hwt hp3
end Go.Proofs.YtlmpiohbmlddiaaGreatDoor
