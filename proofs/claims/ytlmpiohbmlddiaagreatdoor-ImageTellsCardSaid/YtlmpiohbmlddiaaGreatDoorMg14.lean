/- Env1, RowS, RwD, RwP, RwTr, Ts2: their declarations that are needed, laid in one text, remarks and blanks left out. -/
import Derived.Test.YtlmpiohbmlddiaaGreatDoorMg10
import Derived.Test.YtlmpiohbmlddiaaGreatDoorMg13
namespace Go.Proofs.YtlmpiohbmlddiaaGreatDoor
open Go.ChangeShapes Go.WideShapes Go.ChangeAt Go.RowKit
set_option maxRecDepth 100000
theorem UM: "*" ++ "errors.errorString" = "*errors.errorString" :=by decide
theorem FJ (u:TypeId) (h:Tryz.prog.typeName? 3 u=some "*errors.errorString"):u=344:=
 typeName_ptr_named (nm:= "errors.errorString") (by rw [UM];kernel_rfl) (by kernel_rfl) (by decide) u (by rw [UM];exact h)
theorem NA {W:World} (h:W.ShapedOpen Tryz.prog):∃ m,W.cell? ⟨0,0,none⟩=some (.int .i64 m):=
 cell_of_shapedOpen_int (t:=3) (zero:= #[.int .i64 0]) h (by decide+kernel) (by kernel_rfl) rfl (by kernel_rfl) (by kernel_rfl) Tryz.underlying3
theorem QN:Tryz.prog.cellsOf 210=6:=by kernel_rfl
theorem mG {H:Type} {enc:TypeId×Value→H} {W:World} {base:Nat} {spare:Nat→Bool} {held:Bool} {n:Nat} {cs:List Value} {x:DataW H×List MemPlace} (h:DataW.trod enc Tryz.prog W base spare held n 52 cs=some x):
 ∃ a b c,cs[0]? =some (.int .i64 a)∧cs[1]? =some (.int .i64 b)∧cs[2]? =some (.int .i64 c)∧x.1= .agg [.lit (.int .i64 a),.lit (.int .i64 b),.lit (.int .i64 c)]:=by
 have hs:Tryz.prog.underlying 52=some (.struct (Tryz.prog.fieldsOf 52)):=by kernel_rfl
 obtain ⟨xs,n',_,hx,_,hxl,hf⟩:=DataW.trod_struct hs h;have hfz:(Tryz.prog.fieldsOf 52).size=3:=by kernel_rfl
 have eQ:∀ i off,((Tryz.prog.fieldsOf 52)[i]?).map (fun f=>(f.type,f.offset))=some (3,off)→i<3→∃ k,cs[off]? =some (.int .i64 k)∧xs[i]? =some (.lit (.int .i64 k),[]):=by
  intro i off hfd hi;obtain ⟨f,h1,h2,h3⟩:=bJ hfd;have hr:=hf i f h1;rw [h2,h3,wL,List.getElem?_eq_getElem (by omega:i<xs.length)] at hr;obtain ⟨k,e1,e2,wk⟩:=DataW.trod_int Tryz.underlying3 hr;exact ⟨k,wM e1,by rw [List.getElem?_eq_getElem (by omega:i<xs.length),e2]⟩
 obtain ⟨a,a0,x0⟩:=eQ 0 0 (by kernel_rfl) (by decide);obtain ⟨b,a1,x1⟩:=eQ 1 1 (by kernel_rfl) (by decide);obtain ⟨c,a2,x2⟩:=eQ 2 2 (by kernel_rfl) (by decide);refine ⟨a,b,c,a0,a1,a2,?_⟩;rw [hx];obtain ⟨y0,y1,y2,rfl⟩:=UE (l:=xs) (by omega)
 simp at x0 x1 x2
 subst x0 x1 x2;rfl
theorem JI {H:Type} {enc:TypeId×Value→H} {W:World} {base:Nat} {spare:Nat→Bool} {held:Bool} {n:Nat} {g o:Nat} {cs:List Value} {x:DataW H×List MemPlace} (hc:W.cells? base ⟨g,o,none⟩ 6=some cs) (h:DataW.trod enc Tryz.prog W base spare held n 210 cs=some x):∃ s,SpAt W g o s:=by
 have hs:Tryz.prog.underlying 210=some (.struct (Tryz.prog.fieldsOf 210)):=by kernel_rfl
 obtain ⟨xs,n',_,_,_,hxl,hf⟩:=DataW.trod_struct hs h;have hsz:(Tryz.prog.fieldsOf 210).size=2:=by kernel_rfl
 obtain ⟨_,_,hq⟩:=World.cells?_some hc
 have vers:∀ i off,((Tryz.prog.fieldsOf 210)[i]?).map (fun f=>(f.type,f.offset))=some (52,off)→i<2→∃ a b c,cs[off]? =some (.int .i64 a)∧cs[off+1]? =some (.int .i64 b)∧cs[off+2]? =some (.int .i64 c):=by
  intro i off hfd hi;obtain ⟨f,h1,h2,h3⟩:=bJ hfd;have hr:=hf i f h1;rw [h2,h3,lY,List.getElem?_eq_getElem (by omega:i<xs.length)] at hr;obtain ⟨a,b,c,e0,e1,e2,_⟩:=mG hr
  simp at e0 e1 e2
  exact ⟨a,b,c,e0,e1,e2⟩
 obtain ⟨a,b,c,a0,a1,a2⟩:=vers 0 0 (by kernel_rfl) (by decide);obtain ⟨x,y,z,a3,a4,a5⟩:=vers 1 3 (by kernel_rfl) (by decide);have ad:∀ i,(⟨g,o,none⟩:Addr).add i=⟨g,o+i,none⟩:=fun i=>by unfold Addr.add;split<;>simp_all
 have q0:=hq 0 (by decide);have q1:=hq 1 (by decide);have q2:=hq 2 (by decide);have q3:=hq 3 (by decide);have q4:=hq 4 (by decide);have q5:=hq 5 (by decide);rw [ad] at q0 q1 q2 q3 q4 q5;exact ⟨⟨a,b,c,x,y,z⟩,by rw [←a0,←q0];rfl,by rw [←a1,←q1],by rw [←a2,←q2],by rw [←a3,←q3],by rw [←a4,←q4],by rw [←a5,←q5]⟩
theorem FK {P:Nat→Sp→Prop}:∀ {n:Nat},(∀ i,i<n→∃ s,P i s)→∃ L:List Sp,L.length=n∧∀ i (h:i<L.length),P i L[i]
 |0,_=>⟨[],rfl,fun i h=>by simp at h⟩
 |n+1,h=>by
  obtain ⟨L,hl,hP⟩:=FK (n:=n) fun i hi=>h i (by omega)
  obtain ⟨s,hs⟩:=h n (by omega);refine ⟨L++[s],by simp [hl],fun i hi=> ?_⟩
  by_cases hin:i<L.length
  · rw [List.getElem_append_left hin];exact hP i hin
  · have:i=n:=by simp at hi;omega
    subst this
    simpa [hl] using hs
theorem qT {H:Type} {enc:TypeId×Value→H} {W:World} {base fuel:Nat} {held:Bool} {a:Option Addr} {len cap:Nat} {x:DataW H×List MemPlace} (h:DataW.trod enc Tryz.prog W base (fun _=>true) held fuel 168 [.slice a len cap]=some x):
 ∃ L:List Sp,SpansC W (.slice a len cap) L:=by
 rcases Go.Deep.open_slice Tryz.underlying168 h with ⟨hcs,_⟩|⟨ad,l,c,m,n,D,Pl,hcs,_,hl,_,hm,hx,hel⟩
 · simp only [List.cons.injEq,Value.slice.injEq,and_true] at hcs
   obtain ⟨rfl,rfl,rfl⟩:=hcs;exact ⟨[],⟨_,_,rfl,Or.inl rfl⟩,_,_,_,rfl,Nat.le_refl _⟩
 · simp only [List.cons.injEq,Value.slice.injEq,and_true] at hcs
   obtain ⟨rfl,rfl,rfl⟩:=hcs
   rcases Nat.eq_zero_or_pos len with h0|h0
   · subst h0
     exact ⟨[],⟨_,_,rfl,Or.inl rfl⟩,_,_,_,rfl,hl⟩
   · have hmm:len≤m:=by rw [hm];simp;exact hl
     rw [QN] at hel;obtain ⟨g,off,spot⟩:=ad;obtain ⟨cs0,hc0,_⟩:=hel 0 (by omega);obtain ⟨_,hln,hq⟩:=World.cells?_some hc0;have hcell:=hq 0 (by decide);rw [List.getElem?_eq_getElem (by omega:0<cs0.length)] at hcell;have hspot:spot=none:=by simpa [Addr.add] using World.cell?_spot hcell
     subst hspot;have ad2:∀ o i,(⟨g,o,none⟩:Addr).add i=⟨g,o+i,none⟩:=fun o i=>by unfold Addr.add;split<;>simp_all
     obtain ⟨L,hL,hP⟩:=FK (P:=fun i s=>SpAt W g (off+i*6) s) (n:=len) fun i hi=>by
      obtain ⟨cs,hc,ht⟩:=hel i (by omega);rw [ad2] at hc;exact JI hc ht
     subst hL;refine ⟨L,⟨_,_,rfl,Or.inr ⟨g,off,rfl,?_,hP⟩⟩,_,_,_,rfl,hl⟩
     have:=cS hcell
     rw [ad2,ad2] at this;exact this
theorem xY {W:World} {nm:String} {a b c:Int} {r:List (String×DataW Unit)} {g:Nat} (hg:Tryz.prog.globalNamed nm=some g) (hty:(Tryz.prog.globals[g]?).map (·.type)=some 52)
 (h:laidMet Tryz.prog ((nm,.agg [.lit (.int .i64 a),.lit (.int .i64 b),.lit (.int .i64 c)])::r) W):
 W.cell? ⟨g,0,none⟩=some (.int .i64 a)∧W.cell? ⟨g,1,none⟩=some (.int .i64 b)∧W.cell? ⟨g,2,none⟩=some (.int .i64 c):=by
 obtain ⟨ps,⟨g',t',cs,fuel,p,q,hg',ht',hvar,hd,_,_⟩,_⟩:=h;obtain rfl:=Option.some.inj (hg.symm.trans hg');obtain rfl:=Option.some.inj (hty.symm.trans ht');obtain ⟨x,y,z,e0,e1,e2,hx⟩:=mG hd
 simp at hx
 obtain ⟨rfl,rfl,rfl⟩:=hx;have c0:=World.var?_cell hg hvar 0;have c1:=World.var?_cell hg hvar 1;have c2:=World.var?_cell hg hvar 2;exact ⟨by rw [c0];simpa using e0,by rw [c1];simpa using e1,by rw [c2];simpa using e2⟩
abbrev UN:List (String×DataW Unit):=[("math/bits.deBruijn32tab",Rows.laid_math_bits_deBruijn32tab),("math/bits.deBruijn64tab",Rows.laid_math_bits_deBruijn64tab),("internal/strconv.uint64pow10",Rows.laid_internal_strconv_uint64pow10),("unicode/utf8.acceptRanges",Rows.laid_unicode_utf8_acceptRanges),("strconv.ErrRange",Rows.laid_strconv_ErrRange),("strconv.ErrSyntax",Rows.laid_strconv_ErrSyntax),("halyard/span.first",Rows.laid_halyard_span_first),("halyard/span.last",Rows.laid_halyard_span_last),("unicode/utf8.first",Rows.laid_unicode_utf8_first)]
theorem FM {W:World} (hsh:W.ShapedOpen Tryz.prog) (h:laidMet Tryz.prog UN W):Env W∧FL W:=by
 have hT:=SI h;have h3:=laidMet.tail (laidMet.tail (laidMet.tail (laidMet.tail h)));have h4:=laidMet.tail h3;have h5:=laidMet.tail h4;have h6:=laidMet.tail h5;obtain ⟨a1,s1,hv1,_⟩:=laid_sentinel h3 (g:=9) (ti:=121) (te:=346) (ts:=9) (by kernel_rfl) (by kernel_rfl) Tryz.underlying121 FJ Tryz.underlying344 Tryz.underlying346 rfl rfl Tryz.underlying9 (by kernel_rfl) (by kernel_rfl);obtain ⟨a2,s2,hv2,_⟩:=laid_sentinel h4 (g:=8) (ti:=121) (te:=346) (ts:=9) (by kernel_rfl) (by kernel_rfl) Tryz.underlying121 FJ Tryz.underlying344 Tryz.underlying346 rfl rfl Tryz.underlying9 (by kernel_rfl) (by kernel_rfl);have c1:=World.var?_cell (g:=9) (by kernel_rfl) hv1 0;have c2:=World.var?_cell (g:=8) (by kernel_rfl) hv2 0;have f1:=xY (g:=1) (by kernel_rfl) (by kernel_rfl) h5;have f2:=xY (g:=2) (by kernel_rfl) (by kernel_rfl) h6
 exact ⟨{ max:=NA hsh,tab:=hT,syn:=⟨_,_,by simpa using c2⟩,rng:=⟨_,_,by simpa using c1⟩ },f1,f2,cS f1.1,cS f2.1⟩
theorem nR:Tryz.prog.cellsOf 9=1:=by kernel_rfl
theorem NB:Tryz.prog.cellsOf 168=1:=by kernel_rfl
theorem NC:Tryz.prog.cellsOf 170=2:=by kernel_rfl
theorem kH:Tryz.prog.cellsOf 22=1:=by kernel_rfl
theorem gW {α:Type} {P:Nat→α→Prop}:∀ {n:Nat},(∀ i,i<n→∃ s,P i s)→∃ L:List α,L.length=n∧∀ i (h:i<L.length),P i L[i]
 |0,_=>⟨[],rfl,fun i h=>by simp at h⟩
 |n+1,h=>by
  obtain ⟨L,hl,hP⟩:=gW (n:=n) fun i hi=>h i (by omega)
  obtain ⟨s,hs⟩:=h n (by omega);refine ⟨L++[s],by simp [hl],fun i hi=> ?_⟩
  by_cases hin:i<L.length
  · rw [List.getElem_append_left hin];exact hP i hin
  · have:i=n:=by simp at hi;omega
    subst this
    simpa [hl] using hs
theorem fL {cs:List Value} {o:Nat} {v:Value} (h:(cs.drop o).take 1=[v]):cs[o]? =some v:=by
 have h0:((cs.drop o).take 1)[0]? =some v:=by rw [h];rfl
 simpa using h0
theorem ND {H:Type} {enc:TypeId×Value→H} {W:World} {base fuel:Nat} {held:Bool} {cs:List Value} {x:DataW H×List MemPlace} (h:DataW.trod enc Tryz.prog W base (fun _=>true) held fuel 168 cs=some x):
 ∃ v L,cs=[v]∧SpansC W v L∧L.length≤9223372036854775807:=by
 rcases Go.Deep.open_slice Tryz.underlying168 h with ⟨rfl,_⟩|⟨ad,l,c,m,n,D,Pl,rfl,_,hl,hm,_⟩
 · obtain ⟨L,hL⟩:=qT h
   obtain ⟨a',c',e,_⟩:=hL.1;cases L with
   |nil=>exact ⟨_,[],rfl,hL,by simp⟩
   |cons s L=>simp at e
 · obtain ⟨L,hL⟩:=qT h
   refine ⟨_,L,rfl,hL,?_⟩;obtain ⟨a',c',e,_⟩:=hL.1;simp only [Value.slice.injEq] at e;obtain ⟨_,rfl,_⟩:=e;unfold maxLen at hm;omega
theorem NE {H:Type} {enc:TypeId×Value→H} {W:World} {base:Nat} {held:Bool} {n:Nat} {g o:Nat} {cs:List Value} {x:DataW H×List MemPlace} (hc:W.cells? base ⟨g,o,none⟩ 2=some cs) (h:DataW.trod enc Tryz.prog W base (fun _=>true) held n 170 cs=some x):∃ d:Dp,(∃ u,DpIn W g o d u)∧d.nm.size≤9223372036854775807:=by
 have hs:Tryz.prog.underlying 170=some (.struct (Tryz.prog.fieldsOf 170)):=by kernel_rfl
 obtain ⟨xs,n',_,_,_,hxl,hf⟩:=DataW.trod_struct hs h;have hsz:(Tryz.prog.fieldsOf 170).size=2:=by kernel_rfl
 obtain ⟨_,hcl,hq⟩:=World.cells?_some hc;obtain ⟨f0,i0,t0,o0⟩:=bJ (fs:=Tryz.prog.fieldsOf 170) (i:=0) (ty:=9) (off:=0) (by kernel_rfl);obtain ⟨f1,i1,t1,o1⟩:=bJ (fs:=Tryz.prog.fieldsOf 170) (i:=1) (ty:=168) (off:=1) (by kernel_rfl);have r0:=hf 0 f0 i0;have r1:=hf 1 f1 i1;rw [t0,o0,nR,List.getElem?_eq_getElem (by omega:0<xs.length)] at r0;rw [t1,o1,NB,List.getElem?_eq_getElem (by omega:1<xs.length)] at r1;obtain ⟨s,e0,_,hs0⟩:=DataW.trod_string Tryz.underlying9 r0;obtain ⟨v,L,e1,hL,hz⟩:=ND r1;have q0:=hq 0 (by decide);have q1:=hq 1 (by decide);have ad:∀ i,(⟨g,o,none⟩:Addr).add i=⟨g,o+i,none⟩:=fun i=>by unfold Addr.add;split<;>simp_all
 rw [ad,fL e0] at q0;rw [ad,fL e1] at q1;exact ⟨⟨s,L⟩,⟨v,q0,q1,⟨hL,hz⟩,cS q1⟩,by unfold maxLen at hs0;exact hs0⟩
theorem pD {H:Type} {enc:TypeId×Value→H} {W:World} {base fuel:Nat} {held:Bool} {cs:List Value} {x:DataW H×List MemPlace} (h:DataW.trod enc Tryz.prog W base (fun _=>true) held fuel 22 cs=some x):
 ∃ v L,cs=[v]∧DepsAt W v L∧L.length≤9223372036854775807∧∀ d ∈ L,d.nm.size≤9223372036854775807:=by
 rcases Go.Deep.open_slice Tryz.underlying22 h with ⟨rfl,_⟩|⟨ad,len,cap,m,n,D,Pl,rfl,_,hl,hcm,hm,hx,hel⟩
 · exact ⟨_,[],rfl,⟨none,0,rfl,Nat.le_refl _,Or.inl rfl⟩,by simp,(fun d hd=>by cases hd)⟩
 · have hz:len≤9223372036854775807:=by unfold maxLen at hcm;omega
   rcases Nat.eq_zero_or_pos len with h0|h0
   · subst h0
     exact ⟨_,[],rfl,⟨_,_,rfl,Nat.zero_le _,Or.inl rfl⟩,by simp,(fun d hd=>by cases hd)⟩
   · have hmm:len≤m:=by rw [hm];simp;exact hl
     rw [NC] at hel;obtain ⟨g,off,spot⟩:=ad;obtain ⟨cs0,hc0,_⟩:=hel 0 (by omega);obtain ⟨_,hln,hq⟩:=World.cells?_some hc0;have hcell:=hq 0 (by decide);rw [List.getElem?_eq_getElem (by omega:0<cs0.length)] at hcell;have hspot:spot=none:=by simpa [Addr.add] using World.cell?_spot hcell
     subst hspot;have ad2:∀ o i,(⟨g,o,none⟩:Addr).add i=⟨g,o+i,none⟩:=fun o i=>by unfold Addr.add;split<;>simp_all
     obtain ⟨L,hL,hP⟩:=gW (P:=fun i (d:Dp)=>(∃ u,DpIn W g (off+i*2) d u)∧d.nm.size≤9223372036854775807) (n:=len) fun i hi=>by
      obtain ⟨cs,hc,ht⟩:=hel i (by omega);rw [ad2] at hc;exact NE hc ht
     subst hL;refine ⟨_,L,rfl,⟨_,_,rfl,hl,Or.inr ⟨g,off,rfl,?_,fun i hi=>(hP i hi).1⟩⟩,hz,?_⟩
     · have:=cS hcell
       rw [ad2,ad2] at this;exact this
     · intro d hd
       obtain ⟨i,hi,rfl⟩:=List.getElem_of_mem hd;exact (hP i hi).2
theorem NF:Tryz.prog.cellsOf 54=7:=by kernel_rfl
theorem UO {α:Type} {l:List α} (h:l.length=7):∃ a b c d e f g,l=[a,b,c,d,e,f,g]:=by
 match l,h with
 |[a,b,c,d,e,f,g],_=>exact ⟨a,b,c,d,e,f,g,rfl⟩
theorem qU {H:Type}:∀ {ts:List TypeId} {ds:List (DataW H)} {i:Nat} {t:TypeId} {d:DataW H},(DataW.weightsEach Tryz.prog ts ds).all (· ≤reachBytes)=true→ts[i]? =some t→ds[i]? =some d→(d.weights Tryz.prog t).all (· ≤reachBytes)=true
 |[],_,_,_,_,_,h,_=>by simp at h
 |_::_,[],_,_,_,_,_,h=>by simp at h
 |t::ts,d::ds,0,t',d',ha,h1,h2=>by
  simp at h1 h2
  subst h1 h2;unfold DataW.weightsEach at ha;rw [List.all_append,Bool.and_eq_true] at ha;exact ha.1
 |t::ts,d::ds,i+1,t',d',ha,h1,h2=>by
  unfold DataW.weightsEach at ha;rw [List.all_append,Bool.and_eq_true] at ha;exact qU ha.2 (by simpa using h1) (by simpa using h2)
theorem xZ {H:Type} {t:TypeId}:∀ {ds:List (DataW H)} {d:DataW H},(DataW.weightsAll Tryz.prog t ds).all (· ≤reachBytes)=true→d ∈ ds→(d.weights Tryz.prog t).all (· ≤reachBytes)=true
 |[],_,_,h=>by cases h
 |d::ds,d',ha,h=>by
  unfold DataW.weightsAll at ha;rw [List.all_append,Bool.and_eq_true] at ha
  rcases List.mem_cons.1 h with rfl|h
  · exact ha.1
  · exact xZ ha.2 h
theorem qV {H:Type} {t:TypeId} {fs:Array Field} (ht:Tryz.prog.underlying t=some (.struct fs)) {eF:List (DataW H)} (h:((DataW.agg eF).weights Tryz.prog t).all (· ≤reachBytes)=true) {i:Nat} {f:Field} (hf:fs[i]? =some f) {d:DataW H} (hd:eF[i]? =some d):(d.weights Tryz.prog f.type).all (· ≤reachBytes)=true:=by
 unfold DataW.weights at h;rw [ht] at h;refine qU h (i:=i) (t:=f.type) ?_ hd;rw [List.getElem?_map,Array.getElem?_toList,hf];rfl
theorem nS {H:Type} {t e:TypeId} (ht:Tryz.prog.underlying t=some (.slice e)) {el sp:List (DataW H)} (h:((DataW.slice el sp).weights Tryz.prog t).all (· ≤reachBytes)=true):(el.length+sp.length)*Tryz.prog.bytesOf e≤reachBytes∧∀ d ∈ el,(d.weights Tryz.prog e).all (· ≤reachBytes)=true:=by
 unfold DataW.weights at h;rw [ht] at h;rw [List.all_cons,Bool.and_eq_true,List.all_append,Bool.and_eq_true] at h;exact ⟨of_decide_eq_true h.1,fun d hd=>xZ h.2.1 hd⟩
theorem CM:Tryz.prog.cellsOf 50=1:=by kernel_rfl
theorem JJ:Tryz.prog.cellsOf 56=9:=by kernel_rfl
theorem CN:Tryz.prog.cellsOf 28=1:=by kernel_rfl
theorem CO:Tryz.prog.cellsOf 30=1:=by kernel_rfl
theorem JK:Tryz.prog.bytesOf 9=16:=by kernel_rfl
theorem jH (g o i:Nat):(⟨g,o,none⟩:Addr).add i=⟨g,o+i,none⟩:=by unfold Addr.add;split<;>simp_all
theorem QO {H:Type} {enc:TypeId×Value→H} {W:World} {base fuel:Nat} {held:Bool} {cs:List Value} {x:DataW H×List MemPlace} (h:DataW.trod enc Tryz.prog W base (fun _=>true) held fuel 50 cs=some x):
 ∃ v L,cs=[v]∧PathAt W v L∧(∀ s ∈ L,s.size≤9223372036854775807)∧((x.1.weights Tryz.prog 50).all (· ≤reachBytes)=true→L.length*16≤140737488355328):=by
 rcases Go.Deep.open_slice Tryz.underlying50 h with ⟨rfl,_⟩|⟨ad,len,cap,m,n,D,Pl,rfl,_,hl,hcm,hm,hx,hel⟩
 · exact ⟨_,[],rfl,⟨none,0,rfl,Nat.le_refl _,Or.inl rfl⟩,(fun s hs=>by cases hs),fun _=>by simp⟩
 · have hwt:(x.1.weights Tryz.prog 50).all (· ≤reachBytes)=true→len*16≤140737488355328:=fun hr=>by
    have hxi:x.1= .slice ((List.range len).map D) ((List.range (m - len)).map fun j=>D (len+j)):=by rw [hx]
    rw [hxi] at hr;have hb:=(nS Tryz.underlying50 hr).1;rw [List.length_map,List.length_range,JK] at hb;unfold reachBytes at hb;omega
   rcases Nat.eq_zero_or_pos len with h0|h0
   · subst h0
     exact ⟨_,[],rfl,⟨_,_,rfl,Nat.zero_le _,Or.inl rfl⟩,(fun s hs=>by cases hs),fun _=>by simp⟩
   · have hmm:len≤m:=by rw [hm];simp;exact hl
     rw [nR] at hel;obtain ⟨g,off,spot⟩:=ad;obtain ⟨cs0,hc0,_⟩:=hel 0 (by omega);obtain ⟨_,hln,hq⟩:=World.cells?_some hc0;have hcell:=hq 0 (by decide);rw [List.getElem?_eq_getElem (by omega:0<cs0.length)] at hcell;have hspot:spot=none:=by simpa [Addr.add] using World.cell?_spot hcell
     subst hspot
     obtain ⟨L,hL,hP⟩:=gW (P:=fun i (s:ByteArray)=>StIn W g (off+i) s∧s.size≤9223372036854775807) (n:=len) fun i hi=>by
      obtain ⟨cs,hc,ht⟩:=hel i (by omega);rw [jH,Nat.mul_one] at hc;obtain ⟨_,hcl,hq⟩:=World.cells?_some hc;obtain ⟨s,e0,_,hs0⟩:=DataW.trod_string Tryz.underlying9 ht;have q0:=hq 0 (by decide);rw [jH,e0] at q0;exact ⟨s,⟨q0,Sc.cS q0⟩,by unfold maxLen at hs0;exact hs0⟩
     subst hL;refine ⟨_,L,rfl,⟨_,_,rfl,hl,Or.inr ⟨g,off,rfl,fun i hi=>(hP i hi).1⟩⟩,?_,hwt⟩;intro s hs;obtain ⟨i,hi,rfl⟩:=List.getElem_of_mem hs;exact (hP i hi).2
def PgN (P:Pg):Prop:=P.nm.size≤9223372036854775807∧(∀ d ∈ P.d,d.nm.size≤9223372036854775807)∧(∀ d ∈ P.p,d.nm.size≤9223372036854775807)∧∀ d ∈ P.o,d.nm.size≤9223372036854775807
theorem TA {H:Type} {enc:TypeId×Value→H} {W:World} {base fuel:Nat} {held:Bool} {cs:List Value} {x:DataW H×List MemPlace} (h:DataW.trod enc Tryz.prog W base (fun _=>true) held fuel 54 cs=some x):
 ∃ (P:Pg) (v1 v2 v3:Value),(cs[0]? =some (.string P.nm)∧cs[1]? =some (.int .i64 P.a)∧cs[2]? =some (.int .i64 P.b)∧cs[3]? =some (.int .i64 P.c)∧cs[4]? =some v1∧cs[5]? =some v2∧cs[6]? =some v3)∧PgAt W P v1 v2 v3∧PgZ P∧PgN P:=by
 have hs:Tryz.prog.underlying 54=some (.struct (Tryz.prog.fieldsOf 54)):=by kernel_rfl
 obtain ⟨xs,n',_,_,_,hxl,hf⟩:=DataW.trod_struct hs h;have hfz:(Tryz.prog.fieldsOf 54).size=5:=by kernel_rfl
 obtain ⟨f0,i0,t0,o0⟩:=bJ (fs:=Tryz.prog.fieldsOf 54) (i:=0) (ty:=9) (off:=0) (by kernel_rfl);obtain ⟨f1,i1,t1,o1⟩:=bJ (fs:=Tryz.prog.fieldsOf 54) (i:=1) (ty:=52) (off:=1) (by kernel_rfl);obtain ⟨f2,i2,t2,o2⟩:=bJ (fs:=Tryz.prog.fieldsOf 54) (i:=2) (ty:=22) (off:=4) (by kernel_rfl);obtain ⟨f3,i3,t3,o3⟩:=bJ (fs:=Tryz.prog.fieldsOf 54) (i:=3) (ty:=22) (off:=5) (by kernel_rfl);obtain ⟨f4,i4,t4,o4⟩:=bJ (fs:=Tryz.prog.fieldsOf 54) (i:=4) (ty:=22) (off:=6) (by kernel_rfl);have r0:=hf 0 f0 i0;have r1:=hf 1 f1 i1;have r2:=hf 2 f2 i2;have r3:=hf 3 f3 i3;have r4:=hf 4 f4 i4;rw [t0,o0,nR,List.getElem?_eq_getElem (by omega:0<xs.length)] at r0;rw [t1,o1,lY,List.getElem?_eq_getElem (by omega:1<xs.length)] at r1;rw [t2,o2,kH,List.getElem?_eq_getElem (by omega:2<xs.length)] at r2;rw [t3,o3,kH,List.getElem?_eq_getElem (by omega:3<xs.length)] at r3
 rw [t4,o4,kH,List.getElem?_eq_getElem (by omega:4<xs.length)] at r4;obtain ⟨s,e0,_,hs0⟩:=DataW.trod_string Tryz.underlying9 r0;obtain ⟨a,b,c,ea,eb,ec,_⟩:=mG r1;obtain ⟨v1,L1,e2,h1,z1,m1⟩:=pD r2;obtain ⟨v2,L2,e3,h2,z2,m2⟩:=pD r3;obtain ⟨v3,L3,e4,h3,z3,m3⟩:=pD r4;have ka:((cs.drop 1).take 3)[0]? =some (.int .i64 a):=ea;have kb:((cs.drop 1).take 3)[1]? =some (.int .i64 b):=eb;have kc:((cs.drop 1).take 3)[2]? =some (.int .i64 c):=ec
 simp at ka kb kc
 exact ⟨⟨s,a,b,c,L1,L2,L3⟩,v1,v2,v3,⟨fL e0,ka,kb,kc,fL e2,fL e3,fL e4⟩,⟨h1,h2,h3⟩,⟨z1,z2,z3⟩,by unfold maxLen at hs0;exact hs0,m1,m2,m3⟩
def DrN (d:Dr):Prop:=PgZ d.pk∧PgN d.pk∧∀ s ∈ d.pa,s.size≤9223372036854775807
theorem UP {cs:List Value} {i:Nat} (hi:i<7):((cs.drop 1).take 7)[i]? =cs[i+1]? :=by
 rw [List.getElem?_take,if_pos hi,List.getElem?_drop,Nat.add_comm]
theorem NG {H:Type} {enc:TypeId×Value→H} {W:World} {base:Nat} {held:Bool} {n:Nat} {g o:Nat} {cs:List Value} {x:DataW H×List MemPlace} (hc:W.cells? base ⟨g,o,none⟩ 9=some cs) (h:DataW.trod enc Tryz.prog W base (fun _=>true) held n 56 cs=some x):
 ∃ D:Dr,(∃ u v1 v2 v3,DrIn W g o D u v1 v2 v3)∧DrN D∧((x.1.weights Tryz.prog 56).all (· ≤reachBytes)=true→D.pa.length*16≤140737488355328):=by
 have hs:Tryz.prog.underlying 56=some (.struct (Tryz.prog.fieldsOf 56)):=by kernel_rfl
 obtain ⟨xs,n',_,hxx,_,hxl,hf⟩:=DataW.trod_struct hs h;have hfz:(Tryz.prog.fieldsOf 56).size=3:=by kernel_rfl
 obtain ⟨_,hcl,hq⟩:=World.cells?_some hc;obtain ⟨f0,i0,t0,o0⟩:=bJ (fs:=Tryz.prog.fieldsOf 56) (i:=0) (ty:=50) (off:=0) (by kernel_rfl);obtain ⟨f1,i1,t1,o1⟩:=bJ (fs:=Tryz.prog.fieldsOf 56) (i:=1) (ty:=54) (off:=1) (by kernel_rfl);obtain ⟨f2,i2,t2,o2⟩:=bJ (fs:=Tryz.prog.fieldsOf 56) (i:=2) (ty:=3) (off:=8) (by kernel_rfl);have r0:=hf 0 f0 i0;have r1:=hf 1 f1 i1;have r2:=hf 2 f2 i2;rw [t0,o0,CM,List.getElem?_eq_getElem (by omega:0<xs.length)] at r0;rw [t1,o1,NF,List.getElem?_eq_getElem (by omega:1<xs.length)] at r1;rw [t2,o2,wL,List.getElem?_eq_getElem (by omega:2<xs.length)] at r2;obtain ⟨u,L,e0,hp,hsz,hwt⟩:=QO r0;obtain ⟨P,v1,v2,v3,⟨p0,p1,p2,p3,p4,p5,p6⟩,hpg,hpz,hpn⟩:=TA r1;obtain ⟨k,e2,_,_⟩:=DataW.trod_int Tryz.underlying3 r2;rw [UP (by decide)] at p0 p1 p2 p3 p4 p5 p6;have c0:=hq 0 (by decide);have c1:=hq 1 (by decide);have c2:=hq 2 (by decide);have c3:=hq 3 (by decide)
 have c4:=hq 4 (by decide);have c5:=hq 5 (by decide);have c6:=hq 6 (by decide);have c7:=hq 7 (by decide);have c8:=hq 8 (by decide);rw [jH,fL e0] at c0;rw [jH,p0] at c1;rw [jH,p1] at c2;rw [jH,p2] at c3;rw [jH,p3] at c4;rw [jH,p4] at c5;rw [jH,p5] at c6;rw [jH,p6] at c7;rw [jH,wM e2] at c8;refine ⟨⟨L,P,k⟩,⟨u,v1,v2,v3,⟨c0,c1,c2,c3,c4,c5,c6,c7,c8⟩,⟨hp,hpg⟩,Sc.cS c0⟩,⟨hpz,hpn,hsz⟩,fun hr=> ?_⟩;have hd:x.1= .agg (xs.map (·.1)):=congrArg Prod.fst hxx;rw [hd] at hr;have hp2:=qV hs hr i0 (d:=xs[0].1) (by rw [List.getElem?_map,List.getElem?_eq_getElem (by omega:0<xs.length)];rfl);rw [t0] at hp2;exact hwt hp2
end Go.Proofs.YtlmpiohbmlddiaaGreatDoor
namespace Go.Proofs.YtlmpiohbmlddiaaGreatDoor
open Go.RowKit
set_option maxRecDepth 100000
theorem CP {L:List Dr} {i:Nat} (hi:i<L.length):eE L i=(dK L[i].pa&&decide (0<L[i].nd)&&eqB L[i].pk.nm (iA L[i].pa)&&aX L[i].pk&&decide (bA L L[i].pa=i)&&(decide (0≤bA L (L[i].pa.take (L[i].pa.length - 1)))&&decide (bA L (L[i].pa.take (L[i].pa.length - 1))<i))):=by
 rw [qI hi];unfold qG;have hl:(L.take i).length=i:=by rw [List.length_take];omega
 have h1:decide (bA (L.take i) L[i].pa<0)=decide (bA L L[i].pa=i):=by
  rcases gR (L.take i) L[i].pa with ⟨e,hall⟩|⟨k,hk,e,hp,hall⟩
  · have:bA L L[i].pa=i:=iM hi rfl fun j hj h1=>by
     have:=hall j (by omega)
     rwa [List.getElem_take] at this
    rw [e,this]
    simp
  · have hk':k<i:=by omega
    have:bA L L[i].pa=k:=iM (by omega) (by rw [List.getElem_take] at hp;exact hp) fun j hj h1=>by
     have:=hall j hj (by omega)
     rwa [List.getElem_take] at this
    rw [e,this,decide_eq_false (by omega),decide_eq_false (by omega)]
 have h2:decide (0≤bA (L.take i) (L[i].pa.take (L[i].pa.length - 1)))=(decide (0≤bA L (L[i].pa.take (L[i].pa.length - 1)))&&decide (bA L (L[i].pa.take (L[i].pa.length - 1))<i)):=by
  generalize L[i].pa.take (L[i].pa.length - 1)=q
  rcases gR (L.take i) q with ⟨e,hall⟩|⟨k,hk,e,hp,hall⟩
  · rw [e]
    rcases gR L q with ⟨e2,_⟩|⟨k,hk,e2,hp,_⟩
    · rw [e2];simp
    · rw [e2]
      have:¬ (k:Int)<i:=fun hlt=>by
       have:=hall k (by omega)
       rw [List.getElem_take] at this;exact this hp
      rw [decide_eq_false this]
      simp
  · have hk':k<i:=by omega
    have:bA L q=k:=iM (by omega) (by rw [List.getElem_take] at hp;exact hp) fun j hj h1=>by
     have:=hall j hj (by omega)
     rwa [List.getElem_take] at this
    rw [e,this,decide_eq_true (show (k:Int)<i by omega)]
    simp
 rw [h1,h2]
set_option maxHeartbeats 12800000 in
theorem CQ {L:List Dr} {v:Value} {w:World} (h:DirsAt w v L) (hz:L.length≤9223372036854775807) (hk:iB L) (hn:∀ d ∈ L,PgN d.pk∧∀ s ∈ d.pa,s.size≤9223372036854775807) {i:Nat} (hi:i<L.length):
 Calls Tryz.prog 146 #[.agg #[v],.int .i64 i] w fun e w'=>e= .returned (.bool (eE L i))∧Below w.heap.size w w':=by
 have hil:=hk.1 _ (List.getElem_mem hi);have HFS:=aA (CP hi);have hnd:=hn _ (List.getElem_mem hi);have HF1:Hid (∀ w1,Below w.heap.size w w1→∀ vp p,PathAt w1 vp p→Calls Tryz.prog 147 #[.agg #[v],vp] w1 fun e w'=>e= .returned (.int .i64 (bA L p))∧Below w1.heap.size w1 w'):=fun w1 hb vp p hp=>nM (h.below hb) hz hk.1.fit hp
 have HPR:Hid (0<L[i].pa.length→∀ w1,Below w.heap.size w w1→Calls Tryz.prog 191 #[.agg #[v],.int .i64 i] w1 fun e w'=>e= .returned (.int .i64 (bA L (L[i].pa.take (L[i].pa.length - 1))))∧Below w1.heap.size w1 w'):=fun hp w1 hb=>xM (h.below hb) hz hk.1.fit hi hp
 obtain ⟨ad,cap,rfl,hc,hsl⟩:=h.sl;obtain ⟨g,o,rfl,u,v1,v2,v3,hd⟩:=hsl i hi;have HTX:Hid (∀ w1,Below w.heap.size w w1→Calls Tryz.prog 30 #[u] w1 fun e w'=>e= .returned (.string (aG L[i].pa))∧Below w1.heap.size w1 w'):=fun w1 hb=>lF (hd.2.1.1.below hb) hil hnd.2
 have HMY:Hid (∀ w1,Below w.heap.size w w1→Calls Tryz.prog 83 #[.agg #[.string L[i].pk.nm,.int .i64 L[i].pk.a,.int .i64 L[i].pk.b,.int .i64 L[i].pk.c,v1,v2,v3]] w1 fun e w'=>e= .returned (.bool (aX L[i].pk))∧Below w1.heap.size w1 w'):=fun w1 hb=>by
  have:=FH (hd.2.1.2.below hb) (hk.2 _ (List.getElem_mem hi)) hnd.1
  rw [MZ] at this;exact this
 have HF2:Hid (∀ w1,Below w.heap.size w w1→Calls Tryz.prog 147 #[.agg #[.slice (some ⟨g,o,none⟩) L.length cap],u] w1 fun e w'=>e= .returned (.int .i64 (bA L L[i].pa))∧Below w1.heap.size w1 w'):=fun w1 hb=>HF1.out w1 hb _ _ (hd.2.1.1.below hb)
 have HLP:Hid (∀ h:0<L[i].pa.length,iA L[i].pa=L[i].pa[L[i].pa.length - 1]'(by omega)):=fun h=>qE h
 obtain ⟨ua,uc,rfl,huc,hux⟩:=hd.2.1.1.el
 have HLC:Hid (∀ n,L[i].pa.length=n+1→∃ gu ou,ua=some ⟨gu,ou,none⟩∧∀ w1,Below w.heap.size w w1→StIn w1 gu (ou+n) (iA L[i].pa)):=fun n hn=>by
  obtain ⟨gu,ou,e,hs⟩:=hux n (by omega);refine ⟨gu,ou,e,fun w1 hb=> ?_⟩;rw [HLP.out (by omega)]
  have:L[i].pa[L[i].pa.length - 1]'(by omega)=L[i].pa[n]'(by omega):=by congr 1;omega
  rw [this];exact hs.below hb
 obtain ⟨a1,c1,rfl⟩:=hd.2.1.2.1.sl;obtain ⟨a2,c2,rfl⟩:=hd.2.1.2.2.1.sl;obtain ⟨a3,c3,rfl⟩:=hd.2.1.2.2.2.sl;obtain ⟨⟨d0,d1,d2,d3,d4,d5,d6,d7,d8⟩,_,dg⟩:=hd;have hbt:=aF w (.cells #[.slice (some ⟨g,o,none⟩) L.length cap] 30);have r0:=(hbt.cell (p:=⟨g,o+i*9,none⟩) dg).trans d0;have r1:=(hbt.cell (p:=⟨g,o+i*9+1,none⟩) dg).trans d1;have r2:=(hbt.cell (p:=⟨g,o+i*9+2,none⟩) dg).trans d2;have r3:=(hbt.cell (p:=⟨g,o+i*9+3,none⟩) dg).trans d3;have r4:=(hbt.cell (p:=⟨g,o+i*9+4,none⟩) dg).trans d4;have r5:=(hbt.cell (p:=⟨g,o+i*9+5,none⟩) dg).trans d5;have r6:=(hbt.cell (p:=⟨g,o+i*9+6,none⟩) dg).trans d6;have r7:=(hbt.cell (p:=⟨g,o+i*9+7,none⟩) dg).trans d7;have r8:=(hbt.cell (p:=⟨g,o+i*9+8,none⟩) dg).trans d8;clear d0 d1 d2 d3 d4 d5 d6 d7 d8 hbt hsl h hk hn hnd hux HLP HF1;have HMB:Hid (dK L[i].pa=(decide (0<L[i].pa.length)&&aT L[i].pa&&decide ((bE L[i].pa).length≤1024))):=rfl
 have HT1:Hid (L[i].pa.length=0→aG L[i].pa=⟨#[47]⟩):=fun e=>by rw [List.eq_nil_of_length_eq_zero e];rfl
 have HT2:Hid (0<L[i].pa.length→aT L[i].pa=false→aG L[i].pa=⟨#[]⟩):=fun hp e=>by unfold aG;rw [if_neg (List.length_pos_iff.1 hp),if_neg (by rw [e];simp)]
 have HT3:Hid (0<L[i].pa.length→aT L[i].pa=true→aG L[i].pa=aI L[i].pa∧(aI L[i].pa).toList.isEmpty=false):=fun hp e=>by
  refine ⟨by unfold aG;rw [if_neg (List.length_pos_iff.1 hp),if_pos e];rfl,?_⟩
  obtain ⟨s,r,hsr⟩:∃ s r,L[i].pa=s::r:=by
   cases hq:L[i].pa with
   |nil=>rw [hq] at hp;simp at hp
   |cons s r=>exact ⟨s,r,rfl⟩
  rw [hsr,ByteArray.toList_eq];simp [aI,bE,dT]
 have HTZ:Hid ((aI L[i].pa).size=(bE L[i].pa).length):=cD _;have HG2:=aA (gS L (L[i].pa.take (L[i].pa.length - 1)));generalize eE L i=rb at*;generalize bA L (L[i].pa.take (L[i].pa.length - 1))=f2 at*;generalize bA L L[i].pa=f1 at*;generalize aX L[i].pk=b4 at*;generalize iA L[i].pa=ls at*;generalize dK L[i].pa=b1 at*;generalize aT L[i].pa=nb at*;generalize (bE L[i].pa).length=tl at*;generalize aG L[i].pa=tx at*;generalize aI L[i].pa=tb at*;generalize L[i].pa.length=n at*;generalize L[i].pk.d.length=l1 at*;generalize L[i].pk.p.length=l2 at*;generalize L[i].pk.o.length=l3 at*;generalize L[i].pk.nm=s at*;generalize L[i].pk.a=a at*;generalize L[i].pk.b=b at*;generalize L[i].pk.c=c at*;generalize L[i].nd=nd at*
 have HK:Hid (KeepP fun w1=>Below w.heap.size w w1∧BxT w1 w.heap.size (.slice (some ⟨g,o,none⟩) L.length cap)∧BxDr w1 (w.heap.size+1) (.slice ua n uc) s a b c (.slice a1 l1 c1) (.slice a2 l2 c2) (.slice a3 l3 c3) nd):=(aD w).and ((bI _ _).and (xI _ _ _ _ _ _ _ _ _ _))
 have HO0:Hid (Below w.heap.size w ((w.alloc (.cells #[.slice (some ⟨g,o,none⟩) L.length cap] 30)).alloc (.cells #[.slice ua n uc,.string s,.int .i64 a,.int .i64 b,.int .i64 c,.slice a1 l1 c1,.slice a2 l2 c2,.slice a3 l3 c3,.int .i64 nd] 56))∧BxT ((w.alloc (.cells #[.slice (some ⟨g,o,none⟩) L.length cap] 30)).alloc (.cells #[.slice ua n uc,.string s,.int .i64 a,.int .i64 b,.int .i64 c,.slice a1 l1 c1,.slice a2 l2 c2,.slice a3 l3 c3,.int .i64 nd] 56)) w.heap.size (.slice (some ⟨g,o,none⟩) L.length cap)∧BxDr ((w.alloc (.cells #[.slice (some ⟨g,o,none⟩) L.length cap] 30)).alloc (.cells #[.slice ua n uc,.string s,.int .i64 a,.int .i64 b,.int .i64 c,.slice a1 l1 c1,.slice a2 l2 c2,.slice a3 l3 c3,.int .i64 nd] 56)) (w.heap.size+1) (.slice ua n uc) s a b c (.slice a1 l1 c1) (.slice a2 l2 c2) (.slice a3 l3 c3) nd):=⟨aV _ _ _,bI _ _ _ _ (BxT.new _ _) (aF _ _),BxDr.new (by simp) _ _ _ _ _ _ _ _ _⟩
 rcases Nat.eq_zero_or_pos n with hn0|hn0
 · have hb:b1=false:=by rw [HMB.out,hn0];rfl
   rw [hb] at HFS;rw [HT1.out hn0] at HTX;subst hn0
   go_enter Tryz.func146,Tryz.ntmps146
   go_wp2_with (first|(go_at_call 30;refine (HTX.out _ HO0.out.1).mono ?_;rintro e w3 ⟨rfl,ok⟩;have HB3:=aA (HK.out _ _ HO0.out ok);obtain ⟨_,⟨x0,x1⟩,⟨⟨y0,y1,y2,y3,y4,y5,y6,y7,y8⟩,y9⟩⟩:=HB3.out;clear ok r0 r1 r2 r3 r4 r5 r6 r7 r8))
   go_ret;exact ⟨aC (by rw [HFS.out];simp),HB3.out.1⟩
 · have hni:((n:Int)==0)=false:=by rw [beq_eq_false_iff_ne];omega
   cases nb
   · have hb:b1=false:=by rw [HMB.out];simp
     rw [hb] at HFS;rw [HT2.out hn0 rfl] at HTX
     go_enter Tryz.func146,Tryz.ntmps146
     go_wp2_with (first|(go_at_call 30;refine (HTX.out _ HO0.out.1).mono ?_;rintro e w3 ⟨rfl,ok⟩;have HB3:=aA (HK.out _ _ HO0.out ok);obtain ⟨_,⟨x0,x1⟩,⟨⟨y0,y1,y2,y3,y4,y5,y6,y7,y8⟩,y9⟩⟩:=HB3.out;clear ok r0 r1 r2 r3 r4 r5 r6 r7 r8))
     go_ret;exact ⟨aC (by rw [HFS.out];simp),HB3.out.1⟩
   · obtain ⟨htx,hte⟩:=HT3.out hn0 rfl
     rw [htx] at HTX
     by_cases hlen:tl≤1024
     · have hb:b1=true:=by rw [HMB.out,decide_eq_true hn0,decide_eq_true hlen];rfl
       rw [hb] at HFS;have hl1:decide ((tb.size:Int)>1024)=false:=decide_eq_false (by rw [HTZ.out];omega);have hl2:¬ ((tb.size:Int)>1024):=by rw [HTZ.out];omega
       by_cases hd:0<nd
       · rw [decide_eq_true hd] at HFS
         have hd2:¬ (nd<1):=by omega
         have hd3:decide (nd<1)=false:=decide_eq_false hd2
         by_cases hf:f1=(i:Int)
         · rw [decide_eq_true hf] at HFS
           subst hf;have HPR2:=aA (HPR.out hn0);obtain ⟨n,rfl⟩:∃ m,n=m+1:=⟨n - 1,by omega⟩;obtain ⟨gu,ou,rfl,hls⟩:=HLC.out n rfl;have HLS:=aA hls;have hwn:IntKind.i64.wrap (n:Int)=n:=xL (by omega);have hix1:n<n+1:=by omega
           have hix2:(n:Int)<(n:Int)+1:=by omega
           have hix3:0≤(n:Int):=by omega
           clear hls
           rcases (show f2= -1∨0≤f2 by have:=HG2.out;omega) with h2|h2
           · subst h2
             go_enter Tryz.func146,Tryz.ntmps146
             go_wp2_with (first|(go_at_call 30;refine (HTX.out _ HO0.out.1).mono ?_;rintro e w3 ⟨rfl,ok⟩;have HB3:=aA (HK.out _ _ HO0.out ok);obtain ⟨_,⟨x0,x1⟩,⟨⟨y0,y1,y2,y3,y4,y5,y6,y7,y8⟩,y9⟩⟩:=HB3.out;clear ok r0 r1 r2 r3 r4 r5 r6 r7 r8)|(have _h:=HB3;go_at_call 147;refine (HF2.out _ HB3.out.1).mono ?_;rintro e w4 ⟨rfl,ok⟩;have HB4:=aA (HK.out _ _ HB3.out ok);clear x0 x1 y0 y1 y2 y3 y4 y5 y6 y7 y8 y9;obtain ⟨_,⟨x0,x1⟩,⟨⟨y0,y1,y2,y3,y4,y5,y6,y7,y8⟩,y9⟩⟩:=HB4.out;clear ok)|(have _h:=HB4;go_at_call 191;refine (HPR2.out _ HB4.out.1).mono ?_;rintro e w5 ⟨rfl,ok⟩;have HB5:=aA (HK.out _ _ HB4.out ok);clear x0 x1 y0 y1 y2 y3 y4 y5 y6 y7 y8 y9;obtain ⟨_,⟨x0,x1⟩,⟨⟨y0,y1,y2,y3,y4,y5,y6,y7,y8⟩,y9⟩⟩:=HB5.out;clear ok)|(have _h:=HB5;go_at_call 83;refine (HMY.out _ HB5.out.1).mono ?_;rintro e w6 ⟨rfl,ok⟩;have HB6:=aA (HK.out _ _ HB5.out ok);clear x0 x1 y0 y1 y2 y3 y4 y5 y6 y7 y8 y9;obtain ⟨_,⟨x0,x1⟩,⟨⟨y0,y1,y2,y3,y4,y5,y6,y7,y8⟩,y9⟩⟩:=HB6.out;clear ok))
             clear x0 x1 y0 y1 y2 y3 y4 y5 y6 y7 y8 y9;have HK2:=HK;clear HK;have HK:Hid (KeepP fun w1=>(Below w.heap.size w w1∧BxT w1 w.heap.size (.slice (some ⟨g,o,none⟩) L.length cap)∧BxDr w1 (w.heap.size+1) (.slice (some ⟨gu,ou,none⟩) (n+1) uc) s a b c (.slice a1 l1 c1) (.slice a2 l2 c2) (.slice a3 l3 c3) nd)∧StIn w1 gu (ou+n) ls):=HK2.out.and (dU _ _ _);have HO:Hid ((Below w.heap.size w w6∧BxT w6 w.heap.size (.slice (some ⟨g,o,none⟩) L.length cap)∧BxDr w6 (w.heap.size+1) (.slice (some ⟨gu,ou,none⟩) (n+1) uc) s a b c (.slice a1 l1 c1) (.slice a2 l2 c2) (.slice a3 l3 c3) nd)∧StIn w6 gu (ou+n) ls):=⟨HB6.out,HLS.out _ HB6.out.1⟩;refine aM HK (by kernel_rfl) (by kernel_rfl) (by first|exact HO.out|exact HK.out.drew HO.out) ?_;intro C HIN HOUT;clear HO
             repeat
              (with_reducible refine wpQuiet_step (fun K hK=> ?_)
               go_simp
               first
                |(refine hK _ ?_;clear hK K)
                |(apply Exists.intro;refine ⟨fun w1 hC=> ?_,hK _ ?_⟩;(focus ((first|(exact rfl)|(obtain ⟨⟨hb1,⟨x0,x1⟩,⟨⟨y0,y1,y2,y3,y4,y5,y6,y7,y8⟩,y9⟩⟩,⟨l0,l9⟩⟩:=HOUT.out w1 hC;clear hC;go_simp;first|done|exact rfl));done));clear hK K))
             refine wpQuiet_nil ?_;intro wn hC;have HO:=aA (HOUT.out _ hC);clear hC HIN HOUT C;obtain ⟨⟨hb1,⟨x0,x1⟩,⟨⟨y0,y1,y2,y3,y4,y5,y6,y7,y8⟩,y9⟩⟩,⟨l0,l9⟩⟩:=HO.out
             go_wp2
             go_ret;exact ⟨aC (by rw [HFS.out];simp),HO.out.1.1⟩
           · have g2:decide (f2≥0)=true:=decide_eq_true h2
             rw [decide_eq_true h2] at HFS
             by_cases h3:f2<(i:Int)
             · rw [decide_eq_true h3] at HFS
               have h3d:decide (f2<(i:Int))=true:=decide_eq_true h3;cases b4
               · go_enter Tryz.func146,Tryz.ntmps146
                 go_wp2_with (first|(go_at_call 30;refine (HTX.out _ HO0.out.1).mono ?_;rintro e w3 ⟨rfl,ok⟩;have HB3:=aA (HK.out _ _ HO0.out ok);obtain ⟨_,⟨x0,x1⟩,⟨⟨y0,y1,y2,y3,y4,y5,y6,y7,y8⟩,y9⟩⟩:=HB3.out;clear ok r0 r1 r2 r3 r4 r5 r6 r7 r8)|(have _h:=HB3;go_at_call 147;refine (HF2.out _ HB3.out.1).mono ?_;rintro e w4 ⟨rfl,ok⟩;have HB4:=aA (HK.out _ _ HB3.out ok);clear x0 x1 y0 y1 y2 y3 y4 y5 y6 y7 y8 y9;obtain ⟨_,⟨x0,x1⟩,⟨⟨y0,y1,y2,y3,y4,y5,y6,y7,y8⟩,y9⟩⟩:=HB4.out;clear ok)|(have _h:=HB4;go_at_call 191;refine (HPR2.out _ HB4.out.1).mono ?_;rintro e w5 ⟨rfl,ok⟩;have HB5:=aA (HK.out _ _ HB4.out ok);clear x0 x1 y0 y1 y2 y3 y4 y5 y6 y7 y8 y9;obtain ⟨_,⟨x0,x1⟩,⟨⟨y0,y1,y2,y3,y4,y5,y6,y7,y8⟩,y9⟩⟩:=HB5.out;clear ok)|(have _h:=HB5;go_at_call 83;refine (HMY.out _ HB5.out.1).mono ?_;rintro e w6 ⟨rfl,ok⟩;have HB6:=aA (HK.out _ _ HB5.out ok);clear x0 x1 y0 y1 y2 y3 y4 y5 y6 y7 y8 y9;obtain ⟨_,⟨x0,x1⟩,⟨⟨y0,y1,y2,y3,y4,y5,y6,y7,y8⟩,y9⟩⟩:=HB6.out;clear ok))
                 clear x0 x1 y0 y1 y2 y3 y4 y5 y6 y7 y8 y9;have HK2:=HK;clear HK;have HK:Hid (KeepP fun w1=>(Below w.heap.size w w1∧BxT w1 w.heap.size (.slice (some ⟨g,o,none⟩) L.length cap)∧BxDr w1 (w.heap.size+1) (.slice (some ⟨gu,ou,none⟩) (n+1) uc) s a b c (.slice a1 l1 c1) (.slice a2 l2 c2) (.slice a3 l3 c3) nd)∧StIn w1 gu (ou+n) ls):=HK2.out.and (dU _ _ _);have HO:Hid ((Below w.heap.size w w6∧BxT w6 w.heap.size (.slice (some ⟨g,o,none⟩) L.length cap)∧BxDr w6 (w.heap.size+1) (.slice (some ⟨gu,ou,none⟩) (n+1) uc) s a b c (.slice a1 l1 c1) (.slice a2 l2 c2) (.slice a3 l3 c3) nd)∧StIn w6 gu (ou+n) ls):=⟨HB6.out,HLS.out _ HB6.out.1⟩;refine aM HK (by kernel_rfl) (by kernel_rfl) (by first|exact HO.out|exact HK.out.drew HO.out) ?_;intro C HIN HOUT;clear HO
                 repeat
                  (with_reducible refine wpQuiet_step (fun K hK=> ?_)
                   go_simp
                   first
                    |(refine hK _ ?_;clear hK K)
                    |(apply Exists.intro;refine ⟨fun w1 hC=> ?_,hK _ ?_⟩;(focus ((first|(exact rfl)|(obtain ⟨⟨hb1,⟨x0,x1⟩,⟨⟨y0,y1,y2,y3,y4,y5,y6,y7,y8⟩,y9⟩⟩,⟨l0,l9⟩⟩:=HOUT.out w1 hC;clear hC;go_simp;first|done|exact rfl));done));clear hK K))
                 refine wpQuiet_nil ?_;intro wn hC;have HO:=aA (HOUT.out _ hC);clear hC HIN HOUT C;obtain ⟨⟨hb1,⟨x0,x1⟩,⟨⟨y0,y1,y2,y3,y4,y5,y6,y7,y8⟩,y9⟩⟩,⟨l0,l9⟩⟩:=HO.out
                 go_wp2
                 go_ret;exact ⟨aC (by rw [HFS.out];simp),HO.out.1.1⟩
               · by_cases h5:s=ls
                 · have q3:(s.toList==ls.toList)=true:=by rw [h5];simp
                   have q3b:(s.toList=ls.toList)=True:=by rw [h5];simp
                   rw [bC h5] at HFS;clear h5
                   go_enter Tryz.func146,Tryz.ntmps146
                   go_wp2_with (first|(go_at_call 30;refine (HTX.out _ HO0.out.1).mono ?_;rintro e w3 ⟨rfl,ok⟩;have HB3:=aA (HK.out _ _ HO0.out ok);obtain ⟨_,⟨x0,x1⟩,⟨⟨y0,y1,y2,y3,y4,y5,y6,y7,y8⟩,y9⟩⟩:=HB3.out;clear ok r0 r1 r2 r3 r4 r5 r6 r7 r8)|(have _h:=HB3;go_at_call 147;refine (HF2.out _ HB3.out.1).mono ?_;rintro e w4 ⟨rfl,ok⟩;have HB4:=aA (HK.out _ _ HB3.out ok);clear x0 x1 y0 y1 y2 y3 y4 y5 y6 y7 y8 y9;obtain ⟨_,⟨x0,x1⟩,⟨⟨y0,y1,y2,y3,y4,y5,y6,y7,y8⟩,y9⟩⟩:=HB4.out;clear ok)|(have _h:=HB4;go_at_call 191;refine (HPR2.out _ HB4.out.1).mono ?_;rintro e w5 ⟨rfl,ok⟩;have HB5:=aA (HK.out _ _ HB4.out ok);clear x0 x1 y0 y1 y2 y3 y4 y5 y6 y7 y8 y9;obtain ⟨_,⟨x0,x1⟩,⟨⟨y0,y1,y2,y3,y4,y5,y6,y7,y8⟩,y9⟩⟩:=HB5.out;clear ok)|(have _h:=HB5;go_at_call 83;refine (HMY.out _ HB5.out.1).mono ?_;rintro e w6 ⟨rfl,ok⟩;have HB6:=aA (HK.out _ _ HB5.out ok);clear x0 x1 y0 y1 y2 y3 y4 y5 y6 y7 y8 y9;obtain ⟨_,⟨x0,x1⟩,⟨⟨y0,y1,y2,y3,y4,y5,y6,y7,y8⟩,y9⟩⟩:=HB6.out;clear ok))
                   clear x0 x1 y0 y1 y2 y3 y4 y5 y6 y7 y8 y9;have HK2:=HK;clear HK;have HK:Hid (KeepP fun w1=>(Below w.heap.size w w1∧BxT w1 w.heap.size (.slice (some ⟨g,o,none⟩) L.length cap)∧BxDr w1 (w.heap.size+1) (.slice (some ⟨gu,ou,none⟩) (n+1) uc) s a b c (.slice a1 l1 c1) (.slice a2 l2 c2) (.slice a3 l3 c3) nd)∧StIn w1 gu (ou+n) ls):=HK2.out.and (dU _ _ _);have HO:Hid ((Below w.heap.size w w6∧BxT w6 w.heap.size (.slice (some ⟨g,o,none⟩) L.length cap)∧BxDr w6 (w.heap.size+1) (.slice (some ⟨gu,ou,none⟩) (n+1) uc) s a b c (.slice a1 l1 c1) (.slice a2 l2 c2) (.slice a3 l3 c3) nd)∧StIn w6 gu (ou+n) ls):=⟨HB6.out,HLS.out _ HB6.out.1⟩;refine aM HK (by kernel_rfl) (by kernel_rfl) (by first|exact HO.out|exact HK.out.drew HO.out) ?_;intro C HIN HOUT;clear HO
                   repeat
                    (with_reducible refine wpQuiet_step (fun K hK=> ?_)
                     go_simp
                     first
                      |(refine hK _ ?_;clear hK K)
                      |(apply Exists.intro;refine ⟨fun w1 hC=> ?_,hK _ ?_⟩;(focus ((first|(exact rfl)|(obtain ⟨⟨hb1,⟨x0,x1⟩,⟨⟨y0,y1,y2,y3,y4,y5,y6,y7,y8⟩,y9⟩⟩,⟨l0,l9⟩⟩:=HOUT.out w1 hC;clear hC;go_simp;first|done|exact rfl));done));clear hK K))
                   refine wpQuiet_nil ?_;intro wn hC;have HO:=aA (HOUT.out _ hC);clear hC HIN HOUT C;obtain ⟨⟨hb1,⟨x0,x1⟩,⟨⟨y0,y1,y2,y3,y4,y5,y6,y7,y8⟩,y9⟩⟩,⟨l0,l9⟩⟩:=HO.out
                   go_wp2
                   go_ret;exact ⟨aC (by rw [HFS.out];simp),HO.out.1.1⟩
                 · have q3:(s.toList==ls.toList)=false:=by rw [beq_eq_false_iff_ne];exact fun e=>h5 (bB e)
                   have q3b:(s.toList=ls.toList)=False:=eq_false fun e=>h5 (bB e)
                   rw [bX h5] at HFS;clear h5
                   go_enter Tryz.func146,Tryz.ntmps146
                   go_wp2_with (first|(go_at_call 30;refine (HTX.out _ HO0.out.1).mono ?_;rintro e w3 ⟨rfl,ok⟩;have HB3:=aA (HK.out _ _ HO0.out ok);obtain ⟨_,⟨x0,x1⟩,⟨⟨y0,y1,y2,y3,y4,y5,y6,y7,y8⟩,y9⟩⟩:=HB3.out;clear ok r0 r1 r2 r3 r4 r5 r6 r7 r8)|(have _h:=HB3;go_at_call 147;refine (HF2.out _ HB3.out.1).mono ?_;rintro e w4 ⟨rfl,ok⟩;have HB4:=aA (HK.out _ _ HB3.out ok);clear x0 x1 y0 y1 y2 y3 y4 y5 y6 y7 y8 y9;obtain ⟨_,⟨x0,x1⟩,⟨⟨y0,y1,y2,y3,y4,y5,y6,y7,y8⟩,y9⟩⟩:=HB4.out;clear ok)|(have _h:=HB4;go_at_call 191;refine (HPR2.out _ HB4.out.1).mono ?_;rintro e w5 ⟨rfl,ok⟩;have HB5:=aA (HK.out _ _ HB4.out ok);clear x0 x1 y0 y1 y2 y3 y4 y5 y6 y7 y8 y9;obtain ⟨_,⟨x0,x1⟩,⟨⟨y0,y1,y2,y3,y4,y5,y6,y7,y8⟩,y9⟩⟩:=HB5.out;clear ok)|(have _h:=HB5;go_at_call 83;refine (HMY.out _ HB5.out.1).mono ?_;rintro e w6 ⟨rfl,ok⟩;have HB6:=aA (HK.out _ _ HB5.out ok);clear x0 x1 y0 y1 y2 y3 y4 y5 y6 y7 y8 y9;obtain ⟨_,⟨x0,x1⟩,⟨⟨y0,y1,y2,y3,y4,y5,y6,y7,y8⟩,y9⟩⟩:=HB6.out;clear ok))
                   clear x0 x1 y0 y1 y2 y3 y4 y5 y6 y7 y8 y9;have HK2:=HK;clear HK;have HK:Hid (KeepP fun w1=>(Below w.heap.size w w1∧BxT w1 w.heap.size (.slice (some ⟨g,o,none⟩) L.length cap)∧BxDr w1 (w.heap.size+1) (.slice (some ⟨gu,ou,none⟩) (n+1) uc) s a b c (.slice a1 l1 c1) (.slice a2 l2 c2) (.slice a3 l3 c3) nd)∧StIn w1 gu (ou+n) ls):=HK2.out.and (dU _ _ _);have HO:Hid ((Below w.heap.size w w6∧BxT w6 w.heap.size (.slice (some ⟨g,o,none⟩) L.length cap)∧BxDr w6 (w.heap.size+1) (.slice (some ⟨gu,ou,none⟩) (n+1) uc) s a b c (.slice a1 l1 c1) (.slice a2 l2 c2) (.slice a3 l3 c3) nd)∧StIn w6 gu (ou+n) ls):=⟨HB6.out,HLS.out _ HB6.out.1⟩;refine aM HK (by kernel_rfl) (by kernel_rfl) (by first|exact HO.out|exact HK.out.drew HO.out) ?_;intro C HIN HOUT;clear HO
                   repeat
                    (with_reducible refine wpQuiet_step (fun K hK=> ?_)
                     go_simp
                     first
                      |(refine hK _ ?_;clear hK K)
                      |(apply Exists.intro;refine ⟨fun w1 hC=> ?_,hK _ ?_⟩;(focus ((first|(exact rfl)|(obtain ⟨⟨hb1,⟨x0,x1⟩,⟨⟨y0,y1,y2,y3,y4,y5,y6,y7,y8⟩,y9⟩⟩,⟨l0,l9⟩⟩:=HOUT.out w1 hC;clear hC;go_simp;first|done|exact rfl));done));clear hK K))
                   refine wpQuiet_nil ?_;intro wn hC;have HO:=aA (HOUT.out _ hC);clear hC HIN HOUT C;obtain ⟨⟨hb1,⟨x0,x1⟩,⟨⟨y0,y1,y2,y3,y4,y5,y6,y7,y8⟩,y9⟩⟩,⟨l0,l9⟩⟩:=HO.out
                   go_wp2
                   go_ret;exact ⟨aC (by rw [HFS.out];simp),HO.out.1.1⟩
             · rw [decide_eq_false h3] at HFS
               have h3d:decide (f2<(i:Int))=false:=decide_eq_false h3;have h3p:(f2<(i:Int))=False:=eq_false h3
               go_enter Tryz.func146,Tryz.ntmps146
               go_wp2_with (first|(go_at_call 30;refine (HTX.out _ HO0.out.1).mono ?_;rintro e w3 ⟨rfl,ok⟩;have HB3:=aA (HK.out _ _ HO0.out ok);obtain ⟨_,⟨x0,x1⟩,⟨⟨y0,y1,y2,y3,y4,y5,y6,y7,y8⟩,y9⟩⟩:=HB3.out;clear ok r0 r1 r2 r3 r4 r5 r6 r7 r8)|(have _h:=HB3;go_at_call 147;refine (HF2.out _ HB3.out.1).mono ?_;rintro e w4 ⟨rfl,ok⟩;have HB4:=aA (HK.out _ _ HB3.out ok);clear x0 x1 y0 y1 y2 y3 y4 y5 y6 y7 y8 y9;obtain ⟨_,⟨x0,x1⟩,⟨⟨y0,y1,y2,y3,y4,y5,y6,y7,y8⟩,y9⟩⟩:=HB4.out;clear ok)|(have _h:=HB4;go_at_call 191;refine (HPR2.out _ HB4.out.1).mono ?_;rintro e w5 ⟨rfl,ok⟩;have HB5:=aA (HK.out _ _ HB4.out ok);clear x0 x1 y0 y1 y2 y3 y4 y5 y6 y7 y8 y9;obtain ⟨_,⟨x0,x1⟩,⟨⟨y0,y1,y2,y3,y4,y5,y6,y7,y8⟩,y9⟩⟩:=HB5.out;clear ok)|(have _h:=HB5;go_at_call 83;refine (HMY.out _ HB5.out.1).mono ?_;rintro e w6 ⟨rfl,ok⟩;have HB6:=aA (HK.out _ _ HB5.out ok);clear x0 x1 y0 y1 y2 y3 y4 y5 y6 y7 y8 y9;obtain ⟨_,⟨x0,x1⟩,⟨⟨y0,y1,y2,y3,y4,y5,y6,y7,y8⟩,y9⟩⟩:=HB6.out;clear ok))
               clear x0 x1 y0 y1 y2 y3 y4 y5 y6 y7 y8 y9;have HK2:=HK;clear HK;have HK:Hid (KeepP fun w1=>(Below w.heap.size w w1∧BxT w1 w.heap.size (.slice (some ⟨g,o,none⟩) L.length cap)∧BxDr w1 (w.heap.size+1) (.slice (some ⟨gu,ou,none⟩) (n+1) uc) s a b c (.slice a1 l1 c1) (.slice a2 l2 c2) (.slice a3 l3 c3) nd)∧StIn w1 gu (ou+n) ls):=HK2.out.and (dU _ _ _);have HO:Hid ((Below w.heap.size w w6∧BxT w6 w.heap.size (.slice (some ⟨g,o,none⟩) L.length cap)∧BxDr w6 (w.heap.size+1) (.slice (some ⟨gu,ou,none⟩) (n+1) uc) s a b c (.slice a1 l1 c1) (.slice a2 l2 c2) (.slice a3 l3 c3) nd)∧StIn w6 gu (ou+n) ls):=⟨HB6.out,HLS.out _ HB6.out.1⟩;refine aM HK (by kernel_rfl) (by kernel_rfl) (by first|exact HO.out|exact HK.out.drew HO.out) ?_;intro C HIN HOUT;clear HO
               repeat
                (with_reducible refine wpQuiet_step (fun K hK=> ?_)
                 go_simp
                 first
                  |(refine hK _ ?_;clear hK K)
                  |(apply Exists.intro;refine ⟨fun w1 hC=> ?_,hK _ ?_⟩;(focus ((first|(exact rfl)|(obtain ⟨⟨hb1,⟨x0,x1⟩,⟨⟨y0,y1,y2,y3,y4,y5,y6,y7,y8⟩,y9⟩⟩,⟨l0,l9⟩⟩:=HOUT.out w1 hC;clear hC;go_simp;first|done|exact rfl));done));clear hK K))
               refine wpQuiet_nil ?_;intro wn hC;have HO:=aA (HOUT.out _ hC);clear hC HIN HOUT C;obtain ⟨⟨hb1,⟨x0,x1⟩,⟨⟨y0,y1,y2,y3,y4,y5,y6,y7,y8⟩,y9⟩⟩,⟨l0,l9⟩⟩:=HO.out
               go_wp2
               go_ret;exact ⟨aC (by rw [HFS.out];simp),HO.out.1.1⟩
         · rw [decide_eq_false hf] at HFS
           have hf2:(f1==(i:Int))=false:=by rw [beq_eq_false_iff_ne];exact hf
           have hf3:(f1 != (i:Int))=true:=by rw [bne,hf2];rfl
           go_enter Tryz.func146,Tryz.ntmps146
           go_wp2_with (first|(go_at_call 30;refine (HTX.out _ HO0.out.1).mono ?_;rintro e w3 ⟨rfl,ok⟩;have HB3:=aA (HK.out _ _ HO0.out ok);obtain ⟨_,⟨x0,x1⟩,⟨⟨y0,y1,y2,y3,y4,y5,y6,y7,y8⟩,y9⟩⟩:=HB3.out;clear ok r0 r1 r2 r3 r4 r5 r6 r7 r8)|(have _h:=HB3;go_at_call 147;refine (HF2.out _ HB3.out.1).mono ?_;rintro e w4 ⟨rfl,ok⟩;have HB4:=aA (HK.out _ _ HB3.out ok);clear x0 x1 y0 y1 y2 y3 y4 y5 y6 y7 y8 y9;obtain ⟨_,⟨x0,x1⟩,⟨⟨y0,y1,y2,y3,y4,y5,y6,y7,y8⟩,y9⟩⟩:=HB4.out;clear ok))
           go_ret;exact ⟨aC (by rw [HFS.out];simp),HB4.out.1⟩
       · rw [decide_eq_false hd] at HFS
         have hd2:nd<1:=by omega
         have hd3:decide (nd<1)=true:=decide_eq_true hd2
         go_enter Tryz.func146,Tryz.ntmps146
         go_wp2_with (first|(go_at_call 30;refine (HTX.out _ HO0.out.1).mono ?_;rintro e w3 ⟨rfl,ok⟩;have HB3:=aA (HK.out _ _ HO0.out ok);obtain ⟨_,⟨x0,x1⟩,⟨⟨y0,y1,y2,y3,y4,y5,y6,y7,y8⟩,y9⟩⟩:=HB3.out;clear ok r0 r1 r2 r3 r4 r5 r6 r7 r8))
         go_ret;exact ⟨aC (by rw [HFS.out];simp),HB3.out.1⟩
     · have hb:b1=false:=by rw [HMB.out,decide_eq_false hlen];simp
       rw [hb] at HFS;have hl1:decide ((tb.size:Int)>1024)=true:=decide_eq_true (by rw [HTZ.out];omega);have hl2:((tb.size:Int)>1024):=by rw [HTZ.out];omega
       go_enter Tryz.func146,Tryz.ntmps146
       go_wp2_with (first|(go_at_call 30;refine (HTX.out _ HO0.out.1).mono ?_;rintro e w3 ⟨rfl,ok⟩;have HB3:=aA (HK.out _ _ HO0.out ok);obtain ⟨_,⟨x0,x1⟩,⟨⟨y0,y1,y2,y3,y4,y5,y6,y7,y8⟩,y9⟩⟩:=HB3.out;clear ok r0 r1 r2 r3 r4 r5 r6 r7 r8))
       go_ret;exact ⟨aC (by rw [HFS.out];simp),HB3.out.1⟩
end Go.Proofs.YtlmpiohbmlddiaaGreatDoor
