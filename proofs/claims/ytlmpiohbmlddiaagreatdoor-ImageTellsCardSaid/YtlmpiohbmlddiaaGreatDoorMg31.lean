/- Tr4, Ts8, Iz3, Iy4: their declarations that are needed, laid in one text, remarks and blanks left out. -/
import Derived.Test.YtlmpiohbmlddiaaGreatDoorMg28
import Derived.Test.YtlmpiohbmlddiaaGreatDoorMg30
namespace Go.Proofs.YtlmpiohbmlddiaaGreatDoor
open Go.RowKit
set_option maxRecDepth 100000
def Ext (st st':MS):Prop:=st'.m.length=st.m.length∧(∀ j,0≤st.m.getD j (-1)→st'.m.getD j (-1)=st.m.getD j (-1))∧∃ t,st'.q=st.q++t
theorem Ext.refl (st:MS):Ext st st:=⟨rfl,fun _ _=>rfl,[],by simp⟩
theorem Ext.trans {a b c:MS} (h:Ext a b) (h2:Ext b c):Ext a c:=by
 obtain ⟨t,ht⟩:=h.2.2;obtain ⟨u,hu⟩:=h2.2.2;refine ⟨h2.1.trans h.1,fun j hj=> ?_,t++u,by rw [hu,ht,List.append_assoc]⟩;rw [h2.2.1 j (by rw [h.2.1 j hj];exact hj),h.2.1 j hj]
def OkE (L:List Dr) (G:List Nd) (st:MS) (r:Nat) (e:Eg):Prop:=∃ k:Nat,bY L (r:Int) e.lb=k∧st.m.getD k (-1)=e.to∧eB (L.getD k drZ) (G.getD e.to.toNat ndZ)=true
theorem OkE.ext {L:List Dr} {G:List Nd} {st st':MS} {r:Nat} {e:Eg} (h:OkE L G st r e) (hx:Ext st st') (h0:0<e.to):OkE L G st' r e:=by
 obtain ⟨k,h1,h2,h3⟩:=h;exact ⟨k,h1,by rw [hx.2.1 k (by rw [h2];omega),h2],h3⟩
def DT (st:MS):Prop:=∀ j,0≤st.m.getD j (-1)→j ∈ st.q
theorem rT {l:List Int} {k:Nat} {a b:Int} (h:k<l.length):l.getD k a=l.getD k b:=by rw [bO h,bO h]
theorem jW {l:List Int} {k:Nat} {x:Int} (hk:k<l.length) (j:Nat):(l.set k x).getD j (-1)=if k=j then x else l.getD j (-1):=by
 rw [List.getD_eq_getElem?_getD,List.getElem?_set]
 by_cases h:k=j
 · subst h
   rw [if_pos rfl,if_pos rfl,if_pos hk];rfl
 · rw [if_neg h,if_neg h,List.getD_eq_getElem?_getD]
theorem RF {L:List Dr} {G:List Nd} {r:Nat} {st st':MS} {e:Eg} (hi:MInv L G st) (hq:DT st) (ht:0<e.to∧e.to<(G.length:Int)) (h:iC L G r st e=some st'):MInv L G st'∧DT st'∧Ext st st'∧OkE L G st' r e:=by
 unfold iC at h;have hlt:=mC L (r:Int) e.lb
 split at h
 · cases h
 · rename_i hn
   obtain ⟨k,hk⟩:∃ k:Nat,bY L (r:Int) e.lb=k:=⟨(bY L (r:Int) e.lb).toNat,by omega⟩;rw [hk] at h hlt;rw [Int.toNat_natCast] at h;have hkm:k<st.m.length:=by rw [hi.len];omega
   split at h
   · cases h
   · rename_i hio
     have hiso:eB (L.getD k drZ) (G.getD e.to.toNat ndZ)=true:=by
      cases hb:eB (L.getD k drZ) (G.getD e.to.toNat ndZ) with
      |true=>rfl
      |false=>exact absurd hb hio
     split at h
     · rename_i hx
       obtain rfl:=Option.some.inj h;rw [bO hkm] at hx;refine ⟨hi.set hkm hx ht.1 ht.2,fun j hj=> ?_,⟨by simp,fun j hj=> ?_,[k],rfl⟩,k,hk,?_,hiso⟩
       · rw [jW hkm] at hj
         by_cases hkj:k=j
         · subst hkj;simp
         · rw [if_neg hkj] at hj
           exact List.mem_append_left _ (hq j hj)
       · show (st.m.set k e.to).getD j (-1)=_
         rw [jW hkm]
         by_cases hkj:k=j
         · subst hkj
           rw [bO hkm] at hj;omega
         · rw [if_neg hkj]
       · show (st.m.set k e.to).getD k (-1)=_
         rw [jW hkm,if_pos rfl]
     · split at h
       · rename_i hxe
         obtain rfl:=Option.some.inj h;exact ⟨hi,hq,Ext.refl _,k,hk,by rw [rT (b:=0) hkm];exact hxe,hiso⟩
       · cases h
theorem zZ {L:List Dr} {G:List Nd} {r:Nat}:∀ {es:List Eg} {st st':MS},MInv L G st→DT st→(∀ e ∈ es,0<e.to∧e.to<(G.length:Int))→eC L G r es st=some st'→MInv L G st'∧DT st'∧Ext st st'∧∀ e ∈ es,OkE L G st' r e
 |[],st,st',hi,hq,_,h=>by
  obtain rfl:=Option.some.inj h;exact ⟨hi,hq,Ext.refl _,fun e he=>by cases he⟩
 |e::es,st,st',hi,hq,ht,h=>by
  unfold eC at h;cases hs:iC L G r st e with
  |none=>rw [hs] at h;cases h
  |some s1=>
   rw [hs] at h;obtain ⟨h1,h2,h3,h4⟩:=RF hi hq (ht e List.mem_cons_self) hs;obtain ⟨k1,k2,k3,k4⟩:=zZ h1 h2 (fun x hx=>ht x (List.mem_cons_of_mem _ hx)) h;refine ⟨k1,k2,h3.trans k3,fun x hx=> ?_⟩
   rcases List.mem_cons.1 hx with rfl|hx
   · exact h4.ext k3 (ht x List.mem_cons_self).1
   · exact k4 x hx
theorem RG {G:List Nd} {st st':MS} {r:Nat} (h:Ext st st') (h0:0≤st.m.getD r (-1)) (hr:r<st.m.length):fM G st' r=fM G st r:=by
 unfold fM;have hr':r<st'.m.length:=by rw [h.1];exact hr
 have e:st'.m.getD r 0=st.m.getD r 0:=by
  rw [rT (b:= -1) hr',rT (b:= -1) hr];exact h.2.1 r h0
 rw [e]
theorem PM {L:List Dr} {G:List Nd} (hl:cL G=true):∀ {n i:Nat} {st:MS} {m:List Int},MInv L G st→DT st→(∀ p r,p<i→st.q[p]? =some r→∀ e ∈ fM G st r,OkE L G st r e)→hF L G n i st=some m→∃ st',st'.m=m∧MInv L G st'∧Ext st st'∧DT st'∧∀ r ∈ st'.q,∀ e ∈ fM G st' r,OkE L G st' r e
 |0,_,_,_,_,_,_,h=>by cases h
 |n+1,i,st,m,hi,hq,hok,h=>by
  cases hs:st.q[i]? with
  |none=>
   rw [vC hs] at h;refine ⟨st,Option.some.inj h,hi,Ext.refl _,hq,fun r hr e he=> ?_⟩;obtain ⟨p,hp,rfl⟩:=List.getElem_of_mem hr;have hlen:st.q.length≤i:=List.getElem?_eq_none_iff.1 hs;exact hok p _ (by omega) (List.getElem?_eq_getElem hp) e he
  |some r=>
   rw [CS hs] at h;cases hx:eC L G r (fM G st r) st with
   |none=>rw [hx] at h;cases h
   |some s1=>
    rw [hx] at h;have hrq:r ∈ st.q:=List.mem_of_getElem? hs;obtain ⟨hrm,hr0⟩:=hi.qin r hrq
    have hG:(st.m.getD r 0).toNat<G.length:=by
     rw [bO hrm]
     rcases hi.each r hrm with hh|hh<;>omega
    have hto:∀ e ∈ fM G st r,0<e.to∧e.to<(G.length:Int):=fun e he=>by
     unfold fM at he;rw [bO hG] at he;exact (kI hl).2 _ (List.getElem_mem hG) e he
    obtain ⟨h1,h2,h3,h4⟩:=zZ hi hq hto hx
    have hval:∀ x ∈ st.q,x<st.m.length∧0≤st.m.getD x (-1):=fun x hxq=>by
     obtain ⟨a,b⟩:=hi.qin x hxq;exact ⟨a,by rw [bO a];exact b⟩
    obtain ⟨t,ht⟩:=h3.2.2
    obtain ⟨s2,k1,k2,k3,k4,k5⟩:=PM hl (n:=n) (i:=i+1) (st:=s1) (m:=m) h1 h2 (fun p x hp hpx e he=>by
     have hiq:i<st.q.length:=(List.getElem?_eq_some_iff.1 hs).1
     have hpx':st.q[p]? =some x:=by
      rw [ht,List.getElem?_append_left (by omega)] at hpx;exact hpx
     obtain ⟨a,b⟩:=hval x (List.mem_of_getElem? hpx');rw [RG h3 b a] at he
     rcases Nat.lt_or_ge p i with hpi|hpi
     · have hG2:(st.m.getD x 0).toNat<G.length:=by
        rw [bO a];rw [bO a] at b
        rcases hi.each x a with hh|hh<;>omega
       have ht2:0<e.to:=by
        unfold fM at he;rw [bO hG2] at he;exact ((kI hl).2 _ (List.getElem_mem hG2) e he).1
       exact (hok p x hpi hpx' e he).ext h3 ht2
     · obtain rfl:p=i:=by omega
       obtain rfl:r=x:=Option.some.inj (hs.symm.trans hpx');exact h4 e he) h
    exact ⟨s2,k1,k2,h3.trans k3,k4,k5⟩
theorem tZ {L:List Dr} {G:List Nd} {m:List Int} (hL:0<L.length) (hl:cL G=true) (h:dW L G=some m):
 m.length=L.length∧(∃ h0:0<m.length,m[0]=0)∧(∀ j (hj:j<m.length),m[j]= -1∨(0≤m[j]∧m[j]<(G.length:Int)))∧
  ∀ i y (hi:i<m.length) (_hy:m[i]=((y:Nat):Int)) (hyG:y<G.length),∀ e ∈ G[y].ed,∃ (k z:Nat) (hk:k<L.length) (hkm:k<m.length) (hz:z<G.length),bY L (i:Int) e.lb=k∧e.to=z∧m[k]=z∧L[k].pk.nm=G[z].nm∧L[k].pk.a=G[z].a∧L[k].pk.b=G[z].b∧L[k].pk.c=G[z].c:=by
 have hG:=(kI hl).1
 have hq0:DT (cE L.length):=fun j hj=>by
  unfold cE at hj ⊢;rw [jW (by simpa using hL)] at hj
  by_cases h0:0=j
  · subst h0;simp
  · rw [if_neg h0,List.getD_eq_getElem?_getD,List.getElem?_replicate] at hj
    split at hj
    · exact absurd hj (by decide)
    · exact absurd hj (by decide)
 obtain ⟨st,rfl,h1,h2,h3,h4⟩:=PM hl (MInv.start hL hG) hq0 (fun p r hp=>by omega) h;have hlen:=h1.len;refine ⟨hlen,⟨by omega,?_⟩,h1.each,fun i y hi hy hyG e he=> ?_⟩
 · have e0:(cE L.length).m.getD 0 (-1)=0:=by
    unfold cE;rw [jW (by simpa using hL),if_pos rfl]
   have:=h2.2.1 0 (by rw [e0];exact Int.le_refl _)
   rw [e0,bO (by omega)] at this;exact this
 · have hiq:i ∈ st.q:=h3 i (by rw [bO hi,hy];omega)
   have he2:e ∈ fM G st i:=by
    unfold fM;rw [bO hi,hy,Int.toNat_natCast,bO hyG];exact he
   obtain ⟨k,k1,k2,k3⟩:=h4 i hiq e he2;have ht:=(kI hl).2 _ (List.getElem_mem hyG) e he;have hlt:=mC L (i:Int) e.lb;have hkL:k<L.length:=by omega
   have hkm:k<st.m.length:=by omega
   obtain ⟨z,hz⟩:∃ z:Nat,e.to=z:=⟨e.to.toNat,by omega⟩;have hzG:z<G.length:=by omega
   rw [hz,Int.toNat_natCast,bO hkL,bO hzG] at k3;rw [bO hkm,hz] at k2;unfold eB at k3;simp only [Bool.and_eq_true,decide_eq_true_eq,fY] at k3;exact ⟨k,z,hkL,hkm,hzG,k1,hz,k2,k3.1,k3.2.1.1,k3.2.1.2,k3.2.2⟩
theorem kQ {w:World} {B:Nat} {v:Value} {l:List Int} (h:OwnI w B v l):∃ a c,v= .slice a l.length c∧∀ j (_:j<l.length),∃ g,a=some ⟨g,0,none⟩∧InI w g j l[j]:=by
 have h0:=h
 rcases h.2 with ⟨rfl,hn⟩|⟨g,cap,cur,rfl,hB,hg,hc,_⟩
 · exact ⟨none,0,by rw [hn],fun j hj=>by omega⟩
 · refine ⟨_,cap,rfl,fun j hj=>⟨g,rfl,?_⟩⟩
   have e:=World.ownsRow.cellAt h0 j (by omega);have e2:(eQ l)[j]? =some (.int .i64 l[j]):=by simp [eQ,hj]
   exact ⟨e.trans e2,(World.ownsRow.lt h0 g rfl).2⟩
theorem jX {L:List Dr} {G:List Nd} (h:fN L G=0):(dZ L G).length=L.length:=by
 obtain ⟨h1,h2,h3⟩:=fE h;unfold dZ;rw [if_pos ⟨h1,h2⟩];cases hm:dW L G with
 |none=>rw [hm] at h3;cases h3
 |some m=>exact (tZ (dL.1 h1).1.1 h2 hm).1
theorem TrOk.apart {L:List Dr} (h:TrOk L) {i j:Nat} (hi:i<L.length) (hj:j<L.length) (hne:i≠j):aG L[i].pa≠aG L[j].pa:=fun e=>by
 have hn:∀ k (hk:k<L.length),L[k].pa=[]∨aT L[k].pa=true:=fun k hk=>by
  rcases Nat.eq_zero_or_pos k with rfl|h0
  · exact Or.inl (h.root hk)
  · exact Or.inr (h.names k hk (by omega)).2.1
 have h1:=jE (hn i hi);rw [e,jE (hn j hj)] at h1;exact hne (h.uniq i j hi hj (Option.some.inj h1).symm)
def vU (L:List Dr) (mo:List Int):Prop:=∀ i (hi:i<L.length) (hm:i<mo.length),mo[i]=L[i].nd∧∀ j (hj:j+1=i),Op.bytesLess (aG (L[j]'(by omega)).pa).toList (aG L[i].pa).toList=true
theorem RH {L:List Dr} {G:List Nd} (h:fN L G=0):vU L (dZ L G)↔(lO L&&eqB (L.map Dr.nd) (dZ L G))=true:=by
 have hk:=JN (fE h).1;have hl:=jX h;rw [Bool.and_eq_true,fY]
 have hs:lO L=true↔∀ i (h:i+1<L.length),¬ cT (aG L[i+1].pa) (aG L[i].pa)<0:=by
  unfold lO;exact ⟨fun h=> @of_decide_eq_true _ (Classical.propDecidable _) h,fun h=> @decide_eq_true _ (Classical.propDecidable _) h⟩
 rw [hs]
 constructor
 · intro hd
   refine ⟨fun i hi=> ?_,List.ext_getElem (by rw [List.length_map,hl]) fun i h1 h2=> ?_⟩
   · have:=(vJ _ _).1 ((hd (i+1) hi (by omega)).2 i rfl)
     intro q
     have:=(lD.anti _ _).1 this
     omega
   · rw [List.getElem_map]
     exact (hd i (by simpa using h1) h2).1.symm
 · rintro ⟨h1,h2⟩ i hi hm
   refine ⟨?_,fun j hj=> ?_⟩
   · have:=List.getElem_of_eq h2 (i:=i) (by simpa using hi)
     rw [List.getElem_map] at this;exact this.symm
   · subst hj
     refine (vJ _ _).2 ?_
     rcases lD.tri (aG L[j].pa) (aG L[j+1].pa) with q|q|q
     · exact q
     · exact absurd q (hk.apart (by omega) hi (by omega))
     · exact absurd q (h1 j hi)
theorem vV (N:Nat) (x1 x2 x3 x4 xg xt:Value) (pr:Bool):KeepP fun W=>StB W N x1 x2 x3 x4 xg xt pr:=fun _ _ h hb=>h.keep hb
set_option maxHeartbeats 12800000 in
theorem DU {P:Mn} {G:List Nd} {L:List Dr} {x1 x2 x3 x4 xg xt:Value} {pr:Bool} {w:World} (hm:MnAt w P x1 x2 x3 x4) (hmz:P.d.length≤9223372036854775807∧P.v.length≤9223372036854775807∧P.o.length≤9223372036854775807∧P.p.length≤9223372036854775807) (hmn:(∀ d ∈ P.d,d.nm.size≤9223372036854775807)∧(∀ d ∈ P.v,d.nm.size≤9223372036854775807)∧(∀ d ∈ P.o,d.nm.size≤9223372036854775807)∧∀ d ∈ P.p,d.nm.size≤9223372036854775807) (hg:NodesAt w xg G) (hgn:∀ n ∈ G,Lo.NdZ n) (ht:DirsAt w xt L) (hz:L.length≤9223372036854775807) (hk:iB L) (hn:∀ d ∈ L,PgN d.pk∧∀ s ∈ d.pa,s.size≤9223372036854775807) (hgz:oT G):
 Calls Tryz.prog 26 #[.agg #[x1,x2,x3,x4,xg,xt,.bool pr]] w fun e w'=>e= .returned (.bool (iU P G L))∧Below w.heap.size w w':=by
 have HMP:Hid (∀ W,Below w.heap.size w W→Calls Tryz.prog 27 #[.agg #[x1,x2,x3,x4]] W fun e w'=>e= .returned (.tuple #[.string (aJ P),.int .i64 (if aN P=true then 0 else 25)])∧Below W.heap.size W w'):=fun W hb=>oM (hm.below hb) hmz hmn
 have HGP:Hid (∀ W,Below w.heap.size w W→Calls Tryz.prog 28 #[.agg #[xg]] W fun e w'=>e= .returned (.tuple #[.string (Lo.prT G),.int .i64 (if Lo.cU G=true then 0 else 33)])∧Below W.heap.size W w'):=fun W hb=>Lo.oQ (hg.below hb) hgn
 have HMA:Hid (∀ W,Below w.heap.size w W→Calls Tryz.prog 45 #[.agg #[xt],.agg #[xg]] W fun e w'=>hI W L G e w'):=fun W hb=>PL (ht.below hb) hz hk hn (hg.below hb) hgz (fun n hn e he=>(hgn n hn).2.2.2 e he)
 have HTX:Hid (∀ W u i (hi:i<L.length),PathAt W u L[i].pa→Calls Tryz.prog 30 #[u] W fun e w'=>e= .returned (.string (aG L[i].pa))∧Below W.heap.size W w'):=fun W u i hi hu=>lF hu (hk.1 _ (List.getElem_mem hi)) (hn _ (List.getElem_mem hi)).2
 have HDR:Hid (0<L.length→∃ g o c,xt= .slice (some ⟨g,o,none⟩) L.length c∧∀ W,Below w.heap.size w W→∀ i (hi:i<L.length),∃ u v1 v2 v3,DrIn W g (o+i*9) L[i] u v1 v2 v3):=fun h0=>by
  obtain ⟨ad,cap,rfl,_,hsl⟩:=ht.sl;obtain ⟨g,o,rfl,_⟩:=hsl 0 h0;refine ⟨g,o,cap,rfl,fun W hb i hi=> ?_⟩;obtain ⟨g',o',e,u,v1,v2,v3,hd⟩:=hsl i hi;cases e;exact ⟨u,v1,v2,v3,hd.below hb⟩
 have HLP:Hid (fN L G=0→0<L.length∧L.length≤257):=fun h=>(JN (fE h).1).len
 have HML:Hid (fN L G=0→(dZ L G).length=L.length):=jX;have HMD:Hid (fN L G=0→(vU L (dZ L G)↔(lO L&&eqB (L.map Dr.nd) (dZ L G))=true)):=RH;obtain ⟨a1,c1,rfl⟩:=hm.1.sl;obtain ⟨a2,c2,rfl⟩:=hm.2.1.sl;obtain ⟨a3,c3,rfl⟩:=hm.2.2.1.sl;obtain ⟨a4,c4,rfl⟩:=hm.2.2.2.sl;obtain ⟨at0,ct0,rfl,_⟩:=ht.sl;obtain ⟨ag,cg,rfl⟩:∃ a c,xg= .slice a G.length c:=by obtain ⟨a,c,e,_⟩:=hg;exact ⟨a,c,e⟩
 have HS0:=aA (StB.new w (.slice a1 P.d.length c1) (.slice a2 P.v.length c2) (.slice a3 P.o.length c3) (.slice a4 P.p.length c4) (.slice ag G.length cg) (.slice at0 L.length ct0) pr);have HB0:Hid (Below w.heap.size w (w.alloc (stO (.slice a1 P.d.length c1) (.slice a2 P.v.length c2) (.slice a3 P.o.length c3) (.slice a4 P.p.length c4) (.slice ag G.length cg) (.slice at0 L.length ct0) pr))):=aF _ _;obtain ⟨⟨⟨s0,s1,s2,s3⟩,s4,s5,s6⟩,_⟩:=HS0.out;clear hm hmz hmn hg hgn ht hk hn hgz;generalize aJ P=mt at*;generalize Lo.prT G=gt at*;unfold iU;cases hwm:aN P
 · rw [hwm] at HMP
   rw [if_neg Bool.false_ne_true] at HMP;generalize (if Lo.cU G=true then (0:Int) else 33)=ge at*;clear HMA HTX HDR HLP HML HMD
   go_enter Tryz.func26,Tryz.ntmps26
   go_wp2_with (first
    |(have _t:=HS0;go_at_call 27;refine (HMP.out _ HB0.out).mono ?_;rintro e W1 ⟨rfl,ok⟩;have HB1:=aA (aB HB0.out ok);have HS1:=aA (HS0.out.keep ok);clear s0 s1 s2 s3 s4 s5 s6 HS0;obtain ⟨⟨⟨s0,s1,s2,s3⟩,s4,s5,s6⟩,_⟩:=HS1.out;clear ok)
    |(have _t:=HS1;go_at_call 28;refine (HGP.out _ HB1.out).mono ?_;rintro e W2 ⟨rfl,ok⟩;have HB2:=aA (aB HB1.out ok);have HS2:=aA (HS1.out.keep ok);clear s0 s1 s2 s3 s4 s5 s6 HS1;obtain ⟨⟨⟨s0,s1,s2,s3⟩,s4,s5,s6⟩,_⟩:=HS2.out;clear ok))
   go_ret;exact ⟨rfl,HB2.out⟩
 · rw [hwm] at HMP
   rw [if_pos rfl] at HMP;cases hgm:Lo.cU G
   · rw [hgm,if_neg Bool.false_ne_true] at HGP
     clear HMA HTX HDR HLP HML HMD
     go_enter Tryz.func26,Tryz.ntmps26
     go_wp2_with (first
      |(have _t:=HS0;go_at_call 27;refine (HMP.out _ HB0.out).mono ?_;rintro e W1 ⟨rfl,ok⟩;have HB1:=aA (aB HB0.out ok);have HS1:=aA (HS0.out.keep ok);clear s0 s1 s2 s3 s4 s5 s6 HS0;obtain ⟨⟨⟨s0,s1,s2,s3⟩,s4,s5,s6⟩,_⟩:=HS1.out;clear ok)
      |(have _t:=HS1;go_at_call 28;refine (HGP.out _ HB1.out).mono ?_;rintro e W2 ⟨rfl,ok⟩;have HB2:=aA (aB HB1.out ok);have HS2:=aA (HS1.out.keep ok);clear s0 s1 s2 s3 s4 s5 s6 HS1;obtain ⟨⟨⟨s0,s1,s2,s3⟩,s4,s5,s6⟩,_⟩:=HS2.out;clear ok))
     go_ret;exact ⟨rfl,HB2.out⟩
   · rw [hgm,if_pos rfl] at HGP
     by_cases hme:fN L G=0
     · obtain ⟨hl0,hl1⟩:=HLP.out hme
       have hml:=HML.out hme;have hmd:=HMD.out hme;unfold hI at HMA;rw [hme] at HMA ⊢;obtain ⟨g,o,ct,hxe,hdr⟩:=HDR.out hl0;obtain ⟨rfl,rfl⟩:at0=some ⟨g,o,none⟩∧ct0=ct:=by injection hxe with q1 _ q2;exact ⟨q1,q2⟩
       have HDS:=aA hdr;generalize dZ L G=mo at*;obtain ⟨mb,hmb⟩:∃ b,b=(lO L&&eqB (L.map Dr.nd) mo):=⟨_,rfl⟩;rw [←hmb] at hmd;have HYE:Hid (vU L mo→mb=true):=hmd.1
       have HNO:Hid (¬ vU L mo→mb=false):=fun h=>by cases hb:mb with
        |false=>rfl
        |true=>exact absurd (hmd.2 hb) h
       have HML2:=aA hml;have hml3:mo.length≤257:=by omega
       rw [←hmb];clear HML HMD HLP hme HDR hdr hxe hmd hmb hml
       go_enter Tryz.func26,Tryz.ntmps26
       go_wp2_with (first
        |(have _t:=HS2;go_at_call 45;refine (HMA.out _ HB2.out).mono ?_;rintro e W3 ⟨vm,rfl,hoi,ok⟩;have HB3:=aA (aB HB2.out ok);have HS3:=aA (HS2.out.keep ok);obtain ⟨am,cm,rfl,hro⟩:=kQ hoi;have HRO:=aA hro;clear s0 s1 s2 s3 s4 s5 s6 HS2;obtain ⟨⟨⟨s0,s1,s2,s3⟩,s4,s5,s6⟩,_⟩:=HS3.out;clear ok hoi hro)
        |(have _t:=HS1;go_at_call 28;refine (HGP.out _ HB1.out).mono ?_;rintro e W2 ⟨rfl,ok⟩;have HB2:=aA (aB HB1.out ok);have HS2:=aA (HS1.out.keep ok);clear s0 s1 s2 s3 s4 s5 s6 HS1;obtain ⟨⟨⟨s0,s1,s2,s3⟩,s4,s5,s6⟩,_⟩:=HS2.out;clear ok)
        |(have _t:=HS0;go_at_call 27;refine (HMP.out _ HB0.out).mono ?_;rintro e W1 ⟨rfl,ok⟩;have HB1:=aA (aB HB0.out ok);have HS1:=aA (HS0.out.keep ok);clear s0 s1 s2 s3 s4 s5 s6 HS0;obtain ⟨⟨⟨s0,s1,s2,s3⟩,s4,s5,s6⟩,_⟩:=HS1.out;clear ok))
       clear HMP HGP HMA s0 s1 s2 s3 s4 s5 s6
       go_loopw [8] (fun vi wr=>∃ k:Nat,k≤mo.length∧vi= .int .i64 k∧Below W3.heap.size W3 wr∧Hid (∀ i (hi:i<L.length) (hm:i<mo.length),i<k→mo[i]=L[i].nd∧∀ j (hj:j+1=i),Op.bytesLess (aG (L[j]'(by omega)).pa).toList (aG L[i].pa).toList=true)) (fun vi _=>mo.length - (intOf vi).toNat)
       case atStart=>exact ⟨0,Nat.zero_le _,rfl,Below.refl _ _,fun i _ _ h=>absurd h (Nat.not_lt_zero _)⟩
       case round=>
        obtain ⟨k,hk,rfl,hb,HALL⟩:=hrel;have HBW:Hid (Below w.heap.size w wr):=aB HB3.out hb;have HSW:=aA (HS3.out.keep hb);have HBL:=aA hb
        by_cases hlt:k<mo.length
        · have hkl:k<L.length:=by have:=HML2.out;omega
          obtain ⟨gm,rfl,him⟩:=HRO.out k hlt;have HIM:Hid (InI wr gm k mo[k]):=dM _ _ _ _ _ him hb;obtain ⟨u,v1,v2,v3,hdk⟩:=HDS.out wr HBW.out k hkl;have HDK:=aA hdk;have HTK:Hid (∀ W,DrIn W g (o+k*9) L[k] u v1 v2 v3→Calls Tryz.prog 30 #[u] W fun e w'=>e= .returned (.string (aG L[k].pa))∧Below W.heap.size W w'):=fun W hu=>HTX.out W u k hkl hu.2.1.1
          have HST:Hid (mo[k]=L[k].nd→(∀ j (hj:j+1=k),Op.bytesLess (aG (L[j]'(by omega)).pa).toList (aG L[k].pa).toList=true)→∀ i (hi:i<L.length) (hm:i<mo.length),i<k+1→mo[i]=L[i].nd∧∀ j (hj:j+1=i),Op.bytesLess (aG (L[j]'(by omega)).pa).toList (aG L[i].pa).toList=true):=fun q1 q2 i hi hm hik=>by
           rcases Nat.lt_or_ge i k with h|h
           · exact HALL.out i hi hm h
           · obtain rfl:i=k:=by omega
             exact ⟨q1,q2⟩
          have HF1:Hid (mo[k]≠L[k].nd→mb=false):=fun q=>HNO.out fun h=>q (h k hkl hlt).1
          have HF2:Hid (∀ j (hj:j+1=k),Op.bytesLess (aG (L[j]'(by omega)).pa).toList (aG L[k].pa).toList=false→mb=false):=fun j hj q=>HNO.out fun h=>by
           have:=(h k hkl hlt).2 j hj
           rw [q] at this;cases this
          clear hdk him hb;have hki:(k:Int)<(mo.length:Int):=by omega
          have hki2:(k:Int)<(L.length:Int):=by omega
          by_cases hnd:mo[k]=L[k].nd
          · have hne:(mo[k] != L[k].nd)=false:=by rw [hnd];simp
            have HND:=aA hnd;clear HF1 hnd
            by_cases hk0:k=0
            · have g0:decide (0<k)=false:=by rw [hk0];rfl
              have g1:decide ((0:Int)<(k:Int))=false:=by rw [hk0];rfl
              have HNX:=aA (HST.out HND.out fun j hj=>absurd hj (by omega));have HK:Hid (KeepP fun W=>(Below W3.heap.size W3 W∧StB W w.heap.size (.slice a1 P.d.length c1) (.slice a2 P.v.length c2) (.slice a3 P.o.length c3) (.slice a4 P.p.length c4) (.slice ag G.length cg) (.slice (some ⟨g,o,none⟩) L.length ct0) pr)∧InI W gm k mo[k]∧DrIn W g (o+k*9) L[k] u v1 v2 v3):=((aD W3).and (vV _ _ _ _ _ _ _ _)).and ((dM _ _ _).and (gQ _ _ _ _ _ _ _));have HO:Hid ((Below W3.heap.size W3 wr∧StB wr w.heap.size (.slice a1 P.d.length c1) (.slice a2 P.v.length c2) (.slice a3 P.o.length c3) (.slice a4 P.p.length c4) (.slice ag G.length cg) (.slice (some ⟨g,o,none⟩) L.length ct0) pr)∧InI wr gm k mo[k]∧DrIn wr g (o+k*9) L[k] u v1 v2 v3):=⟨⟨HBL.out,HSW.out⟩,HIM.out,HDK.out⟩;have HK0:=aA hk0;clear hk0 HST HF2 HTK HTX HDS HIM HDK HSW;generalize L[k]=d at*
              go_wp2_with fail
              refine aM HK (by kernel_rfl) (by kernel_rfl) (by first|exact HO.out|exact HK.out.drew HO.out) ?_;intro C HIN HOUT;clear HO
              repeat
               (with_reducible refine wpQuiet_step (fun K hK=> ?_)
                go_simp
                first
                 |(refine hK _ ?_;clear hK K)
                 |(apply Exists.intro;refine ⟨fun w1 hC=> ?_,hK _ ?_⟩;(focus ((first|(exact rfl)|(obtain ⟨⟨hb1,⟨⟨s0,s1,s2,s3⟩,s4,s5,s6⟩,_⟩,⟨m0,_⟩,⟨⟨d0,d1,d2,d3,d4,d5,d6,d7,d8⟩,_,_⟩⟩:=HOUT.out w1 hC;clear hC;go_simp;first|done|exact rfl));done));clear hK K))
              refine wpQuiet_nil ?_;intro wn hC;have HO:=aA (HOUT.out _ hC);clear hC HIN HOUT C;obtain ⟨⟨hb1,⟨⟨s0,s1,s2,s3⟩,s4,s5,s6⟩,_⟩,⟨m0,_⟩,⟨⟨d0,d1,d2,d3,d4,d5,d6,d7,d8⟩,_,_⟩⟩:=HO.out;clear m0 d0 d1 d2 d3 d4 d5 d6 d7 d8 s0 s1 s2 s3 s4 s5 s6 hb1
              go_wp2_with fail
              exact ⟨⟨k+1,by omega,by go_num,HO.out.1.1,HNX.out⟩,by simp [intOf];omega⟩
            · obtain ⟨j,hj⟩:∃ j,j+1=k:=⟨k - 1,by omega⟩
              have hjl:j<L.length:=by omega
              obtain ⟨y,z1,z2,z3,hdj⟩:=HDS.out wr HBW.out j hjl;have HTJ:Hid (∀ W,DrIn W g (o+j*9) L[j] y z1 z2 z3→Calls Tryz.prog 30 #[y] W fun e w'=>e= .returned (.string (aG L[j].pa))∧Below W.heap.size W w'):=fun W hu=>HTX.out W y j hjl hu.2.1.1
              have g0:decide (0<k)=true:=decide_eq_true (by omega);have g1:decide ((0:Int)<(k:Int))=true:=decide_eq_true (by omega)
              have hw1:IntKind.i64.wrap ((k:Int) - 1)=(j:Int):=by
               rw [show (k:Int) - 1=((j:Nat):Int) by omega];exact xL (by omega)
              have hji:(j:Int)<(L.length:Int):=by omega
              have HK:Hid (KeepP fun W=>(Below W3.heap.size W3 W∧StB W w.heap.size (.slice a1 P.d.length c1) (.slice a2 P.v.length c2) (.slice a3 P.o.length c3) (.slice a4 P.p.length c4) (.slice ag G.length cg) (.slice (some ⟨g,o,none⟩) L.length ct0) pr)∧InI W gm k mo[k]∧DrIn W g (o+k*9) L[k] u v1 v2 v3∧DrIn W g (o+j*9) L[j] y z1 z2 z3):=((aD W3).and (vV _ _ _ _ _ _ _ _)).and ((dM _ _ _).and ((gQ _ _ _ _ _ _ _).and (gQ _ _ _ _ _ _ _)));have HO:Hid ((Below W3.heap.size W3 wr∧StB wr w.heap.size (.slice a1 P.d.length c1) (.slice a2 P.v.length c2) (.slice a3 P.o.length c3) (.slice a4 P.p.length c4) (.slice ag G.length cg) (.slice (some ⟨g,o,none⟩) L.length ct0) pr)∧InI wr gm k mo[k]∧DrIn wr g (o+k*9) L[k] u v1 v2 v3∧DrIn wr g (o+j*9) L[j] y z1 z2 z3):=⟨⟨HBL.out,HSW.out⟩,HIM.out,HDK.out,hdj⟩
              have HNX:Hid (Op.bytesLess (aG L[j].pa).toList (aG L[k].pa).toList=true→∀ i (hi:i<L.length) (hm:i<mo.length),i<k+1→mo[i]=L[i].nd∧∀ j (hj:j+1=i),Op.bytesLess (aG (L[j]'(by omega)).pa).toList (aG L[i].pa).toList=true):=fun q=>HST.out HND.out fun j' hj'=>by
               obtain rfl:j'=j:=by omega
               exact q
              have HF3:Hid (Op.bytesLess (aG L[j].pa).toList (aG L[k].pa).toList=false→mb=false):=HF2.out j hj;have HJ:=aA hj;clear hj hk0 hdj HST HF2 HTX HDS HIM HDK HSW HND;generalize hls:Op.bytesLess (aG L[j].pa).toList (aG L[k].pa).toList=ls at*;generalize aG L[j].pa=tj at*;generalize aG L[k].pa=tk at*;generalize L[k]=d at*;generalize L[j]=e at*;cases ls
              · have HR:=aA (HF3.out rfl)
                clear HNX HF3
                go_wp2_with fail
                refine aM HK (by kernel_rfl) (by kernel_rfl) (by first|exact HO.out|exact HK.out.drew HO.out) ?_;intro C HIN HOUT;clear HO
                repeat
                 (with_reducible refine wpQuiet_step (fun K hK=> ?_)
                  go_simp
                  first
                   |(refine hK _ ?_;clear hK K)
                   |(apply Exists.intro;refine ⟨fun w1 hC=> ?_,hK _ ?_⟩;(focus ((first|(go_at_call 30;with_reducible exact aW HIN HOUT HK (fun w1 hk=>HTJ.out w1 hk.2.2.2) w1 hC)|(go_at_call 30;with_reducible exact aW HIN HOUT HK (fun w1 hk=>HTK.out w1 hk.2.2.1) w1 hC)|(exact rfl)|(obtain ⟨⟨hb1,⟨⟨s0,s1,s2,s3⟩,s4,s5,s6⟩,_⟩,⟨m0,_⟩,⟨⟨d0,d1,d2,d3,d4,d5,d6,d7,d8⟩,_,_⟩,⟨⟨f0,f1,f2,f3,f4,f5,f6,f7,f8⟩,_,_⟩⟩:=HOUT.out w1 hC;clear hC;go_simp;first|done|exact rfl));done));clear hK K))
                refine wpQuiet_nil ?_;intro wn hC;have HO:=aA (HOUT.out _ hC);clear hC HIN HOUT C;obtain ⟨⟨hb1,⟨⟨s0,s1,s2,s3⟩,s4,s5,s6⟩,_⟩,⟨m0,_⟩,⟨⟨d0,d1,d2,d3,d4,d5,d6,d7,d8⟩,_,_⟩,⟨⟨f0,f1,f2,f3,f4,f5,f6,f7,f8⟩,_,_⟩⟩:=HO.out
                go_wp2_with fail
                go_ret;exact ⟨aC HR.out.symm,aB HB3.out HO.out.1.1⟩
              · have HR:=aA (HNX.out rfl)
                clear HNX HF3
                go_wp2_with fail
                refine aM HK (by kernel_rfl) (by kernel_rfl) (by first|exact HO.out|exact HK.out.drew HO.out) ?_;intro C HIN HOUT;clear HO
                repeat
                 (with_reducible refine wpQuiet_step (fun K hK=> ?_)
                  go_simp
                  first
                   |(refine hK _ ?_;clear hK K)
                   |(apply Exists.intro;refine ⟨fun w1 hC=> ?_,hK _ ?_⟩;(focus ((first|(go_at_call 30;with_reducible exact aW HIN HOUT HK (fun w1 hk=>HTJ.out w1 hk.2.2.2) w1 hC)|(go_at_call 30;with_reducible exact aW HIN HOUT HK (fun w1 hk=>HTK.out w1 hk.2.2.1) w1 hC)|(exact rfl)|(obtain ⟨⟨hb1,⟨⟨s0,s1,s2,s3⟩,s4,s5,s6⟩,_⟩,⟨m0,_⟩,⟨⟨d0,d1,d2,d3,d4,d5,d6,d7,d8⟩,_,_⟩,⟨⟨f0,f1,f2,f3,f4,f5,f6,f7,f8⟩,_,_⟩⟩:=HOUT.out w1 hC;clear hC;go_simp;first|done|exact rfl));done));clear hK K))
                refine wpQuiet_nil ?_;intro wn hC;have HO:=aA (HOUT.out _ hC);clear hC HIN HOUT C;obtain ⟨⟨hb1,⟨⟨s0,s1,s2,s3⟩,s4,s5,s6⟩,_⟩,⟨m0,_⟩,⟨⟨d0,d1,d2,d3,d4,d5,d6,d7,d8⟩,_,_⟩,⟨⟨f0,f1,f2,f3,f4,f5,f6,f7,f8⟩,_,_⟩⟩:=HO.out;clear m0 d0 d1 d2 d3 d4 d5 d6 d7 d8 f0 f1 f2 f3 f4 f5 f6 f7 f8 s0 s1 s2 s3 s4 s5 s6 hb1
                go_wp2_with fail
                exact ⟨⟨k+1,by omega,by go_num,HO.out.1.1,HR.out⟩,by simp [intOf];omega⟩
          · have hne:(mo[k] != L[k].nd)=true:=by simp [hnd]
            have HR:=aA (HF1.out hnd);have HK:Hid (KeepP fun W=>(Below W3.heap.size W3 W∧StB W w.heap.size (.slice a1 P.d.length c1) (.slice a2 P.v.length c2) (.slice a3 P.o.length c3) (.slice a4 P.p.length c4) (.slice ag G.length cg) (.slice (some ⟨g,o,none⟩) L.length ct0) pr)∧InI W gm k mo[k]∧DrIn W g (o+k*9) L[k] u v1 v2 v3):=((aD W3).and (vV _ _ _ _ _ _ _ _)).and ((dM _ _ _).and (gQ _ _ _ _ _ _ _));have HO:Hid ((Below W3.heap.size W3 wr∧StB wr w.heap.size (.slice a1 P.d.length c1) (.slice a2 P.v.length c2) (.slice a3 P.o.length c3) (.slice a4 P.p.length c4) (.slice ag G.length cg) (.slice (some ⟨g,o,none⟩) L.length ct0) pr)∧InI wr gm k mo[k]∧DrIn wr g (o+k*9) L[k] u v1 v2 v3):=⟨⟨HBL.out,HSW.out⟩,HIM.out,HDK.out⟩;clear hnd HF1 HST HF2 HTK HTX HDS HIM HDK HSW;generalize L[k]=d at*
            go_wp2_with fail
            refine aM HK (by kernel_rfl) (by kernel_rfl) (by first|exact HO.out|exact HK.out.drew HO.out) ?_;intro C HIN HOUT;clear HO
            repeat
             (with_reducible refine wpQuiet_step (fun K hK=> ?_)
              go_simp
              first
               |(refine hK _ ?_;clear hK K)
               |(apply Exists.intro;refine ⟨fun w1 hC=> ?_,hK _ ?_⟩;(focus ((first|(exact rfl)|(obtain ⟨⟨hb1,⟨⟨s0,s1,s2,s3⟩,s4,s5,s6⟩,_⟩,⟨m0,_⟩,⟨⟨d0,d1,d2,d3,d4,d5,d6,d7,d8⟩,_,_⟩⟩:=HOUT.out w1 hC;clear hC;go_simp;first|done|exact rfl));done));clear hK K))
            refine wpQuiet_nil ?_;intro wn hC;have HO:=aA (HOUT.out _ hC);clear hC HIN HOUT C;obtain ⟨⟨hb1,⟨⟨s0,s1,s2,s3⟩,s4,s5,s6⟩,_⟩,⟨m0,_⟩,⟨⟨d0,d1,d2,d3,d4,d5,d6,d7,d8⟩,_,_⟩⟩:=HO.out
            go_wp2_with fail
            go_ret;exact ⟨aC HR.out.symm,aB HB3.out HO.out.1.1⟩
        · have HR:Hid (mb=true):=HYE.out fun i hi hm=>HALL.out i hi hm (by omega)
          have hki:¬ (k:Int)<(mo.length:Int):=by omega
          go_wp2_with fail
          go_ret;exact ⟨aC HR.out.symm,HBW.out⟩
     · have hme2:(fN L G==0)=false:=beq_eq_false_iff_ne.2 hme
       unfold hI at HMA;generalize fN L G=me at*;generalize dZ L G=mo at*;rw [hme2];clear HTX HDR HLP HML HMD hme
       go_enter Tryz.func26,Tryz.ntmps26
       go_wp2_with (first
        |(have _t:=HS2;go_at_call 45;refine (HMA.out _ HB2.out).mono ?_;rintro e W3 ⟨vm,rfl,hoi,ok⟩;have HB3:=aA (aB HB2.out ok);have HS3:=aA (HS2.out.keep ok);obtain ⟨am,cm,rfl,hro⟩:=kQ hoi;have HRO:=aA hro;clear s0 s1 s2 s3 s4 s5 s6 HS2;obtain ⟨⟨⟨s0,s1,s2,s3⟩,s4,s5,s6⟩,_⟩:=HS3.out;clear ok hoi hro)
        |(have _t:=HS1;go_at_call 28;refine (HGP.out _ HB1.out).mono ?_;rintro e W2 ⟨rfl,ok⟩;have HB2:=aA (aB HB1.out ok);have HS2:=aA (HS1.out.keep ok);clear s0 s1 s2 s3 s4 s5 s6 HS1;obtain ⟨⟨⟨s0,s1,s2,s3⟩,s4,s5,s6⟩,_⟩:=HS2.out;clear ok)
        |(have _t:=HS0;go_at_call 27;refine (HMP.out _ HB0.out).mono ?_;rintro e W1 ⟨rfl,ok⟩;have HB1:=aA (aB HB0.out ok);have HS1:=aA (HS0.out.keep ok);clear s0 s1 s2 s3 s4 s5 s6 HS0;obtain ⟨⟨⟨s0,s1,s2,s3⟩,s4,s5,s6⟩,_⟩:=HS1.out;clear ok))
       go_ret;exact ⟨by simp,HB3.out⟩
end Go.Proofs.YtlmpiohbmlddiaaGreatDoor
namespace Go.Proofs.YtlmpiohbmlddiaaGreatDoor
open Go.RowKit Go.Maps Go.WideMaps
set_option maxRecDepth 100000
theorem sL {t:ByteArray} (h:PA t=0):aX (PB t)=true:=by
 unfold PA at h;unfold PB
 split at h
 · split at h
   · split at h
     · assumption
     · cases h
   · contradiction
 · contradiction
theorem sM {t:ByteArray} (h:GF t=0):aN (PD t)=true:=by
 unfold GF at h;unfold PD
 split at h
 · split at h
   · split at h
     · assumption
     · cases h
   · contradiction
 · contradiction
theorem gY {L:List Dp} (h:aO L=true):L.length≤16:=by
 unfold aO at h;rw [Bool.and_eq_true,decide_eq_true_eq] at h;exact h.1
theorem KP {P:Pg} (h:aX P=true):PgZ P:=by
 unfold aX iE at h;simp only [Bool.and_eq_true] at h;have h1:=gY h.1.1.2.1;have h2:=gY h.1.1.2.2.1;have h3:=gY h.1.1.2.2.2;exact ⟨by omega,by omega,by omega⟩
theorem UW (t:ByteArray):PgZ (gPk t):=by
 unfold gPk
 split
 · rename_i h
   exact KP (sL h)
 · exact ⟨by decide,by decide,by decide⟩
noncomputable def gMn (t:ByteArray):Mn:=if GF t=0 then PD t else eA
theorem UX (t:ByteArray):(gMn t).d.length≤9223372036854775807∧(gMn t).v.length≤9223372036854775807∧(gMn t).o.length≤9223372036854775807∧(gMn t).p.length≤9223372036854775807:=by
 unfold gMn
 split
 · rename_i h
   have hw:=sM h;unfold aN gX at hw;simp only [Bool.and_eq_true] at hw;have h1:=gY hw.1.1.1;have h2:=gY hw.1.1.2.1;have h3:=gY hw.1.1.2.2.1;have h4:=gY hw.1.1.2.2.2;exact ⟨by omega,by omega,by omega,by omega⟩
 · exact ⟨by decide,by decide,by decide,by decide⟩
def gGr (t:ByteArray):List Nd:=(Lo.DJ t).getD []
theorem PN (t:ByteArray):oT (gGr t):=by
 unfold gGr;cases h:Lo.DJ t with
 |none=>exact ⟨by simp,fun n hn=>by cases hn⟩
 |some G=>
  have hm:=(Lo.PJ h).1;show oT G;cases G with
  |nil=>cases hm
  |cons n r=>
   unfold Lo.cU at hm;simp only [Bool.and_eq_true,decide_eq_true_eq] at hm;refine ⟨by rw [List.length_cons];omega,fun m hmem=> ?_⟩
   have:=List.all_eq_true.1 hm.2 m hmem
   unfold Lo.bR at this;rw [Bool.and_eq_true,decide_eq_true_eq] at this;omega
def OwnGr (w:World) (B:Nat) (v:Value) (G:List Nd):Prop:=∃ all:List Lo.NV,all.map Lo.NV.nd=G∧Lo.RA w B v all
theorem OwnGr.at {w:World} {B:Nat} {v:Value} {G:List Nd} (h:OwnGr w B v G):NodesAt w v G:=by
 obtain ⟨all,rfl,hr⟩:=h;exact hr.at
theorem OwnGr.below {w w':World} {B:Nat} {v:Value} {G:List Nd} (h:OwnGr w B v G) (hb:Below w.heap.size w w'):OwnGr w' B v G:=by
 obtain ⟨all,e,hr⟩:=h;exact ⟨all,e,bS hr.1 hb,fun x hx=>⟨bS (hr.2 x hx).1 hb,bS (hr.2 x hx).2 hb⟩⟩
theorem OwnGr.base {w:World} {B C:Nat} {v:Value} {G:List Nd} (h:OwnGr w B v G) (hc:C≤B):OwnGr w C v G:=by
 obtain ⟨all,e,hr⟩:=h;exact ⟨all,e,cP hr.1 hc,fun x hx=>⟨cP (hr.2 x hx).1 hc,cP (hr.2 x hx).2 hc⟩⟩
theorem OwnGr.keptV {w w':World} {B B':Nat} {v v':Value} {G:List Nd} {n':Nat} {ys:List Value} (h:OwnGr w B v G) (hr:w.ownsRow B' 56 9 v' n' ys) (hg:w.grownBy w' v'.ownBlock):OwnGr w' B v G:=by
 obtain ⟨all,e,ha⟩:=h;exact ⟨all,e,World.ownsRow.kept ha.1 hg (eX ha.1 hr (by decide)),fun x hx=>⟨World.ownsRow.kept (ha.2 x hx).1 hg (eX (ha.2 x hx).1 hr (by decide)),World.ownsRow.kept (ha.2 x hx).2 hg (eX (ha.2 x hx).2 hr (by decide))⟩⟩
theorem OwnM.keptV {w w':World} {B B':Nat} {P:Mn} {v1 v2 v3 v4 v':Value} {n':Nat} {ys:List Value} (h:OwnM w B P v1 v2 v3 v4) (hr:w.ownsRow B' 56 9 v' n' ys) (hg:w.grownBy w' v'.ownBlock):OwnM w' B P v1 v2 v3 v4:=by
 obtain ⟨q1,q2,q3,q4,h1,h2,h3,h4⟩:=h;exact ⟨q1,q2,q3,q4,⟨h1.1.keptV hr hg,h1.2⟩,⟨h2.1.keptV hr hg,h2.2⟩,⟨h3.1.keptV hr hg,h3.2⟩,h4.1.keptV hr hg,h4.2⟩
def jK (L:List Dr) (m:List Int):List Dr:=L.mapIdx fun i d=>⟨d.pa,d.pk,(m[i]?).getD d.nd⟩
theorem iV (L:List Dr) (m:List Int):(jK L m).length=L.length:=by unfold jK;rw [List.length_mapIdx]
theorem mY {L:List Dr} {m:List Int} {i:Nat} (hi:i<L.length) (h:i<(jK L m).length):(jK L m)[i]=⟨L[i].pa,L[i].pk,(m[i]?).getD L[i].nd⟩:=by simp only [jK,List.getElem_mapIdx]
theorem PO (L:List Dr):jK L []=L:=by
 unfold jK;refine List.ext_getElem (by rw [List.length_mapIdx]) fun i h1 h2=> ?_
 rw [List.getElem_mapIdx];rfl
theorem KQ {L:List Dr} {m:List Int} {k:Nat} (hk:k<m.length) (hl:k<L.length):jK L (m.take (k+1))=(jK L (m.take k)).set k ⟨L[k].pa,L[k].pk,m[k]⟩:=by
 refine List.ext_getElem (by rw [List.length_set,iV,iV]) fun i h1 h2=> ?_
 rw [iV] at h1;rw [List.getElem_set,mY h1,mY h1]
 split
 · rename_i e
   subst e;rw [List.getElem?_take_of_lt (by omega),List.getElem?_eq_getElem hk];rfl
 · rename_i e
   by_cases hi:i<k
   · rw [List.getElem?_take_of_lt (by omega),List.getElem?_take_of_lt hi]
   · rw [List.getElem?_take_eq_none (by omega),List.getElem?_take_eq_none (by omega)]
theorem RI (L:List Dr) (G:List Nd):dZ L G=[]∨(dZ L G).length=L.length:=by
 unfold dZ
 split
 · rename_i hh
   cases hm:dW L G with
   |none=>exact Or.inl rfl
   |some m=>exact Or.inr (tZ (dL.1 hh.1).1.1 hh.2 hm).1
 · exact Or.inl rfl
theorem RJ {t:ByteArray} (h:t.size≤8796093022208):QL t.data.toList:=fun L r hn e=>by
 have h1:=jS hn;have h2:=congrArg List.length e;rw [List.length_append] at h2;have h3:t.data.toList.length=t.size:=by rw [Array.length_toList];rfl
 omega
theorem DV {t:ByteArray} {p:List ByteArray} (h:cH t.data.toList=some p) (hz:t.size≤8796093022208):p.length*16≤140737488355328:=by
 have he:=BX h
 by_cases h0:p=[]
 · rw [h0];decide
 · by_cases hn:aT p=true
   · have h1:=jS hn
     rw [eM h0 hn] at he;have h2:=cD p;rw [he] at h2;omega
   · unfold aG at he
     rw [if_neg h0,if_neg hn] at he;rw [←he] at h;cases h
theorem AB {M ts:List Fi} (hs:∀ x ∈ ts,x.pa.size≤8796093022208):iB (cR M ts):=by
 have hone:∀ d ∈ cR M ts,d.pa.length*16≤140737488355328∧PgZ d.pk:=fun d hd=>by
  unfold cR at hd
  rcases List.mem_cons.1 hd with rfl|hd
  · exact ⟨by decide,by decide,by decide,by decide⟩
  · obtain ⟨x,hx,hd⟩:=List.mem_flatMap.1 hd
    unfold zJ at hd
    split at hd
    · rename_i p hp
      rw [List.mem_singleton.1 hd];exact ⟨DV hp (hs x hx),UW _⟩
    · cases hd
 exact ⟨fun d hd=>(hone d hd).1,fun d hd=>(hone d hd).2⟩
theorem RK {L:List Dr} {m:List Int} (h:iB L):iB (jK L m):=by
 have hone:∀ d ∈ jK L m,d.pa.length*16≤140737488355328∧PgZ d.pk:=fun d hd=>by
  obtain ⟨i,hi,rfl⟩:=List.getElem_of_mem hd;have hi2:=hi;rw [iV] at hi2;rw [mY hi2];exact ⟨h.1 L[i] (List.getElem_mem hi2),h.2 L[i] (List.getElem_mem hi2)⟩
 exact ⟨fun d hd=>(hone d hd).1,fun d hd=>(hone d hd).2⟩
def RL (x:Dv) (n:Int):Dv:=⟨⟨x.d.pa,x.d.pk,n⟩,x.u,x.v1,x.v2,x.v3⟩
theorem AD (n:Int):∀ (xs:List Dv) (i:Nat) (hi:i<xs.length),(xs.flatMap mT).set (i*9+8) (.int .i64 n)=(xs.set i (RL xs[i] n)).flatMap mT
 |[],i,hi=>by cases hi
 |x::xs,0,_=>rfl
 |x::xs,i+1,hi=>by
  rw [List.flatMap_cons,List.set_append_right _ _ (by rw [zI];omega),List.set_cons_succ,List.flatMap_cons,zI,show (i+1)*9+8 - 9=i*9+8 by omega,AD n xs i (by simpa using hi)];rfl
theorem RowV.store {w:World} {B g c:Nat} {xs:List Dv} {k:Nat} (h:RowV w B (.slice (some ⟨g,0,none⟩) k c) xs) (hk:k=xs.length) {i:Nat} (hi:i<xs.length) (n:Int):
 RowV (w.setCell ⟨g,i*9+8,none⟩ (.int .i64 n)) B (.slice (some ⟨g,0,none⟩) k c) (xs.set i (RL xs[i] n)):=by
 subst hk;obtain ⟨h1,h2⟩:=h.1.stored (i*9+8) (.int .i64 n);rw [AD n xs i hi] at h1;refine ⟨by rw [List.length_set];exact h1,fun x hx=> ?_⟩;have hold:∀ y ∈ xs,OwnV (w.setCell ⟨g,i*9+8,none⟩ (.int .i64 n)) B y:=fun y hy=>(h.2 y hy).kept h.1 h2
 rcases List.mem_or_eq_of_mem_set hx with hx|rfl
 · exact hold x hx
 · have:=hold _ (List.getElem_mem hi)
   exact ⟨this.1,this.2⟩
end Go.Proofs.YtlmpiohbmlddiaaGreatDoor
